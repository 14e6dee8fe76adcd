import Derived.Test.YtghggcehloiemaaMcP
import Derived.Test.YtghggcehloiemaaCursor
import Derived.Deep.AppendLies
import Derived.RegionTactic
import Derived.Deep.RegionHeld3
import Derived.BigRegion
import Derived.Handy
namespace Go.Proofs.Ytghggcehloiemaa
open Go.RowKit
set_option linter.unusedVariables false
set_option maxRecDepth 16000

set_option maxHeartbeats 400000 in
theorem saysWhere_any (op a b k : Nat) (w : World) : Calls Try.prog 65 #[.agg #[.int .i64 op, .int .i64 a, .int .i64 b, .int .i64 k]] w fun e w' => e = .returned (.bool (decide (11 ≤ op))) ∧ Below w.heap.size w w' := by
  go_enter Try.func65, Try.ntmps65
  go_wp2_with fail
  go_ret
  exact ⟨by simp; omega, (Below.refl _ _).alloc (Nat.le_refl _) _⟩

set_option maxHeartbeats 400000 in
theorem nextFollows_any (op a b k : Nat) (w : World) : Calls Try.prog 57 #[.agg #[.int .i64 op, .int .i64 a, .int .i64 b, .int .i64 k]] w fun e w' => e = .returned (.bool (decide (¬ (op = 0 ∨ op = 11)))) ∧ Below w.heap.size w w' := by
  go_enter Try.func57, Try.ntmps57
  by_cases h0 : op = 0
  · subst h0
    go_wp2_with fail
    go_ret
    exact ⟨by simp, (Below.refl _ _).alloc (Nat.le_refl _) _⟩
  · have hi : ((op : Int) != 0) = true := by simp [h0]
    have hj : ((op : Int) != 11) = !decide (op = 11) := by rw [Bool.eq_iff_iff]; simp; omega
    go_wp2_with fail
    go_ret
    exact ⟨by simp [h0], (Below.refl _ _).alloc (Nat.le_refl _) _⟩

theorem wrap_id (x : Int) (h0 : -9223372036854775808 ≤ x) (h1 : x ≤ 9223372036854775807) : IntKind.i64.wrap x = x := by
  simp only [IntKind.wrap, IntKind.signed, IntKind.bits]
  simp
  omega
set_option maxHeartbeats 4000000 in
theorem insAt_go (s : ByteArray) (p : Nat) (b0 b1 b2 b3 b4 : UInt8) (w : World) (hs : s.size ≤ maxLen) (h0 : s[p]? = some b0) (h1 : s[((p : Int) + 1).toNat]? = some b1) (h2 : s[((p : Int) + 2).toNat]? = some b2) (h3 : s[((p : Int) + 3).toNat]? = some b3) (h4 : s[((p : Int) + 4).toNat]? = some b4) (h5 : p + 5 ≤ s.size) :
    Calls Try.prog 55 #[.string s, .int .i64 p] w fun e w' => e = .returned (.agg #[.int .i64 b0.toNat, .int .i64 b1.toNat, .int .i64 b2.toNat, .int .i64 ((b3.toNat + b4.toNat * 256 : Nat) : Int)]) ∧ Below w.heap.size w w' := by
  unfold maxLen at hs
  have hp : (p : Int) + 5 ≤ s.size := by omega
  have w1 : IntKind.i64.wrap ((p : Int) + 1) = (p : Int) + 1 := wrap_id _ (by omega) (by omega)
  have w2 : IntKind.i64.wrap ((p : Int) + 2) = (p : Int) + 2 := wrap_id _ (by omega) (by omega)
  have w3 : IntKind.i64.wrap ((p : Int) + 3) = (p : Int) + 3 := wrap_id _ (by omega) (by omega)
  have w4 : IntKind.i64.wrap ((p : Int) + 4) = (p : Int) + 4 := wrap_id _ (by omega) (by omega)
  have w5 : wrap64 ((p : Int) + 5) = (p : Int) + 5 := by unfold wrap64; omega
  have g0 : (0 : Int) ≤ (p : Int) := by omega
  have g1 : (0 : Int) ≤ (p : Int) + 1 := by omega
  have g2 : (0 : Int) ≤ (p : Int) + 2 := by omega
  have g3 : (0 : Int) ≤ (p : Int) + 3 := by omega
  have g4 : (0 : Int) ≤ (p : Int) + 4 := by omega
  have w6 : wrap64 ((b3.toNat : Int) + (b4.toNat : Int) * 256) = ((b3.toNat + b4.toNat * 256 : Nat) : Int) := by
    have := UInt8.toNat_lt b3; have := UInt8.toNat_lt b4; unfold wrap64; omega
  go_enter Try.func55, Try.ntmps55
  go_wp2_with fail
  have e0 : ∀ h, s[p]'h = b0 := fun h => by rw [getElem?_pos s _ h] at h0; exact Option.some.inj h0
  have e1 : ∀ h, s[p + 1]'h = b1 := fun h => by rw [show ((p : Int) + 1).toNat = p + 1 by omega, getElem?_pos s _ h] at h1; exact Option.some.inj h1
  have e2 : ∀ h, s[((p : Int) + 2).toNat]'h = b2 := fun h => by rw [getElem?_pos s _ h] at h2; exact Option.some.inj h2
  have e3 : ∀ h, s[((p : Int) + 3).toNat]'h = b3 := fun h => by rw [getElem?_pos s _ h] at h3; exact Option.some.inj h3
  have e4 : ∀ h, s[((p : Int) + 4).toNat]'h = b4 := fun h => by rw [getElem?_pos s _ h] at h4; exact Option.some.inj h4
  have l0 : p < s.size := by omega
  have l1 : p + 1 < s.size := by omega
  have l2 : ((p : Int) + 2).toNat < s.size := by omega
  have l3 : ((p : Int) + 3).toNat < s.size := by omega
  have l4 : ((p : Int) + 4).toNat < s.size := by omega
  clear hs h5 w5 hp h0 h1 h2 h3 h4
  have W6 : Hid (wrap64 ((b3.toNat : Int) + (b4.toNat : Int) * 256) = ((b3.toNat + b4.toNat * 256 : Nat) : Int)) := w6
  clear w6
  go_region
  clear w1 w2 w3 w4 g0 g1 g2 g3 g4 e0 e1 e2 e3 e4 l0 l1 l2 l3 l4
  go_wp2_with fail
  go_returns
  have x0 : wrap64 (b0.toNat : Int) = b0.toNat := by have := UInt8.toNat_lt b0; unfold wrap64; omega
  have x1 : wrap64 (b1.toNat : Int) = b1.toNat := by have := UInt8.toNat_lt b1; unfold wrap64; omega
  have x2 : wrap64 (b2.toNat : Int) = b2.toNat := by have := UInt8.toNat_lt b2; unfold wrap64; omega
  have x3 : wrap64 (b3.toNat : Int) = b3.toNat := by have := UInt8.toNat_lt b3; unfold wrap64; omega
  have x4 : wrap64 (b4.toNat : Int) = b4.toNat := by have := UInt8.toNat_lt b4; unfold wrap64; omega
  have x5 : wrap64 ((b4.toNat : Int) * 256) = (b4.toNat : Int) * 256 := by have := UInt8.toNat_lt b4; unfold wrap64; omega
  refine ⟨?_, ?_⟩
  · simp [x0, x1, x2, x3, x4, x5, W6.out]
  · exact ⟨rfl, rfl, rfl, by simp, fun k hk => Below.heap_alloc _ _ _ hk⟩
end Go.Proofs.Ytghggcehloiemaa
