import Derived.Test.YtghggcehloiemabGreatDoorMcPAll
import Derived.Test.YtghggcehloiemabGreatDoorBaseAll
import Derived.Deep.AppendLies
import Derived.RegionTactic
import Derived.Deep.RegionHeld3
import Derived.BigRegion
import Derived.Handy
namespace Go.Proofs.YtghggcehloiemabGreatDoor
open Go.RowKit
set_option linter.unusedVariables false
set_option maxRecDepth 16000

set_option maxHeartbeats 400000 in
theorem saysWhere_any (op a b k : Nat) (w : World) : Calls Tryz.prog 96 #[.agg #[.int .i64 op, .int .i64 a, .int .i64 b, .int .i64 k]] w fun e w' => e = .returned (.bool (decide (11 ≤ op))) ∧ Below w.heap.size w w' := by
  go_enter Tryz.func96, Tryz.ntmps96
  go_wp2_with fail
  go_ret
  exact ⟨by simp; omega, (Below.refl _ _).alloc (Nat.le_refl _) _⟩

set_option maxHeartbeats 400000 in
theorem nextFollows_any (op a b k : Nat) (w : World) : Calls Tryz.prog 67 #[.agg #[.int .i64 op, .int .i64 a, .int .i64 b, .int .i64 k]] w fun e w' => e = .returned (.bool (decide (¬ (op = 0 ∨ op = 11)))) ∧ Below w.heap.size w w' := by
  go_enter Tryz.func67, Tryz.ntmps67
  by_cases h0 : op = 0
  · subst h0
    go_wp2_with fail
    go_ret
    exact ⟨by simp, (Below.refl _ _).alloc (Nat.le_refl _) _⟩
  · have hi : ((op : Int) != 0) = true := by simp [h0]
    have hj : ((op : Int) != 11) = !decide (op = 11) := by rw [Bool.eq_iff_iff]; simp; omega
    go_wp2_with fail
    go_ret
    exact ⟨by simp [h0], (Below.refl _ _).alloc (Nat.le_refl _) _⟩

theorem wrap_id (x : Int) (h0 : -9223372036854775808 ≤ x) (h1 : x ≤ 9223372036854775807) : IntKind.i64.wrap x = x := by
  simp only [IntKind.wrap, IntKind.signed, IntKind.bits]
  simp
  omega
set_option maxHeartbeats 4000000 in
theorem insAt_go (s : ByteArray) (p : Nat) (b0 b1 b2 b3 b4 : UInt8) (w : World) (hs : s.size ≤ maxLen) (h0 : s[p]? = some b0) (h1 : s[((p : Int) + 1).toNat]? = some b1) (h2 : s[((p : Int) + 2).toNat]? = some b2) (h3 : s[((p : Int) + 3).toNat]? = some b3) (h4 : s[((p : Int) + 4).toNat]? = some b4) (h5 : p + 5 ≤ s.size) :
    Calls Tryz.prog 65 #[.string s, .int .i64 p] w fun e w' => e = .returned (.agg #[.int .i64 b0.toNat, .int .i64 b1.toNat, .int .i64 b2.toNat, .int .i64 ((b3.toNat + b4.toNat * 256 : Nat) : Int)]) ∧ Below w.heap.size w w' := by
  unfold maxLen at hs
  have hp : (p : Int) + 5 ≤ s.size := by omega
  have w1 : IntKind.i64.wrap ((p : Int) + 1) = (p : Int) + 1 := wrap_id _ (by omega) (by omega)
  have w2 : IntKind.i64.wrap ((p : Int) + 2) = (p : Int) + 2 := wrap_id _ (by omega) (by omega)
  have w3 : IntKind.i64.wrap ((p : Int) + 3) = (p : Int) + 3 := wrap_id _ (by omega) (by omega)
  have w4 : IntKind.i64.wrap ((p : Int) + 4) = (p : Int) + 4 := wrap_id _ (by omega) (by omega)
  have w5 : wrap64 ((p : Int) + 5) = (p : Int) + 5 := by unfold wrap64; omega
  have g0 : (0 : Int) ≤ (p : Int) := by omega
  have g1 : (0 : Int) ≤ (p : Int) + 1 := by omega
  have g2 : (0 : Int) ≤ (p : Int) + 2 := by omega
  have g3 : (0 : Int) ≤ (p : Int) + 3 := by omega
  have g4 : (0 : Int) ≤ (p : Int) + 4 := by omega
  have w6 : wrap64 ((b3.toNat : Int) + (b4.toNat : Int) * 256) = ((b3.toNat + b4.toNat * 256 : Nat) : Int) := by
    have := UInt8.toNat_lt b3; have := UInt8.toNat_lt b4; unfold wrap64; omega
  go_enter Tryz.func65, Tryz.ntmps65
  go_wp2_with fail
  have e0 : ∀ h, s[p]'h = b0 := fun h => by rw [getElem?_pos s _ h] at h0; exact Option.some.inj h0
  have e1 : ∀ h, s[p + 1]'h = b1 := fun h => by rw [show ((p : Int) + 1).toNat = p + 1 by omega, getElem?_pos s _ h] at h1; exact Option.some.inj h1
  have e2 : ∀ h, s[((p : Int) + 2).toNat]'h = b2 := fun h => by rw [getElem?_pos s _ h] at h2; exact Option.some.inj h2
  have e3 : ∀ h, s[((p : Int) + 3).toNat]'h = b3 := fun h => by rw [getElem?_pos s _ h] at h3; exact Option.some.inj h3
  have e4 : ∀ h, s[((p : Int) + 4).toNat]'h = b4 := fun h => by rw [getElem?_pos s _ h] at h4; exact Option.some.inj h4
  have l0 : p < s.size := by omega
  have l1 : p + 1 < s.size := by omega
  have l2 : ((p : Int) + 2).toNat < s.size := by omega
  have l3 : ((p : Int) + 3).toNat < s.size := by omega
  have l4 : ((p : Int) + 4).toNat < s.size := by omega
  clear hs h5 w5 hp h0 h1 h2 h3 h4
  have W6 : Hid (wrap64 ((b3.toNat : Int) + (b4.toNat : Int) * 256) = ((b3.toNat + b4.toNat * 256 : Nat) : Int)) := w6
  clear w6
  go_region
  clear w1 w2 w3 w4 g0 g1 g2 g3 g4 e0 e1 e2 e3 e4 l0 l1 l2 l3 l4
  go_wp2_with fail
  go_returns
  have x0 : wrap64 (b0.toNat : Int) = b0.toNat := by have := UInt8.toNat_lt b0; unfold wrap64; omega
  have x1 : wrap64 (b1.toNat : Int) = b1.toNat := by have := UInt8.toNat_lt b1; unfold wrap64; omega
  have x2 : wrap64 (b2.toNat : Int) = b2.toNat := by have := UInt8.toNat_lt b2; unfold wrap64; omega
  have x3 : wrap64 (b3.toNat : Int) = b3.toNat := by have := UInt8.toNat_lt b3; unfold wrap64; omega
  have x4 : wrap64 (b4.toNat : Int) = b4.toNat := by have := UInt8.toNat_lt b4; unfold wrap64; omega
  have x5 : wrap64 ((b4.toNat : Int) * 256) = (b4.toNat : Int) * 256 := by have := UInt8.toNat_lt b4; unfold wrap64; omega
  refine ⟨?_, ?_⟩
  · simp [x0, x1, x2, x3, x4, x5, W6.out]
  · exact ⟨rfl, rfl, rfl, by simp, fun k hk => Below.heap_alloc _ _ _ hk⟩
end Go.Proofs.YtghggcehloiemabGreatDoor
namespace Go.Proofs.YtghggcehloiemabGreatDoor
open Go.RowKit
set_option linter.unusedVariables false
set_option maxRecDepth 16000

theorem bget_of {s : ByteArray} {i : Nat} (h : i < s.size) : s[i]? = some s[i] := getElem?_pos s i h
theorem byteAt_of {s : ByteArray} {i : Nat} (h : i < s.size) : P.byteAt s.data.toList i = s[i].toNat := by
  unfold P.byteAt
  rw [get_of h]; rfl
theorem insAt_any (s : ByteArray) (n : Nat) (w : World) (h : 5 * n + 5 ≤ s.size) (hs : s.size ≤ maxLen) :
    Calls Tryz.prog 65 #[.string s, .int .i64 ((5 * n : Nat) : Int)] w fun e w' => e = .returned (.agg #[.int .i64 (P.insAt s.data.toList n).op, .int .i64 (P.insAt s.data.toList n).a, .int .i64 (P.insAt s.data.toList n).b, .int .i64 (P.insAt s.data.toList n).k]) ∧ Below w.heap.size w w' := by
  have e1 : (((5 * n : Nat) : Int) + 1).toNat = 5 * n + 1 := by omega
  have e2 : (((5 * n : Nat) : Int) + 2).toNat = 5 * n + 2 := by omega
  have e3 : (((5 * n : Nat) : Int) + 3).toNat = 5 * n + 3 := by omega
  have e4 : (((5 * n : Nat) : Int) + 4).toNat = 5 * n + 4 := by omega
  refine (insAt_go s (5 * n) s[5 * n] s[5 * n + 1] s[5 * n + 2] s[5 * n + 3] s[5 * n + 4] w hs (bget_of (by omega)) (by rw [e1]; exact bget_of (by omega)) (by rw [e2]; exact bget_of (by omega)) (by rw [e3]; exact bget_of (by omega)) (by rw [e4]; exact bget_of (by omega)) (by omega)).mono ?_
  rintro e w' ⟨rfl, hb⟩
  refine ⟨?_, hb⟩
  simp only [P.insAt]
  rw [byteAt_of (by omega : 5 * n < s.size), byteAt_of (by omega : 5 * n + 1 < s.size), byteAt_of (by omega : 5 * n + 2 < s.size), byteAt_of (by omega : 5 * n + 3 < s.size), byteAt_of (by omega : 5 * n + 4 < s.size)]

set_option maxHeartbeats 1000000 in
theorem allowed_any (op a b k count : Nat) (w : World) : Calls Tryz.prog 66 #[.agg #[.int .i64 op, .int .i64 a, .int .i64 b, .int .i64 k], .int .i64 count] w fun e w' => e = .returned (.bool (decide (P.OkI count ⟨op, a, b, k⟩))) ∧ Below w.heap.size w w' := by
  have hb : Below w.heap.size w (w.alloc (.cells #[.int .i64 op, .int .i64 a, .int .i64 b, .int .i64 k] 112)) := (Below.refl _ _).alloc (Nat.le_refl _) _
  by_cases h1 : 14 < op
  · have HF : Hid (decide (P.OkI count ⟨op, a, b, k⟩) = false) := decide_eq_false (fun h => by have : op ≤ 14 := h.1; omega)
    go_enter Tryz.func66, Tryz.ntmps66
    go_wp2_with fail
    go_ret
    exact ⟨by rw [HF.out]; rfl, hb⟩
  · by_cases h2 : 16 ≤ a
    · have HF : Hid (decide (P.OkI count ⟨op, a, b, k⟩) = false) := decide_eq_false (fun h => by have : a ≤ 15 := h.2.1; omega)
      go_enter Tryz.func66, Tryz.ntmps66
      go_wp2_with fail
      go_ret
      exact ⟨by rw [HF.out]; rfl, hb⟩
    · by_cases h3 : 16 ≤ b
      · have HF : Hid (decide (P.OkI count ⟨op, a, b, k⟩) = false) := decide_eq_false (fun h => by have : b ≤ 15 := h.2.2.1; omega)
        go_enter Tryz.func66, Tryz.ntmps66
        go_wp2_with fail
        go_ret
        exact ⟨by rw [HF.out]; rfl, hb⟩
      · have g1 : ¬ (14 : Int) < op := by omega
        have g2 : ¬ (16 : Int) ≤ a := by omega
        have g3 : ¬ (16 : Int) ≤ b := by omega
        have HS := fun w => saysWhere_any op a b k w
        by_cases h4 : 11 ≤ op
        · have HF : Hid (decide (P.OkI count ⟨op, a, b, k⟩) = decide (k < count)) := decide_eq_decide.2 ⟨fun h => h.2.2.2.1 h4, fun h => ⟨show op ≤ 14 by omega, show a ≤ 15 by omega, show b ≤ 15 by omega, fun _ => h, fun (e : op = 8) => by omega⟩⟩
          have h4' : decide (11 ≤ op) = true := by simp [h4]
          rw [h4'] at HS
          have HSS : Hid (∀ w, Calls Tryz.prog 96 #[.agg #[.int .i64 op, .int .i64 a, .int .i64 b, .int .i64 k]] w fun e w' => e = .returned (.bool true) ∧ Below w.heap.size w w') := HS
          clear HS
          go_enter Tryz.func66, Tryz.ntmps66
          go_wp2_with fail
          refine (HSS.out _).mono ?_
          rintro e w1 ⟨rfl, hb1⟩
          have hc := hb1.cell (p := ⟨w.heap.size, 3, none⟩) (by simp)
          go_wp2_with fail
          go_ret
          exact ⟨by rw [HF.out]; rfl, hb.trans (hb1.mono hb.size)⟩
        · have h4' : decide (11 ≤ op) = false := by simp [h4]
          rw [h4'] at HS
          have HSS : Hid (∀ w, Calls Tryz.prog 96 #[.agg #[.int .i64 op, .int .i64 a, .int .i64 b, .int .i64 k]] w fun e w' => e = .returned (.bool false) ∧ Below w.heap.size w w') := HS
          clear HS
          by_cases h8 : op = 8
          · have HF : Hid (decide (P.OkI count ⟨op, a, b, k⟩) = decide (k ≤ 31)) := decide_eq_decide.2 ⟨fun h => h.2.2.2.2 h8, fun h => ⟨show op ≤ 14 by omega, show a ≤ 15 by omega, show b ≤ 15 by omega, fun e => by have : 11 ≤ op := e; omega, fun _ => h⟩⟩
            subst h8
            go_enter Tryz.func66, Tryz.ntmps66
            go_wp2_with fail
            refine (HSS.out _).mono ?_
            rintro e w1 ⟨rfl, hb1⟩
            have hc := hb1.cell (p := ⟨w.heap.size, 3, none⟩) (by simp)
            have hc0 := hb1.cell (p := ⟨w.heap.size, 0, none⟩) (by simp)
            go_wp2_with fail
            go_ret
            exact ⟨by rw [HF.out]; simp; omega, hb.trans (hb1.mono hb.size)⟩
          · have HF : Hid (decide (P.OkI count ⟨op, a, b, k⟩) = true) := decide_eq_true ⟨show op ≤ 14 by omega, show a ≤ 15 by omega, show b ≤ 15 by omega, fun e => by have : 11 ≤ op := e; omega, fun e => absurd e h8⟩
            go_enter Tryz.func66, Tryz.ntmps66
            go_wp2_with fail
            refine (HSS.out _).mono ?_
            rintro e w1 ⟨rfl, hb1⟩
            have hc0 := hb1.cell (p := ⟨w.heap.size, 0, none⟩) (by simp)
            go_wp2_with fail
            go_ret
            exact ⟨by rw [HF.out]; rfl, hb.trans (hb1.mono hb.size)⟩
end Go.Proofs.YtghggcehloiemabGreatDoor
