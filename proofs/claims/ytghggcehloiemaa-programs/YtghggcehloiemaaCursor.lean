import Derived.Test.YtghggcehloiemaaRows
import Derived.Test.YtghggcehloiemaaBase
import Derived.Test.YtghggcehloiemaaPure
import Derived.Deep.QuietTactic
import Derived.BigQuiet
namespace Go.Proofs.Ytghggcehloiemaa
open Go.RowKit
set_option linter.unusedVariables false
set_option maxRecDepth 16000

def digB (c : Int) : Bool := decide (48 ≤ c) && decide (c ≤ 57)

set_option maxHeartbeats 400000 in
theorem isDigit_any (c : Int) (w : World) :
    Calls Try.prog 119 #[.int .u8 c] w fun e w' => e = .returned (.bool (digB c)) ∧ w' = w := by
  go_enter Try.func119, Try.ntmps119
  go_wp2
  all_goals go_ret
  · exact ⟨by simp [digB, *], rfl⟩
  · exact ⟨by rw [digB, decide_eq_false (by omega)]; rfl, rfl⟩
theorem isDigit_yes (c : Int) (w : World) (h : digB c = true) : Calls Try.prog 119 #[.int .u8 c] w fun e w' => e = .returned (.bool true) ∧ w' = w := by
  have := isDigit_any c w; rwa [h] at this
theorem isDigit_no (c : Int) (w : World) (h : digB c = false) : Calls Try.prog 119 #[.int .u8 c] w fun e w' => e = .returned (.bool false) ∧ w' = w := by
  have := isDigit_any c w; rwa [h] at this

set_option maxHeartbeats 400000 in
theorem skip_end (b i : Nat) (s : ByteArray) (m : Int) (w : World) (h0 : w.cell? ⟨b, 0, none⟩ = some (.string s)) (h1 : w.cell? ⟨b, 1, none⟩ = some (.int .i64 i)) (hi : s.size ≤ i) :
    Calls Try.prog 70 #[.pointer (some ⟨b, 0, none⟩), .int .u8 m] w fun e w' => e = .returned (.bool false) ∧ ∃ n, w' = w.drewN n := by
  have hd : decide ((s.size : Int) ≤ (i : Int)) = true := by simp; omega
  go_enter Try.func70, Try.ntmps70
  go_wp2_with fail
  go_quiet (fail)
  go_wp2
  go_ret
  exact ⟨rfl, _, rfl⟩

set_option maxHeartbeats 400000 in
theorem skip_else (b i : Nat) (s : ByteArray) (m : Int) (w : World) (h0 : w.cell? ⟨b, 0, none⟩ = some (.string s)) (h1 : w.cell? ⟨b, 1, none⟩ = some (.int .i64 i)) (hi : i < s.size)
    (hne : ((s[i].toNat : Int) != m) = true) :
    Calls Try.prog 70 #[.pointer (some ⟨b, 0, none⟩), .int .u8 m] w fun e w' => e = .returned (.bool false) ∧ ∃ n, w' = w.drewN n := by
  have hd : decide ((s.size : Int) ≤ (i : Int)) = false := by simp; omega
  go_enter Try.func70, Try.ntmps70
  go_wp2_with fail
  go_quiet (fail)
  go_wp2
  go_ret
  exact ⟨rfl, _, rfl⟩

set_option maxHeartbeats 400000 in
theorem skip_hit (b i : Nat) (s : ByteArray) (m : Int) (w : World) (h0 : w.cell? ⟨b, 0, none⟩ = some (.string s)) (h1 : w.cell? ⟨b, 1, none⟩ = some (.int .i64 i)) (hf : w.frozen? ⟨b, 1, none⟩ = false) (hi : i < s.size) (hm : s.size ≤ maxLen)
    (heq : ((s[i].toNat : Int) != m) = false) :
    Calls Try.prog 70 #[.pointer (some ⟨b, 0, none⟩), .int .u8 m] w fun e w' => e = .returned (.bool true) ∧ ∃ n, w' = (w.setCell ⟨b, 1, none⟩ (.int .i64 (i + 1 : Nat))).drewN n := by
  unfold maxLen at hm
  have hd : decide ((s.size : Int) ≤ (i : Int)) = false := by simp; omega
  go_enter Try.func70, Try.ntmps70
  go_wp2_with fail
  go_quiet (fail)
  go_wp2
  go_ret
  exact ⟨rfl, _, rfl⟩

/-- Does the mark stand at place i? -/
def hit (s : ByteArray) (i : Nat) (m : UInt8) : Bool := s.data.toList[i]? == some m

theorem get_of {s : ByteArray} {i : Nat} (hi : i < s.size) : s.data.toList[i]? = some s[i] := by
  have : i < s.data.toList.length := by simpa using hi
  rw [List.getElem?_eq_getElem this]; rfl
theorem get_none {s : ByteArray} {i : Nat} (hi : s.size ≤ i) : s.data.toList[i]? = none := by
  rw [List.getElem?_eq_none]; simpa using hi

theorem skip_yes {b i : Nat} {s : ByteArray} {m : UInt8} {w : World} {v : Value} {T : TypeId} (hc : Cur w b s i v T) (hm : s.size ≤ maxLen) (hh : hit s i m = true) :
    Calls Try.prog 70 #[.pointer (some ⟨b, 0, none⟩), .int .u8 m.toNat] w fun e w' => e = .returned (.bool true) ∧ i < s.size ∧ Cur w' b s (i + 1) v T ∧ Only b w w' := by
  have hi : i < s.size := by
    rcases Nat.lt_or_ge i s.size with h | h
    · exact h
    · simp [hit, get_none h] at hh
  have he : s[i] = m := by simpa [hit, get_of hi] using hh
  refine (skip_hit b i s m.toNat w hc.c0 hc.c1 (hc.fz 1) hi hm (by rw [he]; simp)).mono ?_
  rintro e w' ⟨rfl, n, rfl⟩
  exact ⟨rfl, hi, (hc.set1 (i + 1)).drewN n, ((Only.refl b w).setCell 1 _).drewN n⟩

theorem skip_no {b i : Nat} {s : ByteArray} {m : UInt8} {w : World} {v : Value} {T : TypeId} (hc : Cur w b s i v T) (hh : hit s i m = false) :
    Calls Try.prog 70 #[.pointer (some ⟨b, 0, none⟩), .int .u8 m.toNat] w fun e w' => e = .returned (.bool false) ∧ Cur w' b s i v T ∧ Only b w w' := by
  have key : Calls Try.prog 70 #[.pointer (some ⟨b, 0, none⟩), .int .u8 m.toNat] w fun e w' => e = .returned (.bool false) ∧ ∃ n, w' = w.drewN n := by
    rcases Nat.lt_or_ge i s.size with hi | hi
    · refine skip_else b i s m.toNat w hc.c0 hc.c1 hi ?_
      have he : s[i] ≠ m := by simpa [hit, get_of hi] using hh
      rw [bne_iff_ne]
      intro h
      exact he (UInt8.toNat_inj.1 (by exact_mod_cast h))
    · exact skip_end b i s m.toNat w hc.c0 hc.c1 hi
  refine key.mono ?_
  rintro e w' ⟨rfl, n, rfl⟩
  exact ⟨rfl, hc.drewN n, (Only.refl b w).drewN n⟩

set_option maxHeartbeats 400000 in
theorem ended_any {b i : Nat} {s : ByteArray} {w : World} {v : Value} {T : TypeId} (hc : Cur w b s i v T) :
    Calls Try.prog 51 #[.pointer (some ⟨b, 0, none⟩)] w fun e w' => e = .returned (.bool (decide (s.size ≤ i))) ∧ ∃ n, w' = w.drewN n := by
  have h0 := hc.c0
  have h1 := hc.c1
  clear hc
  go_enter Try.func51, Try.ntmps51
  go_wp2_with fail
  go_quiet (fail)
  go_wp2
  go_ret
  exact ⟨by simp, _, rfl⟩
end Go.Proofs.Ytghggcehloiemaa
