import Derived.Test.YtghggcehloiemaaDoorNumber
import Derived.Laws.MathBits
namespace Go.Proofs.YtghggcehloiemaaDoor
open Go.RowKit
set_option linter.unusedVariables false
set_option maxRecDepth 16000

namespace P
def hexv (c : UInt8) : Option Nat := if 48 ≤ c.toNat ∧ c.toNat ≤ 57 then some (c.toNat - 48) else if 97 ≤ c.toNat ∧ c.toNat ≤ 102 then some (c.toNat - 87) else none
theorem hexv_lt {c : UInt8} {d : Nat} (h : hexv c = some d) : d ≤ 15 := by
  unfold hexv at h
  split at h
  · cases h; omega
  · split at h
    · cases h; omega
    · cases h
end P

set_option maxHeartbeats 400000 in
theorem peek_in {b i : Nat} {s : ByteArray} {w : World} {v : Value} {T : TypeId} (hc : Cur w b s i v T) (hi : i < s.size) :
    Calls Tryd.prog 64 #[.pointer (some ⟨b, 0, none⟩)] w fun e w' => e = .returned (.int .u8 s[i].toNat) ∧ ∃ n, w' = w.drewN n := by
  have h0 := hc.c0
  have h1 := hc.c1
  clear hc
  have hd : decide ((s.size : Int) ≤ (i : Int)) = false := by simp; omega
  go_enter Tryd.func64, Tryd.ntmps64
  go_wp2_with fail
  go_quiet (fail)
  go_wp2_with fail
  go_quiet (fail)
  go_wp2_with fail
  go_ret
  exact ⟨rfl, _, by rw [World.drewN_drewN]⟩
set_option maxHeartbeats 400000 in
theorem peek_out {b i : Nat} {s : ByteArray} {w : World} {v : Value} {T : TypeId} (hc : Cur w b s i v T) (hi : s.size ≤ i) :
    Calls Tryd.prog 64 #[.pointer (some ⟨b, 0, none⟩)] w fun e w' => e = .returned (.int .u8 0) ∧ ∃ n, w' = w.drewN n := by
  have h0 := hc.c0
  have h1 := hc.c1
  clear hc
  have hd : decide ((s.size : Int) ≤ (i : Int)) = true := by simp; omega
  go_enter Tryd.func64, Tryd.ntmps64
  go_wp2_with fail
  go_quiet (fail)
  go_wp2_with fail
  go_ret
  exact ⟨rfl, _, rfl⟩

/-- What a hexadecimal digit at place i is. -/
def hexAt (s : ByteArray) (i : Nat) : Option Nat := (s.data.toList[i]?).bind P.hexv

set_option maxHeartbeats 1000000 in
theorem hexDigit_yes {b i d : Nat} {s : ByteArray} {w : World} {v : Value} {T : TypeId} (hc : Cur w b s i v T) (hm : s.size ≤ maxLen) (hx : hexAt s i = some d) :
    Calls Tryd.prog 58 #[.pointer (some ⟨b, 0, none⟩)] w fun e w' => e = .returned (.tuple #[.int .u8 d, .bool true]) ∧ i < s.size ∧ Cur w' b s (i + 1) v T ∧ Only b w w' := by
  have hi : i < s.size := by
    rcases Nat.lt_or_ge i s.size with h | h
    · exact h
    · simp [hexAt, get_none h] at hx
  have hv : P.hexv s[i] = some d := by simpa [hexAt, get_of hi] using hx
  unfold maxLen at hm
  clear hx
  unfold P.hexv at hv
  split at hv
  · rename_i hd
    have hdb : digB (s[i].toNat : Int) = true := by simp [digB]; omega
    have HV : Hid ((d : Int) = (s[i].toNat : Int) - 48) := by cases hv; unfold Hid; omega
    clear hv
    have hd1 : (48 : Int) ≤ (s[i].toNat : Int) := by omega
    have hd2 : (s[i].toNat : Int) ≤ 57 := by omega
    clear hd
    go_enter Tryd.func58, Tryd.ntmps58
    go_wp2_with fail
    refine (peek_in hc hi).mono ?_
    rintro e w1 ⟨rfl, n, rfl⟩
    go_wp2_with fail
    refine (isDigit_yes _ _ hdb).mono ?_
    rintro e w2 ⟨rfl, rfl⟩
    have g1 := hc.c1
    have gf := hc.fz 1
    go_wp2_with fail
    go_ret2
    exact ⟨by rw [HV.out]; rfl, hi, (hc.drewN n).set1 (i + 1), ((Only.refl b w).drewN n).setCell 1 _⟩
  · rename_i hd
    split at hv
    · rename_i hd'
      have hdb : digB (s[i].toNat : Int) = false := by simp [digB]; omega
      have HV : Hid ((d : Int) = (s[i].toNat : Int) - 97 + 10) := by cases hv; unfold Hid; omega
      clear hv
      have hd1 : (97 : Int) ≤ (s[i].toNat : Int) := by omega
      have hd2 : (s[i].toNat : Int) ≤ 102 := by omega
      clear hd hd'
      go_enter Tryd.func58, Tryd.ntmps58
      go_wp2_with fail
      refine (peek_in hc hi).mono ?_
      rintro e w1 ⟨rfl, n, rfl⟩
      go_wp2_with fail
      refine (isDigit_no _ _ hdb).mono ?_
      rintro e w2 ⟨rfl, rfl⟩
      have g1 := hc.c1
      have gf := hc.fz 1
      go_wp2_with fail
      go_ret2
      exact ⟨by rw [HV.out]; rfl, hi, (hc.drewN n).set1 (i + 1), ((Only.refl b w).drewN n).setCell 1 _⟩
    · cases hv

set_option maxHeartbeats 1000000 in
theorem hexDigit_no {b i : Nat} {s : ByteArray} {w : World} {v : Value} {T : TypeId} (hc : Cur w b s i v T) (hx : hexAt s i = none) :
    Calls Tryd.prog 58 #[.pointer (some ⟨b, 0, none⟩)] w fun e w' => e = .returned (.tuple #[.int .u8 0, .bool false]) ∧ Only b w w' := by
  rcases Nat.lt_or_ge i s.size with hi | hi
  · have hv : P.hexv s[i] = none := by simpa [hexAt, get_of hi] using hx
    clear hx
    unfold P.hexv at hv
    split at hv
    · cases hv
    · split at hv
      · cases hv
      · rename_i h1 h2
        have hdb : digB (s[i].toNat : Int) = false := by simp [digB]; omega
        clear hv
        by_cases hge : (97 : Int) ≤ (s[i].toNat : Int)
        · have hle : ¬ (s[i].toNat : Int) ≤ 102 := by omega
          clear h1 h2
          go_enter Tryd.func58, Tryd.ntmps58
          go_wp2_with fail
          refine (peek_in hc hi).mono ?_
          rintro e w1 ⟨rfl, n, rfl⟩
          go_wp2_with fail
          refine (isDigit_no _ _ hdb).mono ?_
          rintro e w2 ⟨rfl, rfl⟩
          go_wp2_with fail
          go_ret2
          exact ⟨rfl, (Only.refl b w).drewN n⟩
        · clear h1 h2
          go_enter Tryd.func58, Tryd.ntmps58
          go_wp2_with fail
          refine (peek_in hc hi).mono ?_
          rintro e w1 ⟨rfl, n, rfl⟩
          go_wp2_with fail
          refine (isDigit_no _ _ hdb).mono ?_
          rintro e w2 ⟨rfl, rfl⟩
          go_wp2_with fail
          go_ret2
          exact ⟨rfl, (Only.refl b w).drewN n⟩
  · have hdb : digB (0 : Int) = false := by decide
    go_enter Tryd.func58, Tryd.ntmps58
    go_wp2_with fail
    refine (peek_out hc hi).mono ?_
    rintro e w1 ⟨rfl, n, rfl⟩
    go_wp2_with fail
    refine (isDigit_no _ _ hdb).mono ?_
    rintro e w2 ⟨rfl, rfl⟩
    go_wp2_with fail
    go_ret2
    exact ⟨rfl, (Only.refl b w).drewN n⟩

set_option maxHeartbeats 400000 in
theorem hexByte_yes {b i x y : Nat} {s : ByteArray} {w : World} {v : Value} {T : TypeId} (hc : Cur w b s i v T) (hm : s.size ≤ maxLen) (hx : hexAt s i = some x) (hy : hexAt s (i + 1) = some y) :
    Calls Tryd.prog 52 #[.pointer (some ⟨b, 0, none⟩)] w fun e w' => e = .returned (.tuple #[.int .u8 ((x * 16 + y : Nat) : Int), .bool true]) ∧ i + 1 < s.size ∧ Cur w' b s (i + 2) v T ∧ Only b w w' := by
  have hx15 : x ≤ 15 := by
    unfold hexAt at hx; cases h : s.data.toList[i]? with
    | none => rw [h] at hx; cases hx
    | some c => rw [h] at hx; exact P.hexv_lt hx
  have hy15 : y ≤ 15 := by
    unfold hexAt at hy; cases h : s.data.toList[i + 1]? with
    | none => rw [h] at hy; cases hy
    | some c => rw [h] at hy; exact P.hexv_lt hy
  have HX : Hid (hexAt s i = some x) := hx
  have HY : Hid (hexAt s (i + 1) = some y) := hy
  clear hx hy
  go_enter Tryd.func52, Tryd.ntmps52
  go_wp2_with fail
  refine (hexDigit_yes hc hm HX.out).mono ?_
  rintro e w1 ⟨rfl, hi, hc1, ho1⟩
  go_wp2_with fail
  refine (hexDigit_yes hc1 hm HY.out).mono ?_
  rintro e w2 ⟨rfl, hi2, hc2, ho2⟩
  go_wp2_with fail
  go_ret2
  exact ⟨by go_num, hi2, hc2, ho1.trans ho2⟩
set_option maxHeartbeats 400000 in
theorem hexByte_no {b i : Nat} {s : ByteArray} {w : World} {v : Value} {T : TypeId} (hc : Cur w b s i v T) (hm : s.size ≤ maxLen) (hx : hexAt s i = none ∨ hexAt s (i + 1) = none) :
    Calls Tryd.prog 52 #[.pointer (some ⟨b, 0, none⟩)] w fun e w' => e = .returned (.tuple #[.int .u8 0, .bool false]) ∧ Only b w w' := by
  cases h1 : hexAt s i with
  | none =>
    have HX : Hid (hexAt s i = none) := h1
    clear h1 hx
    go_enter Tryd.func52, Tryd.ntmps52
    go_wp2_with fail
    refine (hexDigit_no hc HX.out).mono ?_
    rintro e w1 ⟨rfl, ho1⟩
    go_wp2_with fail
    go_ret2
    exact ⟨rfl, ho1⟩
  | some x =>
    have h2 : hexAt s (i + 1) = none := by
      rcases hx with h | h
      · rw [h1] at h; cases h
      · exact h
    have HX : Hid (hexAt s i = some x) := h1
    have HY : Hid (hexAt s (i + 1) = none) := h2
    clear h1 h2 hx
    go_enter Tryd.func52, Tryd.ntmps52
    go_wp2_with fail
    refine (hexDigit_yes hc hm HX.out).mono ?_
    rintro e w1 ⟨rfl, hi, hc1, ho1⟩
    go_wp2_with fail
    refine (hexDigit_no hc1 HY.out).mono ?_
    rintro e w2 ⟨rfl, ho2⟩
    go_wp2_with fail
    go_ret2
    exact ⟨rfl, ho1.trans ho2⟩

set_option maxHeartbeats 400000 in
theorem greatest_any (n : Nat) (w : World) (hn : n ≤ 4) :
    Calls Tryd.prog 51 #[.int .i64 n] w fun e w' => e = .returned (.int .i64 ((256 ^ n - 1 : Nat) : Int)) ∧ w' = w := by
  have hb : ∀ k : Nat, k ≤ 4 → 256 ^ k - 1 ≤ 4294967295 := by
    intro k hk
    have : 256 ^ k ≤ 256 ^ 4 := Nat.pow_le_pow_right (by omega) hk
    omega
  have HB : Hid _ := hb
  clear hb
  go_enter Tryd.func51, Tryd.ntmps51
  go_wp2_with fail
  go_loop [3, 4] (fun x i => ∃ k m : Nat, k ≤ n ∧ i = .int .i64 k ∧ x = .int .i64 m ∧ m ≤ 4294967295 ∧ Hid (m = 256 ^ k - 1)) (fun _ i => n - (intOf i).toNat)
  case atStart => exact ⟨0, 0, Nat.zero_le _, rfl, rfl, by omega, rfl⟩
  case round =>
    obtain ⟨k, m, hk, rfl, rfl, hm, HM⟩ := hrel
    by_cases hlt : k < n
    · go_wp2_with fail
      refine ⟨⟨k + 1, m * 256 + 255, by omega, by go_num, by go_num, ?_, ?_⟩, by simp [intOf]; omega⟩
      · have := HB.out (k + 1) (by omega)
        have hp : 1 ≤ 256 ^ k := Nat.pos_of_ne_zero (by simp)
        rw [HM.out]
        rw [Nat.pow_succ] at this
        omega
      · have hp : 1 ≤ 256 ^ k := Nat.pos_of_ne_zero (by simp)
        unfold Hid
        rw [HM.out, Nat.pow_succ]
        omega
    · have hke : k = n := by omega
      subst hke
      go_wp2_with fail
      go_ret
      exact ⟨congrArg (fun x : Int => Ending.returned (.int .i64 x)) (by rw [HM.out]), rfl⟩
end Go.Proofs.YtghggcehloiemaaDoor
