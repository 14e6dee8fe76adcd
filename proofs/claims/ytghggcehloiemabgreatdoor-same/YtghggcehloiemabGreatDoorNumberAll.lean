import Derived.Test.YtghggcehloiemabGreatDoorBaseAll
import Derived.Laws.MathBits
namespace Go.Proofs.YtghggcehloiemabGreatDoor
open Go.RowKit
set_option linter.unusedVariables false
set_option maxRecDepth 16000

/-- What 'number' answers. -/
def NumPost (most : Nat) (s : ByteArray) (i b : Nat) (v : Value) (T : TypeId) (w : World) (e : Ending) (w' : World) : Prop :=
  (match P.rdnum most (s.data.toList.drop i) with
    | some (n, k) => e = .returned (.tuple #[.int .i64 n, .bool true]) ∧ i + k ≤ s.size ∧ Cur w' b s (i + k) v T
    | none => e = .returned (.tuple #[.int .i64 0, .bool false]) ∧ ∃ j, j ≤ s.size ∧ Cur w' b s j v T) ∧ Only b w w'
theorem NumPost.no {most : Nat} {s : ByteArray} {i b : Nat} {v : Value} {T : TypeId} {w w' : World} {e : Ending} (h : P.rdnum most (s.data.toList.drop i) = none) (he : e = .returned (.tuple #[.int .i64 0, .bool false])) {j : Nat} (hj : j ≤ s.size) (hc : Cur w' b s j v T) (ho : Only b w w') : NumPost most s i b v T w e w' := by
  unfold NumPost; rw [h]; exact ⟨⟨he, j, hj, hc⟩, ho⟩
theorem NumPost.yes {most : Nat} {s : ByteArray} {i b : Nat} {v : Value} {T : TypeId} {w w' : World} {e : Ending} {n k : Nat} (h : P.rdnum most (s.data.toList.drop i) = some (n, k)) (he : e = .returned (.tuple #[.int .i64 n, .bool true])) (hj : i + k ≤ s.size) (hc : Cur w' b s (i + k) v T) (ho : Only b w w') : NumPost most s i b v T w e w' := by
  unfold NumPost; rw [h]; exact ⟨⟨he, hj, hc⟩, ho⟩

theorem dig_iff (c : UInt8) : digB (c.toNat : Int) = P.isDig c := by
  unfold digB P.isDig
  congr 1 <;> simp <;> omega
theorem drop_get {s : ByteArray} {i k : Nat} (h : i + k < s.size) : (s.data.toList.drop i)[k]? = some s[i + k] := by
  rw [List.getElem?_drop]; exact get_of h
theorem drop_none {s : ByteArray} {i k : Nat} (h : s.size ≤ i + k) : (s.data.toList.drop i)[k]? = none := by
  rw [List.getElem?_drop]; exact get_none h

theorem step_stop {s : ByteArray} {i p most nn : Nat} (hip : i ≤ p) (h : P.NumInv (s.data.toList.drop i) most (p - i) nn) (hs : ∀ h : p < s.size, P.isDig s[p] = false) : ∀ c, (s.data.toList.drop i)[p - i]? = some c → P.isDig c = false := by
  intro c hc
  rcases Nat.lt_or_ge p s.size with hl | hl
  · rw [drop_get (s := s) (i := i) (k := p - i) (by omega)] at hc
    have : s[i + (p - i)]'(by omega) = s[p] := by congr 1; omega
    rw [this] at hc
    have := hs hl
    simp at hc; subst hc; exact this
  · rw [drop_none (by omega)] at hc; cases hc
theorem get_p {s : ByteArray} {i p : Nat} (hip : i ≤ p) (h : p < s.size) : (s.data.toList.drop i)[p - i]? = some s[p] := by
  rw [drop_get (s := s) (i := i) (k := p - i) (by omega)]
  congr 2; omega

theorem meas_dn {w w' : World} {b p : Nat} {s : ByteArray} {v : Value} {T : TypeId} (h : Cur w b s p v T) (hlt : p < s.size) (h' : Cur w' b s (p + 1) v T) : s.size - atOf w' b < s.size - atOf w b := by
  rw [h.atOf, h'.atOf]; omega
set_option maxHeartbeats 1000000 in
theorem number_any {b i : Nat} {s : ByteArray} {w : World} {v : Value} {T : TypeId} (most : Nat) (hmost : most ≤ 4294967295) (hc : Cur w b s i v T) (hm : s.size ≤ maxLen) (hi : i ≤ s.size) :
    Calls Tryz.prog 159 #[.pointer (some ⟨b, 0, none⟩), .int .i64 most] w fun e w' => NumPost most s i b v T w e w' := by
  unfold maxLen at hm
  have h1 := hc.c1
  go_enter Tryz.func159, Tryz.ntmps159
  go_wp2_with fail
  go_loopw [7] (fun n wr => ∃ p nn : Nat, P.NumInv (s.data.toList.drop i) most (p - i) nn ∧ n = .int .i64 nn ∧ i ≤ p ∧ p ≤ s.size ∧ Cur wr b s p v T ∧ Only b w wr) (fun _ wr => s.size - atOf wr b)
  case atStart => exact ⟨i, 0, by rw [Nat.sub_self]; exact P.numInv_start _ _, rfl, Nat.le_refl _, hi, hc, Only.refl _ _⟩
  case round =>
    obtain ⟨p, nn, hinv, rfl, hip, hps, hcur, honly⟩ := hrel
    clear h1 hc
    have g0 := hcur.c0
    have g1 := hcur.c1
    have gf := hcur.fz 1
    have hnn := hinv.2.2.1
    have HI : Hid (P.NumInv (s.data.toList.drop i) most (p - i) nn) := hinv
    clear hinv
    by_cases hlt : p < s.size
    · have hds : decide ((p : Int) < (s.size : Int)) = true := by simp; omega
      by_cases hdg : digB (s[p].toNat : Int) = true
      · have hdig : P.isDig s[p] = true := by rw [← dig_iff]; exact hdg
        have hsub := P.isDig_sub hdig
        have HD : Hid (P.isDig s[p] = true) := hdig
        clear hdig
        have hs1 : (48 : Int) ≤ (s[p].toNat : Int) := by omega
        have hs2 : (s[p].toNat : Int) ≤ 57 := by omega
        clear hsub
        go_wp2_with fail
        go_quiet ((go_at_call 175; exact Calls.quiet_of_same (isDigit_yes _ _ hdg)))
        clear hdg
        by_cases hz : nn = 0
        · have HZ : Hid (nn = 0) := hz
          have hzb : ((nn : Int) == 0) = true := by rw [beq_iff_eq]; omega
          clear hz
          by_cases hpi : i < p
          · go_wp2_with fail
            go_quiet (fail)
            go_wp2_with fail
            go_ret2
            exact NumPost.no (P.num_bad1 HI.out (get_p hip hlt) HD.out HZ.out (by omega)) rfl hps (by repeat (first | exact hcur | apply Cur.drewN)) (by repeat (first | exact honly | apply Only.drewN))
          · by_cases hgt : (most : Int) < (nn : Int) * 10 + ((s[p].toNat : Int) - 48)
            · go_wp2_with fail
              go_quiet (fail)
              go_wp2_with fail
              go_ret2
              exact NumPost.no (P.num_bad2 HI.out (get_p hip hlt) HD.out (by omega)) rfl hps (by repeat (first | exact hcur | apply Cur.drewN)) (by repeat (first | exact honly | apply Only.drewN))
            · go_wp2_with fail
              go_quiet (fail)
              go_wp2_with fail
              go_roundw
              case rel => exact ⟨p + 1, nn * 10 + (s[p].toNat - 48), by rw [show p + 1 - i = p - i + 1 by omega]; exact P.num_ok HI.out (get_p hip hlt) HD.out (by omega) (by omega), by go_num, by omega, by omega, by repeat (first | exact hcur | apply Cur.drewN | apply Cur.set1), by repeat (first | exact honly | apply Only.drewN | apply Only.setCell)⟩
              case measure => exact meas_dn hcur hlt (by repeat (first | exact hcur | apply Cur.drewN | apply Cur.set1))
        · have HZ : Hid (nn ≠ 0) := hz
          have hzb : ((nn : Int) == 0) = false := by rw [beq_eq_false_iff_ne]; omega
          clear hz
          by_cases hgt : (most : Int) < (nn : Int) * 10 + ((s[p].toNat : Int) - 48)
          · go_wp2_with fail
            go_quiet (fail)
            go_wp2_with fail
            go_ret2
            exact NumPost.no (P.num_bad2 HI.out (get_p hip hlt) HD.out (by omega)) rfl hps (by repeat (first | exact hcur | apply Cur.drewN)) (by repeat (first | exact honly | apply Only.drewN))
          · go_wp2_with fail
            go_quiet (fail)
            go_wp2_with fail
            go_roundw
            case rel => exact ⟨p + 1, nn * 10 + (s[p].toNat - 48), by rw [show p + 1 - i = p - i + 1 by omega]; exact P.num_ok HI.out (get_p hip hlt) HD.out (fun h => HZ.out h.1) (by omega), by go_num, by omega, by omega, by repeat (first | exact hcur | apply Cur.drewN | apply Cur.set1), by repeat (first | exact honly | apply Only.drewN | apply Only.setCell)⟩
            case measure => exact meas_dn hcur hlt (by repeat (first | exact hcur | apply Cur.drewN | apply Cur.set1))
      · have hdg' : digB (s[p].toNat : Int) = false := by simpa using hdg
        clear hdg
        have HS : Hid (P.isDig s[p] = false) := by unfold Hid; rw [← dig_iff]; exact hdg'
        go_wp2_with fail
        go_quiet ((go_at_call 175; exact Calls.quiet_of_same (isDigit_no _ _ hdg')))
        clear hdg'
        go_wp2_with fail
        go_quiet (fail)
        go_wp2_with fail
        go_ret2
        by_cases hpi : i < p
        · exact NumPost.yes (P.num_stop HI.out (step_stop hip HI.out (fun _ => HS.out)) (by omega)) (by simp; omega) (by omega) (by rw [show i + (p - i) = p by omega]; repeat (first | exact hcur | apply Cur.drewN)) (by repeat (first | exact honly | apply Only.drewN))
        · have : p = i := by omega
          subst this
          have hI := HI.out
          rw [Nat.sub_self] at hI
          exact NumPost.no (P.num_stop0 hI (by have := step_stop hip HI.out (fun _ => HS.out); rwa [Nat.sub_self] at this)) (by simp; exact hI.2.1) hps (by repeat (first | exact hcur | apply Cur.drewN)) (by repeat (first | exact honly | apply Only.drewN))
    · have hds : decide ((p : Int) < (s.size : Int)) = false := by simp; omega
      go_wp2_with fail
      go_quiet (fail)
      go_wp2_with fail
      go_quiet (fail)
      go_wp2_with fail
      go_ret2
      by_cases hpi : i < p
      · exact NumPost.yes (P.num_stop HI.out (step_stop hip HI.out (fun h => absurd h hlt)) (by omega)) (by simp; omega) (by omega) (by rw [show i + (p - i) = p by omega]; repeat (first | exact hcur | apply Cur.drewN)) (by repeat (first | exact honly | apply Only.drewN))
      · have : p = i := by omega
        subst this
        have hI := HI.out
        rw [Nat.sub_self] at hI
        exact NumPost.no (P.num_stop0 hI (by have := step_stop hip HI.out (fun h => absurd h hlt); rwa [Nat.sub_self] at this)) (by simp; exact hI.2.1) hps (by repeat (first | exact hcur | apply Cur.drewN)) (by repeat (first | exact honly | apply Only.drewN))
end Go.Proofs.YtghggcehloiemabGreatDoor
namespace Go.Proofs.YtghggcehloiemabGreatDoor
open Go.RowKit
set_option linter.unusedVariables false
set_option maxRecDepth 16000

namespace P
def hexv (c : UInt8) : Option Nat := if 48 ≤ c.toNat ∧ c.toNat ≤ 57 then some (c.toNat - 48) else if 97 ≤ c.toNat ∧ c.toNat ≤ 102 then some (c.toNat - 87) else none
theorem hexv_lt {c : UInt8} {d : Nat} (h : hexv c = some d) : d ≤ 15 := by
  unfold hexv at h
  split at h
  · cases h; omega
  · split at h
    · cases h; omega
    · cases h
end P

set_option maxHeartbeats 400000 in
theorem peek_in {b i : Nat} {s : ByteArray} {w : World} {v : Value} {T : TypeId} (hc : Cur w b s i v T) (hi : i < s.size) :
    Calls Tryz.prog 182 #[.pointer (some ⟨b, 0, none⟩)] w fun e w' => e = .returned (.int .u8 s[i].toNat) ∧ ∃ n, w' = w.drewN n := by
  have h0 := hc.c0
  have h1 := hc.c1
  clear hc
  have hd : decide ((s.size : Int) ≤ (i : Int)) = false := by simp; omega
  go_enter Tryz.func182, Tryz.ntmps182
  go_wp2_with fail
  go_quiet (fail)
  go_wp2_with fail
  go_quiet (fail)
  go_wp2_with fail
  go_ret
  exact ⟨rfl, _, by rw [World.drewN_drewN]⟩
set_option maxHeartbeats 400000 in
theorem peek_out {b i : Nat} {s : ByteArray} {w : World} {v : Value} {T : TypeId} (hc : Cur w b s i v T) (hi : s.size ≤ i) :
    Calls Tryz.prog 182 #[.pointer (some ⟨b, 0, none⟩)] w fun e w' => e = .returned (.int .u8 0) ∧ ∃ n, w' = w.drewN n := by
  have h0 := hc.c0
  have h1 := hc.c1
  clear hc
  have hd : decide ((s.size : Int) ≤ (i : Int)) = true := by simp; omega
  go_enter Tryz.func182, Tryz.ntmps182
  go_wp2_with fail
  go_quiet (fail)
  go_wp2_with fail
  go_ret
  exact ⟨rfl, _, rfl⟩

/-- What a hexadecimal digit at place i is. -/
def hexAt (s : ByteArray) (i : Nat) : Option Nat := (s.data.toList[i]?).bind P.hexv

set_option maxHeartbeats 1000000 in
theorem hexDigit_yes {b i d : Nat} {s : ByteArray} {w : World} {v : Value} {T : TypeId} (hc : Cur w b s i v T) (hm : s.size ≤ maxLen) (hx : hexAt s i = some d) :
    Calls Tryz.prog 176 #[.pointer (some ⟨b, 0, none⟩)] w fun e w' => e = .returned (.tuple #[.int .u8 d, .bool true]) ∧ i < s.size ∧ Cur w' b s (i + 1) v T ∧ Only b w w' := by
  have hi : i < s.size := by
    rcases Nat.lt_or_ge i s.size with h | h
    · exact h
    · simp [hexAt, get_none h] at hx
  have hv : P.hexv s[i] = some d := by simpa [hexAt, get_of hi] using hx
  unfold maxLen at hm
  clear hx
  unfold P.hexv at hv
  split at hv
  · rename_i hd
    have hdb : digB (s[i].toNat : Int) = true := by simp [digB]; omega
    have HV : Hid ((d : Int) = (s[i].toNat : Int) - 48) := by cases hv; unfold Hid; omega
    clear hv
    have hd1 : (48 : Int) ≤ (s[i].toNat : Int) := by omega
    have hd2 : (s[i].toNat : Int) ≤ 57 := by omega
    clear hd
    go_enter Tryz.func176, Tryz.ntmps176
    go_wp2_with fail
    refine (peek_in hc hi).mono ?_
    rintro e w1 ⟨rfl, n, rfl⟩
    go_wp2_with fail
    refine (isDigit_yes _ _ hdb).mono ?_
    rintro e w2 ⟨rfl, rfl⟩
    have g1 := hc.c1
    have gf := hc.fz 1
    go_wp2_with fail
    go_ret2
    exact ⟨by rw [HV.out]; rfl, hi, (hc.drewN n).set1 (i + 1), ((Only.refl b w).drewN n).setCell 1 _⟩
  · rename_i hd
    split at hv
    · rename_i hd'
      have hdb : digB (s[i].toNat : Int) = false := by simp [digB]; omega
      have HV : Hid ((d : Int) = (s[i].toNat : Int) - 97 + 10) := by cases hv; unfold Hid; omega
      clear hv
      have hd1 : (97 : Int) ≤ (s[i].toNat : Int) := by omega
      have hd2 : (s[i].toNat : Int) ≤ 102 := by omega
      clear hd hd'
      go_enter Tryz.func176, Tryz.ntmps176
      go_wp2_with fail
      refine (peek_in hc hi).mono ?_
      rintro e w1 ⟨rfl, n, rfl⟩
      go_wp2_with fail
      refine (isDigit_no _ _ hdb).mono ?_
      rintro e w2 ⟨rfl, rfl⟩
      have g1 := hc.c1
      have gf := hc.fz 1
      go_wp2_with fail
      go_ret2
      exact ⟨by rw [HV.out]; rfl, hi, (hc.drewN n).set1 (i + 1), ((Only.refl b w).drewN n).setCell 1 _⟩
    · cases hv

set_option maxHeartbeats 1000000 in
theorem hexDigit_no {b i : Nat} {s : ByteArray} {w : World} {v : Value} {T : TypeId} (hc : Cur w b s i v T) (hx : hexAt s i = none) :
    Calls Tryz.prog 176 #[.pointer (some ⟨b, 0, none⟩)] w fun e w' => e = .returned (.tuple #[.int .u8 0, .bool false]) ∧ Only b w w' := by
  rcases Nat.lt_or_ge i s.size with hi | hi
  · have hv : P.hexv s[i] = none := by simpa [hexAt, get_of hi] using hx
    clear hx
    unfold P.hexv at hv
    split at hv
    · cases hv
    · split at hv
      · cases hv
      · rename_i h1 h2
        have hdb : digB (s[i].toNat : Int) = false := by simp [digB]; omega
        clear hv
        by_cases hge : (97 : Int) ≤ (s[i].toNat : Int)
        · have hle : ¬ (s[i].toNat : Int) ≤ 102 := by omega
          clear h1 h2
          go_enter Tryz.func176, Tryz.ntmps176
          go_wp2_with fail
          refine (peek_in hc hi).mono ?_
          rintro e w1 ⟨rfl, n, rfl⟩
          go_wp2_with fail
          refine (isDigit_no _ _ hdb).mono ?_
          rintro e w2 ⟨rfl, rfl⟩
          go_wp2_with fail
          go_ret2
          exact ⟨rfl, (Only.refl b w).drewN n⟩
        · clear h1 h2
          go_enter Tryz.func176, Tryz.ntmps176
          go_wp2_with fail
          refine (peek_in hc hi).mono ?_
          rintro e w1 ⟨rfl, n, rfl⟩
          go_wp2_with fail
          refine (isDigit_no _ _ hdb).mono ?_
          rintro e w2 ⟨rfl, rfl⟩
          go_wp2_with fail
          go_ret2
          exact ⟨rfl, (Only.refl b w).drewN n⟩
  · have hdb : digB (0 : Int) = false := by decide
    go_enter Tryz.func176, Tryz.ntmps176
    go_wp2_with fail
    refine (peek_out hc hi).mono ?_
    rintro e w1 ⟨rfl, n, rfl⟩
    go_wp2_with fail
    refine (isDigit_no _ _ hdb).mono ?_
    rintro e w2 ⟨rfl, rfl⟩
    go_wp2_with fail
    go_ret2
    exact ⟨rfl, (Only.refl b w).drewN n⟩

set_option maxHeartbeats 400000 in
theorem hexByte_yes {b i x y : Nat} {s : ByteArray} {w : World} {v : Value} {T : TypeId} (hc : Cur w b s i v T) (hm : s.size ≤ maxLen) (hx : hexAt s i = some x) (hy : hexAt s (i + 1) = some y) :
    Calls Tryz.prog 164 #[.pointer (some ⟨b, 0, none⟩)] w fun e w' => e = .returned (.tuple #[.int .u8 ((x * 16 + y : Nat) : Int), .bool true]) ∧ i + 1 < s.size ∧ Cur w' b s (i + 2) v T ∧ Only b w w' := by
  have hx15 : x ≤ 15 := by
    unfold hexAt at hx; cases h : s.data.toList[i]? with
    | none => rw [h] at hx; cases hx
    | some c => rw [h] at hx; exact P.hexv_lt hx
  have hy15 : y ≤ 15 := by
    unfold hexAt at hy; cases h : s.data.toList[i + 1]? with
    | none => rw [h] at hy; cases hy
    | some c => rw [h] at hy; exact P.hexv_lt hy
  have HX : Hid (hexAt s i = some x) := hx
  have HY : Hid (hexAt s (i + 1) = some y) := hy
  clear hx hy
  go_enter Tryz.func164, Tryz.ntmps164
  go_wp2_with fail
  refine (hexDigit_yes hc hm HX.out).mono ?_
  rintro e w1 ⟨rfl, hi, hc1, ho1⟩
  go_wp2_with fail
  refine (hexDigit_yes hc1 hm HY.out).mono ?_
  rintro e w2 ⟨rfl, hi2, hc2, ho2⟩
  go_wp2_with fail
  go_ret2
  exact ⟨by go_num, hi2, hc2, ho1.trans ho2⟩
set_option maxHeartbeats 400000 in
theorem hexByte_no {b i : Nat} {s : ByteArray} {w : World} {v : Value} {T : TypeId} (hc : Cur w b s i v T) (hm : s.size ≤ maxLen) (hx : hexAt s i = none ∨ hexAt s (i + 1) = none) :
    Calls Tryz.prog 164 #[.pointer (some ⟨b, 0, none⟩)] w fun e w' => e = .returned (.tuple #[.int .u8 0, .bool false]) ∧ Only b w w' := by
  cases h1 : hexAt s i with
  | none =>
    have HX : Hid (hexAt s i = none) := h1
    clear h1 hx
    go_enter Tryz.func164, Tryz.ntmps164
    go_wp2_with fail
    refine (hexDigit_no hc HX.out).mono ?_
    rintro e w1 ⟨rfl, ho1⟩
    go_wp2_with fail
    go_ret2
    exact ⟨rfl, ho1⟩
  | some x =>
    have h2 : hexAt s (i + 1) = none := by
      rcases hx with h | h
      · rw [h1] at h; cases h
      · exact h
    have HX : Hid (hexAt s i = some x) := h1
    have HY : Hid (hexAt s (i + 1) = none) := h2
    clear h1 h2 hx
    go_enter Tryz.func164, Tryz.ntmps164
    go_wp2_with fail
    refine (hexDigit_yes hc hm HX.out).mono ?_
    rintro e w1 ⟨rfl, hi, hc1, ho1⟩
    go_wp2_with fail
    refine (hexDigit_no hc1 HY.out).mono ?_
    rintro e w2 ⟨rfl, ho2⟩
    go_wp2_with fail
    go_ret2
    exact ⟨rfl, ho1.trans ho2⟩

set_option maxHeartbeats 400000 in
theorem greatest_any (n : Nat) (w : World) (hn : n ≤ 4) :
    Calls Tryz.prog 163 #[.int .i64 n] w fun e w' => e = .returned (.int .i64 ((256 ^ n - 1 : Nat) : Int)) ∧ w' = w := by
  have hb : ∀ k : Nat, k ≤ 4 → 256 ^ k - 1 ≤ 4294967295 := by
    intro k hk
    have : 256 ^ k ≤ 256 ^ 4 := Nat.pow_le_pow_right (by omega) hk
    omega
  have HB : Hid _ := hb
  clear hb
  go_enter Tryz.func163, Tryz.ntmps163
  go_wp2_with fail
  go_loop [3, 4] (fun x i => ∃ k m : Nat, k ≤ n ∧ i = .int .i64 k ∧ x = .int .i64 m ∧ m ≤ 4294967295 ∧ Hid (m = 256 ^ k - 1)) (fun _ i => n - (intOf i).toNat)
  case atStart => exact ⟨0, 0, Nat.zero_le _, rfl, rfl, by omega, rfl⟩
  case round =>
    obtain ⟨k, m, hk, rfl, rfl, hm, HM⟩ := hrel
    by_cases hlt : k < n
    · go_wp2_with fail
      refine ⟨⟨k + 1, m * 256 + 255, by omega, by go_num, by go_num, ?_, ?_⟩, by simp [intOf]; omega⟩
      · have := HB.out (k + 1) (by omega)
        have hp : 1 ≤ 256 ^ k := Nat.pos_of_ne_zero (by simp)
        rw [HM.out]
        rw [Nat.pow_succ] at this
        omega
      · have hp : 1 ≤ 256 ^ k := Nat.pos_of_ne_zero (by simp)
        unfold Hid
        rw [HM.out, Nat.pow_succ]
        omega
    · have hke : k = n := by omega
      subst hke
      go_wp2_with fail
      go_ret
      exact ⟨congrArg (fun x : Int => Ending.returned (.int .i64 x)) (by rw [HM.out]), rfl⟩
end Go.Proofs.YtghggcehloiemabGreatDoor
