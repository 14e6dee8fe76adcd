import Derived.Test.YtghggcehloiemabPureAll
namespace Go.Proofs.Ytghggcehloiemab
open Go.RowKit
set_option linter.unusedVariables false
set_option maxRecDepth 16000

/-- What 'number' answers. -/
def NumPost (most : Nat) (s : ByteArray) (i b : Nat) (v : Value) (T : TypeId) (w : World) (e : Ending) (w' : World) : Prop :=
  (match P.rdnum most (s.data.toList.drop i) with
    | some (n, k) => e = .returned (.tuple #[.int .i64 n, .bool true]) ∧ i + k ≤ s.size ∧ Cur w' b s (i + k) v T
    | none => e = .returned (.tuple #[.int .i64 0, .bool false]) ∧ ∃ j, j ≤ s.size ∧ Cur w' b s j v T) ∧ Only b w w'
theorem NumPost.no {most : Nat} {s : ByteArray} {i b : Nat} {v : Value} {T : TypeId} {w w' : World} {e : Ending} (h : P.rdnum most (s.data.toList.drop i) = none) (he : e = .returned (.tuple #[.int .i64 0, .bool false])) {j : Nat} (hj : j ≤ s.size) (hc : Cur w' b s j v T) (ho : Only b w w') : NumPost most s i b v T w e w' := by
  unfold NumPost; rw [h]; exact ⟨⟨he, j, hj, hc⟩, ho⟩
theorem NumPost.yes {most : Nat} {s : ByteArray} {i b : Nat} {v : Value} {T : TypeId} {w w' : World} {e : Ending} {n k : Nat} (h : P.rdnum most (s.data.toList.drop i) = some (n, k)) (he : e = .returned (.tuple #[.int .i64 n, .bool true])) (hj : i + k ≤ s.size) (hc : Cur w' b s (i + k) v T) (ho : Only b w w') : NumPost most s i b v T w e w' := by
  unfold NumPost; rw [h]; exact ⟨⟨he, hj, hc⟩, ho⟩

theorem dig_iff (c : UInt8) : digB (c.toNat : Int) = P.isDig c := by
  unfold digB P.isDig
  congr 1 <;> simp <;> omega
theorem drop_get {s : ByteArray} {i k : Nat} (h : i + k < s.size) : (s.data.toList.drop i)[k]? = some s[i + k] := by
  rw [List.getElem?_drop]; exact get_of h
theorem drop_none {s : ByteArray} {i k : Nat} (h : s.size ≤ i + k) : (s.data.toList.drop i)[k]? = none := by
  rw [List.getElem?_drop]; exact get_none h

theorem step_stop {s : ByteArray} {i p most nn : Nat} (hip : i ≤ p) (h : P.NumInv (s.data.toList.drop i) most (p - i) nn) (hs : ∀ h : p < s.size, P.isDig s[p] = false) : ∀ c, (s.data.toList.drop i)[p - i]? = some c → P.isDig c = false := by
  intro c hc
  rcases Nat.lt_or_ge p s.size with hl | hl
  · rw [drop_get (s := s) (i := i) (k := p - i) (by omega)] at hc
    have : s[i + (p - i)]'(by omega) = s[p] := by congr 1; omega
    rw [this] at hc
    have := hs hl
    simp at hc; subst hc; exact this
  · rw [drop_none (by omega)] at hc; cases hc
theorem get_p {s : ByteArray} {i p : Nat} (hip : i ≤ p) (h : p < s.size) : (s.data.toList.drop i)[p - i]? = some s[p] := by
  rw [drop_get (s := s) (i := i) (k := p - i) (by omega)]
  congr 2; omega

theorem meas_dn {w w' : World} {b p : Nat} {s : ByteArray} {v : Value} {T : TypeId} (h : Cur w b s p v T) (hlt : p < s.size) (h' : Cur w' b s (p + 1) v T) : s.size - atOf w' b < s.size - atOf w b := by
  rw [h.atOf, h'.atOf]; omega
set_option maxHeartbeats 1000000 in
theorem number_any {b i : Nat} {s : ByteArray} {w : World} {v : Value} {T : TypeId} (most : Nat) (hmost : most ≤ 4294967295) (hc : Cur w b s i v T) (hm : s.size ≤ maxLen) (hi : i ≤ s.size) :
    Calls Try.prog 83 #[.pointer (some ⟨b, 0, none⟩), .int .i64 most] w fun e w' => NumPost most s i b v T w e w' := by
  unfold maxLen at hm
  have h1 := hc.c1
  go_enter Try.func83, Try.ntmps83
  go_wp2_with fail
  go_loopw [7] (fun n wr => ∃ p nn : Nat, P.NumInv (s.data.toList.drop i) most (p - i) nn ∧ n = .int .i64 nn ∧ i ≤ p ∧ p ≤ s.size ∧ Cur wr b s p v T ∧ Only b w wr) (fun _ wr => s.size - atOf wr b)
  case atStart => exact ⟨i, 0, by rw [Nat.sub_self]; exact P.numInv_start _ _, rfl, Nat.le_refl _, hi, hc, Only.refl _ _⟩
  case round =>
    obtain ⟨p, nn, hinv, rfl, hip, hps, hcur, honly⟩ := hrel
    clear h1 hc
    have g0 := hcur.c0
    have g1 := hcur.c1
    have gf := hcur.fz 1
    have hnn := hinv.2.2.1
    have HI : Hid (P.NumInv (s.data.toList.drop i) most (p - i) nn) := hinv
    clear hinv
    by_cases hlt : p < s.size
    · have hds : decide ((p : Int) < (s.size : Int)) = true := by simp; omega
      by_cases hdg : digB (s[p].toNat : Int) = true
      · have hdig : P.isDig s[p] = true := by rw [← dig_iff]; exact hdg
        have hsub := P.isDig_sub hdig
        have HD : Hid (P.isDig s[p] = true) := hdig
        clear hdig
        have hs1 : (48 : Int) ≤ (s[p].toNat : Int) := by omega
        have hs2 : (s[p].toNat : Int) ≤ 57 := by omega
        clear hsub
        go_wp2_with fail
        go_quiet ((go_at_call 87; exact Calls.quiet_of_same (isDigit_yes _ _ hdg)))
        clear hdg
        by_cases hz : nn = 0
        · have HZ : Hid (nn = 0) := hz
          have hzb : ((nn : Int) == 0) = true := by rw [beq_iff_eq]; omega
          clear hz
          by_cases hpi : i < p
          · go_wp2_with fail
            go_quiet (fail)
            go_wp2_with fail
            go_ret2
            exact NumPost.no (P.num_bad1 HI.out (get_p hip hlt) HD.out HZ.out (by omega)) rfl hps (by repeat (first | exact hcur | apply Cur.drewN)) (by repeat (first | exact honly | apply Only.drewN))
          · by_cases hgt : (most : Int) < (nn : Int) * 10 + ((s[p].toNat : Int) - 48)
            · go_wp2_with fail
              go_quiet (fail)
              go_wp2_with fail
              go_ret2
              exact NumPost.no (P.num_bad2 HI.out (get_p hip hlt) HD.out (by omega)) rfl hps (by repeat (first | exact hcur | apply Cur.drewN)) (by repeat (first | exact honly | apply Only.drewN))
            · go_wp2_with fail
              go_quiet (fail)
              go_wp2_with fail
              go_roundw
              case rel => exact ⟨p + 1, nn * 10 + (s[p].toNat - 48), by rw [show p + 1 - i = p - i + 1 by omega]; exact P.num_ok HI.out (get_p hip hlt) HD.out (by omega) (by omega), by go_num, by omega, by omega, by repeat (first | exact hcur | apply Cur.drewN | apply Cur.set1), by repeat (first | exact honly | apply Only.drewN | apply Only.setCell)⟩
              case measure => exact meas_dn hcur hlt (by repeat (first | exact hcur | apply Cur.drewN | apply Cur.set1))
        · have HZ : Hid (nn ≠ 0) := hz
          have hzb : ((nn : Int) == 0) = false := by rw [beq_eq_false_iff_ne]; omega
          clear hz
          by_cases hgt : (most : Int) < (nn : Int) * 10 + ((s[p].toNat : Int) - 48)
          · go_wp2_with fail
            go_quiet (fail)
            go_wp2_with fail
            go_ret2
            exact NumPost.no (P.num_bad2 HI.out (get_p hip hlt) HD.out (by omega)) rfl hps (by repeat (first | exact hcur | apply Cur.drewN)) (by repeat (first | exact honly | apply Only.drewN))
          · go_wp2_with fail
            go_quiet (fail)
            go_wp2_with fail
            go_roundw
            case rel => exact ⟨p + 1, nn * 10 + (s[p].toNat - 48), by rw [show p + 1 - i = p - i + 1 by omega]; exact P.num_ok HI.out (get_p hip hlt) HD.out (fun h => HZ.out h.1) (by omega), by go_num, by omega, by omega, by repeat (first | exact hcur | apply Cur.drewN | apply Cur.set1), by repeat (first | exact honly | apply Only.drewN | apply Only.setCell)⟩
            case measure => exact meas_dn hcur hlt (by repeat (first | exact hcur | apply Cur.drewN | apply Cur.set1))
      · have hdg' : digB (s[p].toNat : Int) = false := by simpa using hdg
        clear hdg
        have HS : Hid (P.isDig s[p] = false) := by unfold Hid; rw [← dig_iff]; exact hdg'
        go_wp2_with fail
        go_quiet ((go_at_call 87; exact Calls.quiet_of_same (isDigit_no _ _ hdg')))
        clear hdg'
        go_wp2_with fail
        go_quiet (fail)
        go_wp2_with fail
        go_ret2
        by_cases hpi : i < p
        · exact NumPost.yes (P.num_stop HI.out (step_stop hip HI.out (fun _ => HS.out)) (by omega)) (by simp; omega) (by omega) (by rw [show i + (p - i) = p by omega]; repeat (first | exact hcur | apply Cur.drewN)) (by repeat (first | exact honly | apply Only.drewN))
        · have : p = i := by omega
          subst this
          have hI := HI.out
          rw [Nat.sub_self] at hI
          exact NumPost.no (P.num_stop0 hI (by have := step_stop hip HI.out (fun _ => HS.out); rwa [Nat.sub_self] at this)) (by simp; exact hI.2.1) hps (by repeat (first | exact hcur | apply Cur.drewN)) (by repeat (first | exact honly | apply Only.drewN))
    · have hds : decide ((p : Int) < (s.size : Int)) = false := by simp; omega
      go_wp2_with fail
      go_quiet (fail)
      go_wp2_with fail
      go_quiet (fail)
      go_wp2_with fail
      go_ret2
      by_cases hpi : i < p
      · exact NumPost.yes (P.num_stop HI.out (step_stop hip HI.out (fun h => absurd h hlt)) (by omega)) (by simp; omega) (by omega) (by rw [show i + (p - i) = p by omega]; repeat (first | exact hcur | apply Cur.drewN)) (by repeat (first | exact honly | apply Only.drewN))
      · have : p = i := by omega
        subst this
        have hI := HI.out
        rw [Nat.sub_self] at hI
        exact NumPost.no (P.num_stop0 hI (by have := step_stop hip HI.out (fun h => absurd h hlt); rwa [Nat.sub_self] at this)) (by simp; exact hI.2.1) hps (by repeat (first | exact hcur | apply Cur.drewN)) (by repeat (first | exact honly | apply Only.drewN))
end Go.Proofs.Ytghggcehloiemab
