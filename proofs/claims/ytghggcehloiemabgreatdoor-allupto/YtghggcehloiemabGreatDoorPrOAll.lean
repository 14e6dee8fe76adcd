import Derived.Test.YtghggcehloiemabGreatDoorPrDAll
import Derived.Test.YtghggcehloiemabGreatDoorBaseAll
import Derived.Deep.AppendLies
namespace Go.Proofs.YtghggcehloiemabGreatDoor
set_option linter.unusedVariables false
namespace P
section shop
variable {κ ν : Type} [DecidableEq κ]
/-- Where a key stands in a plain map. -/
def atK (L : List (κ × ν)) (k : κ) : Option Nat := L.findIdx? (fun p => decide (p.1 = k))
/-- What a task does to a plain map: the status, and what it holds then. -/
def mapDo (sl a : Nat) (k : κ) (v : ν) (L : List (κ × ν)) : Nat × List (κ × ν) :=
  if a = 1 then (if (atK L k).isSome then 0 else 1, L)
  else if a = 2 then (match atK L k with | some i => (0, L.set i (k, v)) | none => if sl ≤ L.length then (2, L) else (0, L ++ [(k, v)]))
  else if a = 3 then (match atK L k with | some i => (0, L.eraseIdx i) | none => (1, L))
  else if a = 4 then (0, L) else if a = 5 then (0, []) else (3, L)
theorem atK_some {L : List (κ × ν)} {k : κ} {i : Nat} (h : atK L k = some i) : ∃ v, L[i]? = some (k, v) := by
  unfold atK at h
  obtain ⟨hi, h1, _⟩ := List.findIdx?_eq_some_iff_getElem.1 h
  refine ⟨L[i].2, ?_⟩
  rw [List.getElem?_eq_getElem hi]
  have : L[i].1 = k := by simpa using h1
  rw [← this]
theorem atK_none {L : List (κ × ν)} {k : κ} (h : ∀ p ∈ L, p.1 ≠ k) : atK L k = none := by
  unfold atK
  rw [List.findIdx?_eq_none_iff]
  intro p hp
  simpa using h p hp
theorem atK_of {L : List (κ × ν)} {k : κ} {v : ν} {i : Nat} (h : L[i]? = some (k, v)) (only : ∀ j v', L[j]? = some (k, v') → j = i) : atK L k = some i := by
  cases ha : atK L k with
  | none =>
    unfold atK at ha
    rw [List.findIdx?_eq_none_iff] at ha
    have := ha _ (List.mem_of_getElem? h)
    simp at this
  | some j =>
    obtain ⟨v', hj⟩ := atK_some ha
    rw [only j v' hj]
variable {ek : κ → List UInt8} {ev : ν → List UInt8} {ok : κ → Prop} {c : List I} {kp vp : List Nat} {sl : Nat} {m : List UInt8} {ka va : Nat} {L : List (κ × ν)} {T : List (List UInt8)}
theorem Sim.at (hs : Sim ek ev ok kp.length L T) {e : Nat} {t : List UInt8} {key : κ} (hT : T[e]? = some t) (hkey : ok key) (ht : t.take kp.length = ek key) : ∃ i v, atK L key = some i ∧ L[i]? = some (key, v) ∧ t = ek key ++ ev v := by
  obtain ⟨i, v, h1, h2⟩ := hs.found hT hkey ht
  exact ⟨i, v, atK_of h1 (fun j v' hj => hs.only hj h1), h1, h2⟩
/-- What the program of a table does is what a plain map does. -/
theorem shop_do (hp : Pg c kp vp sl) (hx : Cx kp vp sl m ka va T) (hs : Sim ek ev ok kp.length L T) {key : κ} {value : ν} (hkey : ok key) (hK : bytesOf m ka kp = ek key) (hV : bytesOf m va vp = ev value) (a : Nat) :
    ∃ (m' : List UInt8) (res : Nat) (T' : List (List UInt8)), Did c m a ka va m' res (mapDo sl a key value L).1 ∧ m'.length = m.length ∧ Sim ek ev ok kp.length (mapDo sl a key value L).2 T' ∧ Tab (kp.length + vp.length) m' T' ∧ T'.length ≤ sl ∧ (a = 4 → res = L.length) ∧
      ((a = 1 ∧ (mapDo sl a key value L).1 = 0) → ∃ i v0, atK L key = some i ∧ L[i]? = some (key, v0) ∧ bytesOf m' va vp = ev v0 ∧ ∀ x, (∀ j, j < vp.length → va + at_ vp j ≠ x) → m'[x]? = m[x]?) ∧
      (¬ (a = 1 ∧ (mapDo sl a key value L).1 = 0) → ∀ x, 1 + sl * (kp.length + vp.length) ≤ x → m'[x]? = m[x]?) := by
  have hroom := hx.room
  have hka := hx.hka
  have hva := hx.hva
  have hfew := hx.few
  have hlen := hs.len
  have lt_room : ∀ x, x < 1 + T.length * (kp.length + vp.length) → x < 1 + sl * (kp.length + vp.length) := fun x h => by
    have := Nat.mul_le_mul_right (kp.length + vp.length) hfew; omega
  by_cases h1 : a = 1
  · subst h1
    rcases run_find hp hx with ⟨e, t, m', hT, hk, hd, hl, ho, hv⟩ | ⟨hno, hd⟩
    · rw [hK] at hk
      obtain ⟨i, v0, g1, g2, g3⟩ := hs.at hT hkey hk
      have hm : mapDo sl 1 key value L = (0, L) := by unfold mapDo; rw [if_pos rfl, g1]; rfl
      rw [hm]
      refine ⟨m', 1, T, hd, hl, hs, hx.tab.same (fun x hxx => ho x (fun j hj he => ?_)), hfew, fun h => absurd h (by decide), fun _ => ⟨i, v0, g1, g2, ?_, ho⟩, fun h => absurd ⟨rfl, rfl⟩ h⟩
      · have := lt_room x hxx; omega
      · have htl := (hx.tab.ent e t hT).1
        have hkl : (ek key).length = kp.length := hs.klen key hkey
        have hvl : (ev v0).length = vp.length := by rw [g3, List.length_append] at htl; omega
        apply List.ext_getElem?
        intro j
        rcases Nat.lt_or_ge j vp.length with hj | hj
        · rw [bytesOf_get _ _ _ _ hj (by rw [hl]; exact hx.vin j hj), hv j hj, g3, List.getElem?_append_right (by omega)]
          congr 1; omega
        · rw [List.getElem?_eq_none (by rw [bytesOf_len]; exact hj), List.getElem?_eq_none (by omega)]
    · rw [hK] at hno
      have hat := atK_none (hs.absent hno)
      have hm : mapDo sl 1 key value L = (1, L) := by unfold mapDo; rw [if_pos rfl, hat]; rfl
      rw [hm]
      exact ⟨m, 1, T, hd, rfl, hs, hx.tab, hfew, fun h => absurd h (by decide), fun h => absurd (show (1 : Nat) = 0 from h.2) (by decide), fun _ x _ => rfl⟩
  · by_cases h2 : a = 2
    · subst h2
      rcases run_lay hp hx with ⟨e, t, m', hT, hk, hd, hl, ht, ho⟩ | ⟨hno, hfull, hd⟩ | ⟨hno, hlt, m', hd, hl, ht, ho⟩
      · rw [hK] at hk ht
        rw [hV] at ht
        obtain ⟨i, v0, g1, g2, g3⟩ := hs.at hT hkey hk
        have hm : mapDo sl 2 key value L = (0, L.set i (key, value)) := by unfold mapDo; rw [if_neg (by decide), if_pos rfl, g1]
        rw [hm]
        rw [g3] at hT
        exact ⟨m', 2, _, hd, hl, hs.put hT g2, ht, by rw [List.length_set]; exact hfew, fun h => absurd h (by decide), fun h => absurd h.1 (by decide), fun _ => ho⟩
      · rw [hK] at hno
        have hat := atK_none (hs.absent hno)
        have hm : mapDo sl 2 key value L = (2, L) := by unfold mapDo; rw [if_neg (by decide), if_pos rfl, hat]; simp only; rw [if_pos (by omega)]
        rw [hm]
        exact ⟨m, 2, T, hd, rfl, hs, hx.tab, hfew, fun h => absurd h (by decide), fun h => absurd h.1 (by decide), fun _ x _ => rfl⟩
      · rw [hK] at hno ht
        rw [hV] at ht
        have habs := hs.absent hno
        have hat := atK_none habs
        have hm : mapDo sl 2 key value L = (0, L ++ [(key, value)]) := by unfold mapDo; rw [if_neg (by decide), if_pos rfl, hat]; simp only; rw [if_neg (by omega)]
        rw [hm]
        exact ⟨m', 2, _, hd, hl, hs.new hkey habs, ht, by rw [List.length_append]; exact hlt, fun h => absurd h (by decide), fun h => absurd h.1 (by decide), fun _ => ho⟩
    · by_cases h3 : a = 3
      · subst h3
        rcases run_take hp hx with ⟨e, t, l, m', hT, hk, hl', hd, hl, ht, ho⟩ | ⟨hno, hd⟩
        · rw [hK] at hk
          obtain ⟨i, v0, g1, g2, g3⟩ := hs.at hT hkey hk
          have hm : mapDo sl 3 key value L = (0, L.eraseIdx i) := by unfold mapDo; rw [if_neg (by decide), if_neg (by decide), if_pos rfl, g1]
          rw [hm]
          rw [g3] at hT
          exact ⟨m', 3, _, hd, hl, hs.drop hT g2 hl', ht, by rw [List.length_take, List.length_set]; omega, fun h => absurd h (by decide), fun h => absurd h.1 (by decide), fun _ => ho⟩
        · rw [hK] at hno
          have hat := atK_none (hs.absent hno)
          have hm : mapDo sl 3 key value L = (1, L) := by unfold mapDo; rw [if_neg (by decide), if_neg (by decide), if_pos rfl, hat]
          rw [hm]
          exact ⟨m, 3, T, hd, rfl, hs, hx.tab, hfew, fun h => absurd h (by decide), fun h => absurd h.1 (by decide), fun _ x _ => rfl⟩
      · by_cases h4 : a = 4
        · subst h4
          have hm : mapDo sl 4 key value L = (0, L) := rfl
          rw [hm]
          exact ⟨m, T.length, T, run_count hp (by have := hx.hsl; omega) hx.tab ka va, rfl, hs, hx.tab, hfew, fun _ => hlen, fun h => absurd h.1 (by decide), fun _ x _ => rfl⟩
        · by_cases h5 : a = 5
          · subst h5
            have hm : mapDo sl 5 key value L = (0, []) := rfl
            rw [hm]
            obtain ⟨m', hd, hl, ht, ho⟩ := run_empty hp (show 0 < m.length by omega) (kp.length + vp.length) ka va
            exact ⟨m', 5, [], hd, hl, hs.empty, ht, Nat.zero_le _, fun h => absurd h (by decide), fun h => absurd h.1 (by decide), fun _ x hxx => ho x (by omega)⟩
          · have hm : mapDo sl a key value L = (3, L) := by unfold mapDo; rw [if_neg h1, if_neg h2, if_neg h3, if_neg h4, if_neg h5]
            rw [hm]
            exact ⟨m, a, T, run_none hp m a ka va h1 h2 h3 h4 h5, rfl, hs, hx.tab, hfew, fun h => absurd h h4, fun h => absurd h.1 h1, fun _ x _ => rfl⟩
end shop
end P
end Go.Proofs.YtghggcehloiemabGreatDoor
namespace Go.Proofs.YtghggcehloiemabGreatDoor
open Go.RowKit
set_option linter.unusedVariables false
set_option maxRecDepth 16000

/-- What 'number' answers. -/
def NumPost (most : Nat) (s : ByteArray) (i b : Nat) (v : Value) (T : TypeId) (w : World) (e : Ending) (w' : World) : Prop :=
  (match P.rdnum most (s.data.toList.drop i) with
    | some (n, k) => e = .returned (.tuple #[.int .i64 n, .bool true]) ∧ i + k ≤ s.size ∧ Cur w' b s (i + k) v T
    | none => e = .returned (.tuple #[.int .i64 0, .bool false]) ∧ ∃ j, j ≤ s.size ∧ Cur w' b s j v T) ∧ Only b w w'
theorem NumPost.no {most : Nat} {s : ByteArray} {i b : Nat} {v : Value} {T : TypeId} {w w' : World} {e : Ending} (h : P.rdnum most (s.data.toList.drop i) = none) (he : e = .returned (.tuple #[.int .i64 0, .bool false])) {j : Nat} (hj : j ≤ s.size) (hc : Cur w' b s j v T) (ho : Only b w w') : NumPost most s i b v T w e w' := by
  unfold NumPost; rw [h]; exact ⟨⟨he, j, hj, hc⟩, ho⟩
theorem NumPost.yes {most : Nat} {s : ByteArray} {i b : Nat} {v : Value} {T : TypeId} {w w' : World} {e : Ending} {n k : Nat} (h : P.rdnum most (s.data.toList.drop i) = some (n, k)) (he : e = .returned (.tuple #[.int .i64 n, .bool true])) (hj : i + k ≤ s.size) (hc : Cur w' b s (i + k) v T) (ho : Only b w w') : NumPost most s i b v T w e w' := by
  unfold NumPost; rw [h]; exact ⟨⟨he, hj, hc⟩, ho⟩

theorem dig_iff (c : UInt8) : digB (c.toNat : Int) = P.isDig c := by
  unfold digB P.isDig
  congr 1 <;> simp <;> omega
theorem drop_get {s : ByteArray} {i k : Nat} (h : i + k < s.size) : (s.data.toList.drop i)[k]? = some s[i + k] := by
  rw [List.getElem?_drop]; exact get_of h
theorem drop_none {s : ByteArray} {i k : Nat} (h : s.size ≤ i + k) : (s.data.toList.drop i)[k]? = none := by
  rw [List.getElem?_drop]; exact get_none h

theorem step_stop {s : ByteArray} {i p most nn : Nat} (hip : i ≤ p) (h : P.NumInv (s.data.toList.drop i) most (p - i) nn) (hs : ∀ h : p < s.size, P.isDig s[p] = false) : ∀ c, (s.data.toList.drop i)[p - i]? = some c → P.isDig c = false := by
  intro c hc
  rcases Nat.lt_or_ge p s.size with hl | hl
  · rw [drop_get (s := s) (i := i) (k := p - i) (by omega)] at hc
    have : s[i + (p - i)]'(by omega) = s[p] := by congr 1; omega
    rw [this] at hc
    have := hs hl
    simp at hc; subst hc; exact this
  · rw [drop_none (by omega)] at hc; cases hc
theorem get_p {s : ByteArray} {i p : Nat} (hip : i ≤ p) (h : p < s.size) : (s.data.toList.drop i)[p - i]? = some s[p] := by
  rw [drop_get (s := s) (i := i) (k := p - i) (by omega)]
  congr 2; omega

theorem meas_dn {w w' : World} {b p : Nat} {s : ByteArray} {v : Value} {T : TypeId} (h : Cur w b s p v T) (hlt : p < s.size) (h' : Cur w' b s (p + 1) v T) : s.size - atOf w' b < s.size - atOf w b := by
  rw [h.atOf, h'.atOf]; omega
set_option maxHeartbeats 1000000 in
theorem number_any {b i : Nat} {s : ByteArray} {w : World} {v : Value} {T : TypeId} (most : Nat) (hmost : most ≤ 4294967295) (hc : Cur w b s i v T) (hm : s.size ≤ maxLen) (hi : i ≤ s.size) :
    Calls Tryz.prog 159 #[.pointer (some ⟨b, 0, none⟩), .int .i64 most] w fun e w' => NumPost most s i b v T w e w' := by
  unfold maxLen at hm
  have h1 := hc.c1
  go_enter Tryz.func159, Tryz.ntmps159
  go_wp2_with fail
  go_loopw [7] (fun n wr => ∃ p nn : Nat, P.NumInv (s.data.toList.drop i) most (p - i) nn ∧ n = .int .i64 nn ∧ i ≤ p ∧ p ≤ s.size ∧ Cur wr b s p v T ∧ Only b w wr) (fun _ wr => s.size - atOf wr b)
  case atStart => exact ⟨i, 0, by rw [Nat.sub_self]; exact P.numInv_start _ _, rfl, Nat.le_refl _, hi, hc, Only.refl _ _⟩
  case round =>
    obtain ⟨p, nn, hinv, rfl, hip, hps, hcur, honly⟩ := hrel
    clear h1 hc
    have g0 := hcur.c0
    have g1 := hcur.c1
    have gf := hcur.fz 1
    have hnn := hinv.2.2.1
    have HI : Hid (P.NumInv (s.data.toList.drop i) most (p - i) nn) := hinv
    clear hinv
    by_cases hlt : p < s.size
    · have hds : decide ((p : Int) < (s.size : Int)) = true := by simp; omega
      by_cases hdg : digB (s[p].toNat : Int) = true
      · have hdig : P.isDig s[p] = true := by rw [← dig_iff]; exact hdg
        have hsub := P.isDig_sub hdig
        have HD : Hid (P.isDig s[p] = true) := hdig
        clear hdig
        have hs1 : (48 : Int) ≤ (s[p].toNat : Int) := by omega
        have hs2 : (s[p].toNat : Int) ≤ 57 := by omega
        clear hsub
        go_wp2_with fail
        go_quiet ((go_at_call 175; exact Calls.quiet_of_same (isDigit_yes _ _ hdg)))
        clear hdg
        by_cases hz : nn = 0
        · have HZ : Hid (nn = 0) := hz
          have hzb : ((nn : Int) == 0) = true := by rw [beq_iff_eq]; omega
          clear hz
          by_cases hpi : i < p
          · go_wp2_with fail
            go_quiet (fail)
            go_wp2_with fail
            go_ret2
            exact NumPost.no (P.num_bad1 HI.out (get_p hip hlt) HD.out HZ.out (by omega)) rfl hps (by repeat (first | exact hcur | apply Cur.drewN)) (by repeat (first | exact honly | apply Only.drewN))
          · by_cases hgt : (most : Int) < (nn : Int) * 10 + ((s[p].toNat : Int) - 48)
            · go_wp2_with fail
              go_quiet (fail)
              go_wp2_with fail
              go_ret2
              exact NumPost.no (P.num_bad2 HI.out (get_p hip hlt) HD.out (by omega)) rfl hps (by repeat (first | exact hcur | apply Cur.drewN)) (by repeat (first | exact honly | apply Only.drewN))
            · go_wp2_with fail
              go_quiet (fail)
              go_wp2_with fail
              go_roundw
              case rel => exact ⟨p + 1, nn * 10 + (s[p].toNat - 48), by rw [show p + 1 - i = p - i + 1 by omega]; exact P.num_ok HI.out (get_p hip hlt) HD.out (by omega) (by omega), by go_num, by omega, by omega, by repeat (first | exact hcur | apply Cur.drewN | apply Cur.set1), by repeat (first | exact honly | apply Only.drewN | apply Only.setCell)⟩
              case measure => exact meas_dn hcur hlt (by repeat (first | exact hcur | apply Cur.drewN | apply Cur.set1))
        · have HZ : Hid (nn ≠ 0) := hz
          have hzb : ((nn : Int) == 0) = false := by rw [beq_eq_false_iff_ne]; omega
          clear hz
          by_cases hgt : (most : Int) < (nn : Int) * 10 + ((s[p].toNat : Int) - 48)
          · go_wp2_with fail
            go_quiet (fail)
            go_wp2_with fail
            go_ret2
            exact NumPost.no (P.num_bad2 HI.out (get_p hip hlt) HD.out (by omega)) rfl hps (by repeat (first | exact hcur | apply Cur.drewN)) (by repeat (first | exact honly | apply Only.drewN))
          · go_wp2_with fail
            go_quiet (fail)
            go_wp2_with fail
            go_roundw
            case rel => exact ⟨p + 1, nn * 10 + (s[p].toNat - 48), by rw [show p + 1 - i = p - i + 1 by omega]; exact P.num_ok HI.out (get_p hip hlt) HD.out (fun h => HZ.out h.1) (by omega), by go_num, by omega, by omega, by repeat (first | exact hcur | apply Cur.drewN | apply Cur.set1), by repeat (first | exact honly | apply Only.drewN | apply Only.setCell)⟩
            case measure => exact meas_dn hcur hlt (by repeat (first | exact hcur | apply Cur.drewN | apply Cur.set1))
      · have hdg' : digB (s[p].toNat : Int) = false := by simpa using hdg
        clear hdg
        have HS : Hid (P.isDig s[p] = false) := by unfold Hid; rw [← dig_iff]; exact hdg'
        go_wp2_with fail
        go_quiet ((go_at_call 175; exact Calls.quiet_of_same (isDigit_no _ _ hdg')))
        clear hdg'
        go_wp2_with fail
        go_quiet (fail)
        go_wp2_with fail
        go_ret2
        by_cases hpi : i < p
        · exact NumPost.yes (P.num_stop HI.out (step_stop hip HI.out (fun _ => HS.out)) (by omega)) (by simp; omega) (by omega) (by rw [show i + (p - i) = p by omega]; repeat (first | exact hcur | apply Cur.drewN)) (by repeat (first | exact honly | apply Only.drewN))
        · have : p = i := by omega
          subst this
          have hI := HI.out
          rw [Nat.sub_self] at hI
          exact NumPost.no (P.num_stop0 hI (by have := step_stop hip HI.out (fun _ => HS.out); rwa [Nat.sub_self] at this)) (by simp; exact hI.2.1) hps (by repeat (first | exact hcur | apply Cur.drewN)) (by repeat (first | exact honly | apply Only.drewN))
    · have hds : decide ((p : Int) < (s.size : Int)) = false := by simp; omega
      go_wp2_with fail
      go_quiet (fail)
      go_wp2_with fail
      go_quiet (fail)
      go_wp2_with fail
      go_ret2
      by_cases hpi : i < p
      · exact NumPost.yes (P.num_stop HI.out (step_stop hip HI.out (fun h => absurd h hlt)) (by omega)) (by simp; omega) (by omega) (by rw [show i + (p - i) = p by omega]; repeat (first | exact hcur | apply Cur.drewN)) (by repeat (first | exact honly | apply Only.drewN))
      · have : p = i := by omega
        subst this
        have hI := HI.out
        rw [Nat.sub_self] at hI
        exact NumPost.no (P.num_stop0 hI (by have := step_stop hip HI.out (fun h => absurd h hlt); rwa [Nat.sub_self] at this)) (by simp; exact hI.2.1) hps (by repeat (first | exact hcur | apply Cur.drewN)) (by repeat (first | exact honly | apply Only.drewN))
end Go.Proofs.YtghggcehloiemabGreatDoor
namespace Go.Proofs.YtghggcehloiemabGreatDoor.P
set_option linter.unusedVariables false

/-- A part of a type, as the reader gathers them. -/
structure Pt where
  kind : Nat
  mark : Nat
  place : Nat
  size : Nat
def Pt.sh (p : Nat) (x : Pt) : Pt := { x with place := x.place + p }

/-- Types, at most so many structs deep: a leaf (a number?, its bytes), or a struct. -/
def Ty : Nat → Type
  | 0 => Bool × Nat
  | n + 1 => (Bool × Nat) ⊕ List (Ty n)
def lf : (n : Nat) → Bool × Nat → Ty n
  | 0, l => l
  | _ + 1, l => .inl l

def up (e p : Nat) : Nat := (e + p - 1) / p * p
theorem up_le (e p : Nat) (hp : 1 ≤ p) : up e p ≤ e + p - 1 := by unfold up; exact Nat.div_mul_le_self _ _
theorem le_up (e p : Nat) (hp : 1 ≤ p) : e ≤ up e p := by
  unfold up
  have h := Nat.div_add_mod (e + p - 1) p
  have h2 := Nat.mod_lt (e + p - 1) (show 0 < p by omega)
  rw [Nat.mul_comm]; omega

def lsz (l : Bool × Nat) : Nat × Nat := (l.2, if l.1 then l.2 else 1)
def lay1 (a b : Nat × Nat) : Nat × Nat := (up a.1 b.2 + b.1, max a.2 b.2)
def fold (l : List (Nat × Nat)) : Nat × Nat := l.foldl lay1 (0, 1)
def closed (a : Nat × Nat) : Nat × Nat := (up a.1 a.2, a.2)
theorem fold_snoc (l : List (Nat × Nat)) (x : Nat × Nat) : fold (l ++ [x]) = lay1 (fold l) x := by simp [fold]
def sz : (n : Nat) → Ty n → Nat × Nat
  | 0, l => lsz l
  | _ + 1, .inl l => lsz l
  | n + 1, .inr ts => closed (fold (ts.map (sz n)))

def lpart (l : Bool × Nat) : Pt := ⟨if l.1 then 1 else 2, 0, 0, l.2⟩
def markP (c : Nat) : Pt := ⟨0, c, 0, 0⟩
/-- The fields' parts, each at its place, a comma behind each. -/
def body (a : Nat × Nat) : List (List Pt × (Nat × Nat)) → List Pt
  | [] => []
  | x :: xs => x.1.map (Pt.sh (up a.1 x.2.2)) ++ markP 44 :: body (lay1 a x.2) xs
def parts : (n : Nat) → Ty n → List Pt
  | 0, l => [lpart l]
  | _ + 1, .inl l => [lpart l]
  | n + 1, .inr ts => markP 123 :: ((body (0, 1) (ts.map fun t => (parts n t, sz n t))).dropLast ++ [markP 125])

theorem body_snoc (xs : List (List Pt × (Nat × Nat))) (x : List Pt × (Nat × Nat)) : ∀ a, body a (xs ++ [x]) = body a xs ++ x.1.map (Pt.sh (up ((xs.map (·.2)).foldl lay1 a).1 x.2.2)) ++ [markP 44] := by
  induction xs with
  | nil => intro a; simp [body]
  | cons y ys ih => intro a; simp [body, ih]

theorem sz_lf (n : Nat) (l : Bool × Nat) : sz n (lf n l) = lsz l := by cases n <;> rfl
theorem parts_lf (n : Nat) (l : Bool × Nat) : parts n (lf n l) = [lpart l] := by cases n <;> rfl
theorem parts_struct (n : Nat) (ts : List (Ty n)) (t : Ty n) :
    parts (n + 1) (.inr (ts ++ [t])) = markP 123 :: body (0, 1) (ts.map fun t => (parts n t, sz n t)) ++ (parts n t).map (Pt.sh (up (fold (ts.map (sz n))).1 (sz n t).2)) ++ [markP 125] := by
  have e : (ts.map (fun t => (parts n t, sz n t))).map (·.2) = ts.map (sz n) := by simp [Function.comp_def]
  simp only [parts, List.map_append, List.map_cons, List.map_nil, body_snoc]
  rw [List.dropLast_concat]
  rw [e]
  simp [fold]

/-- A leaf, read off a text's head. -/
def rdLeaf (l : List UInt8) : Option ((Bool × Nat) × List UInt8) := match l with
  | [] => none
  | c :: r => if c = 117 then (match rdnum 4 r with
      | some (k, m) => if k = 0 ∨ k = 3 then none else some ((true, k), r.drop m)
      | none => none)
    else (match rdnum 16 r with
      | some (k, m) => if k = 0 then none else some ((false, k), r.drop m)
      | none => none)
def leafy (l : List UInt8) : Bool := l.head? == some 117 || l.head? == some 98

def rdF {α : Type} (f : List UInt8 → Option (α × List UInt8)) : Nat → List α → List UInt8 → Option (List α × List UInt8)
  | 0, _, _ => none
  | k + 1, acc, s => match f s with
    | none => none
    | some (_, []) => none
    | some (t, c :: r) => if c = 125 then some (acc ++ [t], r) else if c = 44 then rdF f k (acc ++ [t]) r else none

def rd : (n : Nat) → List UInt8 → Option (Ty n × List UInt8)
  | 0, l => if leafy l = true then (rdLeaf l).map (fun x => (lf 0 x.1, x.2)) else none
  | n + 1, l => if leafy l = true then (rdLeaf l).map (fun x => (lf (n + 1) x.1, x.2)) else (match l with
    | [] => none
    | c :: r => if c = 123 then (rdF (rd n) 8 [] r).map (fun x => (.inr x.1, x.2)) else none)
def rdS : (n : Nat) → List UInt8 → Option (Ty n × List UInt8)
  | 0, _ => none
  | n + 1, l => match l with
    | [] => none
    | c :: r => if c = 123 then (rdF (rd n) 8 [] r).map (fun x => (.inr x.1, x.2)) else none
theorem rd_leafy (n : Nat) (l : List UInt8) (h : leafy l = true) : rd n l = (rdLeaf l).map (fun x => (lf n x.1, x.2)) := by
  cases n <;> simp [rd, h]
theorem rd_else (n : Nat) (l : List UInt8) (h : leafy l = false) : rd n l = rdS n l := by
  cases n <;> simp [rd, rdS, h]

end Go.Proofs.YtghggcehloiemabGreatDoor.P
namespace Go.Proofs.YtghggcehloiemabGreatDoor
open Go.RowKit
set_option linter.unusedVariables false
set_option maxRecDepth 16000

theorem Tryz.infoPart : (Tryz.prog.info? 145).map (fun i => (i.zero, i.size, i.bytes)) = some (some (.agg #[.int .i64 0, .int .u8 0, .int .i64 0, .int .i64 0]), 4, 32) := by kernel_rfl

def ptCells (x : P.Pt) : List Value := [.int .i64 x.kind, .int .u8 x.mark, .int .i64 x.place, .int .i64 x.size]
def cellsOf (ps : List P.Pt) : List Value := ps.flatMap ptCells
theorem cellsOf_length (ps : List P.Pt) : (cellsOf ps).length = ps.length * 4 := by
  induction ps with
  | nil => rfl
  | cons x xs ih => simp [cellsOf, ptCells] at *; omega
theorem cellsOf_append (ps qs : List P.Pt) : cellsOf (ps ++ qs) = cellsOf ps ++ cellsOf qs := by simp [cellsOf]

/-- A reader at block b: its text, where it stands, the parts so far. -/
structure Rd (w : World) (b : Nat) (s : ByteArray) (i : Nat) (v : Value) (ps : List P.Pt) : Prop where
  cur : Cur w b s i v 139
  own : w.ownsRow (b + 1) 145 4 v ps.length (cellsOf ps)
  here : i ≤ s.size
  short : s.size ≤ 80
  few : ps.length ≤ i

theorem Only.own {b : Nat} {w w' : World} {e : TypeId} {size n : Nat} {v : Value} {xs : List Value} (ho : Only b w w') (h : w.ownsRow (b + 1) e size v n xs) : w'.ownsRow (b + 1) e size v n xs := by
  obtain ⟨h1, h2⟩ := h
  refine ⟨h1, ?_⟩
  rcases h2 with h2 | ⟨g, cap, cur, hv, hb, hg, hr⟩
  · exact .inl h2
  · exact .inr ⟨g, cap, cur, hv, hb, by rw [ho.block g (by omega)]; exact hg, hr⟩

set_option maxHeartbeats 400000 in
theorem roundUp_any (e p : Nat) (w : World) (he : e ≤ 100000) (hp1 : 1 ≤ p) (hp2 : p ≤ 16) :
    Calls Tryz.prog 161 #[.int .i64 e, .int .i64 p] w fun r w' => r = .returned (.int .i64 (P.up e p)) ∧ w' = w := by
  have h1 : ¬ (p : Int) < 1 := by omega
  have hz : ((p : Int) == 0) = false := by rw [beq_eq_false_iff_ne]; omega
  go_enter Tryz.func161, Tryz.ntmps161
  go_wp2
  go_ret
  refine ⟨congrArg (fun x : Int => Ending.returned (.int .i64 x)) ?_, rfl⟩
  have hq : (((e + p - 1) / p * p : Nat) : Int) = ((e : Int) + p - 1) / p * p := by
    rw [Int.natCast_mul, Int.natCast_ediv]; congr 2; omega
  have hle : (e + p - 1) / p * p ≤ e + p - 1 := Nat.div_mul_le_self _ _
  rw [← hq]
  unfold P.up
  unfold wrap64; omega
theorem cell_four_new (w : World) (a b c d : Value) (t : TypeId) : ∀ j u, [a, b, c, d][j]? = some u → (w.alloc (.cells #[a, b, c, d] t)).cell? ((⟨w.heap.size, 0, none⟩ : Addr).add j) = some u :=
  World.news_of_block (heap_alloc_new w _)
theorem grown_cur {w1 w3 : World} {b j : Nat} {s : ByteArray} {v : Value} {T e : TypeId} {size n : Nat} {xs : List Value} {o : Obj} (hc : Cur w1 b s j v T) (hown : w1.ownsRow (b + 1) e size v n xs) (hg : (w1.alloc o).grownBy w3 v.ownBlock) : Cur w3 b s j v T := by
  have hl := hc.lt
  unfold Cur at *
  rw [hg.block b (by simp; omega) (fun h => by have := (hown.lt _ h.symm).1; omega), Below.heap_alloc _ _ _ hl]
  exact hc
theorem grown_rd {w1 w3 : World} {b j : Nat} {s : ByteArray} {v v' : Value} {ps : List P.Pt} {x : P.Pt} {o : Obj} (hc : Cur w1 b s j v 139) (hown : w1.ownsRow (b + 1) 145 4 v ps.length (cellsOf ps)) (hg : (w1.alloc o).grownBy w3 v.ownBlock)
    (hown' : w3.ownsRow (b + 1) 145 4 v' (ps.length + 1) (cellsOf ps ++ ptCells x)) (hj : j ≤ s.size) (hs : s.size ≤ 80) (hf : ps.length + 1 ≤ j) : Rd (w3.setCell ⟨b, 2, none⟩ v') b s j v' (ps ++ [x]) ∧ Below b w1 (w3.setCell ⟨b, 2, none⟩ v') := by
  have hc3 := grown_cur hc hown hg
  have hl := hc.lt
  refine ⟨⟨hc3.set2 v', ?_, hj, hs, by simpa using hf⟩, ?_⟩
  · have := ((Only.refl b w3).setCell 2 v').own hown'
    simpa [cellsOf] using this
  · exact (Below.grown ((Below.refl b w1).alloc (by omega) o) hg (by simp; omega) (fun k hk => by have := (hown.lt _ hk).1; omega)).setCell (Nat.le_refl _) v'
set_option maxHeartbeats 400000 in
theorem readMark_no {b i : Nat} {s : ByteArray} {m : UInt8} {w : World} {v : Value} {ps : List P.Pt} (h : Rd w b s i v ps) (hh : hit s i m = false) :
    Calls Tryz.prog 160 #[.pointer (some ⟨b, 0, none⟩), .int .u8 m.toNat] w fun e w' => e = .returned (.bool false) ∧ Rd w' b s i v ps ∧ Below b w w' := by
  go_enter Tryz.func160, Tryz.ntmps160
  go_wp2_with (go_at_call 131; refine (skip_no h.cur hh).mono ?_; rintro e w' ⟨rfl, hc, ho⟩)
  go_ret
  exact ⟨rfl, ⟨hc, ho.own h.own, h.here, h.short, h.few⟩, ho.below (Nat.le_refl _)⟩
set_option maxHeartbeats 400000 in
theorem readMark_yes {b i : Nat} {s : ByteArray} {m : UInt8} {w : World} {v : Value} {ps : List P.Pt} (h : Rd w b s i v ps) (hh : hit s i m = true) :
    Calls Tryz.prog 160 #[.pointer (some ⟨b, 0, none⟩), .int .u8 m.toNat] w fun e w' => e = .returned (.bool true) ∧ i < s.size ∧ (∃ v', Rd w' b s (i + 1) v' (ps ++ [P.markP m.toNat])) ∧ Below b w w' := by
  have hs := h.short
  have hfew := h.few
  obtain ⟨i0, hi0, hz0, hz1, hz2⟩ := info_parts Tryz.infoPart
  go_enter Tryz.func160, Tryz.ntmps160
  go_wp2_with (first
    | (go_at_call 131; refine (skip_yes h.cur (by unfold maxLen; omega) hh).mono ?_; rintro e w1 ⟨rfl, hi, hc, ho⟩; have c2 := hc.c2; have hown := ho.own h.own)
    | (at_builtin; refine wpList_append_lies _ rfl _ _ 60 rfl (b + 1) 145 i0 (.agg #[.int .i64 0, .int .u8 0, .int .i64 0, .int .i64 0]) 4 32 Tryz.underlying60 hi0 hz0 hz1 hz2 rfl (by decide) v ps.length (cellsOf ps) rfl (hown.alloc _) ⟨w1.heap.size, 0, none⟩ 1 1 (ptCells (P.markP m.toNat)) rfl rfl (cell_four_new _ _ _ _ _ _) (fun x hx => by simp [ptCells] at hx; rcases hx with rfl | rfl | rfl | rfl <;> rfl) (by omega) (by unfold maxLen; omega) (by omega) (by have := hc.lt; simp; omega) _ rfl ?_; intro g cap w3 hown' hgrow hat hlt
       have hc3 := grown_cur hc hown hgrow
       have cf := hc3.fz 2; have cc := hc3.c2
       have X := grown_rd hc hown hgrow hown' hi hs (by omega)))
  go_ret
  exact ⟨rfl, hi, ⟨_, X.1⟩, (ho.below (Nat.le_refl _)).trans X.2⟩

/-- A leaf's post: 'bytes' or 'number' was read. -/
def LeafPost (num : Bool) (s : ByteArray) (i b : Nat) (ps : List P.Pt) (w : World) (e : Ending) (w' : World) : Prop :=
  (match P.rdnum (if num then 4 else 16) (s.data.toList.drop i) with
    | some (n, k) => if n = 0 ∨ (num = true ∧ n = 3) then e = .returned (.tuple #[.int .i64 0, .int .i64 0, .bool false])
      else e = .returned (.tuple #[.int .i64 (P.lsz (num, n)).1, .int .i64 (P.lsz (num, n)).2, .bool true]) ∧ i + k ≤ s.size ∧ ∃ v', Rd w' b s (i + k) v' (ps ++ [P.lpart (num, n)])
    | none => e = .returned (.tuple #[.int .i64 0, .int .i64 0, .bool false])) ∧ Below b w w'

theorem rdnum_le {most : Nat} {l : List UInt8} {n k : Nat} (h : P.rdnum most l = some (n, k)) : n ≤ most := by
  unfold P.rdnum at h
  split at h
  · cases h
  · rename_i hn
    simp at h hn
    omega

set_option maxHeartbeats 1000000 in
theorem readNumber_any {b i : Nat} {s : ByteArray} {w : World} {v : Value} {ps : List P.Pt} (h : Rd w b s i v ps) (hpos : 1 ≤ i) (hfew : ps.length + 1 ≤ i) :
    Calls Tryz.prog 132 #[.pointer (some ⟨b, 0, none⟩)] w fun e w' => LeafPost true s i b ps w e w' := by
  have hs := h.short
  obtain ⟨i0, hi0, hz0, hz1, hz2⟩ := info_parts Tryz.infoPart
  go_enter Tryz.func132, Tryz.ntmps132
  go_wp2_with fail
  refine (number_any 4 (by omega) h.cur (by unfold maxLen; omega) h.here).mono ?_
  rintro e w1 ⟨hpost, ho⟩
  cases hn : P.rdnum 4 (s.data.toList.drop i) with
  | none =>
    simp only [hn] at hpost
    have Hn : Hid (P.rdnum 4 (s.data.toList.drop i) = none) := hn
    clear hn
    obtain ⟨rfl, _⟩ := hpost
    go_wp2_with fail
    go_ret3
    refine ⟨?_, ho.below (Nat.le_refl _)⟩
    simp [Hn.out]
  | some x =>
    obtain ⟨n, k⟩ := x
    have hle := rdnum_le hn
    simp only [hn] at hpost
    have Hn : Hid (P.rdnum 4 (s.data.toList.drop i) = some (n, k)) := hn
    clear hn
    obtain ⟨rfl, hik, hc⟩ := hpost
    have c2 := hc.c2
    have hown := ho.own h.own
    by_cases hbad : n = 0 ∨ n = 3
    · have hb : ((n : Int) == 0 || (n : Int) == 3) = true := by simp; omega
      rcases hbad with rfl | rfl
      · go_wp2_with fail
        go_ret3
        refine ⟨?_, ho.below (Nat.le_refl _)⟩
        simp [Hn.out]
      · go_wp2_with fail
        go_ret3
        refine ⟨?_, ho.below (Nat.le_refl _)⟩
        simp [Hn.out]
    · have HB : Hid (¬ (n = 0 ∨ n = 3)) := hbad
      have hb0 : ((n : Int) == 0) = false := by rw [beq_eq_false_iff_ne]; omega
      have hb3 : ((n : Int) == 3) = false := by rw [beq_eq_false_iff_ne]; omega
      clear hbad
      go_wp2_with (first
      | (at_builtin; refine wpList_append_lies _ rfl _ _ 60 rfl (b + 1) 145 i0 (.agg #[.int .i64 0, .int .u8 0, .int .i64 0, .int .i64 0]) 4 32 Tryz.underlying60 hi0 hz0 hz1 hz2 rfl (by decide) v ps.length (cellsOf ps) rfl (hown.alloc _) ⟨w1.heap.size, 0, none⟩ 1 1 (ptCells (P.lpart (true, n))) rfl rfl (cell_four_new _ _ _ _ _ _) (fun x hx => by simp [ptCells] at hx; rcases hx with rfl | rfl | rfl | rfl <;> rfl) (by omega) (by unfold maxLen; omega) (by omega) (by have := hc.lt; simp; omega) _ rfl ?_; intro g cap w3 hown' hgrow hat hlt
         have hc3 := grown_cur hc hown hgrow
         have cf := hc3.fz 2; have cc := hc3.c2
         have X := grown_rd hc hown hgrow hown' hik hs (by omega)))
      go_ret3
      refine ⟨?_, (ho.below (Nat.le_refl _)).trans X.2⟩
      simp only [Hn.out, if_true]
      rw [if_neg (by simpa using HB.out)]
      exact ⟨rfl, hik, _, X.1⟩

set_option maxHeartbeats 1000000 in
theorem readBytes_any {b i : Nat} {s : ByteArray} {w : World} {v : Value} {ps : List P.Pt} (h : Rd w b s i v ps) (hpos : 1 ≤ i) (hfew : ps.length + 1 ≤ i) :
    Calls Tryz.prog 133 #[.pointer (some ⟨b, 0, none⟩)] w fun e w' => LeafPost false s i b ps w e w' := by
  have hs := h.short
  obtain ⟨i0, hi0, hz0, hz1, hz2⟩ := info_parts Tryz.infoPart
  go_enter Tryz.func133, Tryz.ntmps133
  go_wp2_with fail
  refine (number_any 16 (by omega) h.cur (by unfold maxLen; omega) h.here).mono ?_
  rintro e w1 ⟨hpost, ho⟩
  cases hn : P.rdnum 16 (s.data.toList.drop i) with
  | none =>
    simp only [hn] at hpost
    have Hn : Hid (P.rdnum 16 (s.data.toList.drop i) = none) := hn
    clear hn
    obtain ⟨rfl, _⟩ := hpost
    go_wp2_with fail
    go_ret3
    refine ⟨?_, ho.below (Nat.le_refl _)⟩
    simp [Hn.out]
  | some x =>
    obtain ⟨n, k⟩ := x
    have hle := rdnum_le hn
    simp only [hn] at hpost
    have Hn : Hid (P.rdnum 16 (s.data.toList.drop i) = some (n, k)) := hn
    clear hn
    obtain ⟨rfl, hik, hc⟩ := hpost
    have c2 := hc.c2
    have hown := ho.own h.own
    by_cases hbad : n = 0
    · subst hbad
      go_wp2_with fail
      go_ret3
      refine ⟨?_, ho.below (Nat.le_refl _)⟩
      simp [Hn.out]
    · have HB : Hid (¬ (n = 0)) := hbad
      have hb0 : ((n : Int) == 0) = false := by rw [beq_eq_false_iff_ne]; omega
      clear hbad
      go_wp2_with (first
      | (at_builtin; refine wpList_append_lies _ rfl _ _ 60 rfl (b + 1) 145 i0 (.agg #[.int .i64 0, .int .u8 0, .int .i64 0, .int .i64 0]) 4 32 Tryz.underlying60 hi0 hz0 hz1 hz2 rfl (by decide) v ps.length (cellsOf ps) rfl (hown.alloc _) ⟨w1.heap.size, 0, none⟩ 1 1 (ptCells (P.lpart (false, n))) rfl rfl (cell_four_new _ _ _ _ _ _) (fun x hx => by simp [ptCells] at hx; rcases hx with rfl | rfl | rfl | rfl <;> rfl) (by omega) (by unfold maxLen; omega) (by omega) (by have := hc.lt; simp; omega) _ rfl ?_; intro g cap w3 hown' hgrow hat hlt
         have hc3 := grown_cur hc hown hgrow
         have cf := hc3.fz 2; have cc := hc3.c2
         have X := grown_rd hc hown hgrow hown' hik hs (by omega)))
      go_ret3
      refine ⟨?_, (ho.below (Nat.le_refl _)).trans X.2⟩
      simp only [Hn.out, Bool.false_eq_true, if_false]
      rw [if_neg (by simpa using HB.out)]
      exact ⟨rfl, hik, _, X.1⟩

end Go.Proofs.YtghggcehloiemabGreatDoor
