import Derived.Test.YtghggcehloiemabGreatDoorPrQ
import Derived.Test.YtghggcehloiemabGreatDoorPrCAll
import Derived.Test.YtghggcehloiemabGreatDoorPrDAll
import Derived.Test.YtghggcehloiemabGreatDoorRefEncAll
namespace Go.Proofs.YtghggcehloiemabGreatDoor
open Go.RowKit
set_option linter.unusedVariables false
set_option maxRecDepth 16000
namespace P
/-- What Room and Compile answer. -/
def errOf (lk lv : List UInt8) (slots : Int) : Nat := match tyOf lk, tyOf lv with
  | some _, some _ => if 1 ≤ slots ∧ slots ≤ 16 then 0 else 6
  | _, _ => 1
def roomOf (lk lv : List UInt8) (slots : Int) : Nat := match tyOf lk, tyOf lv with
  | some tk, some tv => if 1 ≤ slots ∧ slots ≤ 16 then 1 + slots.toNat * ((cov (parts 4 tk)).length + (cov (parts 4 tv)).length) else 0
  | _, _ => 0
def progOf (lk lv : List UInt8) (slots : Int) : List UInt8 := match tyOf lk, tyOf lv with
  | some tk, some tv => if 1 ≤ slots ∧ slots ≤ 16 then text (prog (cov (parts 4 tk)) (cov (parts 4 tv)) slots.toNat).resolve else []
  | _, _ => []
theorem small_fine {n : Nat} {x : I} (h : FineI n x) (hn : n ≤ 60000) : Small x := by
  obtain ⟨h1, h2, h3, h4, h5, h6⟩ := h
  exact ⟨by omega, by omega, by omega, (Nat.lt_or_ge x.op 11).elim (fun h => by have := h6 h; omega) (fun h => by have := h5 h; omega)⟩
theorem resolve_small {kp vp : List Nat} {sl : Nat} (hk : ∀ x ∈ kp, x < 32) (hv : ∀ x ∈ vp, x < 32) (hkl : kp.length ≤ 32) (hvl : vp.length ≤ 32) (hsl : sl ≤ 16) : ∀ x ∈ (prog kp vp sl).resolve, Small x :=
  fun x hx => small_fine (resolve_fine hk hv hkl hvl hsl x hx) (by omega)
theorem resolve_code {kp vp : List Nat} {sl : Nat} (hk : ∀ x ∈ kp, x < 32) (hv : ∀ x ∈ vp, x < 32) (hkl : kp.length ≤ 32) (hvl : vp.length ≤ 32) (hsl : sl ≤ 16) : CodeL (prog kp vp sl).resolve := by
  have hl := resolve_len kp vp sl
  refine ⟨by omega, by omega, fun i x hx => ?_, fun x hx => ?_⟩
  · obtain ⟨h1, h2, h3, h4, h5, h6⟩ := resolve_fine hk hv hkl hvl hsl x (List.mem_of_getElem? hx)
    exact ⟨by omega, h3, h4, fun h => by rw [hl]; exact h5 h, fun h => absurd h h2⟩
  · rw [resolve_eq] at hx hl
    obtain ⟨l, hl'⟩ := progZ_last (zOf kp.length vp.length) kp vp sl
    rw [hl'] at hx hl
    rw [List.length_append] at hx
    simp at hx
    rw [← hx]; exact Or.inl rfl
theorem resolve_isCode {kp vp : List Nat} {sl : Nat} (hk : ∀ x ∈ kp, x < 32) (hv : ∀ x ∈ vp, x < 32) (hkl : kp.length ≤ 32) (hvl : vp.length ≤ 32) (hsl : sl ≤ 16) : IsCode (text (prog kp vp sl).resolve) :=
  isCode_text (resolve_code hk hv hkl hvl hsl) (fun x hx => (resolve_small hk hv hkl hvl hsl x hx).k)
end P
theorem MsPost.cases2 {lk lv : List UInt8} {slots : Int} {w w' : World} {e : Ending} (h : MsPost lk lv slots w e w') :
    (∃ er : Nat, (er = 1 ∨ er = 6) ∧ (P.errOf lk lv slots = er ∧ P.roomOf lk lv slots = 0 ∧ P.progOf lk lv slots = []) ∧ e = .returned (.tuple #[.agg #[.int .i64 0, .int .i64 0, .slice none 0 0, .int .i64 0, .int .i64 0, .slice none 0 0, .slice none 0 0, .slice none 0 0, .int .i64 0], .int .i64 er])) ∨
    (∃ tk tv vk vv kv' vv', P.tyOf lk = some tk ∧ P.tyOf lv = some tv ∧ (1 ≤ slots ∧ slots ≤ 16) ∧ e = .returned (.tuple #[.agg #[.int .i64 (P.sz 4 tk).1, .int .i64 (P.sz 4 tk).2, vk, .int .i64 (P.sz 4 tv).1, .int .i64 (P.sz 4 tv).2, vv, kv', vv', .int .i64 slots], .int .i64 0]) ∧ Sh w' w'.heap.size vk tk ∧ Sh w' w'.heap.size vv tv ∧ Kp w' w'.heap.size kv' (P.cov (P.parts 4 tk)) ∧ Kp w' w'.heap.size vv' (P.cov (P.parts 4 tv)) ∧ (∀ g, vk.ownBlock = some g ∨ vv.ownBlock = some g ∨ kv'.ownBlock = some g ∨ vv'.ownBlock = some g → w.heap.size ≤ g)) := by
  obtain ⟨_, h⟩ := h
  unfold P.errOf P.roomOf P.progOf
  cases hk : P.tyOf lk with
  | none =>
    rw [hk] at h
    refine .inl ⟨1, .inl rfl, ?_, ?_⟩
    · cases P.tyOf lv <;> exact ⟨rfl, rfl, rfl⟩
    · cases hv : P.tyOf lv <;> (rw [hv] at h; exact h)
  | some tk =>
    rw [hk] at h
    cases hv : P.tyOf lv with
    | none => rw [hv] at h; exact .inl ⟨1, .inl rfl, ⟨rfl, rfl, rfl⟩, h⟩
    | some tv =>
      rw [hv] at h
      simp only at h ⊢
      by_cases hs : 1 ≤ slots ∧ slots ≤ 16
      · rw [if_pos hs] at h
        obtain ⟨a, b, c, d, h1, h2, h3, h4, h5⟩ := h
        exact .inr ⟨tk, tv, a, b, c, d, rfl, rfl, hs, h1, h2, h3, h4, h5⟩
      · rw [if_neg hs] at h
        rw [if_neg hs, if_neg hs, if_neg hs]
        exact .inl ⟨6, .inr rfl, ⟨rfl, rfl, rfl⟩, h⟩
theorem MsPost.cases {lk lv : List UInt8} {slots : Int} {w w' : World} {e : Ending} (h : MsPost lk lv slots w e w') :
    (∃ er : Nat, (er = 1 ∨ er = 6) ∧ (P.errOf lk lv slots = er ∧ P.roomOf lk lv slots = 0 ∧ P.progOf lk lv slots = []) ∧ e = .returned (.tuple #[.agg #[.int .i64 0, .int .i64 0, .slice none 0 0, .int .i64 0, .int .i64 0, .slice none 0 0, .slice none 0 0, .slice none 0 0, .int .i64 0], .int .i64 er])) ∨
    (∃ tk tv vk vv kv' vv', P.tyOf lk = some tk ∧ P.tyOf lv = some tv ∧ (1 ≤ slots ∧ slots ≤ 16) ∧ e = .returned (.tuple #[.agg #[.int .i64 (P.sz 4 tk).1, .int .i64 (P.sz 4 tk).2, vk, .int .i64 (P.sz 4 tv).1, .int .i64 (P.sz 4 tv).2, vv, kv', vv', .int .i64 slots], .int .i64 0]) ∧ Sh w' w'.heap.size vk tk ∧ Sh w' w'.heap.size vv tv ∧ Kp w' w'.heap.size kv' (P.cov (P.parts 4 tk)) ∧ Kp w' w'.heap.size vv' (P.cov (P.parts 4 tv))) := by
  rcases h.cases2 with h | ⟨tk, tv, a, b, c, d, q1, q2, q3, q4, q5, q6, q7, q8, _⟩
  · exact .inl h
  · exact .inr ⟨tk, tv, a, b, c, d, q1, q2, q3, q4, q5, q6, q7, q8⟩
set_option maxHeartbeats 4000000 in
theorem room_any (sk sv : ByteArray) (slots : Int) (w : World) (hk : sk.size ≤ maxLen) (hv : sv.size ≤ maxLen) :
    Calls Tryz.prog 10 #[.string sk, .string sv, .int .i64 slots] w fun e w' => e = .returned (.tuple #[.int .i64 (P.roomOf sk.data.toList sv.data.toList slots), .int .i64 (P.errOf sk.data.toList sv.data.toList slots)]) ∧ Below w.heap.size w w' := by
  go_enter Tryz.func10, Tryz.ntmps10
  go_wp2_with fail
  refine (measure_any sk sv slots w hk hv).mono ?_
  rintro e w1 hpost
  have hbe := hpost.1
  rcases hpost.cases with ⟨er, her, HT, rfl⟩ | ⟨tk, tv, vk, vv, kv', vv', htk, htv, hsl, rfl, shk, shv, kpk, kpv⟩
  · have HH := hid_m HT
    clear HT hpost
    rcases her with rfl | rfl
    · go_wp2_with fail
      go_ret2
      exact ⟨by rw [HH.out.1, HH.out.2.1]; rfl, hbe.alloc hbe.size _⟩
    · go_wp2_with fail
      go_ret2
      exact ⟨by rw [HH.out.1, HH.out.2.1]; rfl, hbe.alloc hbe.size _⟩
  · have kk := known_of htk
    have kv := known_of htv
    obtain ⟨_, hok⟩ := kpk.own
    obtain ⟨_, hov⟩ := kpv.own
    obtain ⟨gk, ck, hkv, _, _⟩ := hok.form kk.pos
    obtain ⟨gv, cv, hvv, _, _⟩ := hov.form kv.pos
    obtain ⟨_, osk⟩ := shk.own
    obtain ⟨_, osv⟩ := shv.own
    obtain ⟨ak, Nk, c1, rfl⟩ := owns_slice osk
    obtain ⟨av, Nv, c2, rfl⟩ := owns_slice osv
    have lk := kk.covl
    have lv := kv.covl
    have l1 := kk.sz32
    have l2 := kv.sz32
    obtain ⟨sl, rfl⟩ : ∃ sl : Nat, slots = (sl : Int) := ⟨slots.toNat, by omega⟩
    have HE : Hid (P.errOf sk.data.toList sv.data.toList sl = 0 ∧ P.roomOf sk.data.toList sv.data.toList sl = 1 + sl * ((P.cov (P.parts 4 tk)).length + (P.cov (P.parts 4 tv)).length)) := by
      unfold Hid P.errOf P.roomOf; rw [htk, htv]; simp only; rw [if_pos hsl, if_pos hsl]; exact ⟨rfl, rfl⟩
    obtain ⟨nk, hnk⟩ : ∃ n, (P.cov (P.parts 4 tk)).length = n := ⟨_, rfl⟩
    obtain ⟨nv, hnv⟩ : ∃ n, (P.cov (P.parts 4 tv)).length = n := ⟨_, rfl⟩
    rw [hnk] at hkv lk HE
    rw [hnv] at hvv lv HE
    subst hkv
    subst hvv
    have HR := hid_m (plRoom_any gk ck gv cv nk nv sl · (show nk ≤ 32 by omega) (show nv ≤ 32 by omega) (show sl ≤ 16 by omega))
    obtain ⟨z1, hz1⟩ : ∃ z, (P.sz 4 tk).1 = z := ⟨_, rfl⟩
    obtain ⟨z2, hz2⟩ : ∃ z, (P.sz 4 tk).2 = z := ⟨_, rfl⟩
    obtain ⟨z3, hz3⟩ : ∃ z, (P.sz 4 tv).1 = z := ⟨_, rfl⟩
    obtain ⟨z4, hz4⟩ : ∃ z, (P.sz 4 tv).2 = z := ⟨_, rfl⟩
    rw [hz1, hz2, hz3, hz4]
    have HBE := hid_m hbe
    clear hpost hbe kk kv hok hov shk shv kpk kpv osk osv lk lv l1 l2 htk htv hsl hnk hnv hz1 hz2 hz3 hz4
    go_wp2_with fail
    refine (HR.out _).mono ?_
    rintro e w2 ⟨rfl, hb2⟩
    have HF : Hid (Below w.heap.size w w2) := (HBE.out.alloc HBE.out.size _).trans (hb2.mono (by have := HBE.out.size; simp; omega))
    obtain ⟨rm, hrm⟩ : ∃ rm, 1 + sl * (nk + nv) = rm := ⟨_, rfl⟩
    rw [hrm] at HE ⊢
    clear hb2 hrm
    go_wp2_with fail
    go_ret2
    exact ⟨by rw [HE.out.1, HE.out.2]; rfl, HF.out⟩
set_option maxHeartbeats 4000000 in
theorem compile_any (sk sv : ByteArray) (slots : Int) (w : World) (hk : sk.size ≤ maxLen) (hv : sv.size ≤ maxLen) :
    Calls Tryz.prog 12 #[.string sk, .string sv, .int .i64 slots] w fun e w' => e = .returned (.tuple #[.string ⟨(P.progOf sk.data.toList sv.data.toList slots).toArray⟩, .int .i64 (P.errOf sk.data.toList sv.data.toList slots)]) ∧ Below w.heap.size w w' := by
  go_enter Tryz.func12, Tryz.ntmps12
  go_wp2_with fail
  refine (measure_any sk sv slots w hk hv).mono ?_
  rintro e w1 hpost
  have hbe := hpost.1
  rcases hpost.cases with ⟨er, her, HT, rfl⟩ | ⟨tk, tv, vk, vv, kv', vv', htk, htv, hsl, rfl, shk, shv, kpk, kpv⟩
  · have HH := hid_m HT
    clear HT hpost
    rcases her with rfl | rfl
    · go_wp2_with fail
      go_ret2
      exact ⟨by rw [HH.out.1, HH.out.2.2]; rfl, hbe.alloc hbe.size _⟩
    · go_wp2_with fail
      go_ret2
      exact ⟨by rw [HH.out.1, HH.out.2.2]; rfl, hbe.alloc hbe.size _⟩
  · have kk := known_of htk
    have kv := known_of htv
    obtain ⟨_, hok⟩ := kpk.own
    obtain ⟨_, hov⟩ := kpv.own
    obtain ⟨gk, ck, hkv, _, _⟩ := hok.form kk.pos
    obtain ⟨gv, cv, hvv, _, _⟩ := hov.form kv.pos
    obtain ⟨_, osk⟩ := shk.own
    obtain ⟨_, osv⟩ := shv.own
    obtain ⟨ak, Nk, c1, rfl⟩ := owns_slice osk
    obtain ⟨av, Nv, c2, rfl⟩ := owns_slice osv
    have lk := kk.covl
    have lv := kv.covl
    have l1 := kk.sz32
    have l2 := kv.sz32
    obtain ⟨sl, rfl⟩ : ∃ sl : Nat, slots = (sl : Int) := ⟨slots.toNat, by omega⟩
    have HE : Hid (P.errOf sk.data.toList sv.data.toList sl = 0 ∧ P.progOf sk.data.toList sv.data.toList sl = P.text (P.prog (P.cov (P.parts 4 tk)) (P.cov (P.parts 4 tv)) sl).resolve) := by
      unfold Hid P.errOf P.progOf; rw [htk, htv]; simp only; rw [if_pos hsl, if_pos hsl]; exact ⟨rfl, rfl⟩
    have HC : Hid (∀ w2, Below w1.heap.size w1 w2 → Calls Tryz.prog 31 #[.agg #[kv', vv', .int .i64 sl]] w2 fun e w' => e = .returned (.string ⟨(P.text (P.prog (P.cov (P.parts 4 tk)) (P.cov (P.parts 4 tv)) sl).resolve).toArray⟩) ∧ Below w2.heap.size w2 w') := fun w2 hb2 =>
      pcode_any _ _ (kpk.next hb2) (kpv.next hb2) kk.pos kv.pos (by omega) (by omega) (by rw [P.prog_len]; omega) (by rw [P.prog_len]; omega) (P.prog_labels kk.cov32 kv.cov32 (by omega) (by omega) (by omega)) (P.resolve_small kk.cov32 kv.cov32 (by omega) (by omega) (by omega))
    obtain ⟨tx, htx⟩ : ∃ tx, (P.text (P.prog (P.cov (P.parts 4 tk)) (P.cov (P.parts 4 tv)) sl).resolve) = tx := ⟨_, rfl⟩
    rw [htx] at HC HE
    obtain ⟨nk, hnk⟩ : ∃ n, (P.cov (P.parts 4 tk)).length = n := ⟨_, rfl⟩
    obtain ⟨nv, hnv⟩ : ∃ n, (P.cov (P.parts 4 tv)).length = n := ⟨_, rfl⟩
    rw [hnk] at hkv lk
    rw [hnv] at hvv lv
    subst hkv
    subst hvv
    obtain ⟨z1, hz1⟩ : ∃ z, (P.sz 4 tk).1 = z := ⟨_, rfl⟩
    obtain ⟨z2, hz2⟩ : ∃ z, (P.sz 4 tk).2 = z := ⟨_, rfl⟩
    obtain ⟨z3, hz3⟩ : ∃ z, (P.sz 4 tv).1 = z := ⟨_, rfl⟩
    obtain ⟨z4, hz4⟩ : ∃ z, (P.sz 4 tv).2 = z := ⟨_, rfl⟩
    rw [hz1, hz2, hz3, hz4]
    have HBE := hid_m hbe
    clear htx hpost hbe kk kv hok hov shk shv kpk kpv osk osv lk lv l1 l2 htk htv hsl hnk hnv hz1 hz2 hz3 hz4
    go_wp2_with fail
    refine (HC.out _ ((Below.refl _ _).alloc (Nat.le_refl _) _)).mono ?_
    rintro e w2 ⟨rfl, hb2⟩
    have HF : Hid (Below w.heap.size w w2) := (HBE.out.alloc HBE.out.size _).trans (hb2.mono (by have := HBE.out.size; simp; omega))
    clear hb2
    go_wp2_with fail
    go_ret2
    exact ⟨by rw [HE.out.1, HE.out.2]; rfl, HF.out⟩
end Go.Proofs.YtghggcehloiemabGreatDoor
namespace Go.Proofs.YtghggcehloiemabGreatDoor
namespace P
set_option linter.unusedVariables false
/-- The text is a value of the type. -/
def IsVal (t : Ty 4) (v : List UInt8) : Prop := ∃ bs, layAll (parts 4 t) v (List.replicate (sz 4 t).1 0) = some ([], bs)
/-- Its bytes, without the gaps. -/
def encV (t : Ty 4) (v : List UInt8) : List UInt8 := match layAll (parts 4 t) v (List.replicate (sz 4 t).1 0) with
  | some (_, bs) => bytesOf bs 0 (cov (parts 4 t))
  | none => []
theorem bytesOf_ext {a b : List UInt8} {p q : Nat} {ps : List Nat} (h : ∀ x ∈ ps, a[p + x]? = b[q + x]?) : bytesOf a p ps = bytesOf b q ps := by
  unfold bytesOf
  apply List.map_congr_left
  intro x hx
  rw [h x hx]
theorem bytesOf_same {a b : List UInt8} {p q : Nat} {ps : List Nat} (h : bytesOf a p ps = bytesOf b q ps) (ha : ∀ x ∈ ps, p + x < a.length) (hb : ∀ x ∈ ps, q + x < b.length) : ∀ x ∈ ps, a[p + x]? = b[q + x]? := by
  unfold bytesOf at h
  intro x hx
  have := (List.map_inj_left.1 h) x hx
  rw [List.getElem?_eq_getElem (ha x hx), List.getElem?_eq_getElem (hb x hx)] at this ⊢
  simpa using this
theorem encV_of {t : Ty 4} {v bs : List UInt8} (h : layAll (parts 4 t) v (List.replicate (sz 4 t).1 0) = some ([], bs)) : encV t v = bytesOf bs 0 (cov (parts 4 t)) := by unfold encV; rw [h]
end P
section
set_option linter.unusedSectionVars false
variable {t : P.Ty 4} (hk : Known t)
include hk
theorem Known.okr (f : UInt8) : ∀ y ∈ P.parts 4 t, P.PtOk (List.replicate (P.sz 4 t).1 f).length y := fun y hy => by rw [List.length_replicate]; exact hk.ok y hy
theorem Known.encl {v : List UInt8} (h : P.IsVal t v) : (P.encV t v).length = (P.cov (P.parts 4 t)).length := by
  obtain ⟨bs, h⟩ := h
  rw [P.encV_of h, P.bytesOf_len]
theorem Known.fill {v : List UInt8} (h : P.IsVal t v) (f : UInt8) : ∃ bs, P.layAll (P.parts 4 t) v (List.replicate (P.sz 4 t).1 f) = some ([], bs) ∧ bs.length = (P.sz 4 t).1 ∧ P.bytesOf bs 0 (P.cov (P.parts 4 t)) = P.encV t v := by
  obtain ⟨b0, h⟩ := h
  obtain ⟨b', g1, g2, g3, g4, g5⟩ := P.lay_both (P.parts 4 t) v (List.replicate (P.sz 4 t).1 0) (List.replicate (P.sz 4 t).1 f) [] b0 (hk.okr 0) (by simp) h
  refine ⟨b', g1, by simpa using g3, ?_⟩
  rw [P.encV_of h]
  exact P.bytesOf_ext (fun x hx => (g4 _ (Or.inl (by rw [Nat.zero_add]; exact hx))).symm)
theorem Known.none {v : List UInt8} (h : ¬ P.IsVal t v) (f : UInt8) : ¬ ∃ bs, P.layAll (P.parts 4 t) v (List.replicate (P.sz 4 t).1 f) = some ([], bs) := by
  rintro ⟨bs, hb⟩
  obtain ⟨b', g1, _⟩ := P.lay_both (P.parts 4 t) v (List.replicate (P.sz 4 t).1 f) (List.replicate (P.sz 4 t).1 0) [] bs (hk.okr f) (by simp) hb
  exact h ⟨b', g1⟩
theorem Known.told {v c : List UInt8} (h : P.IsVal t v) (hc : c.length = (P.sz 4 t).1) (he : P.bytesOf c 0 (P.cov (P.parts 4 t)) = P.encV t v) : P.tellAll (P.parts 4 t) c = v := by
  obtain ⟨b0, h⟩ := h
  have hl := P.lay_length (P.parts 4 t) v _ [] b0 (hk.okr 0) h
  rw [List.length_replicate] at hl
  rw [P.encV_of h] at he
  have hb := fun x (hx : x ∈ P.cov (P.parts 4 t)) => (P.cov_bounds hk.inc x hx).2
  refine P.lay_told (a := List.replicate (P.sz 4 t).1 0) (hk.okr 0) hk.inc h (by rw [hc, List.length_replicate]) (fun i hi => ?_)
  have := P.bytesOf_same he (fun x hx => by rw [hc, Nat.zero_add]; exact hb x hx) (fun x hx => by rw [hl, Nat.zero_add]; exact hb x hx) i hi
  rwa [Nat.zero_add] at this
theorem Known.inj {v v' : List UInt8} (h : P.IsVal t v) (h' : P.IsVal t v') (he : P.encV t v = P.encV t v') : v = v' := by
  obtain ⟨bs, hb, hl, hs⟩ := hk.fill h 0
  rw [← hk.told h hl hs, hk.told h' hl (hs.trans he)]
theorem Known.vinj : ∀ i j, i < j → j < (P.cov (P.parts 4 t)).length → P.at_ (P.cov (P.parts 4 t)) i ≠ P.at_ (P.cov (P.parts 4 t)) j := by
  intro i j hij hj
  have hs := P.cov_sorted hk.inc
  unfold P.at_
  rw [List.getElem?_eq_getElem (show i < _ by omega), List.getElem?_eq_getElem hj]
  have := List.pairwise_iff_getElem.1 hs i j (by omega) hj hij
  simp only [Option.getD_some]
  omega
theorem Known.at32 {i : Nat} (hi : i < (P.cov (P.parts 4 t)).length) : P.at_ (P.cov (P.parts 4 t)) i < (P.sz 4 t).1 := by
  unfold P.at_
  rw [List.getElem?_eq_getElem hi]
  exact (P.cov_bounds hk.inc _ (List.getElem_mem hi)).2
end
end Go.Proofs.YtghggcehloiemabGreatDoor
namespace Go.Proofs.YtghggcehloiemabGreatDoor
set_option linter.unusedVariables false
namespace P
theorem laidL_len {m s : List UInt8} {p : Nat} (h : p + s.length ≤ m.length) : (laidL m p s).length = m.length := by
  unfold laidL; simp only [List.length_append, List.length_take, List.length_drop]; omega
theorem laidL_get {m s : List UInt8} {p : Nat} (h : p + s.length ≤ m.length) (x : Nat) : (laidL m p s)[x]? = if p ≤ x ∧ x < p + s.length then s[x - p]? else m[x]? := by
  unfold laidL
  have hl : (m.take p).length = p := by rw [List.length_take]; omega
  by_cases h1 : x < p
  · rw [if_neg (by omega), List.append_assoc, List.getElem?_append_left (by omega), List.getElem?_take, if_pos h1]
  · by_cases h2 : x < p + s.length
    · rw [if_pos (by omega), List.append_assoc, List.getElem?_append_right (by omega), hl, List.getElem?_append_left (by omega)]
    · rw [if_neg (by omega), List.getElem?_append_right (by rw [List.length_append, hl]; omega), List.length_append, hl, List.getElem?_drop]
      congr 1; omega
/-- What a shop's memory and its plain map have to do with each other. -/
structure ShopP (tk tv : Ty 4) (sl : Nat) (mem : List UInt8) (L : List (ByteArray × ByteArray)) (T : List (List UInt8)) : Prop where
  kk : Known tk
  kv : Known tv
  sl16 : sl ≤ 16
  sim : Sim (fun k : ByteArray => encV tk k.data.toList) (fun v : ByteArray => encV tv v.data.toList) (fun k : ByteArray => IsVal tk k.data.toList) (cov (parts 4 tk)).length L T
  vals : ∀ p ∈ L, IsVal tv p.2.data.toList
  tab : Tab ((cov (parts 4 tk)).length + (cov (parts 4 tv)).length) mem T
  few : T.length ≤ sl
  len : mem.length = 1 + sl * ((cov (parts 4 tk)).length + (cov (parts 4 tv)).length) + 160
theorem mapDo_vals {ok : ByteArray → Prop} (sl a : Nat) (k v : ByteArray) (L : List (ByteArray × ByteArray)) (hv : ok v) (h : ∀ p ∈ L, ok p.2) : ∀ p ∈ (mapDo sl a k v L).2, ok p.2 := by
  intro p hp
  unfold mapDo at hp
  split at hp
  · exact h p hp
  · split at hp
    · split at hp
      · rcases List.mem_or_eq_of_mem_set hp with hp | hp
        · exact h p hp
        · rw [hp]; exact hv
      · split at hp
        · exact h p hp
        · rcases List.mem_append.1 hp with hp | hp
          · exact h p hp
          · simp at hp; rw [hp]; exact hv
    · split at hp
      · split at hp
        · exact h p ((List.eraseIdx_sublist L _).mem hp)
        · exact h p hp
      · split at hp
        · exact h p hp
        · split at hp
          · simp at hp
          · exact h p hp
theorem mem_at {ps : List Nat} {p : Nat} (h : p ∈ ps) : ∃ j, j < ps.length ∧ at_ ps j = p := by
  obtain ⟨j, hj⟩ := List.mem_iff_getElem?.1 h
  exact ⟨j, (List.getElem?_eq_some_iff.1 hj).1, by unfold at_; rw [hj]; rfl⟩
/-- One run of a shop's program, all of it. -/
theorem shop_run {tk tv : Ty 4} {sl : Nat} {mem : List UInt8} {L : List (ByteArray × ByteArray)} {T : List (List UInt8)} (h : ShopP tk tv sl mem L T) (k v : ByteArray) (hk : IsVal tk k.data.toList) (hv : IsVal tv v.data.toList) (fk fv : UInt8) (bk bv : List UInt8)
    (hbk : layAll (parts 4 tk) k.data.toList (List.replicate (sz 4 tk).1 fk) = some ([], bk)) (hbv : layAll (parts 4 tv) v.data.toList (List.replicate (sz 4 tv).1 fv) = some ([], bv)) (kAt vAt t : Nat)
    (hAt : (1 + sl * ((cov (parts 4 tk)).length + (cov (parts 4 tv)).length) ≤ kAt ∧ kAt + 64 ≤ 1 + sl * ((cov (parts 4 tk)).length + (cov (parts 4 tv)).length) + 128 ∧ 1 + sl * ((cov (parts 4 tk)).length + (cov (parts 4 tv)).length) ≤ vAt ∧ vAt + 64 ≤ 1 + sl * ((cov (parts 4 tk)).length + (cov (parts 4 tv)).length) + 192 ∧ kAt + 32 ≤ vAt) ∨ (1 + sl * ((cov (parts 4 tk)).length + (cov (parts 4 tv)).length) ≤ vAt ∧ vAt + 32 ≤ kAt ∧ kAt + 32 ≤ 1 + sl * ((cov (parts 4 tk)).length + (cov (parts 4 tv)).length) + 160)) :
    ∃ (m' : List UInt8) (res n : Nat) (T' : List (List UInt8)), go (prog (cov (parts 4 tk)) (cov (parts 4 tv)) sl).resolve 10000 0 (start (laidL (laidL mem kAt bk) vAt bv) t kAt vAt) = ⟨m', res, (mapDo sl t k v L).1, n, 0⟩ ∧ m'.length = mem.length ∧ ShopP tk tv sl m' (mapDo sl t k v L).2 T' ∧ (t = 4 → res = L.length) ∧
      ((t = 1 ∧ (mapDo sl t k v L).1 = 0) → ∃ i v0, atK L k = some i ∧ L[i]? = some (k, v0) ∧ tellAll (parts 4 tv) ((m'.drop vAt).take (sz 4 tv).1) = v0.data.toList ∧ m'.drop (1 + sl * ((cov (parts 4 tk)).length + (cov (parts 4 tv)).length)) = (laidL (laidL (laidL mem kAt bk) vAt bv) vAt ((m'.drop vAt).take (sz 4 tv).1)).drop (1 + sl * ((cov (parts 4 tk)).length + (cov (parts 4 tv)).length))) ∧
      (¬ (t = 1 ∧ (mapDo sl t k v L).1 = 0) → m'.drop (1 + sl * ((cov (parts 4 tk)).length + (cov (parts 4 tv)).length)) = (laidL (laidL mem kAt bk) vAt bv).drop (1 + sl * ((cov (parts 4 tk)).length + (cov (parts 4 tv)).length))) := by
  obtain ⟨bk', gk1, gk2, gk3⟩ := h.kk.fill hk fk
  obtain ⟨bv', gv1, gv2, gv3⟩ := h.kv.fill hv fv
  rw [hbk] at gk1
  rw [hbv] at gv1
  cases gk1
  cases gv1
  have hks := h.kk.sz32
  have hvs := h.kv.sz32
  have hlen := h.len
  generalize hR : 1 + sl * ((cov (parts 4 tk)).length + (cov (parts 4 tv)).length) = R at *
  have l1 : (laidL mem kAt bk).length = mem.length := laidL_len (by rw [gk2]; omega)
  obtain ⟨m, hm⟩ : ∃ m, laidL (laidL mem kAt bk) vAt bv = m := ⟨_, rfl⟩
  have l2 : m.length = mem.length := by rw [← hm, laidL_len (by rw [gv2, l1]; omega), l1]
  have gm : ∀ x, m[x]? = if vAt ≤ x ∧ x < vAt + (sz 4 tv).1 then bv[x - vAt]? else if kAt ≤ x ∧ x < kAt + (sz 4 tk).1 then bk[x - kAt]? else mem[x]? := fun x => by
    rw [← hm, laidL_get (by rw [gv2, l1]; omega), laidL_get (by rw [gk2]; omega), gv2, gk2]
  have bK : bytesOf m kAt (cov (parts 4 tk)) = encV tk k.data.toList := by
    rw [← gk3]
    refine bytesOf_ext (fun p hp => ?_)
    have hp2 := (cov_bounds h.kk.inc p hp).2
    rw [gm, if_neg (by omega), if_pos (by omega), Nat.zero_add, show kAt + p - kAt = p by omega]
  have bV : bytesOf m vAt (cov (parts 4 tv)) = encV tv v.data.toList := by
    rw [← gv3]
    refine bytesOf_ext (fun p hp => ?_)
    have hp2 := (cov_bounds h.kv.inc p hp).2
    rw [gm, if_pos (by omega), Nat.zero_add, show vAt + p - vAt = p by omega]
  have few := h.few
  have tabm : Tab ((cov (parts 4 tk)).length + (cov (parts 4 tv)).length) m T := h.tab.same (fun x hx => by
    have := Nat.mul_le_mul_right ((cov (parts 4 tk)).length + (cov (parts 4 tv)).length) few
    rw [gm, if_neg (by omega), if_neg (by omega)])
  have cx : Cx (cov (parts 4 tk)) (cov (parts 4 tv)) sl m kAt vAt T := ⟨by have := h.kk.covl; omega, by have := h.kv.covl; omega, h.kk.pos, h.sl16, few, tabm, by rw [hR]; omega, by rw [hR]; omega, fun i hi => by have := h.kk.at32 hi; omega, fun i hi => by have := h.kv.at32 hi; omega, h.kv.vinj⟩
  obtain ⟨m', res, T', hd, hl, hs', ht', hf', hc, hfound, hrest⟩ := shop_do (pg_of _ _ sl) cx h.sim (key := k) (value := v) hk bK bV t
  rw [hR] at hrest
  obtain ⟨n, hgo⟩ := hd
  rw [hm]
  refine ⟨m', res, n, T', hgo, by omega, ⟨h.kk, h.kv, h.sl16, hs', mapDo_vals (ok := fun x => IsVal tv x.data.toList) sl t k v L hv h.vals, ht', hf', by rw [hl, l2, hlen, hR]⟩, hc, fun hf => ?_, fun hf => ?_⟩
  · obtain ⟨i, v0, q1, q2, q3, q4⟩ := hfound hf
    have hv0 := h.vals _ (List.mem_of_getElem? q2)
    have hcl : ((m'.drop vAt).take (sz 4 tv).1).length = (sz 4 tv).1 := by rw [List.length_take, List.length_drop]; omega
    have hcg : ∀ x, x < (sz 4 tv).1 → ((m'.drop vAt).take (sz 4 tv).1)[x]? = m'[vAt + x]? := fun x hx => by rw [List.getElem?_take, if_pos hx, List.getElem?_drop]
    refine ⟨i, v0, q1, q2, h.kv.told hv0 hcl ?_, ?_⟩
    · rw [← q3]
      refine bytesOf_ext (fun p hp => ?_)
      rw [Nat.zero_add, hcg p (cov_bounds h.kv.inc p hp).2]
    · apply List.ext_getElem?
      intro x
      rw [List.getElem?_drop, List.getElem?_drop, laidL_get (by rw [hcl, l2]; omega), hcl]
      by_cases hx : vAt ≤ R + x ∧ R + x < vAt + (sz 4 tv).1
      · rw [if_pos hx, hcg _ (by omega), show vAt + (R + x - vAt) = R + x by omega]
      · rw [if_neg hx]
        exact q4 (R + x) (fun j hj => by have := h.kv.at32 hj; omega)
  · apply List.ext_getElem?
    intro x
    rw [List.getElem?_drop, List.getElem?_drop]
    exact hrest hf (R + x) (by omega)
end P
end Go.Proofs.YtghggcehloiemabGreatDoor
namespace Go.Proofs.YtghggcehloiemabGreatDoor
set_option linter.unusedVariables false
namespace P
section shop
variable {κ ν : Type} [DecidableEq κ]
variable {ek : κ → List UInt8} {ev : ν → List UInt8} {ok : κ → Prop} {c : List I} {kp vp : List Nat} {sl : Nat} {m : List UInt8} {ka va : Nat} {L : List (κ × ν)} {T : List (List UInt8)}
/-- As shop_do, asking for a key and a value only where the task does. -/
theorem shop_do2 (hp : Pg c kp vp sl) (hx : Cx kp vp sl m ka va T) (hs : Sim ek ev ok kp.length L T) {key : κ} {value : ν} (a : Nat) (hkey : a = 1 ∨ a = 2 ∨ a = 3 → ok key ∧ bytesOf m ka kp = ek key) (hV : a = 2 → bytesOf m va vp = ev value) :
    ∃ (m' : List UInt8) (res : Nat) (T' : List (List UInt8)), Did c m a ka va m' res (mapDo sl a key value L).1 ∧ m'.length = m.length ∧ Sim ek ev ok kp.length (mapDo sl a key value L).2 T' ∧ Tab (kp.length + vp.length) m' T' ∧ T'.length ≤ sl ∧ (a = 4 → res = L.length) ∧
      ((a = 1 ∧ (mapDo sl a key value L).1 = 0) → ∃ i v0, atK L key = some i ∧ L[i]? = some (key, v0) ∧ bytesOf m' va vp = ev v0 ∧ ∀ x, (∀ j, j < vp.length → va + at_ vp j ≠ x) → m'[x]? = m[x]?) ∧
      (¬ (a = 1 ∧ (mapDo sl a key value L).1 = 0) → ∀ x, 1 + sl * (kp.length + vp.length) ≤ x → m'[x]? = m[x]?) := by
  have hroom := hx.room
  have hka := hx.hka
  have hva := hx.hva
  have hfew := hx.few
  have hlen := hs.len
  have lt_room : ∀ x, x < 1 + T.length * (kp.length + vp.length) → x < 1 + sl * (kp.length + vp.length) := fun x h => by
    have := Nat.mul_le_mul_right (kp.length + vp.length) hfew; omega
  by_cases h2 : a = 2
  · exact shop_do hp hx hs (hkey (by omega)).1 (hkey (by omega)).2 (hV h2) a
  by_cases h1 : a = 1
  · obtain ⟨hk0, hK⟩ := hkey (Or.inl h1)
    subst h1
    rcases run_find hp hx with ⟨e, t, m', hT, hk, hd, hl, ho, hv⟩ | ⟨hno, hd⟩
    · rw [hK] at hk
      obtain ⟨i, v0, g1, g2, g3⟩ := hs.at hT hk0 hk
      have hm : mapDo sl 1 key value L = (0, L) := by unfold mapDo; rw [if_pos rfl, g1]; rfl
      rw [hm]
      refine ⟨m', 1, T, hd, hl, hs, hx.tab.same (fun x hxx => ho x (fun j hj he => ?_)), hfew, fun h => absurd h (by decide), fun _ => ⟨i, v0, g1, g2, ?_, ho⟩, fun h => absurd ⟨rfl, rfl⟩ h⟩
      · have := lt_room x hxx; omega
      · have htl := (hx.tab.ent e t hT).1
        have hkl : (ek key).length = kp.length := hs.klen key hk0
        have hvl : (ev v0).length = vp.length := by rw [g3, List.length_append] at htl; omega
        apply List.ext_getElem?
        intro j
        rcases Nat.lt_or_ge j vp.length with hj | hj
        · rw [bytesOf_get _ _ _ _ hj (by rw [hl]; exact hx.vin j hj), hv j hj, g3, List.getElem?_append_right (by omega)]
          congr 1; omega
        · rw [List.getElem?_eq_none (by rw [bytesOf_len]; exact hj), List.getElem?_eq_none (by omega)]
    · rw [hK] at hno
      have hat := atK_none (hs.absent hno)
      have hm : mapDo sl 1 key value L = (1, L) := by unfold mapDo; rw [if_pos rfl, hat]; rfl
      rw [hm]
      exact ⟨m, 1, T, hd, rfl, hs, hx.tab, hfew, fun h => absurd h (by decide), fun h => absurd (show (1 : Nat) = 0 from h.2) (by decide), fun _ x _ => rfl⟩
  by_cases h3 : a = 3
  · obtain ⟨hk0, hK⟩ := hkey (by omega)
    subst h3
    rcases run_take hp hx with ⟨e, t, l, m', hT, hk, hl', hd, hl, ht, ho⟩ | ⟨hno, hd⟩
    · rw [hK] at hk
      obtain ⟨i, v0, g1, g2, g3⟩ := hs.at hT hk0 hk
      have hm : mapDo sl 3 key value L = (0, L.eraseIdx i) := by unfold mapDo; rw [if_neg (by decide), if_neg (by decide), if_pos rfl, g1]
      rw [hm]
      rw [g3] at hT
      exact ⟨m', 3, _, hd, hl, hs.drop hT g2 hl', ht, by rw [List.length_take, List.length_set]; omega, fun h => absurd h (by decide), fun h => absurd h.1 (by decide), fun _ => ho⟩
    · rw [hK] at hno
      have hat := atK_none (hs.absent hno)
      have hm : mapDo sl 3 key value L = (1, L) := by unfold mapDo; rw [if_neg (by decide), if_neg (by decide), if_pos rfl, hat]
      rw [hm]
      exact ⟨m, 3, T, hd, rfl, hs, hx.tab, hfew, fun h => absurd h (by decide), fun h => absurd h.1 (by decide), fun _ x _ => rfl⟩
  by_cases h4 : a = 4
  · subst h4
    have hm : mapDo sl 4 key value L = (0, L) := rfl
    rw [hm]
    exact ⟨m, T.length, T, run_count hp (by have := hx.hsl; omega) hx.tab ka va, rfl, hs, hx.tab, hfew, fun _ => hlen, fun h => absurd h.1 (by decide), fun _ x _ => rfl⟩
  by_cases h5 : a = 5
  · subst h5
    have hm : mapDo sl 5 key value L = (0, []) := rfl
    rw [hm]
    obtain ⟨m', hd, hl, ht, ho⟩ := run_empty hp (show 0 < m.length by omega) (kp.length + vp.length) ka va
    exact ⟨m', 5, [], hd, hl, hs.empty, ht, Nat.zero_le _, fun h => absurd h (by decide), fun h => absurd h.1 (by decide), fun _ x hxx => ho x (by omega)⟩
  have hm : mapDo sl a key value L = (3, L) := by unfold mapDo; rw [if_neg h1, if_neg h2, if_neg h3, if_neg h4, if_neg h5]
  rw [hm]
  exact ⟨m, a, T, run_none hp m a ka va h1 h2 h3 h4 h5, rfl, hs, hx.tab, hfew, fun h => absurd h h4, fun h => absurd h.1 h1, fun _ x _ => rfl⟩
end shop
/-- What a table's bytes and a plain map have to do with each other. -/
structure TabP (tk tv : Ty 4) (sl : Nat) (mem : List UInt8) (L : List (ByteArray × ByteArray)) (T : List (List UInt8)) : Prop where
  kk : Known tk
  kv : Known tv
  sl16 : sl ≤ 16
  sim : Sim (fun k : ByteArray => encV tk k.data.toList) (fun v : ByteArray => encV tv v.data.toList) (fun k : ByteArray => IsVal tk k.data.toList) (cov (parts 4 tk)).length L T
  vals : ∀ p ∈ L, IsVal tv p.2.data.toList
  tab : Tab ((cov (parts 4 tk)).length + (cov (parts 4 tv)).length) mem T
  few : T.length ≤ sl
  len : mem.length = 1 + sl * ((cov (parts 4 tk)).length + (cov (parts 4 tv)).length)
theorem TabP.short {tk tv : Ty 4} {sl : Nat} {mem : List UInt8} {L : List (ByteArray × ByteArray)} {T : List (List UInt8)} (h : TabP tk tv sl mem L T) : mem.length ≤ 1025 := by
  have h1 := h.sl16; have h2 := h.kk.covl; have h3 := h.kk.sz32; have h4 := h.kv.covl; have h5 := h.kv.sz32
  have := Nat.mul_le_mul h1 (show (cov (parts 4 tk)).length + (cov (parts 4 tv)).length ≤ 64 by omega)
  rw [h.len]; omega
theorem mapDo_sub {sl a : Nat} {k v : ByteArray} {L : List (ByteArray × ByteArray)} (h2 : a ≠ 2) : ∀ p ∈ (mapDo sl a k v L).2, p ∈ L := by
  intro p hp
  unfold mapDo at hp
  by_cases h1 : a = 1
  · rw [if_pos h1] at hp; exact hp
  rw [if_neg h1, if_neg h2] at hp
  by_cases h3 : a = 3
  · rw [if_pos h3] at hp
    cases hq : atK L k with
    | none => rw [hq] at hp; exact hp
    | some i => rw [hq] at hp; exact (List.eraseIdx_sublist L _).mem hp
  rw [if_neg h3] at hp
  by_cases h4 : a = 4
  · rw [if_pos h4] at hp; exact hp
  rw [if_neg h4] at hp
  by_cases h5 : a = 5
  · rw [if_pos h5] at hp; simp at hp
  · rw [if_neg h5] at hp; exact hp
/-- One run of a table's program, key and value right behind the table. -/
theorem tab_run {tk tv : Ty 4} {sl : Nat} {mem : List UInt8} {L : List (ByteArray × ByteArray)} {T : List (List UInt8)} (h : TabP tk tv sl mem L T) (k v : ByteArray) (bk bv : List UInt8) (t : Nat) (hbk : bk.length = (sz 4 tk).1) (hbv : bv.length = (sz 4 tv).1)
    (hk : t = 1 ∨ t = 2 ∨ t = 3 → IsVal tk k.data.toList ∧ bytesOf bk 0 (cov (parts 4 tk)) = encV tk k.data.toList) (hv : t = 2 → IsVal tv v.data.toList ∧ bytesOf bv 0 (cov (parts 4 tv)) = encV tv v.data.toList) :
    ∃ (m' : List UInt8) (res n : Nat) (T' : List (List UInt8)), go (prog (cov (parts 4 tk)) (cov (parts 4 tv)) sl).resolve 10000 0 (start (mem ++ bk ++ bv) t mem.length (mem.length + bk.length)) = ⟨m', res, (mapDo sl t k v L).1, n, 0⟩ ∧ m'.length = mem.length + bk.length + bv.length ∧ TabP tk tv sl (m'.take mem.length) (mapDo sl t k v L).2 T' ∧ (t = 4 → res = L.length) ∧
      ((t = 1 ∧ (mapDo sl t k v L).1 = 0) → ∃ i v0, atK L k = some i ∧ L[i]? = some (k, v0) ∧ tellAll (parts 4 tv) (m'.drop (mem.length + bk.length)) = v0.data.toList) ∧
      (m'.drop mem.length).take bk.length = bk ∧ (¬ (t = 1 ∧ (mapDo sl t k v L).1 = 0) → m'.drop (mem.length + bk.length) = bv) := by
  have hks := h.kk.sz32
  have hvs := h.kv.sz32
  have hlen := h.len
  have few := h.few
  generalize hR : mem.length = R at *
  have l2 : (mem ++ bk ++ bv).length = R + bk.length + bv.length := by simp [hR]; omega
  have g1 : ∀ x, x < R → (mem ++ bk ++ bv)[x]? = mem[x]? := fun x hx => by rw [List.append_assoc, List.getElem?_append_left (by omega)]
  have g2 : ∀ x, x < bk.length → (mem ++ bk ++ bv)[R + x]? = bk[x]? := fun x hx => by
    rw [List.append_assoc, List.getElem?_append_right (by omega), hR, Nat.add_sub_cancel_left, List.getElem?_append_left hx]
  have g3 : ∀ x, (mem ++ bk ++ bv)[R + bk.length + x]? = bv[x]? := fun x => by
    rw [List.getElem?_append_right (by simp; omega)]; congr 1; simp; omega
  obtain ⟨m, hm⟩ : ∃ m, mem ++ bk ++ bv = m := ⟨_, rfl⟩
  rw [hm] at l2 g1 g2 g3 ⊢
  have tabm : Tab ((cov (parts 4 tk)).length + (cov (parts 4 tv)).length) m T := h.tab.same (fun x hx => by
    have := Nat.mul_le_mul_right ((cov (parts 4 tk)).length + (cov (parts 4 tv)).length) few
    exact g1 x (by omega))
  have cx : Cx (cov (parts 4 tk)) (cov (parts 4 tv)) sl m R (R + bk.length) T := ⟨by have := h.kk.covl; omega, by have := h.kv.covl; omega, h.kk.pos, h.sl16, few, tabm, by omega, by omega, fun i hi => by have := h.kk.at32 hi; omega, fun i hi => by have := h.kv.at32 hi; omega, h.kv.vinj⟩
  have bK : bytesOf m R (cov (parts 4 tk)) = bytesOf bk 0 (cov (parts 4 tk)) := bytesOf_ext (fun p hp => by rw [Nat.zero_add]; exact g2 p (by have := (cov_bounds h.kk.inc p hp).2; omega))
  have bV : bytesOf m (R + bk.length) (cov (parts 4 tv)) = bytesOf bv 0 (cov (parts 4 tv)) := bytesOf_ext (fun p hp => by rw [Nat.zero_add]; exact g3 p)
  obtain ⟨m', res, T', hd, hl, hs', ht', hf', hc, hfound, hrest⟩ := shop_do2 (pg_of _ _ sl) cx h.sim (key := k) (value := v) t (fun ht => ⟨(hk ht).1, bK.trans (hk ht).2⟩) (fun ht => bV.trans (hv ht).2)
  obtain ⟨n, hgo⟩ := hd
  have hvals : ∀ p ∈ (mapDo sl t k v L).2, IsVal tv p.2.data.toList := by
    by_cases h2 : t = 2
    · exact mapDo_vals (ok := fun x => IsVal tv x.data.toList) sl t k v L (hv h2).1 h.vals
    · exact fun p hp => h.vals p (mapDo_sub h2 p hp)
  refine ⟨m', res, n, T', hgo, by omega, ⟨h.kk, h.kv, h.sl16, hs', hvals, ht'.same (fun x hx => ?_), hf', by rw [List.length_take, hl, l2]; omega⟩, hc, fun hf => ?_, ?_, fun hf => ?_⟩
  · have := Nat.mul_le_mul_right ((cov (parts 4 tk)).length + (cov (parts 4 tv)).length) hf'
    rw [List.getElem?_take, if_pos (by omega)]
  · obtain ⟨i, v0, q1, q2, q3, q4⟩ := hfound hf
    have hv0 := h.vals _ (List.mem_of_getElem? q2)
    refine ⟨i, v0, q1, q2, h.kv.told hv0 (by rw [List.length_drop]; omega) ?_⟩
    rw [← q3]
    refine bytesOf_ext (fun p hp => ?_)
    rw [Nat.zero_add, List.getElem?_drop]
  · apply List.ext_getElem?
    intro x
    rcases Nat.lt_or_ge x bk.length with hx | hx
    · rw [List.getElem?_take, if_pos hx, List.getElem?_drop, ← g2 x hx]
      by_cases hf : t = 1 ∧ (mapDo sl t k v L).1 = 0
      · obtain ⟨i, v0, q1, q2, q3, q4⟩ := hfound hf
        exact q4 (R + x) (fun j hj => by omega)
      · exact hrest hf (R + x) (by omega)
    · rw [List.getElem?_take, if_neg (by omega), List.getElem?_eq_none hx]
  · apply List.ext_getElem?
    intro x
    rw [List.getElem?_drop, hrest hf _ (by omega), g3]
end P
end Go.Proofs.YtghggcehloiemabGreatDoor
namespace Go.Proofs.YtghggcehloiemabGreatDoor
set_option linter.unusedVariables false
namespace P
/-- What the keeper's own map does: a key that is laid again goes to the end. -/
def mustDo (sl a : Nat) (k v : ByteArray) (L : List (ByteArray × ByteArray)) : Nat × List (ByteArray × ByteArray) :=
  if a = 1 then (if (atK L k).isSome then 0 else 1, L)
  else if a = 2 then (match atK L k with | some i => (0, L.eraseIdx i ++ [(k, v)]) | none => if L.length = sl then (2, L) else (0, L ++ [(k, v)]))
  else if a = 3 then (match atK L k with | some i => (0, L.eraseIdx i) | none => (1, L))
  else if a = 4 then (0, L) else if a = 5 then (0, []) else (3, L)
theorem set_perm {α : Type} : ∀ (L : List α) (i : Nat) (x : α), i < L.length → (L.set i x).Perm (x :: L.eraseIdx i)
  | [], i, x, h => by simp at h
  | a :: L, 0, x, h => by simp
  | a :: L, i + 1, x, h => by
    rw [List.set_cons_succ, List.eraseIdx_cons_succ]
    exact ((set_perm L i x (by simpa using h)).cons a).trans (List.Perm.swap x a _)
theorem must_map (sl a : Nat) (k v : ByteArray) (L : List (ByteArray × ByteArray)) (hl : L.length ≤ sl) : (mapDo sl a k v L).1 = (mustDo sl a k v L).1 ∧ (mapDo sl a k v L).2.Perm (mustDo sl a k v L).2 := by
  unfold mapDo mustDo
  by_cases h1 : a = 1
  · rw [if_pos h1, if_pos h1]; exact ⟨rfl, List.Perm.refl _⟩
  rw [if_neg h1, if_neg h1]
  by_cases h2 : a = 2
  · rw [if_pos h2, if_pos h2]
    cases hq : atK L k with
    | none =>
      simp only
      by_cases hf : L.length = sl
      · rw [if_pos (by omega), if_pos hf]; exact ⟨rfl, List.Perm.refl _⟩
      · rw [if_neg (by omega), if_neg hf]; exact ⟨rfl, List.Perm.refl _⟩
    | some i =>
      obtain ⟨v0, hi⟩ := atK_some hq
      have hlt := (List.getElem?_eq_some_iff.1 hi).1
      refine ⟨rfl, (set_perm L i _ hlt).trans ?_⟩
      exact (List.perm_append_singleton _ _).symm
  rw [if_neg h2, if_neg h2]
  by_cases h3 : a = 3
  · rw [if_pos h3, if_pos h3]
    cases hq : atK L k with
    | none => exact ⟨rfl, List.Perm.refl _⟩
    | some i => exact ⟨rfl, List.Perm.refl _⟩
  rw [if_neg h3, if_neg h3]
  exact ⟨rfl, List.Perm.refl _⟩
theorem TabP.perm {tk tv : Ty 4} {sl : Nat} {mem : List UInt8} {L L' : List (ByteArray × ByteArray)} {T : List (List UInt8)} (h : TabP tk tv sl mem L T) (hp : L.Perm L') : TabP tk tv sl mem L' T :=
  ⟨h.kk, h.kv, h.sl16, ⟨h.sim.perm.trans (hp.map _), (hp.map Prod.fst).nodup_iff.1 h.sim.nodup, fun p hq => h.sim.valid p (hp.symm.subset hq), h.sim.klen, h.sim.inj⟩, fun p hq => h.vals p (hp.symm.subset hq), h.tab, h.few, h.len⟩
theorem TabP.lens {tk tv : Ty 4} {sl : Nat} {mem : List UInt8} {L : List (ByteArray × ByteArray)} {T : List (List UInt8)} (h : TabP tk tv sl mem L T) : L.length ≤ sl := by
  have := h.sim.len; have := h.few; omega
/-- An empty table. -/
theorem tabP_empty {tk tv : Ty 4} {sl : Nat} {mem : List UInt8} (kk : Known tk) (kv : Known tv) (hs : sl ≤ 16) (h0 : mem[0]? = some 0) (hl : mem.length = 1 + sl * ((cov (parts 4 tk)).length + (cov (parts 4 tv)).length)) : TabP tk tv sl mem [] [] :=
  ⟨kk, kv, hs, ⟨by simp, by simp, fun p hp => by simp at hp, fun k hk => kk.encl hk, fun k k' h h' he => by
    have := kk.inj h h' he
    cases k; cases k'; simp only [ByteArray.mk.injEq]; exact Array.toList_inj.1 this⟩, fun p hp => by simp at hp, ⟨by rw [h0]; rfl, fun e t h => by simp at h⟩, by simp, hl⟩
end P
end Go.Proofs.YtghggcehloiemabGreatDoor
