import Derived.Test.YtghggcehloiemaaPrQ
import Derived.Test.YtghggcehloiemaaPrP
namespace Go.Proofs.Ytghggcehloiemaa
open Go.RowKit
set_option linter.unusedVariables false
set_option maxRecDepth 16000
namespace P
/-- What Room and Compile answer. -/
def errOf (lk lv : List UInt8) (slots : Int) : Nat := match tyOf lk, tyOf lv with
  | some _, some _ => if 1 ≤ slots ∧ slots ≤ 16 then 0 else 6
  | _, _ => 1
def roomOf (lk lv : List UInt8) (slots : Int) : Nat := match tyOf lk, tyOf lv with
  | some tk, some tv => if 1 ≤ slots ∧ slots ≤ 16 then 1 + slots.toNat * ((cov (parts 4 tk)).length + (cov (parts 4 tv)).length) else 0
  | _, _ => 0
def progOf (lk lv : List UInt8) (slots : Int) : List UInt8 := match tyOf lk, tyOf lv with
  | some tk, some tv => if 1 ≤ slots ∧ slots ≤ 16 then text (prog (cov (parts 4 tk)) (cov (parts 4 tv)) slots.toNat).resolve else []
  | _, _ => []
theorem small_fine {n : Nat} {x : I} (h : FineI n x) (hn : n ≤ 60000) : Small x := by
  obtain ⟨h1, h2, h3, h4, h5, h6⟩ := h
  exact ⟨by omega, by omega, by omega, (Nat.lt_or_ge x.op 11).elim (fun h => by have := h6 h; omega) (fun h => by have := h5 h; omega)⟩
theorem resolve_small {kp vp : List Nat} {sl : Nat} (hk : ∀ x ∈ kp, x < 32) (hv : ∀ x ∈ vp, x < 32) (hkl : kp.length ≤ 32) (hvl : vp.length ≤ 32) (hsl : sl ≤ 16) : ∀ x ∈ (prog kp vp sl).resolve, Small x :=
  fun x hx => small_fine (resolve_fine hk hv hkl hvl hsl x hx) (by omega)
theorem resolve_code {kp vp : List Nat} {sl : Nat} (hk : ∀ x ∈ kp, x < 32) (hv : ∀ x ∈ vp, x < 32) (hkl : kp.length ≤ 32) (hvl : vp.length ≤ 32) (hsl : sl ≤ 16) : CodeL (prog kp vp sl).resolve := by
  have hl := resolve_len kp vp sl
  refine ⟨by omega, by omega, fun i x hx => ?_, fun x hx => ?_⟩
  · obtain ⟨h1, h2, h3, h4, h5, h6⟩ := resolve_fine hk hv hkl hvl hsl x (List.mem_of_getElem? hx)
    exact ⟨by omega, h3, h4, fun h => by rw [hl]; exact h5 h, fun h => absurd h h2⟩
  · rw [resolve_eq] at hx hl
    obtain ⟨l, hl'⟩ := progZ_last (zOf kp.length vp.length) kp vp sl
    rw [hl'] at hx hl
    rw [List.length_append] at hx
    simp at hx
    rw [← hx]; exact Or.inl rfl
theorem resolve_isCode {kp vp : List Nat} {sl : Nat} (hk : ∀ x ∈ kp, x < 32) (hv : ∀ x ∈ vp, x < 32) (hkl : kp.length ≤ 32) (hvl : vp.length ≤ 32) (hsl : sl ≤ 16) : IsCode (text (prog kp vp sl).resolve) :=
  isCode_text (resolve_code hk hv hkl hvl hsl) (fun x hx => (resolve_small hk hv hkl hvl hsl x hx).k)
end P
theorem MsPost.cases {lk lv : List UInt8} {slots : Int} {w w' : World} {e : Ending} (h : MsPost lk lv slots w e w') :
    (∃ er : Nat, (er = 1 ∨ er = 6) ∧ (P.errOf lk lv slots = er ∧ P.roomOf lk lv slots = 0 ∧ P.progOf lk lv slots = []) ∧ e = .returned (.tuple #[.agg #[.int .i64 0, .int .i64 0, .slice none 0 0, .int .i64 0, .int .i64 0, .slice none 0 0, .slice none 0 0, .slice none 0 0, .int .i64 0], .int .i64 er])) ∨
    (∃ tk tv vk vv kv' vv', P.tyOf lk = some tk ∧ P.tyOf lv = some tv ∧ (1 ≤ slots ∧ slots ≤ 16) ∧ e = .returned (.tuple #[.agg #[.int .i64 (P.sz 4 tk).1, .int .i64 (P.sz 4 tk).2, vk, .int .i64 (P.sz 4 tv).1, .int .i64 (P.sz 4 tv).2, vv, kv', vv', .int .i64 slots], .int .i64 0]) ∧ Sh w' w'.heap.size vk tk ∧ Sh w' w'.heap.size vv tv ∧ Kp w' w'.heap.size kv' (P.cov (P.parts 4 tk)) ∧ Kp w' w'.heap.size vv' (P.cov (P.parts 4 tv))) := by
  obtain ⟨_, h⟩ := h
  unfold P.errOf P.roomOf P.progOf
  cases hk : P.tyOf lk with
  | none =>
    rw [hk] at h
    refine .inl ⟨1, .inl rfl, ?_, ?_⟩
    · cases P.tyOf lv <;> exact ⟨rfl, rfl, rfl⟩
    · cases hv : P.tyOf lv <;> (rw [hv] at h; exact h)
  | some tk =>
    rw [hk] at h
    cases hv : P.tyOf lv with
    | none => rw [hv] at h; exact .inl ⟨1, .inl rfl, ⟨rfl, rfl, rfl⟩, h⟩
    | some tv =>
      rw [hv] at h
      simp only at h ⊢
      by_cases hs : 1 ≤ slots ∧ slots ≤ 16
      · rw [if_pos hs] at h
        obtain ⟨a, b, c, d, h1, h2, h3, h4, h5⟩ := h
        exact .inr ⟨tk, tv, a, b, c, d, rfl, rfl, hs, h1, h2, h3, h4, h5⟩
      · rw [if_neg hs] at h
        rw [if_neg hs, if_neg hs, if_neg hs]
        exact .inl ⟨6, .inr rfl, ⟨rfl, rfl, rfl⟩, h⟩
set_option maxHeartbeats 4000000 in
theorem room_any (sk sv : ByteArray) (slots : Int) (w : World) (hk : sk.size ≤ maxLen) (hv : sv.size ≤ maxLen) :
    Calls Try.prog 47 #[.string sk, .string sv, .int .i64 slots] w fun e w' => e = .returned (.tuple #[.int .i64 (P.roomOf sk.data.toList sv.data.toList slots), .int .i64 (P.errOf sk.data.toList sv.data.toList slots)]) ∧ Below w.heap.size w w' := by
  go_enter Try.func47, Try.ntmps47
  go_wp2_with fail
  refine (measure_any sk sv slots w hk hv).mono ?_
  rintro e w1 hpost
  have hbe := hpost.1
  rcases hpost.cases with ⟨er, her, HT, rfl⟩ | ⟨tk, tv, vk, vv, kv', vv', htk, htv, hsl, rfl, shk, shv, kpk, kpv⟩
  · have HH := hid_m HT
    clear HT hpost
    rcases her with rfl | rfl
    · go_wp2_with fail
      go_ret2
      exact ⟨by rw [HH.out.1, HH.out.2.1]; rfl, hbe.alloc hbe.size _⟩
    · go_wp2_with fail
      go_ret2
      exact ⟨by rw [HH.out.1, HH.out.2.1]; rfl, hbe.alloc hbe.size _⟩
  · have kk := known_of htk
    have kv := known_of htv
    obtain ⟨_, hok⟩ := kpk.own
    obtain ⟨_, hov⟩ := kpv.own
    obtain ⟨gk, ck, hkv, _, _⟩ := hok.form kk.pos
    obtain ⟨gv, cv, hvv, _, _⟩ := hov.form kv.pos
    obtain ⟨_, osk⟩ := shk.own
    obtain ⟨_, osv⟩ := shv.own
    obtain ⟨ak, Nk, c1, rfl⟩ := owns_slice osk
    obtain ⟨av, Nv, c2, rfl⟩ := owns_slice osv
    have lk := kk.covl
    have lv := kv.covl
    have l1 := kk.sz32
    have l2 := kv.sz32
    obtain ⟨sl, rfl⟩ : ∃ sl : Nat, slots = (sl : Int) := ⟨slots.toNat, by omega⟩
    have HE : Hid (P.errOf sk.data.toList sv.data.toList sl = 0 ∧ P.roomOf sk.data.toList sv.data.toList sl = 1 + sl * ((P.cov (P.parts 4 tk)).length + (P.cov (P.parts 4 tv)).length)) := by
      unfold Hid P.errOf P.roomOf; rw [htk, htv]; simp only; rw [if_pos hsl, if_pos hsl]; exact ⟨rfl, rfl⟩
    obtain ⟨nk, hnk⟩ : ∃ n, (P.cov (P.parts 4 tk)).length = n := ⟨_, rfl⟩
    obtain ⟨nv, hnv⟩ : ∃ n, (P.cov (P.parts 4 tv)).length = n := ⟨_, rfl⟩
    rw [hnk] at hkv lk HE
    rw [hnv] at hvv lv HE
    subst hkv
    subst hvv
    have HR := hid_m (plRoom_any gk ck gv cv nk nv sl · (show nk ≤ 32 by omega) (show nv ≤ 32 by omega) (show sl ≤ 16 by omega))
    obtain ⟨z1, hz1⟩ : ∃ z, (P.sz 4 tk).1 = z := ⟨_, rfl⟩
    obtain ⟨z2, hz2⟩ : ∃ z, (P.sz 4 tk).2 = z := ⟨_, rfl⟩
    obtain ⟨z3, hz3⟩ : ∃ z, (P.sz 4 tv).1 = z := ⟨_, rfl⟩
    obtain ⟨z4, hz4⟩ : ∃ z, (P.sz 4 tv).2 = z := ⟨_, rfl⟩
    rw [hz1, hz2, hz3, hz4]
    have HBE := hid_m hbe
    clear hpost hbe kk kv hok hov shk shv kpk kpv osk osv lk lv l1 l2 htk htv hsl hnk hnv hz1 hz2 hz3 hz4
    go_wp2_with fail
    refine (HR.out _).mono ?_
    rintro e w2 ⟨rfl, hb2⟩
    have HF : Hid (Below w.heap.size w w2) := (HBE.out.alloc HBE.out.size _).trans (hb2.mono (by have := HBE.out.size; simp; omega))
    obtain ⟨rm, hrm⟩ : ∃ rm, 1 + sl * (nk + nv) = rm := ⟨_, rfl⟩
    rw [hrm] at HE ⊢
    clear hb2 hrm
    go_wp2_with fail
    go_ret2
    exact ⟨by rw [HE.out.1, HE.out.2]; rfl, HF.out⟩
set_option maxHeartbeats 4000000 in
theorem compile_any (sk sv : ByteArray) (slots : Int) (w : World) (hk : sk.size ≤ maxLen) (hv : sv.size ≤ maxLen) :
    Calls Try.prog 48 #[.string sk, .string sv, .int .i64 slots] w fun e w' => e = .returned (.tuple #[.string ⟨(P.progOf sk.data.toList sv.data.toList slots).toArray⟩, .int .i64 (P.errOf sk.data.toList sv.data.toList slots)]) ∧ Below w.heap.size w w' := by
  go_enter Try.func48, Try.ntmps48
  go_wp2_with fail
  refine (measure_any sk sv slots w hk hv).mono ?_
  rintro e w1 hpost
  have hbe := hpost.1
  rcases hpost.cases with ⟨er, her, HT, rfl⟩ | ⟨tk, tv, vk, vv, kv', vv', htk, htv, hsl, rfl, shk, shv, kpk, kpv⟩
  · have HH := hid_m HT
    clear HT hpost
    rcases her with rfl | rfl
    · go_wp2_with fail
      go_ret2
      exact ⟨by rw [HH.out.1, HH.out.2.2]; rfl, hbe.alloc hbe.size _⟩
    · go_wp2_with fail
      go_ret2
      exact ⟨by rw [HH.out.1, HH.out.2.2]; rfl, hbe.alloc hbe.size _⟩
  · have kk := known_of htk
    have kv := known_of htv
    obtain ⟨_, hok⟩ := kpk.own
    obtain ⟨_, hov⟩ := kpv.own
    obtain ⟨gk, ck, hkv, _, _⟩ := hok.form kk.pos
    obtain ⟨gv, cv, hvv, _, _⟩ := hov.form kv.pos
    obtain ⟨_, osk⟩ := shk.own
    obtain ⟨_, osv⟩ := shv.own
    obtain ⟨ak, Nk, c1, rfl⟩ := owns_slice osk
    obtain ⟨av, Nv, c2, rfl⟩ := owns_slice osv
    have lk := kk.covl
    have lv := kv.covl
    have l1 := kk.sz32
    have l2 := kv.sz32
    obtain ⟨sl, rfl⟩ : ∃ sl : Nat, slots = (sl : Int) := ⟨slots.toNat, by omega⟩
    have HE : Hid (P.errOf sk.data.toList sv.data.toList sl = 0 ∧ P.progOf sk.data.toList sv.data.toList sl = P.text (P.prog (P.cov (P.parts 4 tk)) (P.cov (P.parts 4 tv)) sl).resolve) := by
      unfold Hid P.errOf P.progOf; rw [htk, htv]; simp only; rw [if_pos hsl, if_pos hsl]; exact ⟨rfl, rfl⟩
    have HC : Hid (∀ w2, Below w1.heap.size w1 w2 → Calls Try.prog 69 #[.agg #[kv', vv', .int .i64 sl]] w2 fun e w' => e = .returned (.string ⟨(P.text (P.prog (P.cov (P.parts 4 tk)) (P.cov (P.parts 4 tv)) sl).resolve).toArray⟩) ∧ Below w2.heap.size w2 w') := fun w2 hb2 =>
      pcode_any _ _ (kpk.next hb2) (kpv.next hb2) kk.pos kv.pos (by omega) (by omega) (by rw [P.prog_len]; omega) (by rw [P.prog_len]; omega) (P.prog_labels kk.cov32 kv.cov32 (by omega) (by omega) (by omega)) (P.resolve_small kk.cov32 kv.cov32 (by omega) (by omega) (by omega))
    obtain ⟨tx, htx⟩ : ∃ tx, (P.text (P.prog (P.cov (P.parts 4 tk)) (P.cov (P.parts 4 tv)) sl).resolve) = tx := ⟨_, rfl⟩
    rw [htx] at HC HE
    obtain ⟨nk, hnk⟩ : ∃ n, (P.cov (P.parts 4 tk)).length = n := ⟨_, rfl⟩
    obtain ⟨nv, hnv⟩ : ∃ n, (P.cov (P.parts 4 tv)).length = n := ⟨_, rfl⟩
    rw [hnk] at hkv lk
    rw [hnv] at hvv lv
    subst hkv
    subst hvv
    obtain ⟨z1, hz1⟩ : ∃ z, (P.sz 4 tk).1 = z := ⟨_, rfl⟩
    obtain ⟨z2, hz2⟩ : ∃ z, (P.sz 4 tk).2 = z := ⟨_, rfl⟩
    obtain ⟨z3, hz3⟩ : ∃ z, (P.sz 4 tv).1 = z := ⟨_, rfl⟩
    obtain ⟨z4, hz4⟩ : ∃ z, (P.sz 4 tv).2 = z := ⟨_, rfl⟩
    rw [hz1, hz2, hz3, hz4]
    have HBE := hid_m hbe
    clear htx hpost hbe kk kv hok hov shk shv kpk kpv osk osv lk lv l1 l2 htk htv hsl hnk hnv hz1 hz2 hz3 hz4
    go_wp2_with fail
    refine (HC.out _ ((Below.refl _ _).alloc (Nat.le_refl _) _)).mono ?_
    rintro e w2 ⟨rfl, hb2⟩
    have HF : Hid (Below w.heap.size w w2) := (HBE.out.alloc HBE.out.size _).trans (hb2.mono (by have := HBE.out.size; simp; omega))
    clear hb2
    go_wp2_with fail
    go_ret2
    exact ⟨by rw [HE.out.1, HE.out.2]; rfl, HF.out⟩
end Go.Proofs.Ytghggcehloiemaa
