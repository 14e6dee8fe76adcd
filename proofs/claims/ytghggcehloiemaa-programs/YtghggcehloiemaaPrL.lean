import Derived.Test.YtghggcehloiemaaPrN
import Derived.Test.YtghggcehloiemaaRefSize
import Derived.Test.YtghggcehloiemaaEquiv2
import Derived.Test.YtghggcehloiemaaMcV
namespace Go.Proofs.Ytghggcehloiemaa
open Go.RowKit
set_option linter.unusedVariables false
set_option maxRecDepth 16000
theorem p_ty_eq (l : List UInt8) : P.tyOf l = P.rtyOf l := by
  unfold P.tyOf P.rtyOf
  by_cases h : 80 < l.length
  · rw [if_pos h, if_pos h]
  · rw [if_neg h, if_neg h]; exact P.rd_rp l
set_option maxHeartbeats 1000000 in
theorem rRefused_any (sk sv : ByteArray) (slots : Int) (w : World) (hk : sk.size ≤ maxLen) (hv : sv.size ≤ maxLen) :
    Calls Try.prog 49 #[.string sk, .string sv, .int .i64 slots] w fun e w' => e = .returned (.int .i64 (P.errOf sk.data.toList sv.data.toList slots)) ∧ Below w.heap.size w w' := by
  have HE : Hid (P.errOf sk.data.toList sv.data.toList slots = match P.rtyOf sk.data.toList, P.rtyOf sv.data.toList with
    | some _, some _ => if 1 ≤ slots ∧ slots ≤ 16 then 0 else 6
    | _, _ => 1) := by
    unfold Hid P.errOf; rw [p_ty_eq, p_ty_eq]
    cases P.rtyOf sk.data.toList <;> cases P.rtyOf sv.data.toList <;> rfl
  have hp : ∀ (s : ByteArray) (w : World), s.size ≤ maxLen → Calls Try.prog 30 #[.string s] w fun e w' => ∃ a1 a2 a3 x n k y m j, e = .returned (.tuple #[.agg #[.int .u8 a1, .int .i64 a2, .int .i64 a3, .slice x n k, .slice y m j], .bool (P.rtyOf s.data.toList).isSome]) ∧ Below w.heap.size w w' := by
    intro s w hs
    refine (rParse_any s w hs).mono ?_
    rintro e w1 ⟨hpost, hbe⟩
    cases ht : P.rtyOf s.data.toList with
    | none =>
      rw [ht] at hpost
      obtain ⟨v, rfl, a1, a2, a3, x', n1, k1, y, m1, j1, rfl⟩ := hpost
      exact ⟨_, _, _, _, _, _, _, _, _, rfl, hbe⟩
    | some t =>
      rw [ht] at hpost
      obtain ⟨v, S, rfl, hT, hS⟩ := hpost
      obtain ⟨a1, x', n1, k1, y, m1, j1, rfl⟩ := hT.is
      exact ⟨_, _, _, _, _, _, _, _, _, rfl, hbe⟩
  have HP := hid_m hp
  clear hp
  go_enter Try.func49, Try.ntmps49
  go_wp2_with fail
  refine (HP.out sk _ hk).mono ?_
  rintro e w1 ⟨a1, a2, a3, x1, n1, k1, y1, m1, j1, rfl, hb1⟩
  obtain ⟨ok, hok⟩ : ∃ b, (P.rtyOf sk.data.toList).isSome = b := ⟨_, rfl⟩
  rw [hok]
  have HOK := hid_m hok
  have B1 := hid_m hb1
  clear hok hb1
  go_wp2_with fail
  refine (HP.out sv _ hv).mono ?_
  rintro e w2 ⟨b1, b2, b3, x2, n2, k2, y2, m2, j2, rfl, hb2⟩
  obtain ⟨ov, hov⟩ : ∃ b, (P.rtyOf sv.data.toList).isSome = b := ⟨_, rfl⟩
  rw [hov]
  have HOV := hid_m hov
  have B2 := hid_m (((B1.out.alloc B1.out.size _).trans (hb2.mono (by have := B1.out.size; simp; omega))).alloc (by have := B1.out.size; have := hb2.size; simp at this; omega) (.cells #[.int .u8 b1, .int .i64 b2, .int .i64 b3, .slice x2 n2 k2, .slice y2 m2 j2] 60))
  clear hov hb2
  cases ok with
  | false =>
    have HF : Hid (P.errOf sk.data.toList sv.data.toList slots = 1) := by
      unfold Hid; rw [HE.out]
      cases hk' : P.rtyOf sk.data.toList with
      | none => cases P.rtyOf sv.data.toList <;> rfl
      | some t => have := HOK.out; rw [hk'] at this; cases this
    go_wp2_with fail
    go_ret
    exact ⟨by rw [HF.out]; rfl, B2.out⟩
  | true =>
    obtain ⟨tk, htk⟩ := Option.isSome_iff_exists.1 HOK.out
    cases ov with
    | false =>
      have HF : Hid (P.errOf sk.data.toList sv.data.toList slots = 1) := by
        unfold Hid; rw [HE.out, htk]
        cases hv' : P.rtyOf sv.data.toList with
        | none => rfl
        | some t => have := HOV.out; rw [hv'] at this; cases this
      clear htk
      go_wp2_with fail
      go_ret
      exact ⟨by rw [HF.out]; rfl, B2.out⟩
    | true =>
      obtain ⟨tv, htv⟩ := Option.isSome_iff_exists.1 HOV.out
      have HF : Hid (P.errOf sk.data.toList sv.data.toList slots = if 1 ≤ slots ∧ slots ≤ 16 then 0 else 6) := by unfold Hid; rw [HE.out, htk, htv]
      clear htk htv
      by_cases h1 : slots < 1
      · have HG : Hid (P.errOf sk.data.toList sv.data.toList slots = 6) := by unfold Hid; rw [HF.out, if_neg (by omega)]
        go_wp2_with fail
        go_ret
        exact ⟨by rw [HG.out]; rfl, B2.out⟩
      · by_cases h2 : 16 < slots
        · have HG : Hid (P.errOf sk.data.toList sv.data.toList slots = 6) := by unfold Hid; rw [HF.out, if_neg (by omega)]
          go_wp2_with fail
          go_ret
          exact ⟨by rw [HG.out]; rfl, B2.out⟩
        · have HG : Hid (P.errOf sk.data.toList sv.data.toList slots = 0) := by unfold Hid; rw [HF.out, if_pos (by omega)]
          go_wp2_with fail
          go_ret
          exact ⟨by rw [HG.out]; rfl, B2.out⟩
set_option maxHeartbeats 400000 in
theorem p_num_any (n : Int) (w : World) : Calls Try.prog 14 #[.int .i64 n] w fun e w' => e = .returned (.int .i64 n) ∧ w' = w := by
  go_enter Try.func14, Try.ntmps14
  go_wp2
  go_ret
  exact ⟨by simp, rfl⟩
namespace P
theorem room_ok {lk lv : List UInt8} {slots : Int} (h : errOf lk lv slots = 0) : ∃ tk tv : Ty 4, tyOf lk = some tk ∧ tyOf lv = some tv ∧ 1 ≤ slots ∧ slots ≤ 16 ∧ (rsizeOf lk).1 = (sz 4 tk).1 ∧ (rsizeOf lv).1 = (sz 4 tv).1 ∧ roomOf lk lv slots = 1 + slots.toNat * ((cov (parts 4 tk)).length + (cov (parts 4 tv)).length) ∧ progOf lk lv slots = text (prog (cov (parts 4 tk)) (cov (parts 4 tv)) slots.toNat).resolve := by
  unfold errOf at h
  cases hk : tyOf lk with
  | none => rw [hk] at h; exfalso; cases hv : tyOf lv <;> (rw [hv] at h; cases h)
  | some tk =>
    cases hv : tyOf lv with
    | none => rw [hk, hv] at h; cases h
    | some tv =>
      rw [hk, hv] at h
      simp only at h
      by_cases hs : 1 ≤ slots ∧ slots ≤ 16
      · refine ⟨tk, tv, rfl, rfl, hs.1, hs.2, by unfold rsizeOf; rw [← p_ty_eq, hk], by unfold rsizeOf; rw [← p_ty_eq, hv], ?_, ?_⟩
        · unfold roomOf; rw [hk, hv]; simp only; rw [if_pos hs]
        · unfold progOf; rw [hk, hv]; simp only; rw [if_pos hs]
      · rw [if_neg hs] at h; cases h
theorem room_no {lk lv : List UInt8} {slots : Int} (h : errOf lk lv slots ≠ 0) : roomOf lk lv slots = 0 ∧ progOf lk lv slots = [] ∧ (errOf lk lv slots = 1 ∨ errOf lk lv slots = 6) := by
  unfold errOf at h ⊢
  unfold roomOf progOf
  cases hk : tyOf lk with
  | none => cases hv : tyOf lv <;> exact ⟨rfl, rfl, Or.inl rfl⟩
  | some tk =>
    cases hv : tyOf lv with
    | none => exact ⟨rfl, rfl, Or.inl rfl⟩
    | some tv =>
      rw [hk, hv] at h
      simp only at h ⊢
      by_cases hs : 1 ≤ slots ∧ slots ≤ 16
      · rw [if_pos hs] at h; exact absurd rfl h
      · rw [if_neg hs, if_neg hs, if_neg hs]; exact ⟨rfl, rfl, Or.inr rfl⟩
end P
theorem prog_code {lk lv : List UInt8} {slots : Int} (h : P.errOf lk lv slots = 0) : P.IsCode (P.progOf lk lv slots) := by
  obtain ⟨tk, tv, h1, h2, h3, h4, h5, h6, h7, h8⟩ := P.room_ok h
  have kk := known_of h1
  have kv := known_of h2
  rw [h8]
  have := kk.covl; have := kk.sz32; have := kv.covl; have := kv.sz32
  exact P.resolve_isCode kk.cov32 kv.cov32 (by omega) (by omega) (by omega)
theorem prog_len {lk lv : List UInt8} {slots : Int} (h : P.errOf lk lv slots = 0) : (P.progOf lk lv slots).length ≤ 4000 := by
  have := (prog_code h).few
  have := (prog_code h).five
  omega
theorem room_most {lk lv : List UInt8} {slots : Int} (h : P.errOf lk lv slots = 0) : 1 ≤ slots ∧ slots ≤ 16 ∧ (P.rsizeOf lk).1 ≤ 32 ∧ (P.rsizeOf lv).1 ≤ 32 ∧ (P.roomOf lk lv slots : Int) ≤ slots * ((P.rsizeOf lk).1 + (P.rsizeOf lv).1 + 4) := by
  obtain ⟨tk, tv, h1, h2, h3, h4, h5, h6, h7, h8⟩ := P.room_ok h
  have kk := known_of h1
  have kv := known_of h2
  have a1 := kk.covl; have a2 := kk.sz32; have a3 := kv.covl; have a4 := kv.sz32
  rw [h5, h6, h7]
  refine ⟨h3, h4, a2, a4, ?_⟩
  obtain ⟨sl, rfl⟩ : ∃ sl : Nat, slots = (sl : Int) := ⟨slots.toNat, by omega⟩
  rw [show (sl : Int).toNat = sl from rfl]
  have m1 : sl * ((P.cov (P.parts 4 tk)).length + (P.cov (P.parts 4 tv)).length) ≤ sl * ((P.sz 4 tk).1 + (P.sz 4 tv).1) := Nat.mul_le_mul_left _ (by omega)
  have m2 : sl * ((P.sz 4 tk).1 + (P.sz 4 tv).1 + 4) = sl * ((P.sz 4 tk).1 + (P.sz 4 tv).1) + sl * 4 := Nat.mul_add _ _ _
  have m3 : ((sl * ((P.sz 4 tk).1 + (P.sz 4 tv).1 + 4) : Nat) : Int) = (sl : Int) * (((P.sz 4 tk).1 : Int) + ((P.sz 4 tv).1 : Int) + 4) := by simp
  omega
end Go.Proofs.Ytghggcehloiemaa
