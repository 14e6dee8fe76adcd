import Derived.Test.YtghggcehloiemabRefTopAll
import Derived.Test.YtghggcehloiemabPrNAll
import Derived.Test.YtghggcehloiemabEquivAll
import Derived.Test.YtghggcehloiemabMcRAll
import Derived.Test.YtghggcehloiemabMdF
import Derived.Test.YtghggcehloiemabLayEqAll
namespace Go.Proofs.Ytghggcehloiemab
open Go.RowKit
set_option linter.unusedVariables false
set_option maxRecDepth 16000

namespace P
def rsizeOf (l : List UInt8) : Nat × Nat × Nat := match rtyOf l with
  | some t => ((sz 4 t).1, (sz 4 t).2, 0)
  | none => (0, 0, 1)
end P

set_option maxHeartbeats 1000000 in
theorem rSize_any (s : ByteArray) (w : World) (hs : s.size ≤ maxLen) :
    Calls Try.prog 21 #[.string s] w fun e w' => e = .returned (.tuple #[.int .i64 (P.rsizeOf s.data.toList).1, .int .i64 (P.rsizeOf s.data.toList).2.1, .int .i64 (P.rsizeOf s.data.toList).2.2]) ∧ Below w.heap.size w w' := by
  go_enter Try.func21, Try.ntmps21
  go_wp2_with fail
  refine (rParse_any s w hs).mono ?_
  rintro e w1 ⟨hpost, hbe⟩
  cases ht : P.rtyOf s.data.toList with
  | none =>
    rw [ht] at hpost
    obtain ⟨v, rfl, a1, a2, a3, x', n1, k1, y, m1, j1, rfl⟩ := hpost
    have HT : Hid (P.rsizeOf s.data.toList = (0, 0, 1)) := by unfold Hid P.rsizeOf; rw [ht]
    clear ht
    go_wp2_with fail
    go_ret3
    exact ⟨by rw [HT.out]; rfl, hbe.alloc hbe.size _⟩
  | some t =>
    rw [ht] at hpost
    obtain ⟨v, S, rfl, hT, hS⟩ := hpost
    obtain ⟨a1, x', n1, k1, y, m1, j1, rfl⟩ := hT.is
    obtain ⟨fs, hfs⟩ : ∃ fs, (P.sz 4 t).1 = fs := ⟨_, rfl⟩
    obtain ⟨fp, hfp⟩ : ∃ fp, (P.sz 4 t).2 = fp := ⟨_, rfl⟩
    have HT : Hid (P.rsizeOf s.data.toList = (fs, fp, 0)) := by unfold Hid P.rsizeOf; rw [ht, ← hfs, ← hfp]
    rw [hfs, hfp]
    clear ht hT hfs hfp hS
    go_wp2_with fail
    go_quiet (fail)
    go_wp2_with fail
    go_ret3
    exact ⟨by rw [HT.out]; rfl, below_drewN (hbe.alloc hbe.size _) _⟩
end Go.Proofs.Ytghggcehloiemab
namespace Go.Proofs.Ytghggcehloiemab
open Go.RowKit
set_option linter.unusedVariables false
set_option maxRecDepth 16000
theorem p_ty_eq (l : List UInt8) : P.tyOf l = P.rtyOf l := by
  unfold P.tyOf P.rtyOf
  by_cases h : 80 < l.length
  · rw [if_pos h, if_pos h]
  · rw [if_neg h, if_neg h]; exact P.rd_rp l
set_option maxHeartbeats 1000000 in
theorem rRefused_any (sk sv : ByteArray) (slots : Int) (w : World) (hk : sk.size ≤ maxLen) (hv : sv.size ≤ maxLen) :
    Calls Try.prog 8 #[.string sk, .string sv, .int .i64 slots] w fun e w' => e = .returned (.int .i64 (P.errOf sk.data.toList sv.data.toList slots)) ∧ Below w.heap.size w w' := by
  have HE : Hid (P.errOf sk.data.toList sv.data.toList slots = match P.rtyOf sk.data.toList, P.rtyOf sv.data.toList with
    | some _, some _ => if 1 ≤ slots ∧ slots ≤ 16 then 0 else 6
    | _, _ => 1) := by
    unfold Hid P.errOf; rw [p_ty_eq, p_ty_eq]
    cases P.rtyOf sk.data.toList <;> cases P.rtyOf sv.data.toList <;> rfl
  have hp : ∀ (s : ByteArray) (w : World), s.size ≤ maxLen → Calls Try.prog 9 #[.string s] w fun e w' => ∃ a1 a2 a3 x n k y m j, e = .returned (.tuple #[.agg #[.int .u8 a1, .int .i64 a2, .int .i64 a3, .slice x n k, .slice y m j], .bool (P.rtyOf s.data.toList).isSome]) ∧ Below w.heap.size w w' := by
    intro s w hs
    refine (rParse_any s w hs).mono ?_
    rintro e w1 ⟨hpost, hbe⟩
    cases ht : P.rtyOf s.data.toList with
    | none =>
      rw [ht] at hpost
      obtain ⟨v, rfl, a1, a2, a3, x', n1, k1, y, m1, j1, rfl⟩ := hpost
      exact ⟨_, _, _, _, _, _, _, _, _, rfl, hbe⟩
    | some t =>
      rw [ht] at hpost
      obtain ⟨v, S, rfl, hT, hS⟩ := hpost
      obtain ⟨a1, x', n1, k1, y, m1, j1, rfl⟩ := hT.is
      exact ⟨_, _, _, _, _, _, _, _, _, rfl, hbe⟩
  have HP := hid_m hp
  clear hp
  go_enter Try.func8, Try.ntmps8
  go_wp2_with fail
  refine (HP.out sk _ hk).mono ?_
  rintro e w1 ⟨a1, a2, a3, x1, n1, k1, y1, m1, j1, rfl, hb1⟩
  obtain ⟨ok, hok⟩ : ∃ b, (P.rtyOf sk.data.toList).isSome = b := ⟨_, rfl⟩
  rw [hok]
  have HOK := hid_m hok
  have B1 := hid_m hb1
  clear hok hb1
  go_wp2_with fail
  refine (HP.out sv _ hv).mono ?_
  rintro e w2 ⟨b1, b2, b3, x2, n2, k2, y2, m2, j2, rfl, hb2⟩
  obtain ⟨ov, hov⟩ : ∃ b, (P.rtyOf sv.data.toList).isSome = b := ⟨_, rfl⟩
  rw [hov]
  have HOV := hid_m hov
  have B2 := hid_m (((B1.out.alloc B1.out.size _).trans (hb2.mono (by have := B1.out.size; simp; omega))).alloc (by have := B1.out.size; have := hb2.size; simp at this; omega) (.cells #[.int .u8 b1, .int .i64 b2, .int .i64 b3, .slice x2 n2 k2, .slice y2 m2 j2] 33))
  clear hov hb2
  cases ok with
  | false =>
    have HF : Hid (P.errOf sk.data.toList sv.data.toList slots = 1) := by
      unfold Hid; rw [HE.out]
      cases hk' : P.rtyOf sk.data.toList with
      | none => cases P.rtyOf sv.data.toList <;> rfl
      | some t => have := HOK.out; rw [hk'] at this; cases this
    go_wp2_with fail
    go_ret
    exact ⟨by rw [HF.out]; rfl, B2.out⟩
  | true =>
    obtain ⟨tk, htk⟩ := Option.isSome_iff_exists.1 HOK.out
    cases ov with
    | false =>
      have HF : Hid (P.errOf sk.data.toList sv.data.toList slots = 1) := by
        unfold Hid; rw [HE.out, htk]
        cases hv' : P.rtyOf sv.data.toList with
        | none => rfl
        | some t => have := HOV.out; rw [hv'] at this; cases this
      clear htk
      go_wp2_with fail
      go_ret
      exact ⟨by rw [HF.out]; rfl, B2.out⟩
    | true =>
      obtain ⟨tv, htv⟩ := Option.isSome_iff_exists.1 HOV.out
      have HF : Hid (P.errOf sk.data.toList sv.data.toList slots = if 1 ≤ slots ∧ slots ≤ 16 then 0 else 6) := by unfold Hid; rw [HE.out, htk, htv]
      clear htk htv
      by_cases h1 : slots < 1
      · have HG : Hid (P.errOf sk.data.toList sv.data.toList slots = 6) := by unfold Hid; rw [HF.out, if_neg (by omega)]
        go_wp2_with fail
        go_ret
        exact ⟨by rw [HG.out]; rfl, B2.out⟩
      · by_cases h2 : 16 < slots
        · have HG : Hid (P.errOf sk.data.toList sv.data.toList slots = 6) := by unfold Hid; rw [HF.out, if_neg (by omega)]
          go_wp2_with fail
          go_ret
          exact ⟨by rw [HG.out]; rfl, B2.out⟩
        · have HG : Hid (P.errOf sk.data.toList sv.data.toList slots = 0) := by unfold Hid; rw [HF.out, if_pos (by omega)]
          go_wp2_with fail
          go_ret
          exact ⟨by rw [HG.out]; rfl, B2.out⟩
set_option maxHeartbeats 400000 in
theorem p_num_any (n : Int) (w : World) : Calls Try.prog 20 #[.int .i64 n] w fun e w' => e = .returned (.int .i64 n) ∧ w' = w := by
  go_enter Try.func20, Try.ntmps20
  go_wp2
  go_ret
  exact ⟨by simp, rfl⟩
namespace P
theorem room_ok {lk lv : List UInt8} {slots : Int} (h : errOf lk lv slots = 0) : ∃ tk tv : Ty 4, tyOf lk = some tk ∧ tyOf lv = some tv ∧ 1 ≤ slots ∧ slots ≤ 16 ∧ (rsizeOf lk).1 = (sz 4 tk).1 ∧ (rsizeOf lv).1 = (sz 4 tv).1 ∧ roomOf lk lv slots = 1 + slots.toNat * ((cov (parts 4 tk)).length + (cov (parts 4 tv)).length) ∧ progOf lk lv slots = text (prog (cov (parts 4 tk)) (cov (parts 4 tv)) slots.toNat).resolve := by
  unfold errOf at h
  cases hk : tyOf lk with
  | none => rw [hk] at h; exfalso; cases hv : tyOf lv <;> (rw [hv] at h; cases h)
  | some tk =>
    cases hv : tyOf lv with
    | none => rw [hk, hv] at h; cases h
    | some tv =>
      rw [hk, hv] at h
      simp only at h
      by_cases hs : 1 ≤ slots ∧ slots ≤ 16
      · refine ⟨tk, tv, rfl, rfl, hs.1, hs.2, by unfold rsizeOf; rw [← p_ty_eq, hk], by unfold rsizeOf; rw [← p_ty_eq, hv], ?_, ?_⟩
        · unfold roomOf; rw [hk, hv]; simp only; rw [if_pos hs]
        · unfold progOf; rw [hk, hv]; simp only; rw [if_pos hs]
      · rw [if_neg hs] at h; cases h
theorem room_no {lk lv : List UInt8} {slots : Int} (h : errOf lk lv slots ≠ 0) : roomOf lk lv slots = 0 ∧ progOf lk lv slots = [] ∧ (errOf lk lv slots = 1 ∨ errOf lk lv slots = 6) := by
  unfold errOf at h ⊢
  unfold roomOf progOf
  cases hk : tyOf lk with
  | none => cases hv : tyOf lv <;> exact ⟨rfl, rfl, Or.inl rfl⟩
  | some tk =>
    cases hv : tyOf lv with
    | none => exact ⟨rfl, rfl, Or.inl rfl⟩
    | some tv =>
      rw [hk, hv] at h
      simp only at h ⊢
      by_cases hs : 1 ≤ slots ∧ slots ≤ 16
      · rw [if_pos hs] at h; exact absurd rfl h
      · rw [if_neg hs, if_neg hs, if_neg hs]; exact ⟨rfl, rfl, Or.inr rfl⟩
end P
theorem prog_code {lk lv : List UInt8} {slots : Int} (h : P.errOf lk lv slots = 0) : P.IsCode (P.progOf lk lv slots) := by
  obtain ⟨tk, tv, h1, h2, h3, h4, h5, h6, h7, h8⟩ := P.room_ok h
  have kk := known_of h1
  have kv := known_of h2
  rw [h8]
  have := kk.covl; have := kk.sz32; have := kv.covl; have := kv.sz32
  exact P.resolve_isCode kk.cov32 kv.cov32 (by omega) (by omega) (by omega)
theorem prog_len {lk lv : List UInt8} {slots : Int} (h : P.errOf lk lv slots = 0) : (P.progOf lk lv slots).length ≤ 4000 := by
  have := (prog_code h).few
  have := (prog_code h).five
  omega
theorem room_most {lk lv : List UInt8} {slots : Int} (h : P.errOf lk lv slots = 0) : 1 ≤ slots ∧ slots ≤ 16 ∧ (P.rsizeOf lk).1 ≤ 32 ∧ (P.rsizeOf lv).1 ≤ 32 ∧ (P.roomOf lk lv slots : Int) ≤ slots * ((P.rsizeOf lk).1 + (P.rsizeOf lv).1 + 4) := by
  obtain ⟨tk, tv, h1, h2, h3, h4, h5, h6, h7, h8⟩ := P.room_ok h
  have kk := known_of h1
  have kv := known_of h2
  have a1 := kk.covl; have a2 := kk.sz32; have a3 := kv.covl; have a4 := kv.sz32
  rw [h5, h6, h7]
  refine ⟨h3, h4, a2, a4, ?_⟩
  obtain ⟨sl, rfl⟩ : ∃ sl : Nat, slots = (sl : Int) := ⟨slots.toNat, by omega⟩
  rw [show (sl : Int).toNat = sl from rfl]
  have m1 : sl * ((P.cov (P.parts 4 tk)).length + (P.cov (P.parts 4 tv)).length) ≤ sl * ((P.sz 4 tk).1 + (P.sz 4 tv).1) := Nat.mul_le_mul_left _ (by omega)
  have m2 : sl * ((P.sz 4 tk).1 + (P.sz 4 tv).1 + 4) = sl * ((P.sz 4 tk).1 + (P.sz 4 tv).1) + sl * 4 := Nat.mul_add _ _ _
  have m3 : ((sl * ((P.sz 4 tk).1 + (P.sz 4 tv).1 + 4) : Nat) : Int) = (sl : Int) * (((P.sz 4 tk).1 : Int) + ((P.sz 4 tv).1 : Int) + 4) := by simp
  omega
end Go.Proofs.Ytghggcehloiemab
namespace Go.Proofs.Ytghggcehloiemab
open Go.RowKit
set_option linter.unusedVariables false
set_option maxRecDepth 16000
/-- The reference's reading of a value, and the program's. -/
theorem lie_val {t : P.Ty 4} (hs : P.Sm 4 t) (hn : P.Nm 4 t) (s : List UInt8) : (P.lieP 4 t s).isSome = true ↔ P.IsVal t s := by
  have key := P.lay_lie t s 0 hs hn
  constructor
  · intro h
    obtain ⟨L, hL⟩ := Option.isSome_iff_exists.1 h
    rw [hL] at key
    unfold P.IsVal
    cases hl : P.layAll (P.parts 4 t) s (List.replicate (P.sz 4 t).1 0) with
    | none => rw [hl] at key; cases key
    | some y =>
      obtain ⟨l', bs⟩ := y
      cases l' with
      | nil => exact ⟨bs, rfl⟩
      | cons c r => rw [hl] at key; cases key
  · rintro ⟨bs, hb⟩
    rw [hb] at key
    cases hq : P.lieP 4 t s with
    | none => rw [hq] at key; cases key
    | some L => rfl
theorem lie_filled {t : P.Ty 4} (hs : P.Sm 4 t) (hn : P.Nm 4 t) {s : List UInt8} {L : List (Option UInt8)} (h : P.lieP 4 t s = some L) (f : UInt8) : P.layAll (P.parts 4 t) s (List.replicate (P.sz 4 t).1 f) = some ([], P.filled f L) := by
  have key := P.lay_lie t s f hs hn
  rw [h] at key
  cases hl : P.layAll (P.parts 4 t) s (List.replicate (P.sz 4 t).1 f) with
  | none => rw [hl] at key; cases key
  | some y =>
    obtain ⟨l', bs⟩ := y
    cases l' with
    | nil => rw [hl] at key; simp only [Option.map_some, Option.some.injEq] at key; rw [key]; rfl
    | cons c r => rw [hl] at key; cases key
/-- A type that both read. -/
theorem known_r {l : List UInt8} {t : P.Ty 4} (h : P.rtyOf l = some t) : Known t ∧ P.Sm 4 t ∧ P.Nm 4 t := by
  have hrp : P.rp 4 l = some t := by
    unfold P.rtyOf at h
    split at h
    · cases h
    · exact h
  exact ⟨known_of (by rw [p_ty_eq]; exact h), P.rp_sm 4 _ t hrp, P.rp_nm 4 _ t hrp⟩
end Go.Proofs.Ytghggcehloiemab
namespace Go.Proofs.Ytghggcehloiemab
set_option linter.unusedVariables false
def I6 (z : Int) : Prop := -9223372036854775808 ≤ z ∧ z ≤ 9223372036854775807
namespace P
/-- An empty table. -/
theorem shopP_empty {tk tv : Ty 4} {sl : Nat} {mem : List UInt8} (kk : Known tk) (kv : Known tv) (hs : sl ≤ 16) (h0 : mem[0]? = some 0) (hl : mem.length = 1 + sl * ((cov (parts 4 tk)).length + (cov (parts 4 tv)).length) + 160) : ShopP tk tv sl mem [] [] :=
  ⟨kk, kv, hs, ⟨by simp, by simp, fun p hp => by simp at hp, fun k hk => kk.encl hk, fun k k' h h' he => by
    have := kk.inj h h' he
    cases k; cases k'; simp only [ByteArray.mk.injEq]; exact Array.toList_inj.1 this⟩, fun p hp => by simp at hp, ⟨by rw [h0]; rfl, fun e t h => by simp at h⟩, by simp, hl⟩
/-- What a shop's run is, for the machine's own run. -/
theorem shop_runOf {tk tv : Ty 4} {sl : Nat} (kk : Known tk) (kv : Known tv) (hs : sl ≤ 16) (m : List UInt8) (t ka va : Nat) (hm : m.length ≤ 2048) (ht : t ≤ 4294967295) (hka : ka ≤ 4294967295) (hva : va ≤ 4294967295) (hc : IsCode (text (prog (cov (parts 4 tk)) (cov (parts 4 tv)) sl).resolve)) :
    runOf (text (prog (cov (parts 4 tk)) (cov (parts 4 tv)) sl).resolve) m t ka va 10000 = go (prog (cov (parts 4 tk)) (cov (parts 4 tv)) sl).resolve 10000 0 (start m t ka va) := by
  unfold runOf
  have e : ((10000 : Int).toNat) = 10000 := rfl
  rw [if_neg (fun h => h hc), if_neg (by omega), if_neg (fun h => h ⟨⟨by omega, by omega⟩, ⟨by omega, by omega⟩, ⟨by omega, by omega⟩, by decide, by decide⟩), codeOf_text (resolve_small kk.cov32 kv.cov32 (by have := kk.covl; have := kk.sz32; omega) (by have := kv.covl; have := kv.sz32; omega) hs), Int.toNat_natCast, Int.toNat_natCast, Int.toNat_natCast, e]
end P
end Go.Proofs.Ytghggcehloiemab
