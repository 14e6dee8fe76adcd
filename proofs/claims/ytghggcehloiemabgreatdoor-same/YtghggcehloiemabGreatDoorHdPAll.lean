import Derived.Test.YtghggcehloiemabGreatDoorTbPAll
import Derived.Test.YtghggcehloiemabGreatDoorMdCAll
import Derived.Test.YtghggcehloiemabGreatDoorSizeWAll
import Derived.Test.YtghggcehloiemabGreatDoorMcRun3All
import Derived.Test.YtghggcehloiemabGreatDoorBackWAll
import Derived.Test.YtghggcehloiemabGreatDoorPrNAll
namespace Go.Proofs.YtghggcehloiemabGreatDoor
set_option linter.unusedVariables false
namespace P
theorem shape_ty (how k0 k1 k2 k3 : Nat) (h : how ≤ 5) (h0 : k0 ≤ 5) (h1 : k1 ≤ 5) (h2 : k2 ≤ 5) (h3 : k3 ≤ 5) :
    ∃ t, tyOf (joinP how (leafT k0) (leafT k1) (leafT k2) (leafT k3)) = some t ∧ ∀ (c0 c1 c2 c3 : Int) (f : Int), 0 ≤ f ∧ f ≤ 255 → ∃ a, encOf (joinP how (leafT k0) (leafT k1) (leafT k2) (leafT k3)) (joinP how (oneP k0 c0) (oneP k1 c1) (oneP k2 c2) (oneP k3 c3)) f = (a, 0) ∧ layAll (parts 4 t) (joinP how (oneP k0 c0) (oneP k1 c1) (oneP k2 c2) (oneP k3 c3)) (List.replicate (sz 4 t).1 (fillB f)) = some ([], a) := by
  have hok := okS_all how k0 k1 k2 k3 h h0 h1 h2 h3
  have hsk := fun c0 c1 c2 c3 => skim_join how k0 k1 k2 k3 c0 c1 c2 c3
  unfold okS at hok
  generalize joinP how (leafT k0) (leafT k1) (leafT k2) (leafT k3) = lt at hok ⊢
  cases ht : tyOf lt with
  | none => rw [ht] at hok; cases hok
  | some t =>
    rw [ht] at hok
    simp only [Bool.and_eq_true, decide_eq_true_eq] at hok
    obtain ⟨⟨hkey, hoff⟩, hdiv⟩ := hok
    refine ⟨t, rfl, fun c0 c1 c2 c3 f hf => ?_⟩
    have hs := hsk c0 c1 c2 c3
    rw [← hkey] at hs
    obtain ⟨a, ha⟩ := skim_lay (parts 4 t) (joinP how (oneP k0 c0) (oneP k1 c1) (oneP k2 c2) (oneP k3 c3)) (List.replicate (sz 4 t).1 (fillB f)) [] hs
    refine ⟨a, ?_, ha⟩
    unfold encOf; rw [ht]; simp only; rw [ha]; simp only; rw [if_neg (by omega)]
theorem isVal_of {t : Ty 4} (kk : Known t) {v a : List UInt8} {f : UInt8} (h : layAll (parts 4 t) v (List.replicate (sz 4 t).1 f) = some ([], a)) : IsVal t v := by
  apply Classical.byContradiction
  intro hn
  exact kk.none hn f ⟨a, h⟩
theorem prog_runOf {tk tv : Ty 4} {sl : Nat} (kk : Known tk) (kv : Known tv) (hs : sl ≤ 16) (m : List UInt8) (t ka va : Nat) (hm : m.length ≤ 2048) (ht : t ≤ 4294967295) (hka : ka ≤ 4294967295) (hva : va ≤ 4294967295) (hc : IsCode (text (prog (cov (parts 4 tk)) (cov (parts 4 tv)) sl).resolve)) :
    runOf (text (prog (cov (parts 4 tk)) (cov (parts 4 tv)) sl).resolve) m t ka va 10000 = go (prog (cov (parts 4 tk)) (cov (parts 4 tv)) sl).resolve 10000 0 (start m t ka va) := by
  unfold runOf
  have e : ((10000 : Int).toNat) = 10000 := rfl
  rw [if_neg (fun h => h hc), if_neg (by omega), if_neg (fun h => h ⟨⟨by omega, by omega⟩, ⟨by omega, by omega⟩, ⟨by omega, by omega⟩, by decide, by decide⟩), codeOf_text (resolve_small kk.cov32 kv.cov32 (by have := kk.covl; have := kk.sz32; omega) (by have := kv.covl; have := kv.sz32; omega) hs), Int.toNat_natCast, Int.toNat_natCast, Int.toNat_natCast, e]
theorem mustDo_one {sl : Nat} {k v : ByteArray} {L : List (ByteArray × ByteArray)} : (mustDo sl 1 k v L).2 = L := by unfold mustDo; rw [if_pos rfl]
theorem mustDo_four {sl : Nat} {k v : ByteArray} {L : List (ByteArray × ByteArray)} : (mustDo sl 4 k v L).2 = L := by unfold mustDo; rw [if_neg (by decide), if_neg (by decide), if_neg (by decide), if_pos rfl]
theorem cutd (m : ByteArray) (a b : Nat) : (m.extract a b).data.toList = (m.data.toList.drop a).take (b - a) := by
  rw [ByteArray.data_extract, Array.toList_extract]
theorem szd (x : ByteArray) : x.data.toList.length = x.size := by simp
/-- One step of the keeper's, pure. -/
theorem kstep_ok {tk tv : Ty 4} {sl : Nat} {mem : ByteArray} {L : List (ByteArray × ByteArray)} {T : List (List UInt8)} (h : TabP tk tv sl mem.data.toList L T) (k v aB bB : ByteArray) (fk fv : UInt8)
    (hk : layAll (parts 4 tk) k.data.toList (List.replicate (sz 4 tk).1 fk) = some ([], aB.data.toList)) (hv : layAll (parts 4 tv) v.data.toList (List.replicate (sz 4 tv).1 fv) = some ([], bB.data.toList)) (t : Nat) :
    ∃ (om : ByteArray) (res st n : Nat) (L' : List (ByteArray × ByteArray)) (T' : List (List UInt8)), go (prog (cov (parts 4 tk)) (cov (parts 4 tv)) sl).resolve 10000 0 (start (mem ++ aB ++ bB).data.toList t mem.size (mem.size + aB.size)) = ⟨om.data.toList, res, st, n, 0⟩ ∧ (mustDo sl t k v L).1 = st ∧ (mustDo sl t k v L).2 = L' ∧ om.size = (mem ++ aB ++ bB).size ∧ TabP tk tv sl (om.extract 0 mem.size).data.toList L' T' ∧ (t = 4 → res = L'.length) ∧
      ((t = 1 ∧ st = 0) → ∃ i v0, atK L' k = some i ∧ L'[i]? = some (k, v0) ∧ tellAll (parts 4 tv) (om.extract (mem.size + aB.size) om.size).data.toList = v0.data.toList ∧ (om.extract (mem.size + aB.size) om.size).data.toList.length = (sz 4 tv).1) ∧
      (om.extract mem.size (mem.size + aB.size)).toList = aB.toList ∧ (¬ (t = 1 ∧ st = 0) → (om.extract (mem.size + aB.size) om.size).toList = bB.toList) ∧ aB.size ≤ 32 ∧ bB.size ≤ 32 ∧ mem.size ≤ 1025 := by
  have hkv := isVal_of h.kk hk
  have hvv := isVal_of h.kv hv
  obtain ⟨b1, g1, g2, g3⟩ := h.kk.fill hkv fk
  rw [hk] at g1
  cases g1
  obtain ⟨b2, f1, f2, f3⟩ := h.kv.fill hvv fv
  rw [hv] at f1
  cases f1
  have hmm := must_map sl t k v L h.lens
  obtain ⟨m', res, n, T', hgo, hml, hP', hcn, hfd, hka, hnf⟩ := tab_run h k v aB.data.toList bB.data.toList t g2 f2 (fun _ => ⟨hkv, g3⟩) (fun _ => ⟨hvv, f3⟩)
  rw [szd mem, szd aB] at hgo hml hfd hka hnf
  rw [szd bB] at hml
  rw [szd mem] at hP'
  rw [hmm.1] at hgo hfd hnf
  have ems : (mem ++ aB ++ bB).data.toList = mem.data.toList ++ aB.data.toList ++ bB.data.toList := by rw [ByteArray.data_append, Array.toList_append, ByteArray.data_append, Array.toList_append]
  have om : (⟨m'.toArray⟩ : ByteArray).data.toList = m' := by simp
  have osz : (⟨m'.toArray⟩ : ByteArray).size = m'.length := by simp [ByteArray.size]
  have s32 := h.kk.sz32
  have v32 := h.kv.sz32
  have sh := h.short
  rw [szd] at g2 f2 sh
  have ed : ∀ q, (m'.drop q).take (m'.length - q) = m'.drop q := fun q => List.take_of_length_le (by rw [List.length_drop]; omega)
  refine ⟨⟨m'.toArray⟩, res, _, n, _, T', by rw [ems, om]; exact hgo, rfl, rfl, ?_, ?_, ?_, ?_, ?_, ?_, by omega, by omega, sh⟩
  · rw [osz, hml, ByteArray.size_append, ByteArray.size_append]
  · rw [cutd, om, List.drop_zero, Nat.sub_zero]
    exact hP'.perm hmm.2
  · intro h4
    rw [hcn h4]
    subst h4
    rw [mustDo_four]
  · intro hF
    obtain ⟨i, v0, q1, q2, q3⟩ := hfd hF
    obtain ⟨h1, h2⟩ := hF
    subst h1
    rw [mustDo_one, cutd, om, osz, ed]
    exact ⟨i, v0, q1, q2, q3, by rw [List.length_drop]; omega⟩
  · rw [ByteArray.toList_eq, ByteArray.toList_eq, cutd, om, Nat.add_sub_cancel_left]
    exact hka
  · intro hF
    rw [ByteArray.toList_eq, ByteArray.toList_eq, cutd, om, osz, ed]
    exact hnf hF
end P
end Go.Proofs.YtghggcehloiemabGreatDoor
namespace Go.Proofs.YtghggcehloiemabGreatDoor
open Go.RowKit
set_option linter.unusedVariables false
set_option maxRecDepth 16000
def Ux (b tb : Nat) (h0 l0 l1 l2 l3 g0 m0 m1 m2 m3 tk0 c0 c1 c2 c3 d0 d1 d2 d3 fl : Int) (w : World) : Prop :=
  w.cell? ⟨b, 0, none⟩ = some (.int .i64 h0) ∧ w.cell? ⟨b, 1, none⟩ = some (.int .i64 l0) ∧ w.cell? ⟨b, 2, none⟩ = some (.int .i64 l1) ∧ w.cell? ⟨b, 3, none⟩ = some (.int .i64 l2) ∧ w.cell? ⟨b, 4, none⟩ = some (.int .i64 l3) ∧
  w.cell? ⟨b, 5, none⟩ = some (.int .i64 g0) ∧ w.cell? ⟨b, 6, none⟩ = some (.int .i64 m0) ∧ w.cell? ⟨b, 7, none⟩ = some (.int .i64 m1) ∧ w.cell? ⟨b, 8, none⟩ = some (.int .i64 m2) ∧ w.cell? ⟨b, 9, none⟩ = some (.int .i64 m3) ∧
  w.cell? ⟨tb, 0, none⟩ = some (.int .i64 tk0) ∧ w.cell? ⟨tb, 1, none⟩ = some (.int .i64 c0) ∧ w.cell? ⟨tb, 2, none⟩ = some (.int .i64 c1) ∧ w.cell? ⟨tb, 3, none⟩ = some (.int .i64 c2) ∧ w.cell? ⟨tb, 4, none⟩ = some (.int .i64 c3) ∧
  w.cell? ⟨tb, 5, none⟩ = some (.int .i64 d0) ∧ w.cell? ⟨tb, 6, none⟩ = some (.int .i64 d1) ∧ w.cell? ⟨tb, 7, none⟩ = some (.int .i64 d2) ∧ w.cell? ⟨tb, 8, none⟩ = some (.int .i64 d3) ∧ w.cell? ⟨tb, 9, none⟩ = some (.int .i64 fl)
theorem Ux.of {w : World} {b tb M sl : Nat} {h0 l0 l1 l2 l3 g0 m0 m1 m2 m3 tk0 c0 c1 c2 c3 d0 d1 d2 d3 fl : Int} {x10 x11 x12 kv vv : Value} {L : List (ByteArray × ByteArray)} (h : Wd w b M sl (.int .i64 h0) (.int .i64 l0) (.int .i64 l1) (.int .i64 l2) (.int .i64 l3) (.int .i64 g0) (.int .i64 m0) (.int .i64 m1) (.int .i64 m2) (.int .i64 m3) x10 x11 x12 kv vv L)
    (ht : w.heap[tb]? = some (.cells #[.int .i64 tk0, .int .i64 c0, .int .i64 c1, .int .i64 c2, .int .i64 c3, .int .i64 d0, .int .i64 d1, .int .i64 d2, .int .i64 d3, .int .i64 fl] 41 (0, 0))) : Ux b tb h0 l0 l1 l2 l3 g0 m0 m1 m2 m3 tk0 c0 c1 c2 c3 d0 d1 d2 d3 fl w := by
  refine ⟨?_, ?_, ?_, ?_, ?_, ?_, ?_, ?_, ?_, ?_, ?_, ?_, ?_, ?_, ?_, ?_, ?_, ?_, ?_, ?_⟩
  all_goals first | (rw [cell_of_row _ _ _ _ _ _ h.blk]; rfl) | (rw [cell_of_row _ _ _ _ _ _ ht]; rfl)
set_option maxHeartbeats 8000000 in
theorem wstep_any {w : World} (b M sl room : Nat) (h0 l0 l1 l2 l3 g0 m0 m1 m2 m3 : Int) (tk0 c0 c1 c2 c3 d0 d1 d2 d3 fl : Int) (code mem : ByteArray) (kv vv : Value) (L : List (ByteArray × ByteArray)) (T : List (List UInt8)) (tk tv : P.Ty 4) (N0 : Nat)
    (h : Wd w b M sl (.int .i64 h0) (.int .i64 l0) (.int .i64 l1) (.int .i64 l2) (.int .i64 l3) (.int .i64 g0) (.int .i64 m0) (.int .i64 m1) (.int .i64 m2) (.int .i64 m3) (.string code) (.string mem) (.int .i64 room) kv vv L) (hP : P.TabP tk tv sl mem.data.toList L T) (hrm : room = mem.size) (hN0 : N0 ≤ M) (hN1 : N0 ≤ b)
    (htab : ∀ w', Below N0 w w' → Lib.TabIs Tryz.prog w' "internal/strconv.uint64pow10" .u64 Lib.pow10Tab)
    (hcode : code = ⟨(P.text (P.prog (P.cov (P.parts 4 tk)) (P.cov (P.parts 4 tv)) sl).resolve).toArray⟩) (hisc : P.IsCode (P.text (P.prog (P.cov (P.parts 4 tk)) (P.cov (P.parts 4 tv)) sl).resolve))
    (hh : I64 h0) (hl : ∀ x ∈ [l0, l1, l2, l3], I64 x) (hg : I64 g0) (hm : ∀ x ∈ [m0, m1, m2, m3], I64 x) (hc : I64 c0 ∧ I64 c1 ∧ I64 c2 ∧ I64 c3) (hd : I64 d0 ∧ I64 d1 ∧ I64 d2 ∧ I64 d3) (ht0 : I64 tk0) (hfl : I64 fl)
    (htk : P.tyOf (P.joinP (P.pickP h0 6) (P.leafT (P.pickP l0 6)) (P.leafT (P.pickP l1 6)) (P.leafT (P.pickP l2 6)) (P.leafT (P.pickP l3 6))) = some tk) (htv : P.tyOf (P.joinP (P.pickP g0 6) (P.leafT (P.pickP m0 6)) (P.leafT (P.pickP m1 6)) (P.leafT (P.pickP m2 6)) (P.leafT (P.pickP m3 6))) = some tv) :
    Calls Tryz.prog 13 #[.pointer (some ⟨b, 0, none⟩), .agg #[.int .i64 tk0, .int .i64 c0, .int .i64 c1, .int .i64 c2, .int .i64 c3, .int .i64 d0, .int .i64 d1, .int .i64 d2, .int .i64 d3, .int .i64 fl]] w fun e w' => e = .returned (.bool true) ∧ ∃ (mem' : ByteArray) (L' : List (ByteArray × ByteArray)) (T' : List (List UInt8)), mem'.size = room ∧ P.TabP tk tv sl mem'.data.toList L' T' ∧ KStep w w' b M sl (.int .i64 h0) (.int .i64 l0) (.int .i64 l1) (.int .i64 l2) (.int .i64 l3) (.int .i64 g0) (.int .i64 m0) (.int .i64 m1) (.int .i64 m2) (.int .i64 m3) (.string code) (.string mem') (.int .i64 room) kv vv L' := by
  obtain ⟨p, hp⟩ : ∃ p, P.pickP tk0 6 = p := ⟨_, rfl⟩
  have hp5 : p ≤ 5 := by rw [← hp]; have := pick_lt tk0 6 (by decide); omega
  obtain ⟨t, ht⟩ : ∃ t, 1 + p = t := ⟨_, rfl⟩
  obtain ⟨f, hf⟩ : ∃ f, P.pickP fl 256 = f := ⟨_, rfl⟩
  have hf255 : f ≤ 255 := by rw [← hf]; have := pick_lt fl 256 (by decide); omega
  obtain ⟨f2, hf2⟩ : ∃ f2, 255 - f = f2 := ⟨_, rfl⟩
  have HPT : Hid (∀ w, Calls Tryz.prog 9 #[.int .i64 tk0, .int .i64 6] w fun e w' => e = .returned (.int .i64 p) ∧ w' = w) := fun w => by rw [← hp]; exact pick_any tk0 6 w (by decide) (by decide) ht0.1 ht0.2
  have HPF : Hid (∀ w, Calls Tryz.prog 9 #[.int .i64 fl, .int .i64 256] w fun e w' => e = .returned (.int .i64 f) ∧ w' = w) := fun w => by rw [← hf]; exact pick_any fl 256 w (by decide) (by decide) hfl.1 hfl.2
  have HW1 : Hid (IntKind.i64.wrap (1 + (p : Int)) = (t : Int)) := by unfold Hid; rw [wrap_id _ (by omega) (by omega)]; omega
  have HW2 : Hid (IntKind.i64.wrap (255 - (f : Int)) = (f2 : Int)) := by unfold Hid; rw [wrap_id _ (by omega) (by omega)]; omega
  obtain ⟨tk', e1, hek⟩ := P.shape_ty (P.pickP h0 6) (P.pickP l0 6) (P.pickP l1 6) (P.pickP l2 6) (P.pickP l3 6) (pick6 _) (pick6 _) (pick6 _) (pick6 _) (pick6 _)
  rw [htk] at e1
  cases e1
  obtain ⟨tv', e2, hev⟩ := P.shape_ty (P.pickP g0 6) (P.pickP m0 6) (P.pickP m1 6) (P.pickP m2 6) (P.pickP m3 6) (pick6 _) (pick6 _) (pick6 _) (pick6 _) (pick6 _)
  rw [htv] at e2
  cases e2
  obtain ⟨aL, ea, la⟩ := hek c0 c1 c2 c3 (f : Int) (by omega)
  obtain ⟨bL, eb, lb⟩ := hev d0 d1 d2 d3 (f2 : Int) (by omega)
  have TYK := fun w => typ_any h0 l0 l1 l2 l3 w hh hl
  have TYV := fun w => typ_any g0 m0 m1 m2 m3 w hg hm
  have VAK := fun w => value_any h0 l0 l1 l2 l3 c0 c1 c2 c3 w hh hl hc
  have VAV := fun w => value_any g0 m0 m1 m2 m3 d0 d1 d2 d3 w hg hm hd
  have hTk : (P.joinP (P.pickP h0 6) (P.leafT (P.pickP l0 6)) (P.leafT (P.pickP l1 6)) (P.leafT (P.pickP l2 6)) (P.leafT (P.pickP l3 6))).length ≤ 1000 := joinP_len _ _ _ _ _ (by rw [leafT_len]; decide) (by rw [leafT_len]; decide) (by rw [leafT_len]; decide) (by rw [leafT_len]; decide)
  have hTv : (P.joinP (P.pickP g0 6) (P.leafT (P.pickP m0 6)) (P.leafT (P.pickP m1 6)) (P.leafT (P.pickP m2 6)) (P.leafT (P.pickP m3 6))).length ≤ 1000 := joinP_len _ _ _ _ _ (by rw [leafT_len]; decide) (by rw [leafT_len]; decide) (by rw [leafT_len]; decide) (by rw [leafT_len]; decide)
  have hVk : (P.joinP (P.pickP h0 6) (P.oneP (P.pickP l0 6) c0) (P.oneP (P.pickP l1 6) c1) (P.oneP (P.pickP l2 6) c2) (P.oneP (P.pickP l3 6) c3)).length ≤ 1000 := joinP_len _ _ _ _ _ (oneP_len _ _ (pick6 _)) (oneP_len _ _ (pick6 _)) (oneP_len _ _ (pick6 _)) (oneP_len _ _ (pick6 _))
  have hVv : (P.joinP (P.pickP g0 6) (P.oneP (P.pickP m0 6) d0) (P.oneP (P.pickP m1 6) d1) (P.oneP (P.pickP m2 6) d2) (P.oneP (P.pickP m3 6) d3)).length ≤ 1000 := joinP_len _ _ _ _ _ (oneP_len _ _ (pick6 _)) (oneP_len _ _ (pick6 _)) (oneP_len _ _ (pick6 _)) (oneP_len _ _ (pick6 _))
  generalize P.joinP (P.pickP h0 6) (P.leafT (P.pickP l0 6)) (P.leafT (P.pickP l1 6)) (P.leafT (P.pickP l2 6)) (P.leafT (P.pickP l3 6)) = ltk at ea htk hTk TYK hek
  generalize P.joinP (P.pickP g0 6) (P.leafT (P.pickP m0 6)) (P.leafT (P.pickP m1 6)) (P.leafT (P.pickP m2 6)) (P.leafT (P.pickP m3 6)) = ltv at eb htv hTv TYV hev
  generalize P.joinP (P.pickP h0 6) (P.oneP (P.pickP l0 6) c0) (P.oneP (P.pickP l1 6) c1) (P.oneP (P.pickP l2 6) c2) (P.oneP (P.pickP l3 6) c3) = lk at ea la hVk VAK
  generalize P.joinP (P.pickP g0 6) (P.oneP (P.pickP m0 6) d0) (P.oneP (P.pickP m1 6) d1) (P.oneP (P.pickP m2 6) d2) (P.oneP (P.pickP m3 6) d3) = lv at eb lb hVv VAV
  have hTks : (bytesOf ltk).size ≤ maxLen := by rw [bytes_len]; unfold maxLen; omega
  have hTvs : (bytesOf ltv).size ≤ maxLen := by rw [bytes_len]; unfold maxLen; omega
  have hVks : (bytesOf lk).size ≤ maxLen := by rw [bytes_len]; unfold maxLen; omega
  have hVvs : (bytesOf lv).size ≤ maxLen := by rw [bytes_len]; unfold maxLen; omega
  have en1 := fun w => encode_any (bytesOf ltk) (bytesOf lk) f w hTks hVks
  have en2 := fun w => encode_any (bytesOf ltv) (bytesOf lv) f2 w hTvs hVvs
  rw [show P.encOf (bytesOf ltk).data.toList (bytesOf lk).data.toList _ = _ from ea] at en1
  rw [show P.encOf (bytesOf ltv).data.toList (bytesOf lv).data.toList _ = _ from eb] at en2
  obtain ⟨aB, haB⟩ : ∃ x : ByteArray, x = ⟨aL.toArray⟩ := ⟨_, rfl⟩
  obtain ⟨bB, hbB⟩ : ∃ x : ByteArray, x = ⟨bL.toArray⟩ := ⟨_, rfl⟩
  have haL : aB.data.toList = aL := by rw [haB]
  have hbL : bB.data.toList = bL := by rw [hbB]
  obtain ⟨om, res, st, n, L', T', hgo, hst, hL', hsz, hP', hcn, hfd, h1, h2, ha32, hb32, hm1⟩ := P.kstep_ok hP (bytesOf lk) (bytesOf lv) aB bB (P.fillB f) (P.fillB f2) (by rw [haL]; exact la) (by rw [hbL]; exact lb) t
  obtain ⟨from0, hfrom⟩ : ∃ x, room + aB.size = x := ⟨_, rfl⟩
  rw [← hrm] at hgo hfd h1 h2 hP' hm1
  rw [hfrom] at hgo hfd h1 h2
  have hosz : om.size = room + aB.size + bB.size := by rw [hsz, ByteArray.size_append, ByteArray.size_append, hrm]
  have HEN1 : Hid (∀ w, Calls Tryz.prog 22 #[.string (bytesOf ltk), .string (bytesOf lk), .int .i64 f] w fun e w' => e = .returned (.tuple #[.string aB, .int .i64 0]) ∧ Below w.heap.size w w') := by rw [haB]; exact en1
  have HEN2 : Hid (∀ w, Calls Tryz.prog 22 #[.string (bytesOf ltv), .string (bytesOf lv), .int .i64 f2] w fun e w' => e = .returned (.tuple #[.string bB, .int .i64 0]) ∧ Below w.heap.size w w') := by rw [hbB]; exact en2
  obtain ⟨mm, hmm⟩ : ∃ x, mem ++ aB ++ bB = x := ⟨_, rfl⟩
  rw [hmm] at hgo hsz
  have hcsz : code.size ≤ maxLen := by
    have q1 : code.size = (P.text (P.prog (P.cov (P.parts 4 tk)) (P.cov (P.parts 4 tv)) sl).resolve).length := by rw [hcode]; simp [ByteArray.size]
    have q2 := hisc.five
    have q3 := hisc.few
    unfold maxLen
    omega
  have hrun : P.runOf code.data.toList mm.data.toList t room from0 10000 = ⟨om.data.toList, res, st, n, 0⟩ := by
    rw [hcode, ← hgo]
    exact P.prog_runOf hP.kk hP.kv hP.sl16 mm.data.toList t room from0 (by rw [P.szd]; omega) (by omega) (by omega) (by omega) hisc
  have HRN : Hid (∀ w, Calls Tryz.prog 24 #[.string code, .string mm, .int .i64 t, .int .i64 room, .int .i64 from0, .int .i64 10000] w fun e w' => e = .returned (.tuple #[.agg #[.string om, .int .i64 res, .int .i64 st, .int .i64 n], .int .i64 0]) ∧ Below w.heap.size w w') := fun w => by
    have := run_any code mm t room from0 10000 w hcsz _ hrun
    simpa [outV, ← str_of] using this
  have HTAB := hid_m htab
  have HDEC : Hid ((t = 1 ∧ st = 0) → ∃ i v0, P.atK L' (bytesOf lk) = some i ∧ L'[i]? = some (bytesOf lk, v0) ∧ ∀ w', F3 b kv.ownBlock vv.ownBlock w w' → Calls Tryz.prog 23 #[.string (bytesOf ltv), .string (om.extract from0 om.size)] w' fun e w'' => e = .returned (.tuple #[.string v0, .int .i64 0]) ∧ Below w'.heap.size w' w'') := by
    intro hF
    obtain ⟨i, v0, q1, q2, q3, q4⟩ := hfd hF
    refine ⟨i, v0, q1, q2, fun w' hw' => ?_⟩
    have hb' : Below N0 w w' := hw'.below hN1 (fun g hg => Nat.le_trans hN0 (h.ok.lt g hg).1) (fun g hg => Nat.le_trans hN0 (h.ov.lt g hg).1) (Nat.le_trans hN0 h.here)
    have de := decode_any (bytesOf ltv) (om.extract from0 om.size) w' hTvs (HTAB.out w' hb')
    have ed : P.decOf (bytesOf ltv).data.toList (om.extract from0 om.size).data.toList = (v0.data.toList, 0) := by
      unfold P.decOf
      rw [show P.tyOf (bytesOf ltv).data.toList = some tv from htv]
      simp only
      rw [if_pos q4, q3]
    rw [ed] at de
    simpa [← str_of] using de
  have HTYK := hid_m TYK
  have HTYV := hid_m TYV
  have HVAK := hid_m VAK
  have HVAV := hid_m VAV
  have HH := hid_m h
  have HXX := hid_m (And.intro hrm (And.intro hm1 (And.intro ha32 (And.intro hb32 (And.intro hfrom (And.intro hosz (And.intro ht (And.intro hp5 (And.intro hsz hmm)))))))))
  have HPP := hid_m hP'
  have HST := hid_m (And.intro hst (And.intro hL' hcn))
  have HE := hid_m (And.intro h1 h2)
  have HNN := hid_m (And.intro hN0 hN1)
  have HW3 : Hid (IntKind.i64.wrap ((room : Int) + (aB.size : Int)) = (from0 : Int)) := by unfold Hid; rw [wrap_id _ (by omega) (by omega)]; omega
  clear h hP hrm hN0 hN1 htab hcode hisc hh hl hg hm hc hd ht0 hfl htk htv hp hp5 ht hf hf255 hf2 hek hev ea la eb lb TYK TYV VAK VAV hTk hTv hVk hVv hTks hTvs hVks hVvs en1 en2 haB hbB haL hbL hgo hst hL' hsz hP' hcn hfd h1 h2 ha32 hb32 hm1 hfrom hosz hmm hcsz hrun
  go_enter Tryz.func13, Tryz.ntmps13
  have hw1 := HW1.out
  obtain ⟨tb, htb⟩ : ∃ x, w.heap.size = x := ⟨_, rfl⟩
  have hbA : Below w.heap.size w (w.alloc (.cells #[.int .i64 tk0, .int .i64 c0, .int .i64 c1, .int .i64 c2, .int .i64 c3, .int .i64 d0, .int .i64 d1, .int .i64 d2, .int .i64 d3, .int .i64 fl] 41)) := (Below.refl _ _).alloc (Nat.le_refl _) _
  have hnA : (w.alloc (.cells #[.int .i64 tk0, .int .i64 c0, .int .i64 c1, .int .i64 c2, .int .i64 c3, .int .i64 d0, .int .i64 d1, .int .i64 d2, .int .i64 d3, .int .i64 fl] 41)).heap[w.heap.size]? = some (.cells #[.int .i64 tk0, .int .i64 c0, .int .i64 c1, .int .i64 c2, .int .i64 c3, .int .i64 d0, .int .i64 d1, .int .i64 d2, .int .i64 d3, .int .i64 fl] 41 (0, 0)) := heap_alloc_new _ _
  have HX0 := hid_m (Ux.of (HH.out.on hbA) hnA)
  have B0 := hid_m hbA
  have HN0 := hid_m hnA
  clear hbA hnA
  go_wp2_with fail
  obtain ⟨W0, hW0⟩ : ∃ W, (w.alloc (.cells #[.int .i64 tk0, .int .i64 c0, .int .i64 c1, .int .i64 c2, .int .i64 c3, .int .i64 d0, .int .i64 d1, .int .i64 d2, .int .i64 d3, .int .i64 fl] 41)) = W := ⟨_, rfl⟩
  rw [hW0] at HX0 B0 HN0 ⊢
  rw [htb] at HX0 HN0
  have HTB := hid_m htb
  clear hW0 htb
  refine (HPT.out _).mono ?_
  rintro e wz ⟨rfl, hwz⟩
  subst wz
  go_wp2_with fail
  clear hw1
  have HTABN : Hid (∀ w', Below w.heap.size w w' → Lib.TabIs Tryz.prog w' "internal/strconv.uint64pow10" .u64 Lib.pow10Tab) := fun w' hb => HTAB.out w' (hb.mono (Nat.le_trans HNN.out.1 HH.out.here))
  refine wp_region_held_drew (S := Ux b tb h0 l0 l1 l2 l3 g0 m0 m1 m2 m3 tk0 c0 c1 c2 c3 d0 d1 d2 d3 fl) (by kernel_rfl) HX0.out (fun hHeld => ?_)
  refine wpAnyH_take (i := 0) (v := ?_) rfl (by kernel_rfl) (by kernel_rfl) (by kernel_rfl) (fun _ _ _ h => h) (Or.inl ⟨by rfl, ?_⟩) (by assumption) ?_
  rotate_left
  · intro w hSw
    obtain ⟨y0, y1, y2, y3, y4, y5, y6, y7, y8, y9, y10, y11, y12, y13, y14, y15, y16, y17, y18, y19⟩ := hSw
    go_simp
    all_goals with_reducible rfl
  try simp only [Act.put]
  refine wpAnyH_take (i := 1) (v := ?_) rfl (by kernel_rfl) (by kernel_rfl) (by kernel_rfl) (fun _ _ _ h => h) (Or.inl ⟨by rfl, ?_⟩) (by assumption) ?_
  rotate_left
  · intro w hSw
    obtain ⟨y0, y1, y2, y3, y4, y5, y6, y7, y8, y9, y10, y11, y12, y13, y14, y15, y16, y17, y18, y19⟩ := hSw
    go_simp
    all_goals with_reducible rfl
  try simp only [Act.put]
  refine wpAnyH_take (i := 2) (v := ?_) rfl (by kernel_rfl) (by kernel_rfl) (by kernel_rfl) (fun _ _ _ h => h) (Or.inl ⟨by rfl, ?_⟩) (by assumption) ?_
  rotate_left
  · intro w hSw
    obtain ⟨y0, y1, y2, y3, y4, y5, y6, y7, y8, y9, y10, y11, y12, y13, y14, y15, y16, y17, y18, y19⟩ := hSw
    go_simp
    all_goals with_reducible rfl
  try simp only [Act.put]
  refine wpAnyH_take (i := 3) (v := ?_) rfl (by kernel_rfl) (by kernel_rfl) (by kernel_rfl) (fun _ _ _ h => h) (Or.inl ⟨by rfl, ?_⟩) (by assumption) ?_
  rotate_left
  · intro w hSw
    obtain ⟨y0, y1, y2, y3, y4, y5, y6, y7, y8, y9, y10, y11, y12, y13, y14, y15, y16, y17, y18, y19⟩ := hSw
    go_simp
    all_goals with_reducible rfl
  try simp only [Act.put]
  refine wpAnyH_take (i := 4) (v := ?_) rfl (by kernel_rfl) (by kernel_rfl) (by kernel_rfl) (fun _ _ _ h => h) (Or.inl ⟨by rfl, ?_⟩) (by assumption) ?_
  rotate_left
  · intro w hSw
    obtain ⟨y0, y1, y2, y3, y4, y5, y6, y7, y8, y9, y10, y11, y12, y13, y14, y15, y16, y17, y18, y19⟩ := hSw
    go_simp
    all_goals with_reducible rfl
  try simp only [Act.put]
  refine wpAnyH_take (i := 5) (v := ?_) rfl (by kernel_rfl) (by kernel_rfl) (by kernel_rfl) (fun _ _ _ h => h) (Or.inl ⟨by rfl, ?_⟩) (by assumption) ?_
  rotate_left
  · intro w hSw
    obtain ⟨y0, y1, y2, y3, y4, y5, y6, y7, y8, y9, y10, y11, y12, y13, y14, y15, y16, y17, y18, y19⟩ := hSw
    go_simp
    all_goals with_reducible rfl
  try simp only [Act.put]
  refine wpAnyH_ready (rs := [6]) (by kernel_rfl) (by simp) ?_
  refine AllReadyH.cons (o := _) rfl (fun K hK => ?_) AllReadyH.nil
  go_simp
  refine (HVAK.out W0.drew (HTABN.out _ B0.out.drew)).mono ?_
  rintro e w1 ⟨rfl, hb1⟩
  have hbb1 : Below W0.heap.size W0 w1 := ⟨hb1.os, hb1.tape, hb1.output, hb1.size, hb1.block⟩
  have B1 := hid_m (B0.out.trans (hbb1.mono B0.out.size))
  have HN1 := hid_m (k_blk_on hbb1 HN0.out)
  have HX1 := hid_m (Ux.of (HH.out.on B1.out) HN1.out)
  clear hb1 hbb1
  go_wp2_with fail
  refine hK.out _ _ HX1.out (fun hHelda => ?_)
  clear hK K
  try simp only [Act.put]
  refine wpAnyH_ready (rs := [7]) (by kernel_rfl) (by simp) ?_
  refine AllReadyH.cons (o := _) rfl (fun K hK => ?_) AllReadyH.nil
  go_simp
  refine hK.out _ _ HX1.out (fun hHeldb => ?_)
  clear hK K
  try simp only [Act.put]
  refine wpAnyH_done (by kernel_rfl) ?_ _
  go_wp2_with fail
  refine wp_region_held_drew (S := Ux b tb h0 l0 l1 l2 l3 g0 m0 m1 m2 m3 tk0 c0 c1 c2 c3 d0 d1 d2 d3 fl) (by kernel_rfl) HX1.out (fun hHeld => ?_)
  refine wpAnyH_take (i := 0) (v := ?_) rfl (by kernel_rfl) (by kernel_rfl) (by kernel_rfl) (fun _ _ _ h => h) (Or.inl ⟨by rfl, ?_⟩) (by assumption) ?_
  rotate_left
  · intro w hSw
    obtain ⟨y0, y1, y2, y3, y4, y5, y6, y7, y8, y9, y10, y11, y12, y13, y14, y15, y16, y17, y18, y19⟩ := hSw
    go_simp
    all_goals with_reducible rfl
  try simp only [Act.put]
  refine wpAnyH_take (i := 1) (v := ?_) rfl (by kernel_rfl) (by kernel_rfl) (by kernel_rfl) (fun _ _ _ h => h) (Or.inl ⟨by rfl, ?_⟩) (by assumption) ?_
  rotate_left
  · intro w hSw
    obtain ⟨y0, y1, y2, y3, y4, y5, y6, y7, y8, y9, y10, y11, y12, y13, y14, y15, y16, y17, y18, y19⟩ := hSw
    go_simp
    all_goals with_reducible rfl
  try simp only [Act.put]
  refine wpAnyH_take (i := 2) (v := ?_) rfl (by kernel_rfl) (by kernel_rfl) (by kernel_rfl) (fun _ _ _ h => h) (Or.inl ⟨by rfl, ?_⟩) (by assumption) ?_
  rotate_left
  · intro w hSw
    obtain ⟨y0, y1, y2, y3, y4, y5, y6, y7, y8, y9, y10, y11, y12, y13, y14, y15, y16, y17, y18, y19⟩ := hSw
    go_simp
    all_goals with_reducible rfl
  try simp only [Act.put]
  refine wpAnyH_take (i := 3) (v := ?_) rfl (by kernel_rfl) (by kernel_rfl) (by kernel_rfl) (fun _ _ _ h => h) (Or.inl ⟨by rfl, ?_⟩) (by assumption) ?_
  rotate_left
  · intro w hSw
    obtain ⟨y0, y1, y2, y3, y4, y5, y6, y7, y8, y9, y10, y11, y12, y13, y14, y15, y16, y17, y18, y19⟩ := hSw
    go_simp
    all_goals with_reducible rfl
  try simp only [Act.put]
  refine wpAnyH_take (i := 4) (v := ?_) rfl (by kernel_rfl) (by kernel_rfl) (by kernel_rfl) (fun _ _ _ h => h) (Or.inl ⟨by rfl, ?_⟩) (by assumption) ?_
  rotate_left
  · intro w hSw
    obtain ⟨y0, y1, y2, y3, y4, y5, y6, y7, y8, y9, y10, y11, y12, y13, y14, y15, y16, y17, y18, y19⟩ := hSw
    go_simp
    all_goals with_reducible rfl
  try simp only [Act.put]
  refine wpAnyH_take (i := 5) (v := ?_) rfl (by kernel_rfl) (by kernel_rfl) (by kernel_rfl) (fun _ _ _ h => h) (Or.inl ⟨by rfl, ?_⟩) (by assumption) ?_
  rotate_left
  · intro w hSw
    obtain ⟨y0, y1, y2, y3, y4, y5, y6, y7, y8, y9, y10, y11, y12, y13, y14, y15, y16, y17, y18, y19⟩ := hSw
    go_simp
    all_goals with_reducible rfl
  try simp only [Act.put]
  refine wpAnyH_ready (rs := [6]) (by kernel_rfl) (by simp) ?_
  refine AllReadyH.cons (o := _) rfl (fun K hK => ?_) AllReadyH.nil
  go_simp
  refine (HVAV.out w1.drew (HTABN.out _ B1.out.drew)).mono ?_
  rintro e w2 ⟨rfl, hb2⟩
  have hbb2 : Below w1.heap.size w1 w2 := ⟨hb2.os, hb2.tape, hb2.output, hb2.size, hb2.block⟩
  have B2 := hid_m (B1.out.trans (hbb2.mono B1.out.size))
  have HN2 := hid_m (k_blk_on hbb2 HN1.out)
  have HX2 := hid_m (Ux.of (HH.out.on B2.out) HN2.out)
  clear hb2 hbb2
  go_wp2_with fail
  refine hK.out _ _ HX2.out (fun hHelda => ?_)
  clear hK K
  try simp only [Act.put]
  refine wpAnyH_ready (rs := [7]) (by kernel_rfl) (by simp) ?_
  refine AllReadyH.cons (o := _) rfl (fun K hK => ?_) AllReadyH.nil
  go_simp
  refine hK.out _ _ HX2.out (fun hHeldb => ?_)
  clear hK K
  try simp only [Act.put]
  refine wpAnyH_done (by kernel_rfl) ?_ _
  obtain ⟨y0, y1, y2, y3, y4, y5, y6, y7, y8, y9, y10, y11, y12, y13, y14, y15, y16, y17, y18, y19⟩ := HX2.out
  go_wp2_with fail
  refine (HPF.out _).mono ?_
  rintro e wz ⟨rfl, hwz⟩
  subst wz
  go_wp2_with fail
  refine (HTYK.out _).mono ?_
  rintro e w3 ⟨rfl, hb3⟩
  have B3 := hid_m (B2.out.trans (hb3.mono B2.out.size))
  have HN3 := hid_m (k_blk_on hb3 HN2.out)
  have HX3 := hid_m (Ux.of (HH.out.on B3.out) HN3.out)
  clear hb3 y0 y1 y2 y3 y4 y5 y6 y7 y8 y9 y10 y11 y12 y13 y14 y15 y16 y17 y18 y19
  go_wp2_with fail
  refine (HEN1.out _).mono ?_
  rintro e w4 ⟨rfl, hb4⟩
  have B4 := hid_m (B3.out.trans (hb4.mono B3.out.size))
  have HN4 := hid_m (k_blk_on hb4 HN3.out)
  have HX4 := hid_m (Ux.of (HH.out.on B4.out) HN4.out)
  clear hb4
  obtain ⟨y0, y1, y2, y3, y4, y5, y6, y7, y8, y9, y10, y11, y12, y13, y14, y15, y16, y17, y18, y19⟩ := HX4.out
  have hw2 := HW2.out
  go_wp2_with fail
  refine (HTYV.out _).mono ?_
  rintro e w5 ⟨rfl, hb5⟩
  have B5 := hid_m (B4.out.trans (hb5.mono B4.out.size))
  have HN5 := hid_m (k_blk_on hb5 HN4.out)
  clear hb5 y0 y1 y2 y3 y4 y5 y6 y7 y8 y9 y10 y11 y12 y13 y14 y15 y16 y17 y18 y19
  go_wp2_with fail
  refine (HEN2.out _).mono ?_
  rintro e w6 ⟨rfl, hb6⟩
  have B6 := hid_m (B5.out.trans (hb6.mono B5.out.size))
  clear hb6 hw2
  have HS6 := hid_m (HH.out.on B6.out)
  have d11 := HS6.out.c11
  have d12 : w6.cell? ⟨b, 12, none⟩ = some (.int .i64 room) := by rw [cell_of_row _ _ _ _ _ _ HS6.out.blk]; rfl
  rename_i K6 hK6 Kc hKc
  have HK6 := hid_m hK6
  clear hK6
  go_wp2_with fail
  refine HK6.out _ _ ?_
  refine wp_seq_k (fun K7 hK7 => ?_)
  have HK7 := hid_m hK7
  clear hK7 HK6
  go_wp2_with fail
  refine HK7.out _ _ ?_
  refine wp_seq_k (fun K8 hK8 => ?_)
  have HK8 := hid_m hK8
  clear hK8 HK7
  have hw3 := HW3.out
  go_wp2_with fail
  clear hw3
  refine HK8.out _ _ ?_
  refine wp_seq_k (fun K9 hK9 => ?_)
  have HK9 := hid_m hK9
  clear hK9 HK8
  have hs1 : ¬ 9223372036854775807 < mem.size + aB.size := by have := HXX.out; omega
  have hs2 : ¬ 9223372036854775807 < mem.size + aB.size + bB.size := by have := HXX.out; omega
  go_wp2_with fail
  refine HK9.out _ _ ?_
  clear HK9 hs1 hs2 d11 d12
  rw [HXX.out.2.2.2.2.2.2.2.2.2]
  refine Code.wp_mono (bodyPost_mono (fun e w' hh => ?_)) (wstep_b0 b M sl room from0 h0 l0 l1 l2 l3 g0 m0 m1 m2 m3 code mem om mm aB bB kv vv L L' t st res n (bytesOf lk) (bytesOf lv) (bytesOf ltv) HS6.out HRN.out (by have := HXX.out; omega) (by have := HXX.out; omega) (by have := HXX.out; omega) HXX.out.2.2.2.2.2.2.2.2.1 (by have := HXX.out; omega) HST.out.1 HST.out.2.1 HTYV.out (fun hF => ?_) HST.out.2.2 HE.out.1 HE.out.2 _ _ _ _ _ _ _ _ _ _ _ _ _ _ _ _ _ _ _ _ _ _ _ _ _ _ _ _ _ _ _ _ _ _ _ _ _ _ _ _ _ _ _ _ _ _ _ _ _ _ _ _ _ _ _ _ _ _ _ _ _ _ _ _ _ _ _ _ _ _ _ _ _ _ _ _ _ _ _ _ _ _ _ _ _ _ _ _ _ _ _ _ _ _ _ _ _ _ _ _ _ _ _ _ _ _ _ _ _ _ _ _ _ _ _ _ _ _ _ _ _ _ _ _ _ _ _ _ _ _ _ _ _ _ _ _ _ _ _ _ _ _ _ _ _ _ _ _ _ _ _ _ _ _ _ _ _ _ _ _ _ _ _ _ _ _ _ _ _ _ _ _ _ _ _ _ _ _ _ _ _ _ _ _ _ _ _ _ _ _ _)
  · obtain ⟨he, ⟨kv', vv', hw, n1, n2⟩, hf⟩ := hh
    have hb := B6.out
    refine ⟨he, om.extract 0 room, L', T', ?_, HPP.out, ⟨kv', vv', hw, fun g hg => (n1 g hg).elim Or.inl (fun x => Or.inr (by have := hb.size; omega)), fun g hg => (n2 g hg).elim Or.inl (fun x => Or.inr (by have := hb.size; omega))⟩, (F3.of hb).trans hf (fun g hg => Or.inl hg) (fun g hg => Or.inl hg)⟩
    rw [ByteArray.size_extract]; have := HXX.out; omega
  · obtain ⟨i, v0, y1, y2, y3⟩ := HDEC.out hF
    exact ⟨i, v0, y1, y2, fun w' hw' => y3 w' ((F3.of B6.out).trans hw' (fun g hg => Or.inl hg) (fun g hg => Or.inl hg))⟩
end Go.Proofs.YtghggcehloiemabGreatDoor
