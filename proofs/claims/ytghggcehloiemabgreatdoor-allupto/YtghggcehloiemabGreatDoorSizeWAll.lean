import Derived.Test.YtghggcehloiemabGreatDoorParseWAll
import Derived.Deep.RegionHeld3
import Derived.Deep.DrawnRows
import Derived.Test.YtghggcehloiemabGreatDoorBaseAll
import Derived.Test.YtghggcehloiemabGreatDoorTbAAll
import Derived.Test.YtghggcehloiemabGreatDoorPrNAll
import Derived.Test.YtghggcehloiemabGreatDoorRefEncAll
namespace Go.Proofs.YtghggcehloiemabGreatDoor
open Go.RowKit
set_option linter.unusedVariables false
set_option maxRecDepth 16000

set_option maxHeartbeats 400000 in
theorem shSize_any (a c : Int) (x : Option Addr) (n k : Nat) (w : World) :
    Calls Tryz.prog 70 #[.agg #[.int .i64 a, .int .i64 c, .slice x n k]] w fun e w' => e = .returned (.int .i64 a) ∧ w' = w.alloc (.cells #[.int .i64 a, .int .i64 c, .slice x n k] 62) := by
  go_enter Tryz.func70, Tryz.ntmps70
  go_wp2
  go_ret
  exact ⟨rfl, rfl⟩
set_option maxHeartbeats 400000 in
theorem shStep_any (a c : Int) (x : Option Addr) (n k : Nat) (w : World) :
    Calls Tryz.prog 147 #[.agg #[.int .i64 a, .int .i64 c, .slice x n k]] w fun e w' => e = .returned (.int .i64 c) ∧ w' = w.alloc (.cells #[.int .i64 a, .int .i64 c, .slice x n k] 62) := by
  go_enter Tryz.func147, Tryz.ntmps147
  go_wp2
  go_ret
  exact ⟨rfl, rfl⟩

namespace P
def sizeOf (l : List UInt8) : Nat × Nat × Nat := match tyOf l with
  | some t => ((sz 4 t).1, (sz 4 t).2, 0)
  | none => (0, 0, 1)
end P

set_option maxHeartbeats 1000000 in
theorem size_any (s : ByteArray) (w : World) (hs : s.size ≤ maxLen) :
    Calls Tryz.prog 118 #[.string s] w fun e w' => e = .returned (.tuple #[.int .i64 (P.sizeOf s.data.toList).1, .int .i64 (P.sizeOf s.data.toList).2.1, .int .i64 (P.sizeOf s.data.toList).2.2]) ∧ Below w.heap.size w w' := by
  go_enter Tryz.func118, Tryz.ntmps118
  go_wp2_with fail
  refine (parse_any s w hs).mono ?_
  rintro e w1 ⟨hpost, hbe⟩
  cases ht : P.tyOf s.data.toList with
  | none =>
    rw [ht] at hpost
    simp only at hpost
    subst hpost
    have HT : Hid (P.sizeOf s.data.toList = (0, 0, 1)) := by unfold Hid P.sizeOf; rw [ht]
    clear ht
    go_wp2_with fail
    go_ret3
    exact ⟨by rw [HT.out]; rfl, hbe.alloc hbe.size _⟩
  | some t =>
    rw [ht] at hpost
    simp only at hpost
    obtain ⟨v, rfl, hown⟩ := hpost
    obtain ⟨a, N, cap, rfl⟩ := owns_slice hown
    obtain ⟨fs, hfs⟩ : ∃ fs, (P.sz 4 t).1 = fs := ⟨_, rfl⟩
    obtain ⟨fp, hfp⟩ : ∃ fp, (P.sz 4 t).2 = fp := ⟨_, rfl⟩
    have HT : Hid (P.sizeOf s.data.toList = (fs, fp, 0)) := by unfold Hid P.sizeOf; rw [ht, ← hfs, ← hfp]
    rw [hfs, hfp]
    clear ht hown hfs hfp
    go_wp2_with fail
    go_region_held3 (fun w' => w'.cell? ⟨w1.heap.size, 0, none⟩ = some (.int .i64 fs) ∧ w'.cell? ⟨w1.heap.size, 1, none⟩ = some (.int .i64 fp) ∧ w'.cell? ⟨w1.heap.size, 2, none⟩ = some (.slice a N cap) ) (simp [go_sem, World.cell?_alloc_past]) (first | (go_at_call 70; refine (shSize_any _ _ _ _ _ _).mono ?_; rintro e w' ⟨rfl, rfl⟩) | (go_at_call 147; refine (shStep_any _ _ _ _ _ _).mono ?_; rintro e w' ⟨rfl, rfl⟩))
    have hsz := hbe.size
    all_goals go_wp2_with fail
    all_goals go_ret3
    all_goals exact ⟨by rw [HT.out]; rfl, (((hbe.alloc hsz _).alloc (by simp; omega) _).alloc (by simp; omega) _).drew⟩
end Go.Proofs.YtghggcehloiemabGreatDoor
namespace Go.Proofs.YtghggcehloiemabGreatDoor
set_option linter.unusedVariables false
namespace P
theorem cutd (m : ByteArray) (a b : Nat) : (m.extract a b).data.toList = (m.data.toList.drop a).take (b - a) := by
  rw [ByteArray.data_extract, Array.toList_extract]
theorem szd (x : ByteArray) : x.data.toList.length = x.size := by simp
end P
end Go.Proofs.YtghggcehloiemabGreatDoor
namespace Go.Proofs.YtghggcehloiemabGreatDoor
open Go.RowKit
set_option linter.unusedVariables false
set_option maxRecDepth 16000
theorem mapDo_low (sl t : Nat) (k v : ByteArray) (L : List (ByteArray × ByteArray)) (ht : 1 ≤ t ∧ t ≤ 5) : (P.mapDo sl t k v L).1 ≤ 2 ∧ ((P.mapDo sl t k v L).1 ≠ 0 → (P.mapDo sl t k v L).2 = L) := by
  have h : t = 1 ∨ t = 2 ∨ t = 3 ∨ t = 4 ∨ t = 5 := by omega
  unfold P.mapDo
  rcases h with rfl | rfl | rfl | rfl | rfl
  · rw [if_pos rfl]
    refine ⟨?_, fun _ => rfl⟩
    show (if (P.atK L k).isSome = true then 0 else 1) ≤ 2
    split <;> omega
  · rw [if_neg (by decide), if_pos rfl]
    cases P.atK L k with
    | some i => exact ⟨by simp, fun h => absurd rfl h⟩
    | none =>
      simp only
      by_cases hf : sl ≤ L.length
      · rw [if_pos hf]; exact ⟨Nat.le_refl _, fun _ => rfl⟩
      · rw [if_neg hf]; exact ⟨by simp, fun h => absurd rfl h⟩
  · rw [if_neg (by decide), if_neg (by decide), if_pos rfl]
    cases P.atK L k with
    | some i => exact ⟨by simp, fun h => absurd rfl h⟩
    | none => exact ⟨by simp, fun _ => rfl⟩
  · exact ⟨Nat.zero_le 2, fun _ => rfl⟩
  · exact ⟨Nat.zero_le 2, fun h => absurd rfl h⟩
/-- A table that holds a plain map. -/
def TbI (w : World) (b : Nat) (tk tv : P.Ty 4) (sl : Nat) (a3 b3 cv : Value) (S : Nat → Prop) (L : List (ByteArray × ByteArray)) : Prop := ∃ (bytes : ByteArray) (T : List (List UInt8)), Tbl w b tk tv sl a3 b3 cv bytes S ∧ P.TabP tk tv sl bytes.data.toList L T
theorem TbI.on {w w' : World} {b : Nat} {tk tv : P.Ty 4} {sl : Nat} {a3 b3 cv : Value} {S : Nat → Prop} {L : List (ByteArray × ByteArray)} (h : TbI w b tk tv sl a3 b3 cv S L) (hb : Below w.heap.size w w') : TbI w' b tk tv sl a3 b3 cv S L := by
  obtain ⟨bytes, T, h1, h2⟩ := h
  exact ⟨bytes, T, h1.on hb, h2⟩
theorem TbI.of {w w' : World} {b : Nat} {tk tv : P.Ty 4} {sl : Nat} {a3 b3 cv : Value} {S : Nat → Prop} {L : List (ByteArray × ByteArray)} (h : TbI w b tk tv sl a3 b3 cv S L) (hs : w.heap.size ≤ w'.heap.size) (hb : w'.heap[b]? = w.heap[b]?) (hS : ∀ g, S g → w'.heap[g]? = w.heap[g]?) : TbI w' b tk tv sl a3 b3 cv S L := by
  obtain ⟨bytes, T, h1, h2⟩ := h
  exact ⟨bytes, T, h1.of hs hb hS, h2⟩
/-- What a run of a table's answers, and what there is then. -/
structure DoP (w w' : World) (e : Ending) (b : Nat) (tk tv : P.Ty 4) (sl : Nat) (a3 b3 cv : Value) (S : Nat → Prop) (t : Nat) (k v : ByteArray) (L : List (ByteArray × ByteArray)) : Prop where
  ex : ∃ (om : ByteArray) (res n : Nat), e = .returned (doV om res (P.mapDo sl t k v L).1 n) ∧ om.size ≤ 2000 ∧ (t = 4 → res = L.length) ∧ (t = 1 ∧ (P.mapDo sl t k v L).1 = 0 → ∃ i v0, P.atK L k = some i ∧ L[i]? = some (k, v0) ∧ (P.sz 4 tv).1 ≤ om.size ∧ P.tellAll (P.parts 4 tv) (om.extract (om.size - (P.sz 4 tv).1) om.size).data.toList = v0.data.toList)
  tb : TbI w' b tk tv sl a3 b3 cv S (P.mapDo sl t k v L).2
  fr : Fr b none w w'
theorem do_tab {w : World} (b : Nat) (tk tv : P.Ty 4) (sl : Nat) (a3 b3 cv : Value) (kb vb k v : ByteArray) (S : Nat → Prop) (t : Nat) (L : List (ByteArray × ByteArray)) (h : TbI w b tk tv sl a3 b3 cv S L) (ht : 1 ≤ t ∧ t ≤ 5) (hkb : kb.size = (P.sz 4 tk).1) (hvb : vb.size = (P.sz 4 tv).1)
    (hk : t = 1 ∨ t = 2 ∨ t = 3 → P.IsVal tk k.data.toList ∧ P.bytesOf kb.data.toList 0 (P.cov (P.parts 4 tk)) = P.encV tk k.data.toList) (hv : t = 2 → P.IsVal tv v.data.toList ∧ P.bytesOf vb.data.toList 0 (P.cov (P.parts 4 tv)) = P.encV tv v.data.toList) :
    Calls Tryz.prog 72 #[.pointer (some ⟨b, 0, none⟩), .int .i64 t, .string kb, .string vb] w fun e w' => DoP w w' e b tk tv sl a3 b3 cv S t k v L := by
  obtain ⟨bytes, T, hT, hP⟩ := h
  obtain ⟨m', res, n, T', hgo, hml, hP', hcn, hfd, hka, hnf⟩ := P.tab_run hP k v kb.data.toList vb.data.toList t (by rw [P.szd]; exact hkb) (by rw [P.szd]; exact hvb) hk hv
  rw [P.szd bytes, P.szd kb] at hgo hml hfd
  rw [P.szd vb] at hml
  rw [P.szd bytes] at hP'
  have ems : (bytes ++ kb ++ vb).data.toList = bytes.data.toList ++ kb.data.toList ++ vb.data.toList := by rw [ByteArray.data_append, Array.toList_append, ByteArray.data_append, Array.toList_append]
  have hom : (⟨m'.toArray⟩ : ByteArray).data.toList = m' := by simp
  have hosz : (⟨m'.toArray⟩ : ByteArray).size = m'.length := by simp [ByteArray.size]
  have k32 := hP.kk.sz32
  have v32 := hP.kv.sz32
  have kc := hP.kk.covl
  have vc := hP.kv.covl
  have sh := hP.short
  rw [P.szd] at sh
  have hlow := mapDo_low sl t k v L ht
  have hisc := P.resolve_isCode (kp := P.cov (P.parts 4 tk)) (vp := P.cov (P.parts 4 tv)) (sl := sl) hP.kk.cov32 hP.kv.cov32 (by omega) (by omega) hP.sl16
  refine (do_any b tk tv sl a3 b3 cv bytes kb vb ⟨m'.toArray⟩ S t res (P.mapDo sl t k v L).1 n hT hP.kk hP.kv hP.sl16 hisc ht.2 (by rw [ems, hom]; exact hgo) (by rw [hosz, hml, ByteArray.size_append, ByteArray.size_append]) hlow.1 sh (by omega) (by omega)).mono fun e w' hh => ?_
  obtain ⟨he, htb, hfr⟩ := hh
  refine ⟨⟨_, res, n, he, by rw [hosz]; omega, hcn, fun hF => ?_⟩, ?_, hfr⟩
  · obtain ⟨i, v0, q1, q2, q3⟩ := hfd hF
    refine ⟨i, v0, q1, q2, by rw [hosz]; omega, ?_⟩
    have e1 : m'.length - (P.sz 4 tv).1 = bytes.size + kb.size := by omega
    rw [P.cutd, hom, hosz, e1, List.take_of_length_le (by rw [List.length_drop]; omega)]
    exact q3
  · by_cases h0 : (P.mapDo sl t k v L).1 = 0
    · rw [if_pos h0] at htb
      refine ⟨_, T', htb, ?_⟩
      rw [P.cutd, hom, List.drop_zero, Nat.sub_zero]
      exact hP'
    · rw [if_neg h0] at htb
      rw [hlow.2 h0]
      exact ⟨bytes, T, htb, hP⟩
end Go.Proofs.YtghggcehloiemabGreatDoor
namespace Go.Proofs.YtghggcehloiemabGreatDoor
open Go.RowKit
set_option linter.unusedVariables false
set_option maxRecDepth 16000
theorem zero_bytes (n : Nat) : (⟨(List.replicate n (0 : UInt8)).toArray⟩ : ByteArray).size = n := by simp [ByteArray.size]
theorem shSize_b (a c : Int) (x : Option Addr) (n k : Nat) (w : World) : Calls Tryz.prog 70 #[.agg #[.int .i64 a, .int .i64 c, .slice x n k]] w fun e w' => e = .returned (.int .i64 a) ∧ Below w.heap.size w w' :=
  (shSize_any a c x n k w).mono fun e w' hh => ⟨hh.1, by rw [hh.2]; exact (Below.refl _ _).alloc (Nat.le_refl _) _⟩
/-- A run whose status is 0. -/
theorem doV_ok (om : ByteArray) (res n : Nat) : doV om res 0 n = .tuple #[.agg #[.string om, .int .i64 res, .int .i64 0, .int .i64 n], .int .i64 0] := rfl
set_option maxHeartbeats 4000000 in
theorem doAlone_any {w : World} (b : Nat) (tk tv : P.Ty 4) (sl : Nat) (a3 b3 cv : Value) (S : Nat → Prop) (L : List (ByteArray × ByteArray)) (k v : ByteArray) (t : Nat) (h : TbI w b tk tv sl a3 b3 cv S L) (ht : t = 4 ∨ t = 5) :
    Calls Tryz.prog 40 #[.pointer (some ⟨b, 0, none⟩), .int .i64 t] w fun e w' => DoP w w' e b tk tv sl a3 b3 cv S t k v L := by
  obtain ⟨bytes0, T0, hT0, hP0⟩ := id h
  obtain ⟨q1, hq1⟩ := hT0.pk
  obtain ⟨q2, hq2⟩ := hT0.pv
  obtain ⟨xa, na, ca, ha3⟩ := owns_slice hq1
  obtain ⟨xb, nb, cb, hb3⟩ := owns_slice hq2
  obtain ⟨z1, hz1⟩ : ∃ z, (P.sz 4 tk).1 = z := ⟨_, rfl⟩
  obtain ⟨z2, hz2⟩ : ∃ z, (P.sz 4 tk).2 = z := ⟨_, rfl⟩
  obtain ⟨z3, hz3⟩ : ∃ z, (P.sz 4 tv).1 = z := ⟨_, rfl⟩
  obtain ⟨z4, hz4⟩ : ∃ z, (P.sz 4 tv).2 = z := ⟨_, rfl⟩
  have hk32 := hP0.kk.sz32
  have hv32 := hP0.kv.sz32
  have hk1 := hP0.kk.sz1
  have hv1 := hP0.kv.sz1
  rw [hz1] at hk32 hk1
  rw [hz3] at hv32 hv1
  have HBK := hid_m (fun w => blank_any z1 w (by omega) hk1)
  have HBV := hid_m (fun w => blank_any z3 w (by omega) hv1)
  have hst : (P.mapDo sl t k v L).1 = 0 := by rcases ht with rfl | rfl <;> rfl
  have HDO : Hid (∀ w', Below w.heap.size w w' → Calls Tryz.prog 72 #[.pointer (some ⟨b, 0, none⟩), .int .i64 t, .string ⟨(List.replicate z1 (0 : UInt8)).toArray⟩, .string ⟨(List.replicate z3 (0 : UInt8)).toArray⟩] w' fun e w'' => DoP w' w'' e b tk tv sl a3 b3 cv S t k v L) := fun w' hb =>
    do_tab b tk tv sl a3 b3 cv _ _ k v S t L (h.on hb) (by omega) (by rw [zero_bytes, hz1]) (by rw [zero_bytes, hz3]) (fun hh => by omega) (fun hh => by omega)
  have hbA : Below w.heap.size w (w.alloc (Obj.cells #[.string ⟨#[]⟩, .int .i64 0, .int .i64 0, .int .i64 0] 56)) := (Below.refl _ _).alloc (Nat.le_refl _) _
  have hrA : (w.alloc (Obj.cells #[.string ⟨#[]⟩, .int .i64 0, .int .i64 0, .int .i64 0] 56)).heap[w.heap.size]? = some (.cells #[.string ⟨#[]⟩, .int .i64 0, .int .i64 0, .int .i64 0] 56 (0, 0)) := heap_alloc_new _ _
  have HT0 := hid_m hT0
  have HST := hid_m hst
  have HLT := hid_m hT0.lt
  have HS0 : Hid (∀ g, S g → g < w.heap.size) := fun g hg => (hT0.own g hg).2
  have B0 := hid_m hbA
  have HR0 := hid_m hrA
  obtain ⟨n0, n1, n2, n3, n4, n5, n6, n7, nf⟩ := (hT0.on hbA).cells
  rw [hz1] at n0
  rw [hz2] at n1
  rw [hz3] at n3
  rw [hz4] at n4
  rw [ha3] at n2
  rw [hb3] at n5
  have HZ := hid_m (And.intro hz1 (And.intro hz2 (And.intro hz3 (And.intro hz4 (And.intro ha3 hb3)))))
  clear hT0 hP0 hq1 hq2 ha3 hb3 hz1 hz2 hz3 hz4 hk32 hv32 hk1 hv1 ht hst hbA hrA h n6 n7 nf
  go_enter Tryz.func40, Tryz.ntmps40
  go_wp2_with fail
  refine (shSize_b _ _ _ _ _ _).mono ?_
  rintro e w1 ⟨rfl, hb1⟩
  have B1 := hid_m (B0.out.trans (hb1.mono B0.out.size))
  have HR1 := hid_m (t_blk_on hb1 HR0.out)
  clear hb1 n0 n1 n2 n3 n4 n5
  go_wp2_with fail
  refine (HBK.out _).mono ?_
  rintro e w2 ⟨rfl, hb2⟩
  have B2 := hid_m (B1.out.trans (hb2.mono B1.out.size))
  have HR2 := hid_m (t_blk_on hb2 HR1.out)
  clear hb2
  obtain ⟨n0, n1, n2, n3, n4, n5, n6, n7, nf⟩ := (HT0.out.on B2.out).cells
  rw [HZ.out.2.2.1] at n3
  rw [HZ.out.2.2.2.1] at n4
  rw [HZ.out.2.2.2.2.2] at n5
  clear n0 n1 n2 n6 n7 nf
  go_wp2_with fail
  refine (shSize_b _ _ _ _ _ _).mono ?_
  rintro e w3 ⟨rfl, hb3⟩
  have B3 := hid_m (B2.out.trans (hb3.mono B2.out.size))
  have HR3 := hid_m (t_blk_on hb3 HR2.out)
  clear hb3 n3 n4 n5
  go_wp2_with fail
  refine (HBV.out _).mono ?_
  rintro e w4 ⟨rfl, hb4⟩
  have B4 := hid_m (B3.out.trans (hb4.mono B3.out.size))
  have HR4 := hid_m (t_blk_on hb4 HR3.out)
  clear hb4
  go_wp2_with fail
  refine (HDO.out w4 B4.out).mono ?_
  rintro e w5 ⟨⟨om, res, n, rfl, hsz, hcn, hfd⟩, htb, hfr⟩
  have HDP := hid_m (And.intro hsz (And.intro hcn hfd))
  have HTB := hid_m htb
  have HFR := hid_m hfr
  have HR5 : Hid (w5.heap[w.heap.size]? = some (.cells #[.string ⟨#[]⟩, .int .i64 0, .int .i64 0, .int .i64 0] 56 (0, 0))) := by unfold Hid; rw [hfr.block w.heap.size (m_blk_lt HR4.out) (by have := HLT.out; omega) (fun e => by cases e)]; exact HR4.out
  obtain ⟨r0, r1, r2, r3, rf⟩ := out_facts HR5.out
  rw [HST.out, doV_ok]
  clear hsz hcn hfd htb hfr
  go_wp2_with fail
  obtain ⟨W4, hW4, y0, y1, y2, y3, hbf⟩ := out_end (.string om) (.int .i64 res) (.int .i64 0) (.int .i64 n) HR5.out (Below.refl w.heap.size w5) (Nat.le_refl _)
  rw [hW4]
  refine bodyPost_ret (v := .tuple #[.agg #[.string om, .int .i64 res, .int .i64 0, .int .i64 n], .int .i64 0]) (by simp [results, Tryz.results40, go_sem, y0, y1, y2, y3]) rfl ?_
  have hS0 := HS0.out
  refine ⟨⟨om, res, n, by rw [HST.out, doV_ok], HDP.out.1, HDP.out.2.1, HDP.out.2.2⟩, HTB.out.of hbf.size (hbf.block b HLT.out) (fun g hg => hbf.block g (hS0 g hg)), ?_⟩
  have h1 : Fr b none w w5 := (Fr.of (b := b) (r := none) B4.out).trans HFR.out (fun g hg => by cases hg)
  exact ⟨hbf.os.trans h1.os, hbf.tape.trans h1.tape, hbf.output.trans h1.output, Nat.le_trans h1.size hbf.size, fun k hk hkb hr => (hbf.block k hk).trans (h1.block k hk hkb hr)⟩
end Go.Proofs.YtghggcehloiemabGreatDoor
namespace Go.Proofs.YtghggcehloiemabGreatDoor
open Go.RowKit
set_option linter.unusedVariables false
set_option maxRecDepth 16000
theorem Fr.al {b : Nat} {r : Option Nat} {w w1 : World} (h : Fr b r w w1) (o : Obj) : Fr b r w (w1.alloc o) := h.trans (Fr.of (b := b) (r := r) ((Below.refl _ _).alloc (Nat.le_refl _) _)) (fun g hg => Or.inl hg)
theorem TbI.al {w : World} {b : Nat} {tk tv : P.Ty 4} {sl : Nat} {a3 b3 cv : Value} {S : Nat → Prop} {L : List (ByteArray × ByteArray)} (h : TbI w b tk tv sl a3 b3 cv S L) (o : Obj) : TbI (w.alloc o) b tk tv sl a3 b3 cv S L := h.on ((Below.refl _ _).alloc (Nat.le_refl _) _)
set_option maxHeartbeats 4000000 in
theorem len_any {w : World} (b : Nat) (tk tv : P.Ty 4) (sl : Nat) (a3 b3 cv : Value) (S : Nat → Prop) (L : List (ByteArray × ByteArray)) (h : TbI w b tk tv sl a3 b3 cv S L) : Calls Tryz.prog 19 #[.pointer (some ⟨b, 0, none⟩)] w fun e w' => e = .returned (.int .i64 L.length) ∧ TbI w' b tk tv sl a3 b3 cv S L ∧ Fr b none w w' := by
  have HD := hid_m (doAlone_any b tk tv sl a3 b3 cv S L ⟨#[]⟩ ⟨#[]⟩ 4 h (Or.inl rfl))
  clear h
  go_enter Tryz.func19, Tryz.ntmps19
  go_wp2_with fail
  refine HD.out.mono ?_
  rintro e w1 ⟨⟨om, res, n, rfl, hsz, hcn, hfd⟩, htb, hfr⟩
  have HR := hid_m (hcn rfl)
  have HTB : Hid (TbI w1 b tk tv sl a3 b3 cv S L) := htb
  have HFR := hid_m hfr
  rw [show (P.mapDo sl 4 ⟨#[]⟩ ⟨#[]⟩ L).1 = 0 from rfl, doV_ok]
  clear hsz hcn hfd htb hfr
  go_wp2_with fail
  go_ret
  exact ⟨by rw [HR.out]; rfl, HTB.out.al _, HFR.out.al _⟩
set_option maxHeartbeats 4000000 in
theorem clear_any {w : World} (b : Nat) (tk tv : P.Ty 4) (sl : Nat) (a3 b3 cv : Value) (S : Nat → Prop) (L : List (ByteArray × ByteArray)) (h : TbI w b tk tv sl a3 b3 cv S L) : Calls Tryz.prog 39 #[.pointer (some ⟨b, 0, none⟩)] w fun e w' => e = .returned (.tuple #[]) ∧ TbI w' b tk tv sl a3 b3 cv S [] ∧ Fr b none w w' := by
  have HD := hid_m (doAlone_any b tk tv sl a3 b3 cv S L ⟨#[]⟩ ⟨#[]⟩ 5 h (Or.inr rfl))
  clear h
  go_enter Tryz.func39, Tryz.ntmps39
  go_wp2_with fail
  refine HD.out.mono ?_
  rintro e w1 ⟨⟨om, res, n, rfl, hsz, hcn, hfd⟩, htb, hfr⟩
  have HTB : Hid (TbI w1 b tk tv sl a3 b3 cv S []) := htb
  have HFR := hid_m hfr
  rw [show (P.mapDo sl 5 ⟨#[]⟩ ⟨#[]⟩ L).1 = 0 from rfl, doV_ok]
  clear hsz hcn hfd htb hfr
  go_wp2_with fail
  refine bodyPost_end (results_none rfl _ _ _) rfl ?_
  exact ⟨rfl, HTB.out, HFR.out⟩
/-- What laying a text of a type answers. -/
theorem lay_tab {w : World} (t : P.Ty 4) (kk : Known t) (a3 : Value) (key : ByteArray) (hs : key.size ≤ maxLen) (hp : ∃ base, w.ownsRow base 145 4 a3 (P.parts 4 t).length (cellsOf (P.parts 4 t))) :
    Calls Tryz.prog 47 #[.agg #[.int .i64 (P.sz 4 t).1, .int .i64 (P.sz 4 t).2, a3], .string key, .int .u8 0] w fun e w' => (¬ P.IsVal t key.data.toList ∧ e = .returned (.tuple #[.string ⟨#[]⟩, .bool false]) ∨ P.IsVal t key.data.toList ∧ ∃ kb : ByteArray, e = .returned (.tuple #[.string kb, .bool true]) ∧ kb.size = (P.sz 4 t).1 ∧ P.bytesOf kb.data.toList 0 (P.cov (P.parts 4 t)) = P.encV t key.data.toList) ∧ Below w.heap.size w w' := by
  obtain ⟨base, ho⟩ := hp
  have := Lay_any key w (P.sz 4 t).1 (P.sz 4 t).2 base a3 (P.parts 4 t) 0 ho kk.sz1 kk.sz32 kk.few kk.ok hs
  refine this.mono fun e w' hh => ?_
  obtain ⟨h1, h2⟩ := hh
  refine ⟨?_, h2⟩
  by_cases hv : P.IsVal t key.data.toList
  · right
    obtain ⟨bs, q1, q2, q3⟩ := kk.fill hv 0
    rw [q1] at h1
    exact ⟨hv, ⟨bs.toArray⟩, h1, by simp [ByteArray.size, q2], by simpa using q3⟩
  · left
    refine ⟨hv, ?_⟩
    cases hq : P.layAll (P.parts 4 t) key.data.toList (List.replicate (P.sz 4 t).1 0) with
    | none => rw [hq] at h1; exact h1
    | some y =>
      obtain ⟨l', bs⟩ := y
      cases l' with
      | nil => exact absurd ⟨bs, hq⟩ hv
      | cons c r => rw [hq] at h1; exact h1
def PutE (tk tv : P.Ty 4) (sl : Nat) (k v : ByteArray) (L : List (ByteArray × ByteArray)) (er : Nat) (L' : List (ByteArray × ByteArray)) : Prop :=
  (¬ (P.IsVal tk k.data.toList ∧ P.IsVal tv v.data.toList) ∧ er = 2 ∧ L' = L) ∨ ((P.IsVal tk k.data.toList ∧ P.IsVal tv v.data.toList) ∧ er = errNo (P.mapDo sl 2 k v L).1 ∧ L' = (P.mapDo sl 2 k v L).2)
set_option maxHeartbeats 4000000 in
theorem put_any {w : World} (b : Nat) (tk tv : P.Ty 4) (sl : Nat) (a3 b3 cv : Value) (S : Nat → Prop) (L : List (ByteArray × ByteArray)) (k v : ByteArray) (h : TbI w b tk tv sl a3 b3 cv S L) (hk : k.size ≤ maxLen) (hv : v.size ≤ maxLen) :
    Calls Tryz.prog 37 #[.pointer (some ⟨b, 0, none⟩), .string k, .string v] w fun e w' => ∃ er L', e = .returned (.int .i64 (er : Nat)) ∧ PutE tk tv sl k v L er L' ∧ TbI w' b tk tv sl a3 b3 cv S L' ∧ Fr b none w w' := by
  obtain ⟨bytes0, T0, hT0, hP0⟩ := id h
  obtain ⟨q1, hq1⟩ := hT0.pk
  obtain ⟨q2, hq2⟩ := hT0.pv
  obtain ⟨xa, na, ca, ha3⟩ := owns_slice hq1
  obtain ⟨xb, nb, cb, hb3⟩ := owns_slice hq2
  have HLK : Hid (∀ w', Below w.heap.size w w' → _) := fun w' hb => lay_tab (w := w') tk hP0.kk a3 k hk (hT0.on hb).pk
  have HLV : Hid (∀ w', Below w.heap.size w w' → _) := fun w' hb => lay_tab (w := w') tv hP0.kv b3 v hv (hT0.on hb).pv
  have HDO : Hid (∀ w' (kb vb : ByteArray), Below w.heap.size w w' → kb.size = (P.sz 4 tk).1 → vb.size = (P.sz 4 tv).1 → P.IsVal tk k.data.toList ∧ P.bytesOf kb.data.toList 0 (P.cov (P.parts 4 tk)) = P.encV tk k.data.toList → P.IsVal tv v.data.toList ∧ P.bytesOf vb.data.toList 0 (P.cov (P.parts 4 tv)) = P.encV tv v.data.toList → Calls Tryz.prog 72 #[.pointer (some ⟨b, 0, none⟩), .int .i64 (2 : Nat), .string kb, .string vb] w' fun e w'' => DoP w' w'' e b tk tv sl a3 b3 cv S 2 k v L) := fun w' kb vb hb h1 h2 h3 h4 =>
    do_tab b tk tv sl a3 b3 cv kb vb k v S 2 L (h.on hb) (by decide) h1 h2 (fun _ => h3) (fun _ => h4)
  have hlow := mapDo_low sl 2 k v L (by decide)
  obtain ⟨n0, n1, n2, n3, n4, n5, n6, n7, nf⟩ := hT0.cells
  have HH := hid_m h
  have HT0 := hid_m hT0
  obtain ⟨z1, hz1⟩ : ∃ z, (P.sz 4 tk).1 = z := ⟨_, rfl⟩
  obtain ⟨z2, hz2⟩ : ∃ z, (P.sz 4 tk).2 = z := ⟨_, rfl⟩
  obtain ⟨z3, hz3⟩ : ∃ z, (P.sz 4 tv).1 = z := ⟨_, rfl⟩
  obtain ⟨z4, hz4⟩ : ∃ z, (P.sz 4 tv).2 = z := ⟨_, rfl⟩
  rw [hz1, hz2] at HLK
  rw [hz3, hz4] at HLV
  rw [hz1, hz3] at HDO
  rw [hz1] at n0
  rw [hz2] at n1
  rw [hz3] at n3
  rw [hz4] at n4
  have HZ := hid_m (And.intro hz3 hz4)
  subst ha3
  subst hb3
  have HLOW := hid_m hlow
  clear h hT0 hP0 hq1 hq2 hz1 hz2 hz3 hz4 hlow n6 n7 nf hk hv
  go_enter Tryz.func37, Tryz.ntmps37
  go_wp2_with fail
  refine (HLK.out w (Below.refl _ _)).mono ?_
  rintro e w1 ⟨hres, hb1⟩
  have B1 := hid_m hb1
  clear hb1 n0 n1 n2 n3 n4 n5
  rcases hres with ⟨hno, rfl⟩ | ⟨hyes, kb, rfl, hks, hkb⟩
  · have HNO := hid_m hno
    clear hno
    go_wp2_with fail
    go_ret
    exact ⟨2, L, rfl, Or.inl ⟨fun hh => HNO.out hh.1, rfl, rfl⟩, HH.out.on B1.out, Fr.of B1.out⟩
  · have HK := hid_m (And.intro hyes (And.intro hks hkb))
    clear hyes hks hkb
    obtain ⟨n0, n1, n2, n3, n4, n5, n6, n7, nf⟩ := (HT0.out.on B1.out).cells
    rw [HZ.out.1] at n3
    rw [HZ.out.2] at n4
    clear n0 n1 n2 n6 n7 nf
    go_wp2_with fail
    refine (HLV.out w1 B1.out).mono ?_
    rintro e w2 ⟨hres, hb2⟩
    have B2 := hid_m (B1.out.trans (hb2.mono B1.out.size))
    clear hb2 n3 n4 n5
    rcases hres with ⟨hno, rfl⟩ | ⟨hyes, vb, rfl, hvs, hvb⟩
    · have HNO := hid_m hno
      clear hno
      go_wp2_with fail
      go_ret
      exact ⟨2, L, rfl, Or.inl ⟨fun hh => HNO.out hh.2, rfl, rfl⟩, HH.out.on B2.out, Fr.of B2.out⟩
    · have HV := hid_m (And.intro hyes (And.intro hvs hvb))
      clear hyes hvs hvb
      go_wp2_with fail
      refine (HDO.out w2 kb vb B2.out HK.out.2.1 HV.out.2.1 ⟨HK.out.1, HK.out.2.2⟩ ⟨HV.out.1, HV.out.2.2⟩).mono ?_
      rintro e w3 ⟨⟨om, res, n, rfl, hsz, hcn, hfd⟩, htb, hfr⟩
      have HTB := hid_m htb
      have HFR := hid_m hfr
      clear hsz hcn hfd htb hfr
      obtain ⟨st, hst⟩ : ∃ st, (P.mapDo sl 2 k v L).1 = st := ⟨_, rfl⟩
      have HST := hid_m hst
      have hle : st ≤ 2 := by rw [← hst]; exact HLOW.out.1
      rw [hst]
      clear hst
      have hc : st = 0 ∨ st = 1 ∨ st = 2 := by omega
      have hfin : ∀ wz, Below w3.heap.size w3 wz → TbI wz b tk tv sl (.slice xa na ca) (.slice xb nb cb) cv S (P.mapDo sl 2 k v L).2 ∧ Fr b none w wz := fun wz hz => ⟨HTB.out.on hz, ((Fr.of (b := b) (r := none) B2.out).trans HFR.out (fun g hg => by cases hg)).trans (Fr.of (b := b) (r := none) hz) (fun g hg => by cases hg)⟩
      have HFIN := hid_m hfin
      clear hfin hle
      unfold doV
      rcases hc with rfl | rfl | rfl
      · rw [if_pos rfl]
        go_wp2_with fail
        go_ret
        exact ⟨0, _, rfl, Or.inr ⟨⟨HK.out.1, HV.out.1⟩, by rw [HST.out]; rfl, rfl⟩, HFIN.out _ ((Below.refl _ _).alloc (Nat.le_refl _) _)⟩
      · rw [if_neg (by decide)]
        go_wp2_with fail
        go_ret
        exact ⟨10, _, rfl, Or.inr ⟨⟨HK.out.1, HV.out.1⟩, by rw [HST.out]; rfl, rfl⟩, HFIN.out _ ((Below.refl _ _).alloc (Nat.le_refl _) _)⟩
      · rw [if_neg (by decide)]
        go_wp2_with fail
        go_ret
        exact ⟨9, _, rfl, Or.inr ⟨⟨HK.out.1, HV.out.1⟩, by rw [HST.out]; rfl, rfl⟩, HFIN.out _ ((Below.refl _ _).alloc (Nat.le_refl _) _)⟩
end Go.Proofs.YtghggcehloiemabGreatDoor
namespace Go.Proofs.YtghggcehloiemabGreatDoor
open Go.RowKit
set_option linter.unusedVariables false
set_option maxRecDepth 16000
/-- What a run with a key answers. -/
def KeyP (w w' : World) (e : Ending) (b : Nat) (tk tv : P.Ty 4) (sl : Nat) (a3 b3 cv : Value) (S : Nat → Prop) (t : Nat) (k : ByteArray) (L : List (ByteArray × ByteArray)) : Prop :=
  (¬ P.IsVal tk k.data.toList ∧ e = .returned (.tuple #[.agg #[.string ⟨#[]⟩, .int .i64 0, .int .i64 0, .int .i64 0], .int .i64 2]) ∧ TbI w' b tk tv sl a3 b3 cv S L ∧ Fr b none w w') ∨ (P.IsVal tk k.data.toList ∧ DoP w w' e b tk tv sl a3 b3 cv S t k ⟨#[]⟩ L)
set_option maxHeartbeats 4000000 in
theorem withKey_any {w : World} (b : Nat) (tk tv : P.Ty 4) (sl : Nat) (a3 b3 cv : Value) (S : Nat → Prop) (L : List (ByteArray × ByteArray)) (k : ByteArray) (t : Nat) (h : TbI w b tk tv sl a3 b3 cv S L) (ht : t = 1 ∨ t = 3) (hk : k.size ≤ maxLen) :
    Calls Tryz.prog 69 #[.pointer (some ⟨b, 0, none⟩), .int .i64 t, .string k] w fun e w' => KeyP w w' e b tk tv sl a3 b3 cv S t k L := by
  obtain ⟨bytes0, T0, hT0, hP0⟩ := id h
  obtain ⟨q1, hq1⟩ := hT0.pk
  obtain ⟨q2, hq2⟩ := hT0.pv
  obtain ⟨xa, na, ca, ha3⟩ := owns_slice hq1
  obtain ⟨xb, nb, cb, hb3⟩ := owns_slice hq2
  have HLK : Hid (∀ w', Below w.heap.size w w' → _) := fun w' hb => lay_tab (w := w') tk hP0.kk a3 k hk (hT0.on hb).pk
  obtain ⟨z1, hz1⟩ : ∃ z, (P.sz 4 tk).1 = z := ⟨_, rfl⟩
  obtain ⟨z2, hz2⟩ : ∃ z, (P.sz 4 tk).2 = z := ⟨_, rfl⟩
  obtain ⟨z3, hz3⟩ : ∃ z, (P.sz 4 tv).1 = z := ⟨_, rfl⟩
  obtain ⟨z4, hz4⟩ : ∃ z, (P.sz 4 tv).2 = z := ⟨_, rfl⟩
  have hv32 := hP0.kv.sz32
  have hv1 := hP0.kv.sz1
  rw [hz3] at hv32 hv1
  have HBV := hid_m (fun w => blank_any z3 w (by omega) hv1)
  have HDO : Hid (∀ w' (kb : ByteArray), Below w.heap.size w w' → kb.size = z1 → P.IsVal tk k.data.toList ∧ P.bytesOf kb.data.toList 0 (P.cov (P.parts 4 tk)) = P.encV tk k.data.toList → Calls Tryz.prog 72 #[.pointer (some ⟨b, 0, none⟩), .int .i64 t, .string kb, .string ⟨(List.replicate z3 (0 : UInt8)).toArray⟩] w' fun e w'' => DoP w' w'' e b tk tv sl a3 b3 cv S t k ⟨#[]⟩ L) := fun w' kb hb h1 h3 =>
    do_tab b tk tv sl a3 b3 cv kb _ k _ S t L (h.on hb) (by omega) (by rw [h1, hz1]) (by rw [zero_bytes, hz3]) (fun _ => h3) (fun hh => by omega)
  have hlow := mapDo_low sl t k ⟨#[]⟩ L (by omega)
  have hbA : Below w.heap.size w (w.alloc (Obj.cells #[.string ⟨#[]⟩, .int .i64 0, .int .i64 0, .int .i64 0] 56)) := (Below.refl _ _).alloc (Nat.le_refl _) _
  have hrA : (w.alloc (Obj.cells #[.string ⟨#[]⟩, .int .i64 0, .int .i64 0, .int .i64 0] 56)).heap[w.heap.size]? = some (.cells #[.string ⟨#[]⟩, .int .i64 0, .int .i64 0, .int .i64 0] 56 (0, 0)) := heap_alloc_new _ _
  obtain ⟨n0, n1, n2, n3, n4, n5, n6, n7, nf⟩ := (hT0.on hbA).cells
  have HH := hid_m h
  have HT0 := hid_m hT0
  have HS0 : Hid (∀ g, S g → g < w.heap.size) := fun g hg => (hT0.own g hg).2
  have HLT := hid_m hT0.lt
  have B0 := hid_m hbA
  have HR0 := hid_m hrA
  rw [hz1, hz2] at HLK
  rw [hz1] at n0
  rw [hz2] at n1
  have HZ := hid_m (And.intro hz3 hz4)
  subst ha3
  subst hb3
  have HLOW := hid_m hlow
  clear h hT0 hP0 hq1 hq2 hz1 hz2 hz3 hz4 hlow n3 n4 n5 n6 n7 nf hk hv32 hv1 hbA hrA
  go_enter Tryz.func69, Tryz.ntmps69
  go_wp2_with fail
  refine (HLK.out _ B0.out).mono ?_
  rintro e w1 ⟨hres, hb1⟩
  have B1 := hid_m (B0.out.trans (hb1.mono B0.out.size))
  have HR1 := hid_m (t_blk_on hb1 HR0.out)
  clear hb1 n0 n1 n2
  rcases hres with ⟨hno, rfl⟩ | ⟨hyes, kb, rfl, hks, hkb⟩
  · have HNO := hid_m hno
    clear hno
    obtain ⟨r0, r1, r2, r3, rf⟩ := out_facts HR1.out
    go_wp2_with fail
    obtain ⟨W4, hW4, y0, y1, y2, y3, hbf⟩ := out_end (.string ⟨#[]⟩) (.int .i64 0) (.int .i64 0) (.int .i64 0) HR1.out (Below.refl w.heap.size w1) (Nat.le_refl _)
    rw [hW4]
    refine bodyPost_ret (v := .tuple #[.agg #[.string ⟨#[]⟩, .int .i64 0, .int .i64 0, .int .i64 0], .int .i64 2]) (by simp [results, Tryz.results69, go_sem, y0, y1, y2, y3]) rfl ?_
    have hb : Below w.heap.size w W4 := B1.out.trans hbf
    exact Or.inl ⟨HNO.out, rfl, HH.out.on hb, Fr.of hb⟩
  · have HK := hid_m (And.intro hyes (And.intro hks hkb))
    clear hyes hks hkb
    obtain ⟨n0, n1, n2, n3, n4, n5, n6, n7, nf⟩ := (HT0.out.on B1.out).cells
    rw [HZ.out.1] at n3
    rw [HZ.out.2] at n4
    clear n0 n1 n2 n6 n7 nf
    go_wp2_with fail
    refine (shSize_b _ _ _ _ _ _).mono ?_
    rintro e w3 ⟨rfl, hb3⟩
    have B3 := hid_m (B1.out.trans (hb3.mono B1.out.size))
    have HR3 := hid_m (t_blk_on hb3 HR1.out)
    clear hb3 n3 n4 n5
    go_wp2_with fail
    refine (HBV.out _).mono ?_
    rintro e w4 ⟨rfl, hb4⟩
    have B4 := hid_m (B3.out.trans (hb4.mono B3.out.size))
    have HR4 := hid_m (t_blk_on hb4 HR3.out)
    clear hb4
    go_wp2_with fail
    refine (HDO.out w4 kb B4.out HK.out.2.1 ⟨HK.out.1, HK.out.2.2⟩).mono ?_
    rintro e w5 ⟨⟨om, res, n, rfl, hsz, hcn, hfd⟩, htb, hfr⟩
    have HDP := hid_m (And.intro hsz (And.intro hcn hfd))
    have HTB := hid_m htb
    have HFR := hid_m hfr
    have HR5 : Hid (w5.heap[w.heap.size]? = some (.cells #[.string ⟨#[]⟩, .int .i64 0, .int .i64 0, .int .i64 0] 56 (0, 0))) := by unfold Hid; rw [hfr.block w.heap.size (m_blk_lt HR4.out) (by have := HLT.out; omega) (fun e => by cases e)]; exact HR4.out
    obtain ⟨r0, r1, r2, r3, rf⟩ := out_facts HR5.out
    clear hsz hcn hfd htb hfr
    have HFIN : Hid (∀ (v : Value) wz, v = doV om res (P.mapDo sl t k ⟨#[]⟩ L).1 n → Below w.heap.size w5 wz → DoP w wz (.returned v) b tk tv sl (.slice xa na ca) (.slice xb nb cb) cv S t k ⟨#[]⟩ L) := by
      intro v wz hv hbf
      have h1 : Fr b none w w5 := (Fr.of (b := b) (r := none) B4.out).trans HFR.out (fun g hg => by cases hg)
      exact ⟨⟨om, res, n, by rw [hv], HDP.out.1, HDP.out.2.1, HDP.out.2.2⟩, HTB.out.of hbf.size (hbf.block b HLT.out) (fun g hg => hbf.block g (HS0.out g hg)), ⟨hbf.os.trans h1.os, hbf.tape.trans h1.tape, hbf.output.trans h1.output, Nat.le_trans h1.size hbf.size, fun k hk hkb hr => (hbf.block k hk).trans (h1.block k hk hkb hr)⟩⟩
    obtain ⟨st, hst⟩ : ∃ st, (P.mapDo sl t k ⟨#[]⟩ L).1 = st := ⟨_, rfl⟩
    have hle : st ≤ 2 := by rw [← hst]; exact HLOW.out.1
    rw [hst] at HFIN ⊢
    clear hst
    have hc : st = 0 ∨ st = 1 ∨ st = 2 := by omega
    clear hle
    unfold doV
    rcases hc with rfl | rfl | rfl
    · rw [if_pos rfl]
      go_wp2_with fail
      obtain ⟨W4, hW4, y0, y1, y2, y3, hbf⟩ := out_end (.string om) (.int .i64 res) (.int .i64 0) (.int .i64 n) HR5.out (Below.refl w.heap.size w5) (Nat.le_refl _)
      rw [hW4]
      refine bodyPost_ret (v := .tuple #[.agg #[.string om, .int .i64 res, .int .i64 0, .int .i64 n], .int .i64 0]) (by simp [results, Tryz.results69, go_sem, y0, y1, y2, y3]) rfl ?_
      exact Or.inr ⟨HK.out.1, HFIN.out _ W4 rfl hbf⟩
    · rw [if_neg (by decide)]
      go_wp2_with fail
      obtain ⟨W4, hW4, y0, y1, y2, y3, hbf⟩ := out_end (.string ⟨#[]⟩) (.int .i64 0) (.int .i64 0) (.int .i64 0) HR5.out (Below.refl w.heap.size w5) (Nat.le_refl _)
      rw [hW4]
      refine bodyPost_ret (v := .tuple #[.agg #[.string ⟨#[]⟩, .int .i64 0, .int .i64 0, .int .i64 0], .int .i64 (errNo 1 : Nat)]) (by simp [results, Tryz.results69, go_sem, y0, y1, y2, y3]) rfl ?_
      exact Or.inr ⟨HK.out.1, HFIN.out _ W4 rfl hbf⟩
    · rw [if_neg (by decide)]
      go_wp2_with fail
      obtain ⟨W4, hW4, y0, y1, y2, y3, hbf⟩ := out_end (.string ⟨#[]⟩) (.int .i64 0) (.int .i64 0) (.int .i64 0) HR5.out (Below.refl w.heap.size w5) (Nat.le_refl _)
      rw [hW4]
      refine bodyPost_ret (v := .tuple #[.agg #[.string ⟨#[]⟩, .int .i64 0, .int .i64 0, .int .i64 0], .int .i64 (errNo 2 : Nat)]) (by simp [results, Tryz.results69, go_sem, y0, y1, y2, y3]) rfl ?_
      exact Or.inr ⟨HK.out.1, HFIN.out _ W4 rfl hbf⟩
def KeyE (tk : P.Ty 4) (sl t : Nat) (k : ByteArray) (L : List (ByteArray × ByteArray)) (er : Nat) (L' : List (ByteArray × ByteArray)) : Prop :=
  (¬ P.IsVal tk k.data.toList ∧ er = 2 ∧ L' = L) ∨ (P.IsVal tk k.data.toList ∧ er = errNo (P.mapDo sl t k ⟨#[]⟩ L).1 ∧ L' = (P.mapDo sl t k ⟨#[]⟩ L).2)
set_option maxHeartbeats 4000000 in
theorem drop_any {w : World} (b : Nat) (tk tv : P.Ty 4) (sl : Nat) (a3 b3 cv : Value) (S : Nat → Prop) (L : List (ByteArray × ByteArray)) (k : ByteArray) (h : TbI w b tk tv sl a3 b3 cv S L) (hk : k.size ≤ maxLen) :
    Calls Tryz.prog 38 #[.pointer (some ⟨b, 0, none⟩), .string k] w fun e w' => ∃ er L', e = .returned (.int .i64 (er : Nat)) ∧ KeyE tk sl 3 k L er L' ∧ TbI w' b tk tv sl a3 b3 cv S L' ∧ Fr b none w w' := by
  have HD := hid_m (withKey_any b tk tv sl a3 b3 cv S L k 3 h (Or.inr rfl) hk)
  have HLOW := hid_m (mapDo_low sl 3 k ⟨#[]⟩ L (by decide))
  clear h hk
  go_enter Tryz.func38, Tryz.ntmps38
  go_wp2_with fail
  refine HD.out.mono ?_
  rintro e w1 hres
  rcases hres with ⟨hno, rfl, htb, hfr⟩ | ⟨hyes, ⟨om, res, n, rfl, hsz, hcn, hfd⟩, htb, hfr⟩
  · have HX := hid_m (And.intro hno (And.intro htb hfr))
    clear hno htb hfr
    go_wp2_with fail
    go_ret
    exact ⟨2, L, rfl, Or.inl ⟨HX.out.1, rfl, rfl⟩, HX.out.2.1.al _, HX.out.2.2.al _⟩
  · have HX := hid_m (And.intro hyes (And.intro htb hfr))
    clear hyes hsz hcn hfd htb hfr
    obtain ⟨st, hst⟩ : ∃ st, (P.mapDo sl 3 k ⟨#[]⟩ L).1 = st := ⟨_, rfl⟩
    have HST := hid_m hst
    have hle : st ≤ 2 := by rw [← hst]; exact HLOW.out.1
    rw [hst]
    clear hst
    have hc : st = 0 ∨ st = 1 ∨ st = 2 := by omega
    clear hle
    unfold doV
    rcases hc with rfl | rfl | rfl
    · rw [if_pos rfl]
      go_wp2_with fail
      go_ret
      exact ⟨0, _, rfl, Or.inr ⟨HX.out.1, by rw [HST.out]; rfl, rfl⟩, HX.out.2.1.al _, HX.out.2.2.al _⟩
    · rw [if_neg (by decide)]
      go_wp2_with fail
      go_ret
      exact ⟨10, _, rfl, Or.inr ⟨HX.out.1, by rw [HST.out]; rfl, rfl⟩, HX.out.2.1.al _, HX.out.2.2.al _⟩
    · rw [if_neg (by decide)]
      go_wp2_with fail
      go_ret
      exact ⟨9, _, rfl, Or.inr ⟨HX.out.1, by rw [HST.out]; rfl, rfl⟩, HX.out.2.1.al _, HX.out.2.2.al _⟩
end Go.Proofs.YtghggcehloiemabGreatDoor
