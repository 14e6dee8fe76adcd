import Derived.Test.YtghggcehloiemabMdUaAll
namespace Go.Proofs.Ytghggcehloiemab
open Go.RowKit
set_option linter.unusedVariables false
set_option maxRecDepth 16000
theorem task_cells7 {w : World} {tb : Nat} {t : Int} {k v : ByteArray} {f g a s : Int} (h : w.heap[tb]? = some (taskB t k v f g a s)) : w.cell? ⟨tb, 0, none⟩ = some (.int .i64 t) ∧ w.cell? ⟨tb, 1, none⟩ = some (.string k) ∧ w.cell? ⟨tb, 2, none⟩ = some (.string v) ∧ w.cell? ⟨tb, 3, none⟩ = some (.int .i64 f) ∧ w.cell? ⟨tb, 4, none⟩ = some (.int .i64 g) ∧ w.cell? ⟨tb, 5, none⟩ = some (.int .i64 a) ∧ w.cell? ⟨tb, 6, none⟩ = some (.int .i64 s) := by
  unfold taskB at h
  refine ⟨?_, ?_, ?_, ?_, ?_, ?_, ?_⟩ <;> (rw [cell_of_row _ _ _ _ _ _ h]; rfl)
set_option maxHeartbeats 8000000 in
theorem srun_tail3 {w0 w : World} (B tb ob M sl room : Nat) (q1 : Int) (z1 z2 : Nat) (p2 : Option Addr) (p3 p4 : Nat) (p5 : Option Addr) (p6 p7 : Nat) (r1 : Int) (z3 z4 : Nat) (s2 : Option Addr) (s3 s4 : Nat) (s5 : Option Addr) (s6 s7 : Nat) (tk tv : P.Ty 4) (Sk Sv : Nat → Prop) (code mem : ByteArray) (lv : Value) (L : List (ByteArray × ByteArray)) (t : Nat) (k v : ByteArray) (f g a s : Int) (kAt vAt : Nat) (m2 m' : List UInt8) (res st n : Nat) (L' : List (ByteArray × ByteArray)) (T' : List (List UInt8))
    (h : Shp w B M sl room (.int .u8 q1) (.int .i64 z1) (.int .i64 z2) (.slice p2 p3 p4) (.slice p5 p6 p7) (.int .u8 r1) (.int .i64 z3) (.int .i64 z4) (.slice s2 s3 s4) (.slice s5 s6 s7) tk tv Sk Sv code mem lv L) (ht : w.heap[tb]? = some (taskB t k v f g a s)) (ho : w.heap[ob]? = some (.cells #[.string ⟨m'.toArray⟩, .int .i64 res, .int .i64 st, .int .i64 n] 51 (0, 0)))
    (hlf : ∀ (w' : World) (mm : ByteArray) (lv' : Value), Shp w' B M sl room (.int .u8 q1) (.int .i64 z1) (.int .i64 z2) (.slice p2 p3 p4) (.slice p5 p6 p7) (.int .u8 r1) (.int .i64 z3) (.int .i64 z4) (.slice s2 s3 s4) (.slice s5 s6 s7) tk tv Sk Sv code mm lv' L' → Calls Try.prog 16 #[.pointer (some ⟨B, 0, none⟩), .string ⟨m2.toArray⟩, .string ⟨m'.toArray⟩, taskV t k v f g a s, .int .i64 st, .int .i64 vAt] w' fun e w'' => e = .returned (.bool true) ∧ Below w'.heap.size w' w'')
    (hst : (P.mapDo sl t k v L).1 = st) (hL' : (P.mapDo sl t k v L).2 = L') (hPP : P.ShopP tk tv sl m' L' T') (hcn : t = 4 → res = L'.length)
    (F0 : Fr B lv.ownBlock w0 w) (hB0 : B < w0.heap.size) (htb : w0.heap.size ≤ tb) (hlv : ∀ g, lv.ownBlock = some g → g < w0.heap.size) (ht1 : t ≤ 4294967295) (hob : w0.heap.size ≤ ob)
    (c1 c2 c5 c6 c9 c10 c14 c15 c16 c17 c18 c19 c20 c21 c22 c23 c24 c25 c26 c27 c28 c29 c30 c31 c32 c33 c34 c35 c36 c37 c38 c39 c40 c41 c42 c43 c44 c45 c46 c47 c48 c49 c50 c51 c52 c53 c54 c55 c56 c57 c58 c59 c60 c61 c62 c63 c64 c65 c66 c67 c68 c69 c70 c71 c72 c73 c74 c75 c76 c77 c78 c79 c80 c81 c82 c83 c84 c85 c86 c87 c88 c89 c90 c91 c92 c93 c94 c95 c96 c97 c98 c99 c100 c101 c102 c103 c104 c105 c106 c107 c108 c109 c110 c111 c112 c113 c114 c115 c116 c117 c118 c119 c120 c121 c122 c123 c124 c125 c126 c127 c128 c129 c130 c131 c132 c133 c134 c135 c136 c137 c138 c139 c140 c141 c142 c143 c144 c145 c146 c147 c148 c149 c150 c151 c152 c153 c154 c155 c156 c157 c158 c159 c160 c161 c162 c163 c164 c165 c166 c167 c168 : Value) :
    Code.wp Try.prog (dropS 12 (Try.f5.body.getD .skip)) (bodyPost Try.prog Try.f5 fun e w' => e = .returned (.bool true) ∧ SrunPost w0 w' B M sl room (.int .u8 q1) (.int .i64 z1) (.int .i64 z2) (.slice p2 p3 p4) (.slice p5 p6 p7) (.int .u8 r1) (.int .i64 z3) (.int .i64 z4) (.slice s2 s3 s4) (.slice s5 s6 s7) tk tv Sk Sv code lv) ⟨#[.pointer (some ⟨B, 0, none⟩), c1, c2, .pointer (some ⟨tb, 0, none⟩), .bool false, c5, c6, .int .i64 kAt, .int .i64 vAt, c9, c10, .string ⟨m2.toArray⟩, .pointer (some ⟨ob, 0, none⟩), .int .i64 0, c14, c15, c16, c17, c18, c19, c20, c21, c22, c23, c24, c25, c26, c27, c28, c29, c30, c31, c32, c33, c34, c35, c36, c37, c38, c39, c40, c41, c42, c43, c44, c45, c46, c47, c48, c49, c50, c51, c52, c53, c54, c55, c56, c57, c58, c59, c60, c61, c62, c63, c64, c65, c66, c67, c68, c69, c70, c71, c72, c73, c74, c75, c76, c77, c78, c79, c80, c81, c82, c83, c84, c85, c86, c87, c88, c89, c90, c91, c92, c93, c94, c95, c96, c97, c98, c99, c100, c101, c102, c103, c104, c105, c106, c107, c108, c109, c110, c111, c112, c113, c114, c115, c116, c117, c118, c119, c120, c121, c122, c123, c124, c125, c126, c127, c128, c129, c130, c131, c132, c133, c134, c135, c136, c137, c138, c139, c140, c141, c142, c143, c144, c145, c146, c147, c148, c149, c150, c151, c152, c153, c154, c155, c156, c157, c158, c159, c160, c161, c162, c163, c164, c165, c166, c167, c168], []⟩ w := by
  have HSS := hid_m (fun (w : World) (hm : Mp w B 13 M sl _ _ lv L) => status_any B M sl (shopC (.int .u8 q1) (.int .i64 z1) (.int .i64 z2) (.slice p2 p3 p4) (.slice p5 p6 p7) (.int .u8 r1) (.int .i64 z3) (.int .i64 z4) (.slice s2 s3 s4) (.slice s5 s6 s7) code room mem sl lv) 38 lv L t k v f g a s hm (by omega))
  rw [hst, hL'] at HSS
  have HLF := hid_m hlf
  have HPP := hid_m hPP
  have HCN := hid_m hcn
  have HH := hid_m h
  have HF0 := hid_m F0
  have HBD := hid_m (And.intro hB0 (And.intro htb (And.intro hlv hob)))
  have HN0 := hid_m ht
  have HO0 := hid_m ho
  clear h ht ht1 F0 hB0 htb hlv hob hst hL' hlf hPP hcn ho
  conv => arg 2; whnf
  obtain ⟨x0, x1, x2, x3, x4, x5, x6⟩ := task_cells7 HN0.out
  go_wp2_with fail
  refine (HSS.out w HH.out.mp).mono ?_
  rintro e w1 ⟨rfl, ⟨lv', hm1, hnx⟩, hf1⟩
  have hs1 := HH.out.fr hm1 hf1
  have hbt : w1.heap[tb]? = some (taskB t k v f g a s) := by
    rw [hf1.block tb (m_blk_lt HN0.out) (by have := HBD.out; omega) (fun e => by have := HBD.out.2.2.1 tb e; have := HBD.out; omega)]; exact HN0.out
  have hbo : w1.heap[ob]? = some (.cells #[.string ⟨m'.toArray⟩, .int .i64 res, .int .i64 st, .int .i64 n] 51 (0, 0)) := by
    rw [hf1.block ob (m_blk_lt HO0.out) (by have := HBD.out; omega) (fun e => by have := HBD.out.2.2.1 ob e; have := HBD.out; omega)]; exact HO0.out
  have HF1 := hid_m (HF0.out.trans hf1 (fun g hg => Or.inl hg))
  have HS1 := hid_m hs1
  have HN1 := hid_m hbt
  have HO1 := hid_m hbo
  have HNX : Hid (Nx w0 lv lv') := fun g hg => (hnx g hg).elim Or.inl (fun h => Or.inr (by have := HF0.out.size; omega))
  clear hm1 hnx hf1 hs1 hbt hbo x0 x1 x2 x3 x4 x5 x6
  obtain ⟨x0, x1, x2, x3, x4, x5, x6⟩ := task_cells7 HN1.out
  obtain ⟨e0, e1, e2, e3, ef⟩ := out_facts HO1.out
  go_wp2_with fail
  refine (HLF.out w1 mem lv' HS1.out).mono ?_
  rintro e w2 ⟨rfl, hb2⟩
  have HS2 := hid_m (HS1.out.on hb2)
  have HN2 := hid_m (blk_on hb2 HN1.out)
  have HO2 := hid_m (blk_on hb2 HO1.out)
  have HF2 := hid_m (HF1.out.trans (Fr.of (b := B) (r := lv.ownBlock) hb2) (fun g hg => Or.inl hg))
  clear hb2 x0 x1 x2 x3 x4 x5 x6 e0 e1 e2 e3 ef HS1 HN1 HO1 HF1
  obtain ⟨e0, e1, e2, e3, ef⟩ := out_facts HO2.out
  obtain ⟨n0, n1, n2, n3, n4, n5, n6, n7, n8, n9, n10, n11, n12, n13, n14, nf⟩ := shop_cells (show w2.heap[B]? = _ from HS2.out.mp.blk)
  clear n0 n1 n2 n3 n4 n5 n6 n7 n8 n9 n10 n11 n13 n14 e1 e2 e3 ef
  rename_i K18 hK18 Kc hKc
  have HK18 := hid_m hK18
  clear hK18
  go_wp2_with fail
  refine HK18.out _ _ ?_
  refine wp_seq_k (fun K19 hK19 => ?_)
  have HK19 := hid_m hK19
  clear hK19 HK18
  go_wp2_with fail
  obtain ⟨w3, hw3⟩ : ∃ W, (w2.setCell ⟨B, 12, none⟩ (.string ⟨m'.toArray⟩)) = W := ⟨_, rfl⟩
  have HS3 : Hid (Shp w3 B M sl room (.int .u8 q1) (.int .i64 z1) (.int .i64 z2) (.slice p2 p3 p4) (.slice p5 p6 p7) (.int .u8 r1) (.int .i64 z3) (.int .i64 z4) (.slice s2 s3 s4) (.slice s5 s6 s7) tk tv Sk Sv code ⟨m'.toArray⟩ lv' L') := by unfold Hid; rw [← hw3]; exact HS2.out.mem _
  have HN3 : Hid (w3.heap[tb]? = some (taskB t k v f g a s)) := by unfold Hid; rw [← hw3, set_other (by have := HBD.out; omega)]; exact HN2.out
  have HO3 : Hid (w3.heap[ob]? = some (.cells #[.string ⟨m'.toArray⟩, .int .i64 res, .int .i64 st, .int .i64 n] 51 (0, 0))) := by unfold Hid; rw [← hw3, set_other (by have := HBD.out; omega)]; exact HO2.out
  have HF3 : Hid (Fr B lv.ownBlock w0 w3) := by unfold Hid; rw [← hw3]; exact HF2.out.set 12 _
  rw [hw3]
  clear hw3 e0 n12 nf HS2 HN2 HO2 HF2
  refine HK19.out _ _ ?_
  clear HK19
  have HEND : Hid (∀ wz, Below w3.heap.size w3 wz → SrunPost w0 wz B M sl room (.int .u8 q1) (.int .i64 z1) (.int .i64 z2) (.slice p2 p3 p4) (.slice p5 p6 p7) (.int .u8 r1) (.int .i64 z3) (.int .i64 z4) (.slice s2 s3 s4) (.slice s5 s6 s7) tk tv Sk Sv code lv) := fun wz hz =>
    ⟨⟨⟨m'.toArray⟩, lv', L', T', HS3.out.on hz, by simpa using HPP.out, HNX.out⟩, HF3.out.trans (Fr.of (b := B) (r := lv.ownBlock) hz) (fun g hg => Or.inl hg)⟩
  obtain ⟨x0, x1, x2, x3, x4, x5, x6⟩ := task_cells7 HN3.out
  obtain ⟨e0, e1, e2, e3, ef⟩ := out_facts HO3.out
  clear x1 x2 x3 x4 x5 x6 e0 e3 ef
  by_cases h4 : t = 4
  · obtain ⟨aa, N, cap, hlv2⟩ := owns_slice HS3.out.mp.own
    subst hlv2
    have hNl : N = L'.length := by
      rcases HS3.out.mp.own.2 with ⟨h, h'⟩ | ⟨g, cap', cur, h, _⟩
      · cases h; have := h'; simp at this; omega
      · cases h; rfl
    have hrN : res = N := by rw [HCN.out h4, hNl]
    subst hrN
    obtain ⟨n0, n1, n2, n3, n4, n5, n6, n7, n8, n9, n10, n11, n12, n13, n14, nf⟩ := shop_cells (show w3.heap[B]? = _ from HS3.out.mp.blk)
    clear n0 n1 n2 n3 n4 n5 n6 n7 n8 n9 n10 n11 n12 n13 nf hNl
    subst h4
    go_wp2_with fail
    go_quiet (fail)
    go_wp2_with fail
    go_ret
    exact ⟨rfl, HEND.out _ ⟨rfl, rfl, rfl, Nat.le_refl _, fun _ _ => rfl⟩⟩
  · have h4' : ((t : Int) == 4) = false := by rw [beq_eq_false_iff_ne]; omega
    clear h4
    go_wp2_with fail
    go_quiet (fail)
    go_wp2_with fail
    go_ret
    exact ⟨rfl, HEND.out _ ⟨rfl, rfl, rfl, Nat.le_refl _, fun _ _ => rfl⟩⟩
end Go.Proofs.Ytghggcehloiemab
