import Derived.Test.YtghggcehloiemabMdUc
namespace Go.Proofs.Ytghggcehloiemab
open Go.RowKit
set_option linter.unusedVariables false
set_option maxRecDepth 16000
set_option maxHeartbeats 8000000 in
theorem srun_tail2 {w0 w : World} (B tb M sl room : Nat) (q1 : Int) (z1 z2 : Nat) (p2 : Option Addr) (p3 p4 : Nat) (p5 : Option Addr) (p6 p7 : Nat) (r1 : Int) (z3 z4 : Nat) (s2 : Option Addr) (s3 s4 : Nat) (s5 : Option Addr) (s6 s7 : Nat) (tk tv : P.Ty 4) (Sk Sv : Nat → Prop) (code mem : ByteArray) (lv : Value) (L : List (ByteArray × ByteArray)) (t : Nat) (k v : ByteArray) (f g a s : Int) (kAt vAt : Nat) (m2 m' : List UInt8) (res st n : Nat) (L' : List (ByteArray × ByteArray)) (T' : List (List UInt8))
    (h : Shp w B M sl room (.int .u8 q1) (.int .i64 z1) (.int .i64 z2) (.slice p2 p3 p4) (.slice p5 p6 p7) (.int .u8 r1) (.int .i64 z3) (.int .i64 z4) (.slice s2 s3 s4) (.slice s5 s6 s7) tk tv Sk Sv code mem lv L) (ht : w.heap[tb]? = some (taskB t k v f g a s))
    (hrn : ∀ w, Calls Try.prog 14 #[.string code, .string ⟨m2.toArray⟩, .int .i64 t, .int .i64 kAt, .int .i64 vAt, .int .i64 10000] w fun e w' => e = .returned (.tuple #[.agg #[.string ⟨m'.toArray⟩, .int .i64 res, .int .i64 st, .int .i64 n], .int .i64 0]) ∧ Below w.heap.size w w')
    (hlf : ∀ (w' : World) (mm : ByteArray) (lv' : Value), Shp w' B M sl room (.int .u8 q1) (.int .i64 z1) (.int .i64 z2) (.slice p2 p3 p4) (.slice p5 p6 p7) (.int .u8 r1) (.int .i64 z3) (.int .i64 z4) (.slice s2 s3 s4) (.slice s5 s6 s7) tk tv Sk Sv code mm lv' L' → Calls Try.prog 16 #[.pointer (some ⟨B, 0, none⟩), .string ⟨m2.toArray⟩, .string ⟨m'.toArray⟩, taskV t k v f g a s, .int .i64 st, .int .i64 vAt] w' fun e w'' => e = .returned (.bool true) ∧ Below w'.heap.size w' w'')
    (hst : (P.mapDo sl t k v L).1 = st) (hL' : (P.mapDo sl t k v L).2 = L') (hPP : P.ShopP tk tv sl m' L' T') (hcn : t = 4 → res = L'.length)
    (F0 : Fr B lv.ownBlock w0 w) (hB0 : B < w0.heap.size) (htb : w0.heap.size ≤ tb) (hlv : ∀ g, lv.ownBlock = some g → g < w0.heap.size) (ht1 : t ≤ 4294967295)
    (c1 c2 c5 c6 c9 c10 c12 c13 c14 c15 c16 c17 c18 c19 c20 c21 c22 c23 c24 c25 c26 c27 c28 c29 c30 c31 c32 c33 c34 c35 c36 c37 c38 c39 c40 c41 c42 c43 c44 c45 c46 c47 c48 c49 c50 c51 c52 c53 c54 c55 c56 c57 c58 c59 c60 c61 c62 c63 c64 c65 c66 c67 c68 c69 c70 c71 c72 c73 c74 c75 c76 c77 c78 c79 c80 c81 c82 c83 c84 c85 c86 c87 c88 c89 c90 c91 c92 c93 c94 c95 c96 c97 c98 c99 c100 c101 c102 c103 c104 c105 c106 c107 c108 c109 c110 c111 c112 c113 c114 c115 c116 c117 c118 c119 c120 c121 c122 c123 c124 c125 c126 c127 c128 c129 c130 c131 c132 c133 c134 c135 c136 c137 c138 c139 c140 c141 c142 c143 c144 c145 c146 c147 c148 c149 c150 c151 c152 c153 c154 c155 c156 c157 c158 c159 c160 c161 c162 c163 c164 c165 c166 c167 c168 : Value) :
    Code.wp Try.prog (dropS 11 (Try.f5.body.getD .skip)) (bodyPost Try.prog Try.f5 fun e w' => e = .returned (.bool true) ∧ SrunPost w0 w' B M sl room (.int .u8 q1) (.int .i64 z1) (.int .i64 z2) (.slice p2 p3 p4) (.slice p5 p6 p7) (.int .u8 r1) (.int .i64 z3) (.int .i64 z4) (.slice s2 s3 s4) (.slice s5 s6 s7) tk tv Sk Sv code lv) ⟨#[.pointer (some ⟨B, 0, none⟩), c1, c2, .pointer (some ⟨tb, 0, none⟩), .bool false, c5, c6, .int .i64 kAt, .int .i64 vAt, c9, c10, .string ⟨m2.toArray⟩, c12, c13, c14, c15, c16, c17, c18, c19, c20, c21, c22, c23, c24, c25, c26, c27, c28, c29, c30, c31, c32, c33, c34, c35, c36, c37, c38, c39, c40, c41, c42, c43, c44, c45, c46, c47, c48, c49, c50, c51, c52, c53, c54, c55, c56, c57, c58, c59, c60, c61, c62, c63, c64, c65, c66, c67, c68, c69, c70, c71, c72, c73, c74, c75, c76, c77, c78, c79, c80, c81, c82, c83, c84, c85, c86, c87, c88, c89, c90, c91, c92, c93, c94, c95, c96, c97, c98, c99, c100, c101, c102, c103, c104, c105, c106, c107, c108, c109, c110, c111, c112, c113, c114, c115, c116, c117, c118, c119, c120, c121, c122, c123, c124, c125, c126, c127, c128, c129, c130, c131, c132, c133, c134, c135, c136, c137, c138, c139, c140, c141, c142, c143, c144, c145, c146, c147, c148, c149, c150, c151, c152, c153, c154, c155, c156, c157, c158, c159, c160, c161, c162, c163, c164, c165, c166, c167, c168], []⟩ w := by
  have HRN := hid_m hrn
  have HLF := hid_m hlf
  have HST := hid_m (And.intro hst hL')
  have HPP := hid_m hPP
  have HCN := hid_m hcn
  have HH := hid_m h
  have HF0 := hid_m F0
  have HBD := hid_m (And.intro hB0 (And.intro htb hlv))
  have HT1 := hid_m ht1
  have HN0 := hid_m ht
  have HX0 := hid_m (Rx.of h.mp ht)
  clear h ht ht1 F0 hB0 htb hlv hst hL' hrn hlf hPP hcn
  conv => arg 2; whnf
  refine wp_seq_k (fun K14 hK14 => ?_)
  have HK14 := hid_m hK14
  clear hK14
  have HS0 := hid_m HF0.out.size
  refine wp_region_held_drew (S := Rx B tb (.int .u8 q1) (.int .i64 z1) (.int .i64 z2) (.slice p2 p3 p4) (.slice p5 p6 p7) (.int .u8 r1) (.int .i64 z3) (.int .i64 z4) (.slice s2 s3 s4) (.slice s5 s6 s7) code room mem t k v f g a s) (by kernel_rfl) HX0.out (fun hHeld => ?_)
  refine wpAnyH_take (i := 0) (v := ?_) rfl (by kernel_rfl) (by kernel_rfl) (by kernel_rfl) (fun _ _ _ h => h) (Or.inl ⟨by rfl, ?_⟩) (by assumption) ?_
  rotate_left
  · intro w hSw
    obtain ⟨x0, x1, x2, x3, x4, x5, x6, x7, x8, x9, x10, x11, x12, x13, x14, x15, x16, x17, x18, x19⟩ := hSw
    go_simp
    all_goals with_reducible rfl
  try simp only [Act.put]
  refine wpAnyH_take (i := 1) (v := ?_) rfl (by kernel_rfl) (by kernel_rfl) (by kernel_rfl) (fun _ _ _ h => h) (Or.inl ⟨by rfl, ?_⟩) (by assumption) ?_
  rotate_left
  · intro w hSw
    obtain ⟨x0, x1, x2, x3, x4, x5, x6, x7, x8, x9, x10, x11, x12, x13, x14, x15, x16, x17, x18, x19⟩ := hSw
    go_simp
    all_goals with_reducible rfl
  try simp only [Act.put]
  refine wpAnyH_take (i := 2) (v := ?_) rfl (by kernel_rfl) (by kernel_rfl) (by kernel_rfl) (fun _ _ _ h => h) (Or.inl ⟨by rfl, ?_⟩) (by assumption) ?_
  rotate_left
  · intro w hSw
    obtain ⟨x0, x1, x2, x3, x4, x5, x6, x7, x8, x9, x10, x11, x12, x13, x14, x15, x16, x17, x18, x19⟩ := hSw
    go_simp
    all_goals with_reducible rfl
  try simp only [Act.put]
  refine wpAnyH_take (i := 3) (v := ?_) rfl (by kernel_rfl) (by kernel_rfl) (by kernel_rfl) (fun _ _ _ h => h) (Or.inl ⟨by rfl, ?_⟩) (by assumption) ?_
  rotate_left
  · intro w hSw
    obtain ⟨x0, x1, x2, x3, x4, x5, x6, x7, x8, x9, x10, x11, x12, x13, x14, x15, x16, x17, x18, x19⟩ := hSw
    go_simp
    all_goals with_reducible rfl
  try simp only [Act.put]
  refine wpAnyH_take (i := 4) (v := ?_) rfl (by kernel_rfl) (by kernel_rfl) (by kernel_rfl) (fun _ _ _ h => h) (Or.inl ⟨by rfl, ?_⟩) (by assumption) ?_
  rotate_left
  · intro w hSw
    obtain ⟨x0, x1, x2, x3, x4, x5, x6, x7, x8, x9, x10, x11, x12, x13, x14, x15, x16, x17, x18, x19⟩ := hSw
    go_simp
    all_goals with_reducible rfl
  try simp only [Act.put]
  refine wpAnyH_take (i := 5) (v := ?_) rfl (by kernel_rfl) (by kernel_rfl) (by kernel_rfl) (fun _ _ _ h => h) (Or.inl ⟨by rfl, ?_⟩) (by assumption) ?_
  rotate_left
  · intro w hSw
    obtain ⟨x0, x1, x2, x3, x4, x5, x6, x7, x8, x9, x10, x11, x12, x13, x14, x15, x16, x17, x18, x19⟩ := hSw
    go_simp
    all_goals with_reducible rfl
  try simp only [Act.put]
  refine wpAnyH_take (i := 6) (v := ?_) rfl (by kernel_rfl) (by kernel_rfl) (by kernel_rfl) (fun _ _ _ h => h) (Or.inl ⟨by rfl, ?_⟩) (by assumption) ?_
  rotate_left
  · intro w hSw
    obtain ⟨x0, x1, x2, x3, x4, x5, x6, x7, x8, x9, x10, x11, x12, x13, x14, x15, x16, x17, x18, x19⟩ := hSw
    go_simp
    all_goals with_reducible rfl
  try simp only [Act.put]
  refine wpAnyH_take (i := 7) (v := ?_) rfl (by kernel_rfl) (by kernel_rfl) (by kernel_rfl) (fun _ _ _ h => h) (Or.inl ⟨by rfl, ?_⟩) (by assumption) ?_
  rotate_left
  · intro w hSw
    obtain ⟨x0, x1, x2, x3, x4, x5, x6, x7, x8, x9, x10, x11, x12, x13, x14, x15, x16, x17, x18, x19⟩ := hSw
    go_simp
    all_goals with_reducible rfl
  try simp only [Act.put]
  refine wpAnyH_take (i := 8) (v := ?_) rfl (by kernel_rfl) (by kernel_rfl) (by kernel_rfl) (fun _ _ _ h => h) (Or.inl ⟨by rfl, ?_⟩) (by assumption) ?_
  rotate_left
  · intro w hSw
    obtain ⟨x0, x1, x2, x3, x4, x5, x6, x7, x8, x9, x10, x11, x12, x13, x14, x15, x16, x17, x18, x19⟩ := hSw
    go_simp
    all_goals with_reducible rfl
  try simp only [Act.put]
  refine wpAnyH_ready (rs := [9, 13]) (by kernel_rfl) (by simp) ?_
  refine AllReadyH.cons (o := _) rfl (fun K hK => ?_) (AllReadyH.cons (o := _) rfl (fun K hK => ?_) AllReadyH.nil)
  · go_simp
    refine (HRN.out w.drew).mono ?_
    rintro e w1 ⟨rfl, hb1⟩
    have B1 := hid_m (below_of_drew hb1)
    have hn1 : w1.heap[tb]? = some (taskB t k v f g a s) := by rw [hb1.block tb (m_blk_lt HN0.out)]; exact HN0.out
    have HN1 := hid_m hn1
    have HX1 := hid_m (Rx.of (HH.out.on B1.out).mp hn1)
    clear hb1 hn1
    go_wp2_with fail
    refine hK.out _ _ HX1.out (fun hHeldb => ?_)
    clear hK K
    try simp only [Act.put]
    refine wpAnyH_take (i := 10) (v := ?_) rfl (by kernel_rfl) (by kernel_rfl) (by kernel_rfl) (fun _ _ _ h => h) (Or.inl ⟨by rfl, ?_⟩) (by assumption) ?_
    rotate_left
    · intro w hSw
      obtain ⟨x0, x1, x2, x3, x4, x5, x6, x7, x8, x9, x10, x11, x12, x13, x14, x15, x16, x17, x18, x19⟩ := hSw
      go_simp
      all_goals with_reducible rfl
    try simp only [Act.put]
    refine wpAnyH_take (i := 11) (v := ?_) rfl (by kernel_rfl) (by kernel_rfl) (by kernel_rfl) (fun _ _ _ h => h) (Or.inl ⟨by rfl, ?_⟩) (by assumption) ?_
    rotate_left
    · intro w hSw
      obtain ⟨x0, x1, x2, x3, x4, x5, x6, x7, x8, x9, x10, x11, x12, x13, x14, x15, x16, x17, x18, x19⟩ := hSw
      go_simp
      all_goals with_reducible rfl
    try simp only [Act.put]
    refine wpAnyH_take (i := 12) (v := ?_) rfl (by kernel_rfl) (by kernel_rfl) (by kernel_rfl) (fun _ _ _ h => h) (Or.inl ⟨by rfl, ?_⟩) (by assumption) ?_
    rotate_left
    · intro w hSw
      obtain ⟨x0, x1, x2, x3, x4, x5, x6, x7, x8, x9, x10, x11, x12, x13, x14, x15, x16, x17, x18, x19⟩ := hSw
      go_simp
      all_goals with_reducible rfl
    try simp only [Act.put]
    have B2 : Hid (Below w.heap.size w (w1.alloc (Obj.cells #[.string ⟨#[]⟩, .int .i64 0, .int .i64 0, .int .i64 0] 51))) := B1.out.alloc B1.out.size _
    have HN2 : Hid ((w1.alloc (Obj.cells #[.string ⟨#[]⟩, .int .i64 0, .int .i64 0, .int .i64 0] 51)).heap[tb]? = some (taskB t k v f g a s)) := blk_on ((Below.refl _ _).alloc (Nat.le_refl _) _) HN1.out
    have HX2 := hid_m (Rx.of (HH.out.on B2.out).mp HN2.out)
    have HO2 : Hid ((w1.alloc (Obj.cells #[.string ⟨#[]⟩, .int .i64 0, .int .i64 0, .int .i64 0] 51)).heap[w1.heap.size]? = some (.cells #[.string ⟨#[]⟩, .int .i64 0, .int .i64 0, .int .i64 0] 51 (0, 0))) := heap_alloc_new _ _
    refine wpAnyH_ready (rs := [13]) (by kernel_rfl) (by simp) ?_
    refine AllReadyH.cons (o := _) rfl (fun K hK => ?_) AllReadyH.nil
    go_simp
    refine hK.out _ _ HX2.out (fun hHeldc => ?_)
    clear hK K
    try simp only [Act.put]
    obtain ⟨ob, hob⟩ : ∃ ob, w1.heap.size = ob := ⟨_, rfl⟩
    have HOB : w.heap.size ≤ ob := by have := B1.out.size; omega
    generalize (w1.alloc (Obj.cells #[.string ⟨#[]⟩, .int .i64 0, .int .i64 0, .int .i64 0] 51)) = w2 at B2 HN2 HX2 HO2 ⊢
    rw [hob] at HO2 ⊢
    clear hob
    have HXW := HX2
    obtain ⟨e0, e1, e2, e3, ef⟩ := out_facts HO2.out
    refine wpAnyH_ready (rs := [14]) (by kernel_rfl) (by simp) ?_
    refine AllReadyH.cons (o := _) rfl (fun K hK => ?_) AllReadyH.nil
    go_simp
    obtain ⟨w4, hw4⟩ : ∃ W, ((((w2.setCell ⟨ob, 0, none⟩ (.string ⟨m'.toArray⟩)).setCell ⟨ob, 1, none⟩ (.int .i64 res)).setCell ⟨ob, 2, none⟩ (.int .i64 st)).setCell ⟨ob, 3, none⟩ (.int .i64 n)) = W := ⟨_, rfl⟩
    have HO4 : Hid (w4.heap[ob]? = some (.cells #[.string ⟨m'.toArray⟩, .int .i64 res, .int .i64 st, .int .i64 n] 51 (0, 0))) := by unfold Hid; rw [← hw4]; exact out4 _ _ _ _ HO2.out
    have htob : tb ≠ ob := by have := m_blk_lt HN0.out; omega
    have HN4 : Hid (w4.heap[tb]? = some (taskB t k v f g a s)) := by unfold Hid; rw [← hw4, set_other htob, set_other htob, set_other htob, set_other htob]; exact HN2.out
    have B4 : Hid (Below w.heap.size w w4) := by unfold Hid; rw [← hw4]; exact (((B2.out.setCell HOB _).setCell HOB _).setCell HOB _).setCell HOB _
    have HX4 := hid_m (Rx.of (HH.out.on B4.out).mp HN4.out)
    rw [hw4]
    clear hw4 htob e0 e1 e2 e3 ef HX2 HXW HO2 HN2 B2
    refine hK.out _ _ HX4.out (fun hHeldd => ?_)
    clear hK K
    try simp only [Act.put]
    refine wpAnyH_ready (rs := [15]) (by kernel_rfl) (by simp) ?_
    refine AllReadyH.cons (o := _) rfl (fun K hK => ?_) AllReadyH.nil
    go_simp
    refine hK.out _ _ HX4.out (fun hHelde => ?_)
    clear hK K
    try simp only [Act.put]
    refine wpAnyH_done (by kernel_rfl) ?_ _
    go_wp2_with fail
    refine HK14.out _ _ ?_
    exact srun_tail3 B tb ob M sl room q1 z1 z2 p2 p3 p4 p5 p6 p7 r1 z3 z4 s2 s3 s4 s5 s6 s7 tk tv Sk Sv code mem lv L t k v f g a s kAt vAt m2 m' res st n L' T' (HH.out.on B4.out) HN4.out HO4.out HLF.out HST.out.1 HST.out.2 HPP.out HCN.out (HF0.out.trans (Fr.of B4.out) (fun g hg => Or.inl hg)) HBD.out.1 HBD.out.2.1 HBD.out.2.2 HT1.out (Nat.le_trans HS0.out HOB) _ _ _ _ _ _ _ _ _ _ _ _ _ _ _ _ _ _ _ _ _ _ _ _ _ _ _ _ _ _ _ _ _ _ _ _ _ _ _ _ _ _ _ _ _ _ _ _ _ _ _ _ _ _ _ _ _ _ _ _ _ _ _ _ _ _ _ _ _ _ _ _ _ _ _ _ _ _ _ _ _ _ _ _ _ _ _ _ _ _ _ _ _ _ _ _ _ _ _ _ _ _ _ _ _ _ _ _ _ _ _ _ _ _ _ _ _ _ _ _ _ _ _ _ _ _ _ _ _ _ _ _ _ _ _ _ _ _ _ _ _ _ _ _ _ _ _ _ _ _ _ _ _ _ _ _ _ _ _ _ _
  · go_simp
    have B1 : Hid (Below w.heap.size w (w.alloc (Obj.cells #[.string ⟨#[]⟩, .int .i64 0, .int .i64 0, .int .i64 0] 51)).drew) := ((Below.refl _ _).alloc (Nat.le_refl _) _).drew
    have HN1 : Hid ((w.alloc (Obj.cells #[.string ⟨#[]⟩, .int .i64 0, .int .i64 0, .int .i64 0] 51)).drew.heap[tb]? = some (taskB t k v f g a s)) := blk_on (((Below.refl w.heap.size w).alloc (Nat.le_refl _) _).drew) HN0.out
    have HX1 := hid_m (Rx.of (HH.out.on B1.out).mp HN1.out)
    have HO1 : Hid ((w.alloc (Obj.cells #[.string ⟨#[]⟩, .int .i64 0, .int .i64 0, .int .i64 0] 51)).drew.heap[w.heap.size]? = some (.cells #[.string ⟨#[]⟩, .int .i64 0, .int .i64 0, .int .i64 0] 51 (0, 0))) := heap_alloc_new w _
    refine hK.out _ _ HX1.out (fun hHeldc => ?_)
    clear hK K
    try simp only [Act.put]
    obtain ⟨ob, hob⟩ : ∃ ob, w.heap.size = ob := ⟨_, rfl⟩
    have HOB : w.heap.size ≤ ob := Nat.le_of_eq hob
    generalize (w.alloc (Obj.cells #[.string ⟨#[]⟩, .int .i64 0, .int .i64 0, .int .i64 0] 51)).drew = w1 at B1 HN1 HX1 HO1 ⊢
    rw [hob] at HO1
    try simp only [World.drew_heap]
    try rw [hob]
    clear hob
    refine wpAnyH_ready (rs := [9]) (by kernel_rfl) (by simp) ?_
    refine AllReadyH.cons (o := _) rfl (fun K hK => ?_) AllReadyH.nil
    go_simp
    refine (HRN.out w1).mono ?_
    rintro e w2 ⟨rfl, hb2⟩
    have B2 := hid_m (B1.out.trans (hb2.mono B1.out.size))
    have HN2 := hid_m (blk_on hb2 HN1.out)
    have HO2 := hid_m (blk_on hb2 HO1.out)
    have HX2 := hid_m (Rx.of (HH.out.on B2.out).mp HN2.out)
    have HXW := HX2
    clear hb2
    go_wp2_with fail
    refine hK.out _ _ HX2.out (fun hHeldb => ?_)
    clear hK K
    try simp only [Act.put]
    refine wpAnyH_take (i := 10) (v := ?_) rfl (by kernel_rfl) (by kernel_rfl) (by kernel_rfl) (fun _ _ _ h => h) (Or.inl ⟨by rfl, ?_⟩) (by assumption) ?_
    rotate_left
    · intro w hSw
      obtain ⟨x0, x1, x2, x3, x4, x5, x6, x7, x8, x9, x10, x11, x12, x13, x14, x15, x16, x17, x18, x19⟩ := hSw
      go_simp
      all_goals with_reducible rfl
    try simp only [Act.put]
    refine wpAnyH_take (i := 11) (v := ?_) rfl (by kernel_rfl) (by kernel_rfl) (by kernel_rfl) (fun _ _ _ h => h) (Or.inl ⟨by rfl, ?_⟩) (by assumption) ?_
    rotate_left
    · intro w hSw
      obtain ⟨x0, x1, x2, x3, x4, x5, x6, x7, x8, x9, x10, x11, x12, x13, x14, x15, x16, x17, x18, x19⟩ := hSw
      go_simp
      all_goals with_reducible rfl
    try simp only [Act.put]
    refine wpAnyH_take (i := 12) (v := ?_) rfl (by kernel_rfl) (by kernel_rfl) (by kernel_rfl) (fun _ _ _ h => h) (Or.inl ⟨by rfl, ?_⟩) (by assumption) ?_
    rotate_left
    · intro w hSw
      obtain ⟨x0, x1, x2, x3, x4, x5, x6, x7, x8, x9, x10, x11, x12, x13, x14, x15, x16, x17, x18, x19⟩ := hSw
      go_simp
      all_goals with_reducible rfl
    try simp only [Act.put]
    obtain ⟨e0, e1, e2, e3, ef⟩ := out_facts HO2.out
    refine wpAnyH_ready (rs := [14]) (by kernel_rfl) (by simp) ?_
    refine AllReadyH.cons (o := _) rfl (fun K hK => ?_) AllReadyH.nil
    go_simp
    obtain ⟨w4, hw4⟩ : ∃ W, ((((w2.setCell ⟨ob, 0, none⟩ (.string ⟨m'.toArray⟩)).setCell ⟨ob, 1, none⟩ (.int .i64 res)).setCell ⟨ob, 2, none⟩ (.int .i64 st)).setCell ⟨ob, 3, none⟩ (.int .i64 n)) = W := ⟨_, rfl⟩
    have HO4 : Hid (w4.heap[ob]? = some (.cells #[.string ⟨m'.toArray⟩, .int .i64 res, .int .i64 st, .int .i64 n] 51 (0, 0))) := by unfold Hid; rw [← hw4]; exact out4 _ _ _ _ HO2.out
    have htob : tb ≠ ob := by have := m_blk_lt HN0.out; omega
    have HN4 : Hid (w4.heap[tb]? = some (taskB t k v f g a s)) := by unfold Hid; rw [← hw4, set_other htob, set_other htob, set_other htob, set_other htob]; exact HN2.out
    have B4 : Hid (Below w.heap.size w w4) := by unfold Hid; rw [← hw4]; exact (((B2.out.setCell HOB _).setCell HOB _).setCell HOB _).setCell HOB _
    have HX4 := hid_m (Rx.of (HH.out.on B4.out).mp HN4.out)
    rw [hw4]
    clear hw4 htob e0 e1 e2 e3 ef HX2 HXW HO2 HN2 B2
    refine hK.out _ _ HX4.out (fun hHeldd => ?_)
    clear hK K
    try simp only [Act.put]
    refine wpAnyH_ready (rs := [15]) (by kernel_rfl) (by simp) ?_
    refine AllReadyH.cons (o := _) rfl (fun K hK => ?_) AllReadyH.nil
    go_simp
    refine hK.out _ _ HX4.out (fun hHelde => ?_)
    clear hK K
    try simp only [Act.put]
    refine wpAnyH_done (by kernel_rfl) ?_ _
    go_wp2_with fail
    refine HK14.out _ _ ?_
    exact srun_tail3 B tb ob M sl room q1 z1 z2 p2 p3 p4 p5 p6 p7 r1 z3 z4 s2 s3 s4 s5 s6 s7 tk tv Sk Sv code mem lv L t k v f g a s kAt vAt m2 m' res st n L' T' (HH.out.on B4.out) HN4.out HO4.out HLF.out HST.out.1 HST.out.2 HPP.out HCN.out (HF0.out.trans (Fr.of B4.out) (fun g hg => Or.inl hg)) HBD.out.1 HBD.out.2.1 HBD.out.2.2 HT1.out (Nat.le_trans HS0.out HOB) _ _ _ _ _ _ _ _ _ _ _ _ _ _ _ _ _ _ _ _ _ _ _ _ _ _ _ _ _ _ _ _ _ _ _ _ _ _ _ _ _ _ _ _ _ _ _ _ _ _ _ _ _ _ _ _ _ _ _ _ _ _ _ _ _ _ _ _ _ _ _ _ _ _ _ _ _ _ _ _ _ _ _ _ _ _ _ _ _ _ _ _ _ _ _ _ _ _ _ _ _ _ _ _ _ _ _ _ _ _ _ _ _ _ _ _ _ _ _ _ _ _ _ _ _ _ _ _ _ _ _ _ _ _ _ _ _ _ _ _ _ _ _ _ _ _ _ _ _ _ _ _ _ _ _ _ _ _ _ _ _
end Go.Proofs.Ytghggcehloiemab
