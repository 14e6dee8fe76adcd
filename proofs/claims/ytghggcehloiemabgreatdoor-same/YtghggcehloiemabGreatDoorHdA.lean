import Derived.Test.YtghggcehloiemabGreatDoorHdZAll
namespace Go.Proofs.YtghggcehloiemabGreatDoor
open Go.RowKit
set_option linter.unusedVariables false
set_option maxRecDepth 16000
set_option maxHeartbeats 8000000 in
theorem wstep_c {w : World} (b ob M sl room from0 : Nat) (h0 l0 l1 l2 l3 g0 m0 m1 m2 m3 : Int) (code mem om aB bB : ByteArray) (kv vv : Value) (L' : List (ByteArray × ByteArray)) (t st res n : Nat) (k tv : ByteArray)
    (h : Wd w b M sl (.int .i64 h0) (.int .i64 l0) (.int .i64 l1) (.int .i64 l2) (.int .i64 l3) (.int .i64 g0) (.int .i64 m0) (.int .i64 m1) (.int .i64 m2) (.int .i64 m3) (.string code) (.string mem) (.int .i64 room) kv vv L') (ho : w.heap[ob]? = some (.cells #[.string om, .int .i64 res, .int .i64 st, .int .i64 n] 56 (0, 0))) (hbo : ob ≠ b)
    (hrf : room ≤ from0) (hfo : from0 ≤ om.size) (hos : om.size ≤ 4000)
    (hty : ∀ w, Calls Tryz.prog 11 #[.agg #[.int .i64 g0, .int .i64 m0, .int .i64 m1, .int .i64 m2, .int .i64 m3]] w fun e w' => e = .returned (.string tv) ∧ Below w.heap.size w w')
    (hfd : (t = 1 ∧ st = 0) → ∃ i v0, P.atK L' k = some i ∧ L'[i]? = some (k, v0) ∧ ∀ w', F3 b none none w w' → Calls Tryz.prog 23 #[.string tv, .string (om.extract from0 om.size)] w' fun e w'' => e = .returned (.tuple #[.string v0, .int .i64 0]) ∧ Below w'.heap.size w' w'')
    (hcn : t = 4 → res = L'.length) (h1 : (om.extract room from0).toList = aB.toList) (h2 : ¬ (t = 1 ∧ st = 0) → (om.extract from0 om.size).toList = bB.toList)
    (c1 c2 c3 c7 c8 c10 c12 c14 c16 c18 c19 c20 c21 c22 c23 c24 c25 c26 c27 c28 c29 c30 c31 c32 c33 c34 c35 c36 c37 c38 c39 c40 c41 c42 c43 c44 c45 c46 c47 c48 c49 c50 c51 c52 c53 c54 c55 c56 c57 c58 c59 c60 c61 c62 c63 c64 c65 c66 c67 c68 c69 c70 c71 c72 c73 c74 c75 c76 c77 c78 c79 c80 c81 c82 c83 c84 c85 c86 c87 c88 c89 c90 c91 c92 c93 c94 c95 c96 c97 c98 c99 c100 c101 c102 c103 c104 c105 c106 c107 c108 c109 c110 c111 c112 c113 c114 c115 c116 c117 c118 c119 c120 c121 c122 c123 c124 c125 c126 c127 c128 c129 c130 c131 c132 c133 c134 c135 c136 c137 c138 c139 c140 c141 c142 c143 c144 c145 c146 c147 c148 c149 c150 c151 c152 c153 c154 c155 c156 c157 c158 c159 c160 c161 c162 c163 c164 c165 c166 c167 c168 c169 c170 c171 c172 c173 c174 c175 c176 c177 c178 c179 c180 c181 c182 c183 c184 c185 c186 c187 c188 c189 c190 c191 c192 c193 c194 c195 c196 c197 c198 c199 : Value) :
    Code.wp Tryz.prog (dropK 13 (Tryz.f13.body.getD .skip)) (bodyPost Tryz.prog Tryz.f13 fun e w' => e = .returned (.bool true) ∧ Wd w' b M sl (.int .i64 h0) (.int .i64 l0) (.int .i64 l1) (.int .i64 l2) (.int .i64 l3) (.int .i64 g0) (.int .i64 m0) (.int .i64 m1) (.int .i64 m2) (.int .i64 m3) (.string code) (.string (om.extract 0 room)) (.int .i64 room) kv vv L' ∧ F3 b none none w w') ⟨#[.pointer (some ⟨b, 0, none⟩), c1, c2, c3, .bool false, .int .i64 t, .string k, c7, c8, .string aB, c10, .string bB, c12, .int .i64 from0, c14, .pointer (some ⟨ob, 0, none⟩), c16, .int .i64 st, c18, c19, c20, c21, c22, c23, c24, c25, c26, c27, c28, c29, c30, c31, c32, c33, c34, c35, c36, c37, c38, c39, c40, c41, c42, c43, c44, c45, c46, c47, c48, c49, c50, c51, c52, c53, c54, c55, c56, c57, c58, c59, c60, c61, c62, c63, c64, c65, c66, c67, c68, c69, c70, c71, c72, c73, c74, c75, c76, c77, c78, c79, c80, c81, c82, c83, c84, c85, c86, c87, c88, c89, c90, c91, c92, c93, c94, c95, c96, c97, c98, c99, c100, c101, c102, c103, c104, c105, c106, c107, c108, c109, c110, c111, c112, c113, c114, c115, c116, c117, c118, c119, c120, c121, c122, c123, c124, c125, c126, c127, c128, c129, c130, c131, c132, c133, c134, c135, c136, c137, c138, c139, c140, c141, c142, c143, c144, c145, c146, c147, c148, c149, c150, c151, c152, c153, c154, c155, c156, c157, c158, c159, c160, c161, c162, c163, c164, c165, c166, c167, c168, c169, c170, c171, c172, c173, c174, c175, c176, c177, c178, c179, c180, c181, c182, c183, c184, c185, c186, c187, c188, c189, c190, c191, c192, c193, c194, c195, c196, c197, c198, c199], []⟩ w := by
  have HH := hid_m h
  have HO := hid_m ho
  have HX0 := hid_m (Zx.of h ho)
  have HTY := hid_m hty
  have HFD := hid_m hfd
  have HCN := hid_m hcn
  have H1 := hid_m h1
  have H2 := hid_m h2
  have HBO := hid_m hbo
  have d11 := h.c11
  have f11 := h.fz 11
  have j0 : (0 : Int) ≤ (room : Int) := Int.natCast_nonneg _
  have j1 : (room : Int) ≤ (om.size : Int) := by omega
  have j2 : (0 : Int) ≤ (from0 : Int) := Int.natCast_nonneg _
  have j3 : (from0 : Int) ≤ (om.size : Int) := by omega
  have j4 : (room : Int) ≤ (from0 : Int) := by omega
  clear h ho hty hfd hcn h1 h2 hbo hrf hfo hos
  conv => arg 2; whnf
  refine wp_seq_k (fun K15 hK15 => ?_)
  have HK15 := hid_m hK15
  clear hK15
  refine wp_region_held_drew (S := Zx b ob g0 m0 m1 m2 m3 room om) (by kernel_rfl) HX0.out (fun hHeld => ?_)
  refine wpAnyH_take (i := 0) (v := ?_) rfl (by kernel_rfl) (by kernel_rfl) (by kernel_rfl) (fun _ _ _ h => h) (Or.inl ⟨by rfl, ?_⟩) (by assumption) ?_
  rotate_left
  · intro w hSw
    obtain ⟨y0, y1, y2, y3, y4, y5, y6, y7⟩ := hSw
    go_simp
    all_goals with_reducible rfl
  try simp only [Act.put]
  refine wpAnyH_take (i := 1) (v := ?_) rfl (by kernel_rfl) (by kernel_rfl) (by kernel_rfl) (fun _ _ _ h => h) (Or.inl ⟨by rfl, ?_⟩) (by assumption) ?_
  rotate_left
  · intro w hSw
    obtain ⟨y0, y1, y2, y3, y4, y5, y6, y7⟩ := hSw
    go_simp
    all_goals with_reducible rfl
  try simp only [Act.put]
  refine wpAnyH_take (i := 2) (v := ?_) rfl (by kernel_rfl) (by kernel_rfl) (by kernel_rfl) (fun _ _ _ h => h) (Or.inl ⟨by rfl, ?_⟩) (by assumption) ?_
  rotate_left
  · intro w hSw
    obtain ⟨y0, y1, y2, y3, y4, y5, y6, y7⟩ := hSw
    go_simp
    all_goals with_reducible rfl
  try simp only [Act.put]
  refine wpAnyH_take (i := 3) (v := ?_) rfl (by kernel_rfl) (by kernel_rfl) (by kernel_rfl) (fun _ _ _ h => h) (Or.inl ⟨by rfl, ?_⟩) (by assumption) ?_
  rotate_left
  · intro w hSw
    obtain ⟨y0, y1, y2, y3, y4, y5, y6, y7⟩ := hSw
    go_simp
    all_goals with_reducible rfl
  try simp only [Act.put]
  refine wpAnyH_take (i := 4) (v := ?_) rfl (by kernel_rfl) (by kernel_rfl) (by kernel_rfl) (fun _ _ _ h => h) (Or.inl ⟨by rfl, ?_⟩) (by assumption) ?_
  rotate_left
  · intro w hSw
    obtain ⟨y0, y1, y2, y3, y4, y5, y6, y7⟩ := hSw
    go_simp
    all_goals with_reducible rfl
  try simp only [Act.put]
  refine wpAnyH_take (i := 5) (v := ?_) rfl (by kernel_rfl) (by kernel_rfl) (by kernel_rfl) (fun _ _ _ h => h) (Or.inl ⟨by rfl, ?_⟩) (by assumption) ?_
  rotate_left
  · intro w hSw
    obtain ⟨y0, y1, y2, y3, y4, y5, y6, y7⟩ := hSw
    go_simp
    all_goals with_reducible rfl
  try simp only [Act.put]
  refine wpAnyH_take (i := 6) (v := ?_) rfl (by kernel_rfl) (by kernel_rfl) (by kernel_rfl) (fun _ _ _ h => h) (Or.inl ⟨by rfl, ?_⟩) (by assumption) ?_
  rotate_left
  · intro w hSw
    obtain ⟨y0, y1, y2, y3, y4, y5, y6, y7⟩ := hSw
    go_simp
    all_goals with_reducible rfl
  try simp only [Act.put]
  refine wpAnyH_take (i := 7) (v := ?_) rfl (by kernel_rfl) (by kernel_rfl) (by kernel_rfl) (fun _ _ _ h => h) (Or.inl ⟨by rfl, ?_⟩) (by assumption) ?_
  rotate_left
  · intro w hSw
    obtain ⟨y0, y1, y2, y3, y4, y5, y6, y7⟩ := hSw
    go_simp
    all_goals with_reducible rfl
  try simp only [Act.put]
  refine wpAnyH_take (i := 8) (v := ?_) rfl (by kernel_rfl) (by kernel_rfl) (by kernel_rfl) (fun _ _ _ h => h) (Or.inl ⟨by rfl, ?_⟩) (by assumption) ?_
  rotate_left
  · intro w hSw
    obtain ⟨y0, y1, y2, y3, y4, y5, y6, y7⟩ := hSw
    go_simp
    all_goals with_reducible rfl
  try simp only [Act.put]
  refine wpAnyH_take (i := 9) (v := ?_) rfl (by kernel_rfl) (by kernel_rfl) (by kernel_rfl) (fun _ _ _ h => h) (Or.inl ⟨by rfl, ?_⟩) (by assumption) ?_
  rotate_left
  · intro w hSw
    obtain ⟨y0, y1, y2, y3, y4, y5, y6, y7⟩ := hSw
    go_simp
    all_goals with_reducible rfl
  try simp only [Act.put]
  refine wpAnyH_ready (rs := [10]) (by kernel_rfl) (by simp) ?_
  refine AllReadyH.cons (o := _) rfl (fun K hK => ?_) AllReadyH.nil
  go_simp
  obtain ⟨w1, hw1⟩ : ∃ W, (w.setCell ⟨b, 11, none⟩ (.string (om.extract 0 room))).drew = W := ⟨_, rfl⟩
  have HS1 : Hid (Wd w1 b M sl (.int .i64 h0) (.int .i64 l0) (.int .i64 l1) (.int .i64 l2) (.int .i64 l3) (.int .i64 g0) (.int .i64 m0) (.int .i64 m1) (.int .i64 m2) (.int .i64 m3) (.string code) (.string (om.extract 0 room)) (.int .i64 room) kv vv L') := by unfold Hid; rw [← hw1]; exact (HH.out.mem _).drewn 1
  have HO1 : Hid (w1.heap[ob]? = some (.cells #[.string om, .int .i64 res, .int .i64 st, .int .i64 n] 56 (0, 0))) := by unfold Hid; rw [← hw1]; show (w.setCell ⟨b, 11, none⟩ (.string (om.extract 0 room))).heap[ob]? = _; rw [set_other HBO.out]; exact HO.out
  have HF1 : Hid (F3 b none none w w1) := by unfold Hid; rw [← hw1]; exact ((F3.refl _ _ _ _).set 11 _).drewn 1
  have HX1 := hid_m (Zx.of HS1.out HO1.out)
  rw [hw1]
  clear hw1 d11 f11 HX0
  refine hK.out _ _ HX1.out (fun hHelda => ?_)
  clear hK K
  try simp only [Act.put]
  refine wpAnyH_done (by kernel_rfl) ?_ _
  go_wp2_with fail
  refine HK15.out _ _ ?_
  clear HK15
  have HEND : Hid (∀ wz, Below w1.heap.size w1 wz → Wd wz b M sl (.int .i64 h0) (.int .i64 l0) (.int .i64 l1) (.int .i64 l2) (.int .i64 l3) (.int .i64 g0) (.int .i64 m0) (.int .i64 m1) (.int .i64 m2) (.int .i64 m3) (.string code) (.string (om.extract 0 room)) (.int .i64 room) kv vv L' ∧ F3 b none none w wz) := fun wz hz => ⟨HS1.out.on hz, HF1.out.trans (F3.of (b := b) (r1 := none) (r2 := none) hz) (fun g hg => by cases hg) (fun g hg => by cases hg)⟩
  by_cases hF : t = 1 ∧ st = 0
  · obtain ⟨i, v0, hi, hiL, hdec⟩ := HFD.out hF
    obtain ⟨ht1, hst0⟩ := hF
    subst ht1
    subst hst0
    have HI := hid_m hi
    have HIL := hid_m hiL
    have HDEC := hid_m hdec
    clear hi hiL hdec
    go_wp2_with fail
    refine wp_region_held_drew (S := Zx b ob g0 m0 m1 m2 m3 room om) (by kernel_rfl) HX1.out (fun hHeld => ?_)
    refine wpAnyH_take (i := 0) (v := ?_) rfl (by kernel_rfl) (by kernel_rfl) (by kernel_rfl) (fun _ _ _ h => h) (Or.inl ⟨by rfl, ?_⟩) (by assumption) ?_
    rotate_left
    · intro w hSw
      obtain ⟨y0, y1, y2, y3, y4, y5, y6, y7⟩ := hSw
      go_simp
      all_goals with_reducible rfl
    try simp only [Act.put]
    refine wpAnyH_take (i := 1) (v := ?_) rfl (by kernel_rfl) (by kernel_rfl) (by kernel_rfl) (fun _ _ _ h => h) (Or.inl ⟨by rfl, ?_⟩) (by assumption) ?_
    rotate_left
    · intro w hSw
      obtain ⟨y0, y1, y2, y3, y4, y5, y6, y7⟩ := hSw
      go_simp
      all_goals with_reducible rfl
    try simp only [Act.put]
    refine wpAnyH_take (i := 2) (v := ?_) rfl (by kernel_rfl) (by kernel_rfl) (by kernel_rfl) (fun _ _ _ h => h) (Or.inl ⟨by rfl, ?_⟩) (by assumption) ?_
    rotate_left
    · intro w hSw
      obtain ⟨y0, y1, y2, y3, y4, y5, y6, y7⟩ := hSw
      go_simp
      all_goals with_reducible rfl
    try simp only [Act.put]
    refine wpAnyH_take (i := 3) (v := ?_) rfl (by kernel_rfl) (by kernel_rfl) (by kernel_rfl) (fun _ _ _ h => h) (Or.inl ⟨by rfl, ?_⟩) (by assumption) ?_
    rotate_left
    · intro w hSw
      obtain ⟨y0, y1, y2, y3, y4, y5, y6, y7⟩ := hSw
      go_simp
      all_goals with_reducible rfl
    try simp only [Act.put]
    refine wpAnyH_take (i := 5) (v := ?_) rfl (by kernel_rfl) (by kernel_rfl) (by kernel_rfl) (fun _ _ _ h => h) (Or.inl ⟨by rfl, ?_⟩) (by assumption) ?_
    rotate_left
    · intro w hSw
      obtain ⟨y0, y1, y2, y3, y4, y5, y6, y7⟩ := hSw
      go_simp
      all_goals with_reducible rfl
    try simp only [Act.put]
    refine wpAnyH_take (i := 6) (v := ?_) rfl (by kernel_rfl) (by kernel_rfl) (by kernel_rfl) (fun _ _ _ h => h) (Or.inl ⟨by rfl, ?_⟩) (by assumption) ?_
    rotate_left
    · intro w hSw
      obtain ⟨y0, y1, y2, y3, y4, y5, y6, y7⟩ := hSw
      go_simp
      all_goals with_reducible rfl
    try simp only [Act.put]
    refine wpAnyH_take (i := 7) (v := ?_) rfl (by kernel_rfl) (by kernel_rfl) (by kernel_rfl) (fun _ _ _ h => h) (Or.inl ⟨by rfl, ?_⟩) (by assumption) ?_
    rotate_left
    · intro w hSw
      obtain ⟨y0, y1, y2, y3, y4, y5, y6, y7⟩ := hSw
      go_simp
      all_goals with_reducible rfl
    try simp only [Act.put]
    refine wpAnyH_take (i := 8) (v := ?_) rfl (by kernel_rfl) (by kernel_rfl) (by kernel_rfl) (fun _ _ _ h => h) (Or.inl ⟨by rfl, ?_⟩) (by assumption) ?_
    rotate_left
    · intro w hSw
      obtain ⟨y0, y1, y2, y3, y4, y5, y6, y7⟩ := hSw
      go_simp
      all_goals with_reducible rfl
    try simp only [Act.put]
    refine wpAnyH_ready (rs := [4]) (by kernel_rfl) (by simp) ?_
    refine AllReadyH.cons (o := _) rfl (fun K hK => ?_) AllReadyH.nil
    go_simp
    refine (HTY.out w1.drew).mono ?_
    rintro e w2 ⟨rfl, hb2⟩
    have hb2' : Below w1.heap.size w1 w2 := ⟨hb2.os, hb2.tape, hb2.output, hb2.size, hb2.block⟩
    have B2 := hid_m hb2'
    have HX2 := hid_m (Zx.of (HS1.out.on hb2') (by rw [hb2'.block ob (m_blk_lt HO1.out)]; exact HO1.out))
    clear hb2 hb2'
    go_wp2_with fail
    refine hK.out _ _ HX2.out (fun hHelda => ?_)
    clear hK K
    try simp only [Act.put]
    refine wpAnyH_ready (rs := [9]) (by kernel_rfl) (by simp) ?_
    refine AllReadyH.cons (o := _) rfl (fun K hK => ?_) AllReadyH.nil
    go_simp
    refine (HDEC.out w2 (HEND.out w2 B2.out).2).mono ?_
    rintro e w3 ⟨rfl, hb3⟩
    have B3 := hid_m (B2.out.trans (hb3.mono B2.out.size))
    have HO3 : Hid (w3.heap[ob]? = some (.cells #[.string om, .int .i64 res, .int .i64 (0 : Nat), .int .i64 n] 56 (0, 0))) := by unfold Hid; rw [B3.out.block ob (m_blk_lt HO1.out)]; exact HO1.out
    have HX3 := hid_m (Zx.of (HS1.out.on B3.out) HO3.out)
    clear hb3
    go_wp2_with fail
    refine hK.out _ _ HX3.out (fun hHeldb => ?_)
    clear hK K
    try simp only [Act.put]
    refine wpAnyH_take (i := 10) (v := ?_) rfl (by kernel_rfl) (by kernel_rfl) (by kernel_rfl) (fun _ _ _ h => h) (Or.inl ⟨by rfl, ?_⟩) (by assumption) ?_
    rotate_left
    · intro w hSw
      obtain ⟨y0, y1, y2, y3, y4, y5, y6, y7⟩ := hSw
      go_simp
      all_goals with_reducible rfl
    try simp only [Act.put]
    refine wpAnyH_take (i := 11) (v := ?_) rfl (by kernel_rfl) (by kernel_rfl) (by kernel_rfl) (fun _ _ _ h => h) (Or.inl ⟨by rfl, ?_⟩) (by assumption) ?_
    rotate_left
    · intro w hSw
      obtain ⟨y0, y1, y2, y3, y4, y5, y6, y7⟩ := hSw
      go_simp
      all_goals with_reducible rfl
    try simp only [Act.put]
    refine wpAnyH_take (i := 12) (v := ?_) rfl (by kernel_rfl) (by kernel_rfl) (by kernel_rfl) (fun _ _ _ h => h) (Or.inl ⟨by rfl, ?_⟩) (by assumption) ?_
    rotate_left
    · intro w hSw
      obtain ⟨y0, y1, y2, y3, y4, y5, y6, y7⟩ := hSw
      go_simp
      all_goals with_reducible rfl
    try simp only [Act.put]
    refine wpAnyH_ready (rs := [13]) (by kernel_rfl) (by simp) ?_
    refine AllReadyH.cons (o := _) rfl (fun K hK => ?_) AllReadyH.nil
    go_simp
    refine hK.out _ _ HX3.out (fun hHeldc => ?_)
    clear hK K
    try simp only [Act.put]
    refine wpAnyH_ready (rs := [14]) (by kernel_rfl) (by simp) ?_
    refine AllReadyH.cons (o := _) rfl (fun K hK => ?_) AllReadyH.nil
    go_simp
    refine hK.out _ _ HX3.out (fun hHeldd => ?_)
    clear hK K
    try simp only [Act.put]
    refine wpAnyH_done (by kernel_rfl) ?_ _
    have HS3 := hid_m (HS1.out.on B3.out)
    have HVAL : Hid (i < L'.length) := (List.getElem?_eq_some_iff.1 HIL.out).1
    obtain ⟨gg, cc, hvf, _, hgl⟩ := HS3.out.ov.form (by have := HVAL.out; omega)
    subst hvf
    obtain ⟨hvc, hcc⟩ := val_cell HS3.out.ov HIL.out
    have HAT : Hid (∀ n, Calls Tryz.prog 16 #[.pointer (some ⟨b, 0, none⟩), .string k] (w3.drewN n) fun e w' => e = .returned (.int .i64 (i : Nat)) ∧ w' = w3.drewN n) := by
      intro n
      have := wat_any b M sl _ _ _ _ _ _ _ _ _ _ _ _ _ kv _ L' k (HS3.out.drewn n)
      rw [HI.out] at this
      exact this
    have i0 : (0 : Int) ≤ (i : Int) := Int.natCast_nonneg _
    have i1 : (i : Int) < (L'.length : Int) := by have := HVAL.out; omega
    have d15 := HS3.out.c15
    clear hgl
    go_wp2_with fail
    go_quiet (first | (go_at_call 16; refine Calls.quiet_of_same (HAT.out _)))
    go_wp2_with fail
    rename_i K16 hK16 Ki hKi
    have HK16 := hid_m hK16
    clear hK16
    go_quiet (fail)
    go_wp2_with fail
    refine HK16.out _ _ ?_
    refine wstep_e1 b ob room from0 g0 m0 m1 m2 m3 om aB bB ?_ (by omega) (by omega) H1.out _ ?_ _ _ _ _ _ _ _ _ _ _ _ _ _ _ _ _ _ _ _ _ _ _ _ _ _ _ _ _ _ _ _ _ _ _ _ _ _ _ _ _ _ _ _ _ _ _ _ _ _ _ _ _ _ _ _ _ _ _ _ _ _ _ _ _ _ _ _ _ _ _ _ _ _ _ _ _ _ _ _ _ _ _ _ _ _ _ _ _ _ _ _ _ _ _ _ _ _ _ _ _ _ _ _ _ _ _ _ _ _ _ _ _ _ _ _ _ _ _ _ _ _ _ _ _ _ _ _ _ _ _ _ _ _ _ _ _ _ _ _ _ _ _ _ _ _ _ _ _ _ _ _ _ _ _ _ _ _ _ _ _ _ _ _ _ _ _ _ _ _ _ _ _ _ _ _ _ _ _ _ _ _ _ _ _ _ _ _ _ _ _ _ _ _
    · exact Zx.of (HS3.out.on ⟨rfl, rfl, rfl, Nat.le_refl _, fun _ _ => rfl⟩) HO3.out
    · intro wz hz
      exact ⟨rfl, HEND.out wz (B3.out.trans (Below.mono ⟨hz.os, hz.tape, hz.output, hz.size, hz.block⟩ B3.out.size))⟩
  · have hfalse : ((t : Int) == 1 && (st : Int) == 0) = false := by
      rw [Bool.and_eq_false_iff]
      by_cases h1 : t = 1
      · right; rw [beq_eq_false_iff_ne]; omega
      · left; rw [beq_eq_false_iff_ne]; omega
    have H2' := H2.out hF
    have HH2 := hid_m H2'
    clear H2'
    obtain ⟨x0, e1, e2, e3, ef⟩ := out_facts HO1.out
    clear x0 e2 e3 ef
    by_cases h4 : t = 4
    · obtain ⟨aa, N, cap, hkv⟩ := owns_slice HS1.out.ok
      have hN := HS1.out.len hkv
      have hrN : res = N := by rw [HCN.out h4, hN]
      subst hrN
      subst hkv
      have d14 := HS1.out.c14
      subst h4
      clear hF hfalse hN
      go_wp2_with fail
      rename_i K16 hK16 Ki hKi
      have HK16 := hid_m hK16
      clear hK16
      go_quiet (fail)
      go_wp2_with fail
      refine HK16.out _ _ ?_
      refine wstep_e0 b ob room from0 g0 m0 m1 m2 m3 om aB bB ?_ (by omega) (by omega) H1.out HH2.out _ ?_ _ _ _ _ _ _ _ _ _ _ _ _ _ _ _ _ _ _ _ _ _ _ _ _ _ _ _ _ _ _ _ _ _ _ _ _ _ _ _ _ _ _ _ _ _ _ _ _ _ _ _ _ _ _ _ _ _ _ _ _ _ _ _ _ _ _ _ _ _ _ _ _ _ _ _ _ _ _ _ _ _ _ _ _ _ _ _ _ _ _ _ _ _ _ _ _ _ _ _ _ _ _ _ _ _ _ _ _ _ _ _ _ _ _ _ _ _ _ _ _ _ _ _ _ _ _ _ _ _ _ _ _ _ _ _ _ _ _ _ _ _ _ _ _ _ _ _ _ _ _ _ _ _ _ _ _ _ _ _ _ _ _ _ _ _ _ _ _ _ _ _ _ _ _ _ _ _ _ _ _ _ _ _ _ _ _ _ _ _ _ _ _ _
      · exact Zx.of (HS1.out.on ⟨rfl, rfl, rfl, Nat.le_refl _, fun _ _ => rfl⟩) HO1.out
      · intro wz hz
        exact ⟨rfl, HEND.out wz ⟨hz.os, hz.tape, hz.output, hz.size, hz.block⟩⟩
    · have h4' : ((t : Int) == 4) = false := by rw [beq_eq_false_iff_ne]; omega
      by_cases h1 : t = 1
      · have hs : ((st : Int) == 0) = false := by rw [beq_eq_false_iff_ne]; omega
        subst h1
        clear hF hfalse h4 h4'
        go_wp2_with fail
        rename_i K16 hK16 Ki hKi
        have HK16 := hid_m hK16
        clear hK16
        go_quiet (fail)
        go_wp2_with fail
        refine HK16.out _ _ ?_
        refine wstep_e0 b ob room from0 g0 m0 m1 m2 m3 om aB bB ?_ (by omega) (by omega) H1.out HH2.out _ ?_ _ _ _ _ _ _ _ _ _ _ _ _ _ _ _ _ _ _ _ _ _ _ _ _ _ _ _ _ _ _ _ _ _ _ _ _ _ _ _ _ _ _ _ _ _ _ _ _ _ _ _ _ _ _ _ _ _ _ _ _ _ _ _ _ _ _ _ _ _ _ _ _ _ _ _ _ _ _ _ _ _ _ _ _ _ _ _ _ _ _ _ _ _ _ _ _ _ _ _ _ _ _ _ _ _ _ _ _ _ _ _ _ _ _ _ _ _ _ _ _ _ _ _ _ _ _ _ _ _ _ _ _ _ _ _ _ _ _ _ _ _ _ _ _ _ _ _ _ _ _ _ _ _ _ _ _ _ _ _ _ _ _ _ _ _ _ _ _ _ _ _ _ _ _ _ _ _ _ _ _ _ _ _ _ _ _ _ _ _ _ _ _ _
        · exact Zx.of (HS1.out.on ⟨rfl, rfl, rfl, Nat.le_refl _, fun _ _ => rfl⟩) HO1.out
        · intro wz hz
          exact ⟨rfl, HEND.out wz ⟨hz.os, hz.tape, hz.output, hz.size, hz.block⟩⟩
      · have h1' : ((t : Int) == 1) = false := by rw [beq_eq_false_iff_ne]; omega
        clear hF hfalse h4 h1
        go_wp2_with fail
        rename_i K16 hK16 Ki hKi
        have HK16 := hid_m hK16
        clear hK16
        go_quiet (fail)
        go_wp2_with fail
        refine HK16.out _ _ ?_
        refine wstep_e0 b ob room from0 g0 m0 m1 m2 m3 om aB bB ?_ (by omega) (by omega) H1.out HH2.out _ ?_ _ _ _ _ _ _ _ _ _ _ _ _ _ _ _ _ _ _ _ _ _ _ _ _ _ _ _ _ _ _ _ _ _ _ _ _ _ _ _ _ _ _ _ _ _ _ _ _ _ _ _ _ _ _ _ _ _ _ _ _ _ _ _ _ _ _ _ _ _ _ _ _ _ _ _ _ _ _ _ _ _ _ _ _ _ _ _ _ _ _ _ _ _ _ _ _ _ _ _ _ _ _ _ _ _ _ _ _ _ _ _ _ _ _ _ _ _ _ _ _ _ _ _ _ _ _ _ _ _ _ _ _ _ _ _ _ _ _ _ _ _ _ _ _ _ _ _ _ _ _ _ _ _ _ _ _ _ _ _ _ _ _ _ _ _ _ _ _ _ _ _ _ _ _ _ _ _ _ _ _ _ _ _ _ _ _ _ _ _ _ _ _ _
        · exact Zx.of (HS1.out.on ⟨rfl, rfl, rfl, Nat.le_refl _, fun _ _ => rfl⟩) HO1.out
        · intro wz hz
          exact ⟨rfl, HEND.out wz ⟨hz.os, hz.tape, hz.output, hz.size, hz.block⟩⟩
end Go.Proofs.YtghggcehloiemabGreatDoor
