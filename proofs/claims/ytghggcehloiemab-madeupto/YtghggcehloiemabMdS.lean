import Derived.Test.YtghggcehloiemabMdU
namespace Go.Proofs.Ytghggcehloiemab
open Go.RowKit
set_option linter.unusedVariables false
set_option maxRecDepth 16000
theorem tdiv_in {a lo hi : Int} (h0 : lo ≤ a) (h1 : a ≤ hi) (hl : lo ≤ 0 := by decide) (hh : 0 ≤ hi := by decide) : lo ≤ a.tdiv 33 ∧ a.tdiv 33 ≤ hi := by
  have hb := tdiv_between a 33 (by decide)
  rcases Int.le_total 0 a with h | h
  · have := hb.1 h; exact ⟨Int.le_trans hl this.1, Int.le_trans this.2 h1⟩
  · have := hb.2 h; exact ⟨Int.le_trans h0 this.1, Int.le_trans this.2 hh⟩
set_option maxHeartbeats 4000000 in
theorem srun_yes {w : World} (B M sl room : Nat) (a1 a2 a3 a4 a5 b1 b2 b3 b4 b5 : Value) (tk tv : P.Ty 4) (Sk Sv : Nat → Prop) (code mem : ByteArray) (lv : Value) (L : List (ByteArray × ByteArray)) (t : Nat) (k v : ByteArray) (f g a s : Int)
    (h : Shp w B M sl room a1 a2 a3 a4 a5 b1 b2 b3 b4 b5 tk tv Sk Sv code mem lv L) (smk : P.Sm 4 tk) (smv : P.Sm 4 tv) (hks : k.size ≤ 1099511627776) (hvs : v.size ≤ 1099511627776)
    (nmk : P.Nm 4 tk) (nmv : P.Nm 4 tv) (T : List (List UInt8)) (Lk Lv : List (Option UInt8)) (hLk : P.lieP 4 tk k.data.toList = some Lk) (hLv : P.lieP 4 tv v.data.toList = some Lv) (ht1 : t ≤ 4294967295) (hf : I6 f) (hg : I6 g) (hP : P.ShopP tk tv sl mem.data.toList L T) (hcode : code = ⟨(P.text (P.prog (P.cov (P.parts 4 tk)) (P.cov (P.parts 4 tv)) sl).resolve).toArray⟩) (hisc : P.IsCode (P.text (P.prog (P.cov (P.parts 4 tk)) (P.cov (P.parts 4 tv)) sl).resolve))
    (hroom0 : room = 1 + sl * ((P.cov (P.parts 4 tk)).length + (P.cov (P.parts 4 tv)).length)) (hroom : room ≤ 1100) (ha0 : -9223372036854775808 ≤ a) (ha1 : a ≤ 9223372036854775807) :
    Calls Try.prog 5 #[.pointer (some ⟨B, 0, none⟩), taskV t k v f g a s] w fun e w' => e = .returned (.bool true) ∧ SrunPost w w' B M sl room a1 a2 a3 a4 a5 b1 b2 b3 b4 b5 tk tv Sk Sv code lv := by
  have hbA : Below w.heap.size w (w.alloc (taskB t k v f g a s)) := (Below.refl _ _).alloc (Nat.le_refl _) _
  have hnA : (w.alloc (taskB t k v f g a s)).heap[w.heap.size]? = some (taskB t k v f g a s) := heap_alloc_new _ _
  obtain ⟨q1, p2, p3, p4, p5, p6, p7, hk5⟩ := h.tk.is
  simp only [Value.agg.injEq, Array.mk.injEq, List.cons.injEq, and_true] at hk5
  obtain ⟨rfl, rfl, rfl, rfl, rfl⟩ := hk5
  obtain ⟨r1, s2, s3, s4, s5, s6, s7, hv5⟩ := h.tv.is
  simp only [Value.agg.injEq, Array.mk.injEq, List.cons.injEq, and_true] at hv5
  obtain ⟨rfl, rfl, rfl, rfl, rfl⟩ := hv5
  obtain ⟨z1, hz1⟩ : ∃ z, (P.sz 4 tk).1 = z := ⟨_, rfl⟩
  obtain ⟨z2, hz2⟩ : ∃ z, (P.sz 4 tk).2 = z := ⟨_, rfl⟩
  obtain ⟨z3, hz3⟩ : ∃ z, (P.sz 4 tv).1 = z := ⟨_, rfl⟩
  obtain ⟨z4, hz4⟩ : ∃ z, (P.sz 4 tv).2 = z := ⟨_, rfl⟩
  rw [hz1, hz2, hz3, hz4] at h ⊢
  have HIK := hid_m (fun w' (hb : Below w.heap.size w w') => isValue_any tk _ Sk k w' smk (h.on hb).tk (fun g hg => by have := (h.sk g hg).1; have := (h.on hb).mp.here; omega) hks)
  have HIV := hid_m (fun w' (hb : Below w.heap.size w w') => isValue_any tv _ Sv v w' smv (h.on hb).tv (fun g hg => by have := (h.sv g hg).1; have := (h.on hb).mp.here; omega) hvs)
  obtain ⟨bk, hbk⟩ : ∃ b, (P.lieP 4 tk k.data.toList).isSome = b := ⟨_, rfl⟩
  obtain ⟨bv, hbv⟩ : ∃ b, (P.lieP 4 tv v.data.toList).isSome = b := ⟨_, rfl⟩
  rw [hbk] at HIK
  rw [hbv] at HIV
  have hbk1 : bk = true := by rw [← hbk, hLk]; rfl
  have hbv1 : bv = true := by rw [← hbv, hLv]; rfl
  subst hbk1
  subst hbv1
  have HH := hid_m h
  have HBA := hid_m hbA
  have HNA := hid_m hnA
  have HTL : Hid (∀ (w' : World) (kAt vAt : Nat), Below w.heap.size w w' → w'.heap[w.heap.size]? = some (taskB t k v f g a s) → ((room ≤ kAt ∧ kAt + 64 ≤ room + 128 ∧ room ≤ vAt ∧ vAt + 64 ≤ room + 192 ∧ kAt + 32 ≤ vAt) ∨ (room ≤ vAt ∧ vAt + 32 ≤ kAt ∧ kAt + 32 ≤ room + 160)) → ∀ c1 c2 c5 c6 c9 c10 c11 c12 c13 c14 c15 c16 c17 c18 c19 c20 c21 c22 c23 c24 c25 c26 c27 c28 c29 c30 c31 c32 c33 c34 c35 c36 c37 c38 c39 c40 c41 c42 c43 c44 c45 c46 c47 c48 c49 c50 c51 c52 c53 c54 c55 c56 c57 c58 c59 c60 c61 c62 c63 c64 c65 c66 c67 c68 c69 c70 c71 c72 c73 c74 c75 c76 c77 c78 c79 c80 c81 c82 c83 c84 c85 c86 c87 c88 c89 c90 c91 c92 c93 c94 c95 c96 c97 c98 c99 c100 c101 c102 c103 c104 c105 c106 c107 c108 c109 c110 c111 c112 c113 c114 c115 c116 c117 c118 c119 c120 c121 c122 c123 c124 c125 c126 c127 c128 c129 c130 c131 c132 c133 c134 c135 c136 c137 c138 c139 c140 c141 c142 c143 c144 c145 c146 c147 c148 c149 c150 c151 c152 c153 c154 c155 c156 c157 c158 c159 c160 c161 c162 c163 c164 c165 c166 c167 c168 : Value,
      Code.wp Try.prog (dropS 7 (Try.f5.body.getD .skip)) (bodyPost Try.prog Try.f5 fun e w' => e = .returned (.bool true) ∧ SrunPost w w' B M sl room (.int .u8 q1) (.int .i64 z1) (.int .i64 z2) (.slice p2 p3 p4) (.slice p5 p6 p7) (.int .u8 r1) (.int .i64 z3) (.int .i64 z4) (.slice s2 s3 s4) (.slice s5 s6 s7) tk tv Sk Sv code lv) ⟨#[.pointer (some ⟨B, 0, none⟩), c1, c2, .pointer (some ⟨w.heap.size, 0, none⟩), .bool false, c5, c6, .int .i64 kAt, .int .i64 vAt, c9, c10, c11, c12, c13, c14, c15, c16, c17, c18, c19, c20, c21, c22, c23, c24, c25, c26, c27, c28, c29, c30, c31, c32, c33, c34, c35, c36, c37, c38, c39, c40, c41, c42, c43, c44, c45, c46, c47, c48, c49, c50, c51, c52, c53, c54, c55, c56, c57, c58, c59, c60, c61, c62, c63, c64, c65, c66, c67, c68, c69, c70, c71, c72, c73, c74, c75, c76, c77, c78, c79, c80, c81, c82, c83, c84, c85, c86, c87, c88, c89, c90, c91, c92, c93, c94, c95, c96, c97, c98, c99, c100, c101, c102, c103, c104, c105, c106, c107, c108, c109, c110, c111, c112, c113, c114, c115, c116, c117, c118, c119, c120, c121, c122, c123, c124, c125, c126, c127, c128, c129, c130, c131, c132, c133, c134, c135, c136, c137, c138, c139, c140, c141, c142, c143, c144, c145, c146, c147, c148, c149, c150, c151, c152, c153, c154, c155, c156, c157, c158, c159, c160, c161, c162, c163, c164, c165, c166, c167, c168], []⟩ w') := by
    intro w' kAt vAt hb hn hAt c1 c2 c5 c6 c9 c10 c11 c12 c13 c14 c15 c16 c17 c18 c19 c20 c21 c22 c23 c24 c25 c26 c27 c28 c29 c30 c31 c32 c33 c34 c35 c36 c37 c38 c39 c40 c41 c42 c43 c44 c45 c46 c47 c48 c49 c50 c51 c52 c53 c54 c55 c56 c57 c58 c59 c60 c61 c62 c63 c64 c65 c66 c67 c68 c69 c70 c71 c72 c73 c74 c75 c76 c77 c78 c79 c80 c81 c82 c83 c84 c85 c86 c87 c88 c89 c90 c91 c92 c93 c94 c95 c96 c97 c98 c99 c100 c101 c102 c103 c104 c105 c106 c107 c108 c109 c110 c111 c112 c113 c114 c115 c116 c117 c118 c119 c120 c121 c122 c123 c124 c125 c126 c127 c128 c129 c130 c131 c132 c133 c134 c135 c136 c137 c138 c139 c140 c141 c142 c143 c144 c145 c146 c147 c148 c149 c150 c151 c152 c153 c154 c155 c156 c157 c158 c159 c160 c161 c162 c163 c164 c165 c166 c167 c168
    exact srun_tail B w.heap.size M sl room q1 z1 z2 p2 p3 p4 p5 p6 p7 r1 z3 z4 s2 s3 s4 s5 s6 s7 tk tv Sk Sv code mem lv L T t k v f g a s kAt vAt (h.on hb) hn smk smv nmk nmv hks hvs Lk Lv hLk hLv ht1 hf hg hP hcode hisc hroom0 hAt (Fr.of hb) h.mp.lt2 (Nat.le_refl _) (own_lt h.mp) c1 c2 c5 c6 c9 c10 c11 c12 c13 c14 c15 c16 c17 c18 c19 c20 c21 c22 c23 c24 c25 c26 c27 c28 c29 c30 c31 c32 c33 c34 c35 c36 c37 c38 c39 c40 c41 c42 c43 c44 c45 c46 c47 c48 c49 c50 c51 c52 c53 c54 c55 c56 c57 c58 c59 c60 c61 c62 c63 c64 c65 c66 c67 c68 c69 c70 c71 c72 c73 c74 c75 c76 c77 c78 c79 c80 c81 c82 c83 c84 c85 c86 c87 c88 c89 c90 c91 c92 c93 c94 c95 c96 c97 c98 c99 c100 c101 c102 c103 c104 c105 c106 c107 c108 c109 c110 c111 c112 c113 c114 c115 c116 c117 c118 c119 c120 c121 c122 c123 c124 c125 c126 c127 c128 c129 c130 c131 c132 c133 c134 c135 c136 c137 c138 c139 c140 c141 c142 c143 c144 c145 c146 c147 c148 c149 c150 c151 c152 c153 c154 c155 c156 c157 c158 c159 c160 c161 c162 c163 c164 c165 c166 c167 c168
  have HTT := hid_m ht1
  have HRM := hid_m hroom
  have HAA := hid_m (And.intro ha0 ha1)
  clear h hbA hnA hbk hbv hz1 hz2 hz3 hz4 ht1 hroom ha0 ha1 hks hvs smk smv nmk nmv hLk hLv hf hg hP hcode hisc hroom0
  unfold taskV
  go_enter Try.func5, Try.ntmps5
  go_wp2_with fail
  obtain ⟨W, hW⟩ : ∃ W, w.alloc (taskB t k v f g a s) = W := ⟨_, rfl⟩
  have hW2 : w.alloc (.cells #[.int .i64 t, .string k, .string v, .int .i64 f, .int .i64 g, .int .i64 a, .int .i64 s] 28) = W := hW
  rw [hW] at HBA HNA
  rw [hW2]
  clear hW hW2
  obtain ⟨tb, htb⟩ : ∃ tb, w.heap.size = tb := ⟨_, rfl⟩
  rw [htb] at HNA HTL ⊢
  have HTB := hid_m htb
  clear htb
  have HX0 := hid_m (Rx.of (HH.out.on HBA.out).mp HNA.out)
  refine wp_region_held_drew (S := Rx B tb (.int .u8 q1) (.int .i64 z1) (.int .i64 z2) (.slice p2 p3 p4) (.slice p5 p6 p7) (.int .u8 r1) (.int .i64 z3) (.int .i64 z4) (.slice s2 s3 s4) (.slice s5 s6 s7) code room mem t k v f g a s) (by kernel_rfl) HX0.out (fun hHeld => ?_)
  refine wpAnyH_take (i := 0) (v := ?_) rfl (by kernel_rfl) (by kernel_rfl) (by kernel_rfl) (fun _ _ _ h => h) (Or.inl ⟨by rfl, ?_⟩) (by assumption) ?_
  rotate_left
  · intro w hSw
    obtain ⟨x0, x1, x2, x3, x4, x5, x6, x7, x8, x9, x10, x11, x12, x13, x14, x15, x16, x17, x18, x19⟩ := hSw
    go_simp
    all_goals with_reducible rfl
  try simp only [Act.put]
  refine wpAnyH_take (i := 1) (v := ?_) rfl (by kernel_rfl) (by kernel_rfl) (by kernel_rfl) (fun _ _ _ h => h) (Or.inl ⟨by rfl, ?_⟩) (by assumption) ?_
  rotate_left
  · intro w hSw
    obtain ⟨x0, x1, x2, x3, x4, x5, x6, x7, x8, x9, x10, x11, x12, x13, x14, x15, x16, x17, x18, x19⟩ := hSw
    go_simp
    all_goals with_reducible rfl
  try simp only [Act.put]
  refine wpAnyH_take (i := 2) (v := ?_) rfl (by kernel_rfl) (by kernel_rfl) (by kernel_rfl) (fun _ _ _ h => h) (Or.inl ⟨by rfl, ?_⟩) (by assumption) ?_
  rotate_left
  · intro w hSw
    obtain ⟨x0, x1, x2, x3, x4, x5, x6, x7, x8, x9, x10, x11, x12, x13, x14, x15, x16, x17, x18, x19⟩ := hSw
    go_simp
    all_goals with_reducible rfl
  try simp only [Act.put]
  refine wpAnyH_take (i := 3) (v := ?_) rfl (by kernel_rfl) (by kernel_rfl) (by kernel_rfl) (fun _ _ _ h => h) (Or.inl ⟨by rfl, ?_⟩) (by assumption) ?_
  rotate_left
  · intro w hSw
    obtain ⟨x0, x1, x2, x3, x4, x5, x6, x7, x8, x9, x10, x11, x12, x13, x14, x15, x16, x17, x18, x19⟩ := hSw
    go_simp
    all_goals with_reducible rfl
  try simp only [Act.put]
  refine wpAnyH_take (i := 4) (v := ?_) rfl (by kernel_rfl) (by kernel_rfl) (by kernel_rfl) (fun _ _ _ h => h) (Or.inl ⟨by rfl, ?_⟩) (by assumption) ?_
  rotate_left
  · intro w hSw
    obtain ⟨x0, x1, x2, x3, x4, x5, x6, x7, x8, x9, x10, x11, x12, x13, x14, x15, x16, x17, x18, x19⟩ := hSw
    go_simp
    all_goals with_reducible rfl
  try simp only [Act.put]
  refine wpAnyH_take (i := 5) (v := ?_) rfl (by kernel_rfl) (by kernel_rfl) (by kernel_rfl) (fun _ _ _ h => h) (Or.inl ⟨by rfl, ?_⟩) (by assumption) ?_
  rotate_left
  · intro w hSw
    obtain ⟨x0, x1, x2, x3, x4, x5, x6, x7, x8, x9, x10, x11, x12, x13, x14, x15, x16, x17, x18, x19⟩ := hSw
    go_simp
    all_goals with_reducible rfl
  try simp only [Act.put]
  refine wpAnyH_ready (rs := [6]) (by kernel_rfl) (by simp) ?_
  refine AllReadyH.cons (o := _) rfl (fun K hK => ?_) AllReadyH.nil
  go_simp
  refine (HIK.out W.drew HBA.out.drew).mono ?_
  rintro e w1 ⟨rfl, hb1⟩
  have B1 := hid_m (HBA.out.trans ((below_of_drew hb1).mono HBA.out.size))
  have hn1 : w1.heap[tb]? = some (taskB t k v f g a s) := by rw [hb1.block tb (m_blk_lt HNA.out)]; exact HNA.out
  have HN1 := hid_m hn1
  have HX1 := hid_m (Rx.of (HH.out.on B1.out).mp hn1)
  clear hb1 hn1
  go_wp2_with fail
  refine hK.out _ _ HX1.out (fun hHelda => ?_)
  clear hK K
  try simp only [Act.put]
  refine wpAnyH_ready (rs := [7]) (by kernel_rfl) (by simp) ?_
  refine AllReadyH.cons (o := _) rfl (fun K hK => ?_) AllReadyH.nil
  go_simp
  refine hK.out _ _ HX1.out (fun hHeldb => ?_)
  clear hK K
  try simp only [Act.put]
  refine wpAnyH_done (by kernel_rfl) ?_ _
  go_wp2_with fail
  refine wp_region_held_drew (S := Rx B tb (.int .u8 q1) (.int .i64 z1) (.int .i64 z2) (.slice p2 p3 p4) (.slice p5 p6 p7) (.int .u8 r1) (.int .i64 z3) (.int .i64 z4) (.slice s2 s3 s4) (.slice s5 s6 s7) code room mem t k v f g a s) (by kernel_rfl) HX1.out (fun hHeld => ?_)
  refine wpAnyH_take (i := 0) (v := ?_) rfl (by kernel_rfl) (by kernel_rfl) (by kernel_rfl) (fun _ _ _ h => h) (Or.inl ⟨by rfl, ?_⟩) (by assumption) ?_
  rotate_left
  · intro w hSw
    obtain ⟨x0, x1, x2, x3, x4, x5, x6, x7, x8, x9, x10, x11, x12, x13, x14, x15, x16, x17, x18, x19⟩ := hSw
    go_simp
    all_goals with_reducible rfl
  try simp only [Act.put]
  refine wpAnyH_take (i := 1) (v := ?_) rfl (by kernel_rfl) (by kernel_rfl) (by kernel_rfl) (fun _ _ _ h => h) (Or.inl ⟨by rfl, ?_⟩) (by assumption) ?_
  rotate_left
  · intro w hSw
    obtain ⟨x0, x1, x2, x3, x4, x5, x6, x7, x8, x9, x10, x11, x12, x13, x14, x15, x16, x17, x18, x19⟩ := hSw
    go_simp
    all_goals with_reducible rfl
  try simp only [Act.put]
  refine wpAnyH_take (i := 2) (v := ?_) rfl (by kernel_rfl) (by kernel_rfl) (by kernel_rfl) (fun _ _ _ h => h) (Or.inl ⟨by rfl, ?_⟩) (by assumption) ?_
  rotate_left
  · intro w hSw
    obtain ⟨x0, x1, x2, x3, x4, x5, x6, x7, x8, x9, x10, x11, x12, x13, x14, x15, x16, x17, x18, x19⟩ := hSw
    go_simp
    all_goals with_reducible rfl
  try simp only [Act.put]
  refine wpAnyH_take (i := 3) (v := ?_) rfl (by kernel_rfl) (by kernel_rfl) (by kernel_rfl) (fun _ _ _ h => h) (Or.inl ⟨by rfl, ?_⟩) (by assumption) ?_
  rotate_left
  · intro w hSw
    obtain ⟨x0, x1, x2, x3, x4, x5, x6, x7, x8, x9, x10, x11, x12, x13, x14, x15, x16, x17, x18, x19⟩ := hSw
    go_simp
    all_goals with_reducible rfl
  try simp only [Act.put]
  refine wpAnyH_take (i := 4) (v := ?_) rfl (by kernel_rfl) (by kernel_rfl) (by kernel_rfl) (fun _ _ _ h => h) (Or.inl ⟨by rfl, ?_⟩) (by assumption) ?_
  rotate_left
  · intro w hSw
    obtain ⟨x0, x1, x2, x3, x4, x5, x6, x7, x8, x9, x10, x11, x12, x13, x14, x15, x16, x17, x18, x19⟩ := hSw
    go_simp
    all_goals with_reducible rfl
  try simp only [Act.put]
  refine wpAnyH_take (i := 5) (v := ?_) rfl (by kernel_rfl) (by kernel_rfl) (by kernel_rfl) (fun _ _ _ h => h) (Or.inl ⟨by rfl, ?_⟩) (by assumption) ?_
  rotate_left
  · intro w hSw
    obtain ⟨x0, x1, x2, x3, x4, x5, x6, x7, x8, x9, x10, x11, x12, x13, x14, x15, x16, x17, x18, x19⟩ := hSw
    go_simp
    all_goals with_reducible rfl
  try simp only [Act.put]
  refine wpAnyH_ready (rs := [6]) (by kernel_rfl) (by simp) ?_
  refine AllReadyH.cons (o := _) rfl (fun K hK => ?_) AllReadyH.nil
  go_simp
  refine (HIV.out w1.drew B1.out.drew).mono ?_
  rintro e w2 ⟨rfl, hb2⟩
  have B2 := hid_m (B1.out.trans ((below_of_drew hb2).mono B1.out.size))
  have hn2 : w2.heap[tb]? = some (taskB t k v f g a s) := by rw [hb2.block tb (m_blk_lt HN1.out)]; exact HN1.out
  have HN2 := hid_m hn2
  have HX2 := hid_m (Rx.of (HH.out.on B2.out).mp hn2)
  clear hb2 hn2
  go_wp2_with fail
  refine hK.out _ _ HX2.out (fun hHelda => ?_)
  clear hK K
  try simp only [Act.put]
  refine wpAnyH_ready (rs := [7]) (by kernel_rfl) (by simp) ?_
  refine AllReadyH.cons (o := _) rfl (fun K hK => ?_) AllReadyH.nil
  go_simp
  refine hK.out _ _ HX2.out (fun hHeldb => ?_)
  clear hK K
  try simp only [Act.put]
  refine wpAnyH_done (by kernel_rfl) ?_ _
  obtain ⟨y0, y1, y2, y3, y4, y5, y6, y7, y8, y9, y10, y11, y12, y13, y14, y15, y16, y17, y18, y19⟩ := HX2.out
  clear y0 y1 y2 y3 y4 y5 y6 y7 y8 y9 y10 y11 y12 y14 y15 y16 y17 y18 y19
  have c0 : ¬ (t : Int) < 0 := by omega
  have c1 : ¬ (4294967295 : Int) < (t : Int) := by have := HTT.out; omega
  go_wp2_with fail
  clear c0 c1 y13
  obtain ⟨p1, hp1⟩ : ∃ p, P.pickQ a 33 = p := ⟨_, rfl⟩
  have HP1 : Hid (p1 ≤ 32) := by unfold Hid; rw [← hp1]; exact Nat.le_of_lt_succ (pickQ_lt a 33 (by decide))
  have HK1 : Hid (∀ w, Calls Try.prog 11 #[.int .i64 a, .int .i64 33] w fun e w' => e = .returned (.int .i64 p1) ∧ w' = w) := fun w => by rw [← hp1]; exact lpick_any a 33 w (by decide) (by decide) HAA.out.1 HAA.out.2
  obtain ⟨n1, hn1⟩ : ∃ n, room + p1 = n := ⟨_, rfl⟩
  have HW1 : Hid (IntKind.i64.wrap ((room : Int) + (p1 : Int)) = (n1 : Int)) := by unfold Hid; rw [wrap_id _ (by have := HRM.out; have := HP1.out; omega) (by have := HRM.out; have := HP1.out; omega)]; omega
  have HN1' := hid_m hn1
  obtain ⟨a3, ha3⟩ : ∃ z, a.tdiv 33 = z := ⟨_, rfl⟩
  have HA3 : Hid (-9223372036854775808 ≤ a3 ∧ a3 ≤ 9223372036854775807) := by
    unfold Hid
    rw [← ha3]
    exact tdiv_in HAA.out.1 HAA.out.2
  obtain ⟨pb, hpb⟩ : ∃ p, P.pickQ a3 33 = p := ⟨_, rfl⟩
  have HP2 : Hid (pb ≤ 32) := by unfold Hid; rw [← hpb]; exact Nat.le_of_lt_succ (pickQ_lt a3 33 (by decide))
  have HK2 : Hid (∀ w, Calls Try.prog 11 #[.int .i64 a3, .int .i64 33] w fun e w' => e = .returned (.int .i64 pb) ∧ w' = w) := fun w => by rw [← hpb]; exact lpick_any a3 33 w (by decide) (by decide) HA3.out.1 HA3.out.2
  obtain ⟨n2, hn2⟩ : ∃ n, room + 64 = n := ⟨_, rfl⟩
  have HW2 : Hid (IntKind.i64.wrap ((room : Int) + 64) = (n2 : Int)) := by unfold Hid; rw [wrap_id _ (by have := HRM.out; omega) (by have := HRM.out; omega)]; omega
  obtain ⟨n3, hn3⟩ : ∃ n, n2 + pb = n := ⟨_, rfl⟩
  have HW3 : Hid (IntKind.i64.wrap ((n2 : Int) + (pb : Int)) = (n3 : Int)) := by unfold Hid; rw [wrap_id _ (by have := HRM.out; have := HP2.out; omega) (by have := HRM.out; have := HP2.out; omega)]; omega
  have HA3E := hid_m ha3
  have HWQ : Hid (IntKind.i64.wrap (a.tdiv 33) = a3) := by unfold Hid; rw [wrap_id _ (by have := HA3.out; rw [ha3]; exact this.1) (by have := HA3.out; rw [ha3]; exact this.2), ha3]
  have HN2' := hid_m hn2
  have HN3' := hid_m hn3
  obtain ⟨n4, hn4⟩ : ∃ n, n2 + p1 = n := ⟨_, rfl⟩
  have HW4 : Hid (IntKind.i64.wrap ((n2 : Int) + (p1 : Int)) = (n4 : Int)) := by unfold Hid; rw [wrap_id _ (by have := HRM.out; have := HP1.out; omega) (by have := HRM.out; have := HP1.out; omega)]; omega
  obtain ⟨n5, hn5⟩ : ∃ n, room + pb = n := ⟨_, rfl⟩
  have HW5 : Hid (IntKind.i64.wrap ((room : Int) + (pb : Int)) = (n5 : Int)) := by unfold Hid; rw [wrap_id _ (by have := HRM.out; have := HP2.out; omega) (by have := HRM.out; have := HP2.out; omega)]; omega
  have HN4' := hid_m hn4
  have HN5' := hid_m hn5
  clear hn4 hn5
  clear hp1 hn1 ha3 hpb hn2 hn3
  refine wp_region_held_drew (S := Rx B tb (.int .u8 q1) (.int .i64 z1) (.int .i64 z2) (.slice p2 p3 p4) (.slice p5 p6 p7) (.int .u8 r1) (.int .i64 z3) (.int .i64 z4) (.slice s2 s3 s4) (.slice s5 s6 s7) code room mem t k v f g a s) (by kernel_rfl) HX2.out (fun hHeld => ?_)
  refine wpAnyH_take (i := 0) (v := ?_) rfl (by kernel_rfl) (by kernel_rfl) (by kernel_rfl) (fun _ _ _ h => h) (Or.inl ⟨by rfl, ?_⟩) (by assumption) ?_
  rotate_left
  · intro w hSw
    obtain ⟨x0, x1, x2, x3, x4, x5, x6, x7, x8, x9, x10, x11, x12, x13, x14, x15, x16, x17, x18, x19⟩ := hSw
    go_simp
    all_goals with_reducible rfl
  try simp only [Act.put]
  refine wpAnyH_take (i := 1) (v := ?_) rfl (by kernel_rfl) (by kernel_rfl) (by kernel_rfl) (fun _ _ _ h => h) (Or.inl ⟨by rfl, ?_⟩) (by assumption) ?_
  rotate_left
  · intro w hSw
    obtain ⟨x0, x1, x2, x3, x4, x5, x6, x7, x8, x9, x10, x11, x12, x13, x14, x15, x16, x17, x18, x19⟩ := hSw
    go_simp
    all_goals with_reducible rfl
  try simp only [Act.put]
  refine wpAnyH_take (i := 2) (v := ?_) rfl (by kernel_rfl) (by kernel_rfl) (by kernel_rfl) (fun _ _ _ h => h) (Or.inl ⟨by rfl, ?_⟩) (by assumption) ?_
  rotate_left
  · intro w hSw
    obtain ⟨x0, x1, x2, x3, x4, x5, x6, x7, x8, x9, x10, x11, x12, x13, x14, x15, x16, x17, x18, x19⟩ := hSw
    go_simp
    all_goals with_reducible rfl
  try simp only [Act.put]
  refine wpAnyH_take (i := 3) (v := ?_) rfl (by kernel_rfl) (by kernel_rfl) (by kernel_rfl) (fun _ _ _ h => h) (Or.inl ⟨by rfl, ?_⟩) (by assumption) ?_
  rotate_left
  · intro w hSw
    obtain ⟨x0, x1, x2, x3, x4, x5, x6, x7, x8, x9, x10, x11, x12, x13, x14, x15, x16, x17, x18, x19⟩ := hSw
    go_simp
    all_goals with_reducible rfl
  try simp only [Act.put]
  refine wpAnyH_take (i := 4) (v := ?_) rfl (by kernel_rfl) (by kernel_rfl) (by kernel_rfl) (fun _ _ _ h => h) (Or.inl ⟨by rfl, ?_⟩) (by assumption) ?_
  rotate_left
  · intro w hSw
    obtain ⟨x0, x1, x2, x3, x4, x5, x6, x7, x8, x9, x10, x11, x12, x13, x14, x15, x16, x17, x18, x19⟩ := hSw
    go_simp
    all_goals with_reducible rfl
  try simp only [Act.put]
  refine wpAnyH_take (i := 5) (v := ?_) rfl (by kernel_rfl) (by kernel_rfl) (by kernel_rfl) (fun _ _ _ h => h) (Or.inl ⟨by rfl, ?_⟩) (by assumption) ?_
  rotate_left
  · intro w hSw
    obtain ⟨x0, x1, x2, x3, x4, x5, x6, x7, x8, x9, x10, x11, x12, x13, x14, x15, x16, x17, x18, x19⟩ := hSw
    go_simp
    all_goals with_reducible rfl
  try simp only [Act.put]
  refine wpAnyH_ready (rs := [6]) (by kernel_rfl) (by simp) ?_
  refine AllReadyH.cons (o := _) rfl (fun K hK => ?_) AllReadyH.nil
  go_simp
  refine (HK1.out _).mono ?_
  rintro e w3 ⟨rfl, hw3⟩
  subst w3
  go_wp2_with fail
  refine hK.out _ _ HX2.out (fun hHelda => ?_)
  clear hK K
  try simp only [Act.put]
  have hw1 := HW1.out
  refine wpAnyH_take (i := 7) (v := ?_) rfl (by kernel_rfl) (by kernel_rfl) (by kernel_rfl) (fun _ _ _ h => h) (Or.inl ⟨by rfl, ?_⟩) (by assumption) ?_
  rotate_left
  · intro w hSw
    obtain ⟨x0, x1, x2, x3, x4, x5, x6, x7, x8, x9, x10, x11, x12, x13, x14, x15, x16, x17, x18, x19⟩ := hSw
    go_simp
    all_goals with_reducible rfl
  try simp only [Act.put]
  clear hw1
  refine wpAnyH_ready (rs := [8]) (by kernel_rfl) (by simp) ?_
  refine AllReadyH.cons (o := _) rfl (fun K hK => ?_) AllReadyH.nil
  go_simp
  refine hK.out _ _ HX2.out (fun hHeldb => ?_)
  clear hK K
  try simp only [Act.put]
  refine wpAnyH_done (by kernel_rfl) ?_ _
  go_wp2_with fail
  rename_i K6 hK6
  have HK6 := hid_m hK6
  clear hK6
  refine wp_region_held_drew (S := Rx B tb (.int .u8 q1) (.int .i64 z1) (.int .i64 z2) (.slice p2 p3 p4) (.slice p5 p6 p7) (.int .u8 r1) (.int .i64 z3) (.int .i64 z4) (.slice s2 s3 s4) (.slice s5 s6 s7) code room mem t k v f g a s) (by kernel_rfl) HX2.out (fun hHeld => ?_)
  refine wpAnyH_take (i := 0) (v := ?_) rfl (by kernel_rfl) (by kernel_rfl) (by kernel_rfl) (fun _ _ _ h => h) (Or.inl ⟨by rfl, ?_⟩) (by assumption) ?_
  rotate_left
  · intro w hSw
    obtain ⟨x0, x1, x2, x3, x4, x5, x6, x7, x8, x9, x10, x11, x12, x13, x14, x15, x16, x17, x18, x19⟩ := hSw
    go_simp
    all_goals with_reducible rfl
  try simp only [Act.put]
  refine wpAnyH_take (i := 1) (v := ?_) rfl (by kernel_rfl) (by kernel_rfl) (by kernel_rfl) (fun _ _ _ h => h) (Or.inl ⟨by rfl, ?_⟩) (by assumption) ?_
  rotate_left
  · intro w hSw
    obtain ⟨x0, x1, x2, x3, x4, x5, x6, x7, x8, x9, x10, x11, x12, x13, x14, x15, x16, x17, x18, x19⟩ := hSw
    go_simp
    all_goals with_reducible rfl
  try simp only [Act.put]
  refine wpAnyH_take (i := 2) (v := ?_) rfl (by kernel_rfl) (by kernel_rfl) (by kernel_rfl) (fun _ _ _ h => h) (Or.inl ⟨by rfl, ?_⟩) (by assumption) ?_
  rotate_left
  · intro w hSw
    obtain ⟨x0, x1, x2, x3, x4, x5, x6, x7, x8, x9, x10, x11, x12, x13, x14, x15, x16, x17, x18, x19⟩ := hSw
    go_simp
    all_goals with_reducible rfl
  try simp only [Act.put]
  refine wpAnyH_take (i := 3) (v := ?_) rfl (by kernel_rfl) (by kernel_rfl) (by kernel_rfl) (fun _ _ _ h => h) (Or.inl ⟨by rfl, ?_⟩) (by assumption) ?_
  rotate_left
  · intro w hSw
    obtain ⟨x0, x1, x2, x3, x4, x5, x6, x7, x8, x9, x10, x11, x12, x13, x14, x15, x16, x17, x18, x19⟩ := hSw
    go_simp
    all_goals with_reducible rfl
  try simp only [Act.put]
  have hw2 := HW2.out
  refine wpAnyH_take (i := 4) (v := ?_) rfl (by kernel_rfl) (by kernel_rfl) (by kernel_rfl) (fun _ _ _ h => h) (Or.inl ⟨by rfl, ?_⟩) (by assumption) ?_
  rotate_left
  · intro w hSw
    obtain ⟨x0, x1, x2, x3, x4, x5, x6, x7, x8, x9, x10, x11, x12, x13, x14, x15, x16, x17, x18, x19⟩ := hSw
    go_simp
    all_goals with_reducible rfl
  try simp only [Act.put]
  clear hw2
  refine wpAnyH_take (i := 5) (v := ?_) rfl (by kernel_rfl) (by kernel_rfl) (by kernel_rfl) (fun _ _ _ h => h) (Or.inl ⟨by rfl, ?_⟩) (by assumption) ?_
  rotate_left
  · intro w hSw
    obtain ⟨x0, x1, x2, x3, x4, x5, x6, x7, x8, x9, x10, x11, x12, x13, x14, x15, x16, x17, x18, x19⟩ := hSw
    go_simp
    all_goals with_reducible rfl
  try simp only [Act.put]
  refine wpAnyH_take (i := 6) (v := ?_) rfl (by kernel_rfl) (by kernel_rfl) (by kernel_rfl) (fun _ _ _ h => h) (Or.inl ⟨by rfl, ?_⟩) (by assumption) ?_
  rotate_left
  · intro w hSw
    obtain ⟨x0, x1, x2, x3, x4, x5, x6, x7, x8, x9, x10, x11, x12, x13, x14, x15, x16, x17, x18, x19⟩ := hSw
    go_simp
    all_goals with_reducible rfl
  try simp only [Act.put]
  have hwq := HWQ.out
  refine wpAnyH_take (i := 7) (v := ?_) rfl (by kernel_rfl) (by kernel_rfl) (by kernel_rfl) (fun _ _ _ h => h) (Or.inl ⟨by rfl, ?_⟩) (by assumption) ?_
  rotate_left
  · intro w hSw
    obtain ⟨x0, x1, x2, x3, x4, x5, x6, x7, x8, x9, x10, x11, x12, x13, x14, x15, x16, x17, x18, x19⟩ := hSw
    go_simp
    all_goals with_reducible rfl
  try simp only [Act.put]
  clear hwq
  refine wpAnyH_ready (rs := [8]) (by kernel_rfl) (by simp) ?_
  refine AllReadyH.cons (o := _) rfl (fun K hK => ?_) AllReadyH.nil
  go_simp
  refine (HK2.out _).mono ?_
  rintro e w3 ⟨rfl, hw3⟩
  subst w3
  go_wp2_with fail
  refine hK.out _ _ HX2.out (fun hHelda => ?_)
  clear hK K
  try simp only [Act.put]
  have hw3 := HW3.out
  refine wpAnyH_take (i := 9) (v := ?_) rfl (by kernel_rfl) (by kernel_rfl) (by kernel_rfl) (fun _ _ _ h => h) (Or.inl ⟨by rfl, ?_⟩) (by assumption) ?_
  rotate_left
  · intro w hSw
    obtain ⟨x0, x1, x2, x3, x4, x5, x6, x7, x8, x9, x10, x11, x12, x13, x14, x15, x16, x17, x18, x19⟩ := hSw
    go_simp
    all_goals with_reducible rfl
  try simp only [Act.put]
  clear hw3
  refine wpAnyH_ready (rs := [10]) (by kernel_rfl) (by simp) ?_
  refine AllReadyH.cons (o := _) rfl (fun K hK => ?_) AllReadyH.nil
  go_simp
  refine hK.out _ _ HX2.out (fun hHeldb => ?_)
  clear hK K
  try simp only [Act.put]
  refine wpAnyH_done (by kernel_rfl) ?_ _
  go_wp2_with fail
  refine HK6.out _ _ ?_
  refine wp_seq_k (fun K7 hK7 => ?_)
  have HK7 := hid_m hK7
  clear hK7 HK6
  obtain ⟨w3, hw3⟩ : ∃ W, w2.drew.drew = W := ⟨_, rfl⟩
  have B3 : Hid (Below w.heap.size w w3) := by unfold Hid; rw [← hw3]; exact B2.out.drew.drew
  have HN3 : Hid (w3.heap[tb]? = some (taskB t k v f g a s)) := by unfold Hid; rw [← hw3]; exact HN2.out
  have HX3 := hid_m (Rx.of (HH.out.on B3.out).mp HN3.out)
  rw [hw3]
  clear hw3 HX2 HN2 B2
  obtain ⟨y0, y1, y2, y3, y4, y5, y6, y7, y8, y9, y10, y11, y12, y13, y14, y15, y16, y17, y18, y19⟩ := HX3.out
  clear y0 y1 y2 y3 y4 y5 y6 y7 y8 y9 y10 y11 y12 y13 y14 y15 y16 y17 y18
  by_cases hsw : s.tmod 2 = 0
  · have hs1 : (s.tmod 2 != 0) = false := by rw [hsw]; rfl
    clear hsw
    go_wp2_with fail
    refine HK7.out _ _ ?_
    exact HTL.out _ n1 n3 (by have := B3.out; rw [HTB.out] at this; exact this) HN3.out (by have := HN1'.out; have := HN2'.out; have := HN3'.out; have := HP1.out; have := HP2.out; omega) _ _ _ _ _ _ _ _ _ _ _ _ _ _ _ _ _ _ _ _ _ _ _ _ _ _ _ _ _ _ _ _ _ _ _ _ _ _ _ _ _ _ _ _ _ _ _ _ _ _ _ _ _ _ _ _ _ _ _ _ _ _ _ _ _ _ _ _ _ _ _ _ _ _ _ _ _ _ _ _ _ _ _ _ _ _ _ _ _ _ _ _ _ _ _ _ _ _ _ _ _ _ _ _ _ _ _ _ _ _ _ _ _ _ _ _ _ _ _ _ _ _ _ _ _ _ _ _ _ _ _ _ _ _ _ _ _ _ _ _ _ _ _ _ _ _ _ _ _ _ _ _ _ _ _ _ _ _ _ _ _ _ _ _
  · have hs1 : (s.tmod 2 != 0) = true := by rw [bne_iff_ne]; exact hsw
    clear hsw
    go_wp2_with fail
    clear y19
    refine wp_region_held_drew (S := Rx B tb (.int .u8 q1) (.int .i64 z1) (.int .i64 z2) (.slice p2 p3 p4) (.slice p5 p6 p7) (.int .u8 r1) (.int .i64 z3) (.int .i64 z4) (.slice s2 s3 s4) (.slice s5 s6 s7) code room mem t k v f g a s) (by kernel_rfl) HX3.out (fun hHeld => ?_)
    refine wpAnyH_take (i := 0) (v := ?_) rfl (by kernel_rfl) (by kernel_rfl) (by kernel_rfl) (fun _ _ _ h => h) (Or.inl ⟨by rfl, ?_⟩) (by assumption) ?_
    rotate_left
    · intro w hSw
      obtain ⟨x0, x1, x2, x3, x4, x5, x6, x7, x8, x9, x10, x11, x12, x13, x14, x15, x16, x17, x18, x19⟩ := hSw
      go_simp
      all_goals with_reducible rfl
    try simp only [Act.put]
    refine wpAnyH_take (i := 1) (v := ?_) rfl (by kernel_rfl) (by kernel_rfl) (by kernel_rfl) (fun _ _ _ h => h) (Or.inl ⟨by rfl, ?_⟩) (by assumption) ?_
    rotate_left
    · intro w hSw
      obtain ⟨x0, x1, x2, x3, x4, x5, x6, x7, x8, x9, x10, x11, x12, x13, x14, x15, x16, x17, x18, x19⟩ := hSw
      go_simp
      all_goals with_reducible rfl
    try simp only [Act.put]
    refine wpAnyH_take (i := 2) (v := ?_) rfl (by kernel_rfl) (by kernel_rfl) (by kernel_rfl) (fun _ _ _ h => h) (Or.inl ⟨by rfl, ?_⟩) (by assumption) ?_
    rotate_left
    · intro w hSw
      obtain ⟨x0, x1, x2, x3, x4, x5, x6, x7, x8, x9, x10, x11, x12, x13, x14, x15, x16, x17, x18, x19⟩ := hSw
      go_simp
      all_goals with_reducible rfl
    try simp only [Act.put]
    refine wpAnyH_take (i := 3) (v := ?_) rfl (by kernel_rfl) (by kernel_rfl) (by kernel_rfl) (fun _ _ _ h => h) (Or.inl ⟨by rfl, ?_⟩) (by assumption) ?_
    rotate_left
    · intro w hSw
      obtain ⟨x0, x1, x2, x3, x4, x5, x6, x7, x8, x9, x10, x11, x12, x13, x14, x15, x16, x17, x18, x19⟩ := hSw
      go_simp
      all_goals with_reducible rfl
    try simp only [Act.put]
    have hw2 := HW2.out
    refine wpAnyH_take (i := 4) (v := ?_) rfl (by kernel_rfl) (by kernel_rfl) (by kernel_rfl) (fun _ _ _ h => h) (Or.inl ⟨by rfl, ?_⟩) (by assumption) ?_
    rotate_left
    · intro w hSw
      obtain ⟨x0, x1, x2, x3, x4, x5, x6, x7, x8, x9, x10, x11, x12, x13, x14, x15, x16, x17, x18, x19⟩ := hSw
      go_simp
      all_goals with_reducible rfl
    try simp only [Act.put]
    clear hw2
    refine wpAnyH_take (i := 5) (v := ?_) rfl (by kernel_rfl) (by kernel_rfl) (by kernel_rfl) (fun _ _ _ h => h) (Or.inl ⟨by rfl, ?_⟩) (by assumption) ?_
    rotate_left
    · intro w hSw
      obtain ⟨x0, x1, x2, x3, x4, x5, x6, x7, x8, x9, x10, x11, x12, x13, x14, x15, x16, x17, x18, x19⟩ := hSw
      go_simp
      all_goals with_reducible rfl
    try simp only [Act.put]
    refine wpAnyH_take (i := 6) (v := ?_) rfl (by kernel_rfl) (by kernel_rfl) (by kernel_rfl) (fun _ _ _ h => h) (Or.inl ⟨by rfl, ?_⟩) (by assumption) ?_
    rotate_left
    · intro w hSw
      obtain ⟨x0, x1, x2, x3, x4, x5, x6, x7, x8, x9, x10, x11, x12, x13, x14, x15, x16, x17, x18, x19⟩ := hSw
      go_simp
      all_goals with_reducible rfl
    try simp only [Act.put]
    refine wpAnyH_ready (rs := [7]) (by kernel_rfl) (by simp) ?_
    refine AllReadyH.cons (o := _) rfl (fun K hK => ?_) AllReadyH.nil
    go_simp
    refine (HK1.out _).mono ?_
    rintro e wz ⟨rfl, hwz⟩
    subst wz
    go_wp2_with fail
    refine hK.out _ _ HX3.out (fun hHelda => ?_)
    clear hK K
    try simp only [Act.put]
    have hw4 := HW4.out
    refine wpAnyH_take (i := 8) (v := ?_) rfl (by kernel_rfl) (by kernel_rfl) (by kernel_rfl) (fun _ _ _ h => h) (Or.inl ⟨by rfl, ?_⟩) (by assumption) ?_
    rotate_left
    · intro w hSw
      obtain ⟨x0, x1, x2, x3, x4, x5, x6, x7, x8, x9, x10, x11, x12, x13, x14, x15, x16, x17, x18, x19⟩ := hSw
      go_simp
      all_goals with_reducible rfl
    try simp only [Act.put]
    clear hw4
    refine wpAnyH_ready (rs := [9]) (by kernel_rfl) (by simp) ?_
    refine AllReadyH.cons (o := _) rfl (fun K hK => ?_) AllReadyH.nil
    go_simp
    refine hK.out _ _ HX3.out (fun hHeldb => ?_)
    clear hK K
    try simp only [Act.put]
    refine wpAnyH_done (by kernel_rfl) ?_ _
    go_wp2_with fail
    refine wp_region_held_drew (S := Rx B tb (.int .u8 q1) (.int .i64 z1) (.int .i64 z2) (.slice p2 p3 p4) (.slice p5 p6 p7) (.int .u8 r1) (.int .i64 z3) (.int .i64 z4) (.slice s2 s3 s4) (.slice s5 s6 s7) code room mem t k v f g a s) (by kernel_rfl) HX3.out (fun hHeld => ?_)
    refine wpAnyH_take (i := 0) (v := ?_) rfl (by kernel_rfl) (by kernel_rfl) (by kernel_rfl) (fun _ _ _ h => h) (Or.inl ⟨by rfl, ?_⟩) (by assumption) ?_
    rotate_left
    · intro w hSw
      obtain ⟨x0, x1, x2, x3, x4, x5, x6, x7, x8, x9, x10, x11, x12, x13, x14, x15, x16, x17, x18, x19⟩ := hSw
      go_simp
      all_goals with_reducible rfl
    try simp only [Act.put]
    refine wpAnyH_take (i := 1) (v := ?_) rfl (by kernel_rfl) (by kernel_rfl) (by kernel_rfl) (fun _ _ _ h => h) (Or.inl ⟨by rfl, ?_⟩) (by assumption) ?_
    rotate_left
    · intro w hSw
      obtain ⟨x0, x1, x2, x3, x4, x5, x6, x7, x8, x9, x10, x11, x12, x13, x14, x15, x16, x17, x18, x19⟩ := hSw
      go_simp
      all_goals with_reducible rfl
    try simp only [Act.put]
    refine wpAnyH_take (i := 2) (v := ?_) rfl (by kernel_rfl) (by kernel_rfl) (by kernel_rfl) (fun _ _ _ h => h) (Or.inl ⟨by rfl, ?_⟩) (by assumption) ?_
    rotate_left
    · intro w hSw
      obtain ⟨x0, x1, x2, x3, x4, x5, x6, x7, x8, x9, x10, x11, x12, x13, x14, x15, x16, x17, x18, x19⟩ := hSw
      go_simp
      all_goals with_reducible rfl
    try simp only [Act.put]
    refine wpAnyH_take (i := 3) (v := ?_) rfl (by kernel_rfl) (by kernel_rfl) (by kernel_rfl) (fun _ _ _ h => h) (Or.inl ⟨by rfl, ?_⟩) (by assumption) ?_
    rotate_left
    · intro w hSw
      obtain ⟨x0, x1, x2, x3, x4, x5, x6, x7, x8, x9, x10, x11, x12, x13, x14, x15, x16, x17, x18, x19⟩ := hSw
      go_simp
      all_goals with_reducible rfl
    try simp only [Act.put]
    refine wpAnyH_take (i := 4) (v := ?_) rfl (by kernel_rfl) (by kernel_rfl) (by kernel_rfl) (fun _ _ _ h => h) (Or.inl ⟨by rfl, ?_⟩) (by assumption) ?_
    rotate_left
    · intro w hSw
      obtain ⟨x0, x1, x2, x3, x4, x5, x6, x7, x8, x9, x10, x11, x12, x13, x14, x15, x16, x17, x18, x19⟩ := hSw
      go_simp
      all_goals with_reducible rfl
    try simp only [Act.put]
    refine wpAnyH_take (i := 5) (v := ?_) rfl (by kernel_rfl) (by kernel_rfl) (by kernel_rfl) (fun _ _ _ h => h) (Or.inl ⟨by rfl, ?_⟩) (by assumption) ?_
    rotate_left
    · intro w hSw
      obtain ⟨x0, x1, x2, x3, x4, x5, x6, x7, x8, x9, x10, x11, x12, x13, x14, x15, x16, x17, x18, x19⟩ := hSw
      go_simp
      all_goals with_reducible rfl
    try simp only [Act.put]
    have hwq := HWQ.out
    refine wpAnyH_take (i := 6) (v := ?_) rfl (by kernel_rfl) (by kernel_rfl) (by kernel_rfl) (fun _ _ _ h => h) (Or.inl ⟨by rfl, ?_⟩) (by assumption) ?_
    rotate_left
    · intro w hSw
      obtain ⟨x0, x1, x2, x3, x4, x5, x6, x7, x8, x9, x10, x11, x12, x13, x14, x15, x16, x17, x18, x19⟩ := hSw
      go_simp
      all_goals with_reducible rfl
    try simp only [Act.put]
    clear hwq
    refine wpAnyH_ready (rs := [7]) (by kernel_rfl) (by simp) ?_
    refine AllReadyH.cons (o := _) rfl (fun K hK => ?_) AllReadyH.nil
    go_simp
    refine (HK2.out _).mono ?_
    rintro e wz ⟨rfl, hwz⟩
    subst wz
    go_wp2_with fail
    refine hK.out _ _ HX3.out (fun hHelda => ?_)
    clear hK K
    try simp only [Act.put]
    have hw5 := HW5.out
    refine wpAnyH_take (i := 8) (v := ?_) rfl (by kernel_rfl) (by kernel_rfl) (by kernel_rfl) (fun _ _ _ h => h) (Or.inl ⟨by rfl, ?_⟩) (by assumption) ?_
    rotate_left
    · intro w hSw
      obtain ⟨x0, x1, x2, x3, x4, x5, x6, x7, x8, x9, x10, x11, x12, x13, x14, x15, x16, x17, x18, x19⟩ := hSw
      go_simp
      all_goals with_reducible rfl
    try simp only [Act.put]
    clear hw5
    refine wpAnyH_ready (rs := [9]) (by kernel_rfl) (by simp) ?_
    refine AllReadyH.cons (o := _) rfl (fun K hK => ?_) AllReadyH.nil
    go_simp
    refine hK.out _ _ HX3.out (fun hHeldb => ?_)
    clear hK K
    try simp only [Act.put]
    refine wpAnyH_done (by kernel_rfl) ?_ _
    go_wp2_with fail
    refine HK7.out _ _ ?_
    exact HTL.out w3.drew.drew n4 n5 (by have := B3.out.drew.drew; rw [HTB.out] at this; exact this) HN3.out (by have := HN2'.out; have := HN4'.out; have := HN5'.out; have := HP1.out; have := HP2.out; omega) _ _ _ _ _ _ _ _ _ _ _ _ _ _ _ _ _ _ _ _ _ _ _ _ _ _ _ _ _ _ _ _ _ _ _ _ _ _ _ _ _ _ _ _ _ _ _ _ _ _ _ _ _ _ _ _ _ _ _ _ _ _ _ _ _ _ _ _ _ _ _ _ _ _ _ _ _ _ _ _ _ _ _ _ _ _ _ _ _ _ _ _ _ _ _ _ _ _ _ _ _ _ _ _ _ _ _ _ _ _ _ _ _ _ _ _ _ _ _ _ _ _ _ _ _ _ _ _ _ _ _ _ _ _ _ _ _ _ _ _ _ _ _ _ _ _ _ _ _ _ _ _ _ _ _ _ _ _ _ _ _ _ _ _
end Go.Proofs.Ytghggcehloiemab
