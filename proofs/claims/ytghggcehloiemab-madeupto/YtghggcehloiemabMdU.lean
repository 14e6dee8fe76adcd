import Derived.Test.YtghggcehloiemabMdUb
import Derived.Test.YtghggcehloiemabMcRR2
namespace Go.Proofs.Ytghggcehloiemab
open Go.RowKit
set_option linter.unusedVariables false
set_option maxRecDepth 16000
set_option maxHeartbeats 8000000 in
theorem srun_tail {w0 w : World} (B tb M sl room : Nat) (q1 : Int) (z1 z2 : Nat) (p2 : Option Addr) (p3 p4 : Nat) (p5 : Option Addr) (p6 p7 : Nat) (r1 : Int) (z3 z4 : Nat) (s2 : Option Addr) (s3 s4 : Nat) (s5 : Option Addr) (s6 s7 : Nat) (tk tv : P.Ty 4) (Sk Sv : Nat → Prop) (code mem : ByteArray) (lv : Value) (L : List (ByteArray × ByteArray)) (T : List (List UInt8)) (t : Nat) (k v : ByteArray) (f g a s : Int) (kAt vAt : Nat)
    (h : Shp w B M sl room (.int .u8 q1) (.int .i64 z1) (.int .i64 z2) (.slice p2 p3 p4) (.slice p5 p6 p7) (.int .u8 r1) (.int .i64 z3) (.int .i64 z4) (.slice s2 s3 s4) (.slice s5 s6 s7) tk tv Sk Sv code mem lv L) (ht : w.heap[tb]? = some (taskB t k v f g a s))
    (smk : P.Sm 4 tk) (smv : P.Sm 4 tv) (nmk : P.Nm 4 tk) (nmv : P.Nm 4 tv) (hks : k.size ≤ 1099511627776) (hvs : v.size ≤ 1099511627776) (Lk Lv : List (Option UInt8)) (hLk : P.lieP 4 tk k.data.toList = some Lk) (hLv : P.lieP 4 tv v.data.toList = some Lv)
    (ht1 : t ≤ 4294967295) (hf : I6 f) (hg : I6 g) (hP : P.ShopP tk tv sl mem.data.toList L T) (hcode : code = ⟨(P.text (P.prog (P.cov (P.parts 4 tk)) (P.cov (P.parts 4 tv)) sl).resolve).toArray⟩) (hisc : P.IsCode (P.text (P.prog (P.cov (P.parts 4 tk)) (P.cov (P.parts 4 tv)) sl).resolve))
    (hroom : room = 1 + sl * ((P.cov (P.parts 4 tk)).length + (P.cov (P.parts 4 tv)).length))
    (hAt : (room ≤ kAt ∧ kAt + 64 ≤ room + 128 ∧ room ≤ vAt ∧ vAt + 64 ≤ room + 192 ∧ kAt + 32 ≤ vAt) ∨ (room ≤ vAt ∧ vAt + 32 ≤ kAt ∧ kAt + 32 ≤ room + 160))
    (F0 : Fr B lv.ownBlock w0 w) (hB0 : B < w0.heap.size) (htb : w0.heap.size ≤ tb) (hlv : ∀ g, lv.ownBlock = some g → g < w0.heap.size)
    (c1 c2 c5 c6 c9 c10 c11 c12 c13 c14 c15 c16 c17 c18 c19 c20 c21 c22 c23 c24 c25 c26 c27 c28 c29 c30 c31 c32 c33 c34 c35 c36 c37 c38 c39 c40 c41 c42 c43 c44 c45 c46 c47 c48 c49 c50 c51 c52 c53 c54 c55 c56 c57 c58 c59 c60 c61 c62 c63 c64 c65 c66 c67 c68 c69 c70 c71 c72 c73 c74 c75 c76 c77 c78 c79 c80 c81 c82 c83 c84 c85 c86 c87 c88 c89 c90 c91 c92 c93 c94 c95 c96 c97 c98 c99 c100 c101 c102 c103 c104 c105 c106 c107 c108 c109 c110 c111 c112 c113 c114 c115 c116 c117 c118 c119 c120 c121 c122 c123 c124 c125 c126 c127 c128 c129 c130 c131 c132 c133 c134 c135 c136 c137 c138 c139 c140 c141 c142 c143 c144 c145 c146 c147 c148 c149 c150 c151 c152 c153 c154 c155 c156 c157 c158 c159 c160 c161 c162 c163 c164 c165 c166 c167 c168 : Value) :
    Code.wp Try.prog (dropS 7 (Try.f5.body.getD .skip)) (bodyPost Try.prog Try.f5 fun e w' => e = .returned (.bool true) ∧ SrunPost w0 w' B M sl room (.int .u8 q1) (.int .i64 z1) (.int .i64 z2) (.slice p2 p3 p4) (.slice p5 p6 p7) (.int .u8 r1) (.int .i64 z3) (.int .i64 z4) (.slice s2 s3 s4) (.slice s5 s6 s7) tk tv Sk Sv code lv) ⟨#[.pointer (some ⟨B, 0, none⟩), c1, c2, .pointer (some ⟨tb, 0, none⟩), .bool false, c5, c6, .int .i64 kAt, .int .i64 vAt, c9, c10, c11, c12, c13, c14, c15, c16, c17, c18, c19, c20, c21, c22, c23, c24, c25, c26, c27, c28, c29, c30, c31, c32, c33, c34, c35, c36, c37, c38, c39, c40, c41, c42, c43, c44, c45, c46, c47, c48, c49, c50, c51, c52, c53, c54, c55, c56, c57, c58, c59, c60, c61, c62, c63, c64, c65, c66, c67, c68, c69, c70, c71, c72, c73, c74, c75, c76, c77, c78, c79, c80, c81, c82, c83, c84, c85, c86, c87, c88, c89, c90, c91, c92, c93, c94, c95, c96, c97, c98, c99, c100, c101, c102, c103, c104, c105, c106, c107, c108, c109, c110, c111, c112, c113, c114, c115, c116, c117, c118, c119, c120, c121, c122, c123, c124, c125, c126, c127, c128, c129, c130, c131, c132, c133, c134, c135, c136, c137, c138, c139, c140, c141, c142, c143, c144, c145, c146, c147, c148, c149, c150, c151, c152, c153, c154, c155, c156, c157, c158, c159, c160, c161, c162, c163, c164, c165, c166, c167, c168], []⟩ w := by
  have hkv := (lie_val smk nmk k.data.toList).1 (by rw [hLk]; rfl)
  have hvv := (lie_val smv nmv v.data.toList).1 (by rw [hLv]; rfl)
  obtain ⟨pf, hpf⟩ : ∃ p, P.pickQ f 256 = p := ⟨_, rfl⟩
  obtain ⟨pg, hpg⟩ : ∃ p, P.pickQ g 256 = p := ⟨_, rfl⟩
  have hpf2 : pf ≤ 255 := by rw [← hpf]; exact Nat.le_of_lt_succ (pickQ_lt f 256 (by decide))
  have hpg2 : pg ≤ 255 := by rw [← hpg]; exact Nat.le_of_lt_succ (pickQ_lt g 256 (by decide))
  have HK1 : Hid (∀ w, Calls Try.prog 11 #[.int .i64 f, .int .i64 256] w fun e w' => e = .returned (.int .i64 pf) ∧ w' = w) := fun w => by rw [← hpf]; exact lpick_any f 256 w (by decide) (by decide) hf.1 hf.2
  have HK2 : Hid (∀ w, Calls Try.prog 11 #[.int .i64 g, .int .i64 256] w fun e w' => e = .returned (.int .i64 pg) ∧ w' = w) := fun w => by rw [← hpg]; exact lpick_any g 256 w (by decide) (by decide) hg.1 hg.2
  obtain ⟨bk, hbk⟩ : ∃ b, P.filled (P.fillB pf) Lk = b := ⟨_, rfl⟩
  obtain ⟨bv, hbv⟩ : ∃ b, P.filled (P.fillB pg) Lv = b := ⟨_, rfl⟩
  have HY1 : Hid (∀ w' (hb : Below w.heap.size w w'), Calls Try.prog 12 #[.agg #[.int .u8 q1, .int .i64 z1, .int .i64 z2, .slice p2 p3 p4, .slice p5 p6 p7], .string k, .int .i64 pf] w' fun e w'' => e = .returned (.string ⟨bk.toArray⟩) ∧ Below w'.heap.size w' w'') := fun w' hb => by rw [← hbk]; exact bytes_any tk _ Sk k pf Lk w' smk (h.on hb).tk (fun g hg => by have := (h.sk g hg).1; have := (h.on hb).mp.here; omega) hks (by omega) (by omega) hLk
  have HY2 : Hid (∀ w' (hb : Below w.heap.size w w'), Calls Try.prog 12 #[.agg #[.int .u8 r1, .int .i64 z3, .int .i64 z4, .slice s2 s3 s4, .slice s5 s6 s7], .string v, .int .i64 pg] w' fun e w'' => e = .returned (.string ⟨bv.toArray⟩) ∧ Below w'.heap.size w' w'') := fun w' hb => by rw [← hbv]; exact bytes_any tv _ Sv v pg Lv w' smv (h.on hb).tv (fun g hg => by have := (h.sv g hg).1; have := (h.on hb).mp.here; omega) hvs (by omega) (by omega) hLv
  have l1 := lie_filled smk nmk hLk (P.fillB pf)
  have l2 := lie_filled smv nmv hLv (P.fillB pg)
  rw [hbk] at l1
  rw [hbv] at l2
  have hlen := hP.len
  rw [← hroom] at hlen
  have hr1040 : room ≤ 1025 := by
    have h1 := hP.sl16; have h2 := hP.kk.covl; have h3 := hP.kk.sz32; have h4 := hP.kv.covl; have h5 := hP.kv.sz32
    have := Nat.mul_le_mul h1 (show ((P.cov (P.parts 4 tk)).length + (P.cov (P.parts 4 tv)).length) ≤ 64 by omega)
    omega
  have hbkl : bk.length ≤ 32 := by
    obtain ⟨bs, g1, g2, _⟩ := hP.kk.fill hkv (P.fillB pf)
    rw [l1] at g1; cases g1; rw [g2]; exact hP.kk.sz32
  have hbvl : bv.length ≤ 32 ∧ bv.length = (P.sz 4 tv).1 := by
    obtain ⟨bs, g1, g2, _⟩ := hP.kv.fill hvv (P.fillB pg)
    rw [l2] at g1; cases g1; rw [g2]; exact ⟨hP.kv.sz32, rfl⟩
  have hmsz : mem.size = mem.data.toList.length := by simp
  obtain ⟨m', res, n, T', hgo, hml, hP', hcn, hfd, hnf⟩ := P.shop_run hP k v hkv hvv (P.fillB pf) (P.fillB pg) bk bv l1 l2 kAt vAt t (by rw [← hroom]; exact hAt)
  rw [← hroom] at hfd hnf
  obtain ⟨m1, hm1⟩ : ∃ m, P.laidL mem.data.toList kAt bk = m := ⟨_, rfl⟩
  rw [hm1] at hgo hfd hnf
  obtain ⟨m2, hm2⟩ : ∃ m, P.laidL m1 vAt bv = m := ⟨_, rfl⟩
  rw [hm2] at hgo hfd hnf
  have hm1l : m1.length = mem.data.toList.length := by rw [← hm1]; exact P.laidL_len (by omega)
  have hm2l : m2.length = mem.data.toList.length := by rw [← hm2, ← hm1l]; exact P.laidL_len (by omega)
  have HL1 : Hid (∀ w, Calls Try.prog 13 #[.string mem, .int .i64 kAt, .string ⟨bk.toArray⟩] w fun e w' => e = .returned (.string ⟨m1.toArray⟩) ∧ Below w.heap.size w w') := fun w => by
    have := laid_any mem ⟨bk.toArray⟩ kAt w (by rw [hmsz, bsz]; omega) (by rw [hmsz]; omega)
    simpa [hm1] using this
  have HL2 : Hid (∀ w, Calls Try.prog 13 #[.string ⟨m1.toArray⟩, .int .i64 vAt, .string ⟨bv.toArray⟩] w fun e w' => e = .returned (.string ⟨m2.toArray⟩) ∧ Below w.heap.size w w') := fun w => by
    have := laid_any ⟨m1.toArray⟩ ⟨bv.toArray⟩ vAt w (by rw [bsz, bsz]; omega) (by rw [bsz]; omega)
    simpa [hm2] using this
  obtain ⟨st, hst⟩ : ∃ st, (P.mapDo sl t k v L).1 = st := ⟨_, rfl⟩
  obtain ⟨L', hL'⟩ : ∃ L', (P.mapDo sl t k v L).2 = L' := ⟨_, rfl⟩
  have hrun : P.runOf code.data.toList m2 t kAt vAt 10000 = ⟨m', res, st, n, 0⟩ := by
    rw [hcode, ← hst, ← hgo]
    exact P.shop_runOf hP.kk hP.kv hP.sl16 m2 t kAt vAt (by omega) ht1 (by omega) (by omega) hisc
  have hcsz : code.size ≤ maxLen := by
    have h1 : code.size = (P.text (P.prog (P.cov (P.parts 4 tk)) (P.cov (P.parts 4 tv)) sl).resolve).length := by rw [hcode, bsz]
    have h2 := hisc.five
    have h3 := hisc.few
    unfold maxLen
    omega
  have HRN : Hid (∀ w, Calls Try.prog 14 #[.string code, .string ⟨m2.toArray⟩, .int .i64 t, .int .i64 kAt, .int .i64 vAt, .int .i64 10000] w fun e w' => e = .returned (.tuple #[.agg #[.string ⟨m'.toArray⟩, .int .i64 res, .int .i64 st, .int .i64 n], .int .i64 0]) ∧ Below w.heap.size w w') := fun w => by
    have := rrun_any code ⟨m2.toArray⟩ t kAt vAt 10000 w hcsz _ (by simpa using hrun)
    simpa [outV] using this
  have HLF : Hid (∀ (w' : World) (mm : ByteArray) (lv' : Value), Shp w' B M sl room (.int .u8 q1) (.int .i64 z1) (.int .i64 z2) (.slice p2 p3 p4) (.slice p5 p6 p7) (.int .u8 r1) (.int .i64 z3) (.int .i64 z4) (.slice s2 s3 s4) (.slice s5 s6 s7) tk tv Sk Sv code mm lv' L' → Calls Try.prog 16 #[.pointer (some ⟨B, 0, none⟩), .string ⟨m2.toArray⟩, .string ⟨m'.toArray⟩, taskV t k v f g a s, .int .i64 st, .int .i64 vAt] w' fun e w'' => e = .returned (.bool true) ∧ Below w'.heap.size w' w'') := by
    intro w' mm lv' hs
    by_cases hfind : t = 1 ∧ st = 0
    · obtain ⟨h1, h2⟩ := hfind
      obtain ⟨i, v0, y1, y2, y3, y4⟩ := hfd ⟨h1, by rw [hst]; exact h2⟩
      have hLL : L' = L := by rw [← hL', h1]; exact mapDo_find
      subst h1
      rw [h2]
      refine left_found B M sl room _ _ _ _ _ lv' (.bool false) _ _ _ _ _ code mm _ L' ⟨m2.toArray⟩ ⟨m'.toArray⟩ k v f g a s vAt tv Sv smv nmv hs.tv (fun g hg => by have := (hs.sv g hg).1; have := hs.mp.here; omega) hs.mp (by rw [bsz, bsz]; omega) (by rw [bsz]; omega) (by rw [bsz]; omega) (by rw [bsz]; have := hbvl.2; omega) i v0 (by rw [hLL]; exact y1) (by rw [hLL]; exact y2) ?_ ?_
      · have hcl : ((m'.drop vAt).take (P.sz 4 tv).1).length = (P.sz 4 tv).1 := by rw [List.length_take, List.length_drop]; have := hbvl.2; omega
        simp only
        rw [← P.tell_value 4 tv _ smv nmv hcl]
        exact y3
      · simpa using y4
    · exact left_plain B M sl room _ _ _ _ _ _ _ _ _ _ lv' code mm _ L' ⟨m2.toArray⟩ ⟨m'.toArray⟩ t k v f g a s st vAt hs.mp hfind (by rw [bsz, bsz]; omega) (by rw [bsz]; omega) (by rw [bsz]; omega) (by simpa using hnf (by rw [hst]; exact hfind))
  have HST := hid_m (And.intro hst hL')
  have HPP := hid_m hP'
  rw [hL'] at HPP
  have HCN : Hid (t = 4 → res = L'.length) := fun h4 => by rw [← hL', hcn h4]; subst h4; rw [mapDo_count]
  have HH := hid_m h
  have HF0 := hid_m F0
  have HBD := hid_m (And.intro hB0 (And.intro htb hlv))
  have HT1 := hid_m ht1
  have HN0 := hid_m ht
  have HX0 := hid_m (Rx.of h.mp ht)
  clear h ht smk smv nmk nmv hks hvs hLk hLv ht1 hf hg hP hcode hisc hroom hAt F0 hB0 htb hlv hkv hvv hpf hpg hpf2 hpg2 hbk hbv l1 l2 hlen hr1040 hbkl hbvl hmsz hgo hml hP' hcn hfd hnf hm1 hm2 hm1l hm2l hst hL' hrun hcsz
  conv => arg 2; whnf
  go_wp2_with fail
  refine wp_region_held_drew (S := Rx B tb (.int .u8 q1) (.int .i64 z1) (.int .i64 z2) (.slice p2 p3 p4) (.slice p5 p6 p7) (.int .u8 r1) (.int .i64 z3) (.int .i64 z4) (.slice s2 s3 s4) (.slice s5 s6 s7) code room mem t k v f g a s) (by kernel_rfl) HX0.out (fun hHeld => ?_)
  refine wpAnyH_take (i := 0) (v := ?_) rfl (by kernel_rfl) (by kernel_rfl) (by kernel_rfl) (fun _ _ _ h => h) (Or.inl ⟨by rfl, ?_⟩) (by assumption) ?_
  rotate_left
  · intro w hSw
    obtain ⟨x0, x1, x2, x3, x4, x5, x6, x7, x8, x9, x10, x11, x12, x13, x14, x15, x16, x17, x18, x19⟩ := hSw
    go_simp
    all_goals with_reducible rfl
  try simp only [Act.put]
  refine wpAnyH_take (i := 1) (v := ?_) rfl (by kernel_rfl) (by kernel_rfl) (by kernel_rfl) (fun _ _ _ h => h) (Or.inl ⟨by rfl, ?_⟩) (by assumption) ?_
  rotate_left
  · intro w hSw
    obtain ⟨x0, x1, x2, x3, x4, x5, x6, x7, x8, x9, x10, x11, x12, x13, x14, x15, x16, x17, x18, x19⟩ := hSw
    go_simp
    all_goals with_reducible rfl
  try simp only [Act.put]
  refine wpAnyH_take (i := 2) (v := ?_) rfl (by kernel_rfl) (by kernel_rfl) (by kernel_rfl) (fun _ _ _ h => h) (Or.inl ⟨by rfl, ?_⟩) (by assumption) ?_
  rotate_left
  · intro w hSw
    obtain ⟨x0, x1, x2, x3, x4, x5, x6, x7, x8, x9, x10, x11, x12, x13, x14, x15, x16, x17, x18, x19⟩ := hSw
    go_simp
    all_goals with_reducible rfl
  try simp only [Act.put]
  refine wpAnyH_take (i := 3) (v := ?_) rfl (by kernel_rfl) (by kernel_rfl) (by kernel_rfl) (fun _ _ _ h => h) (Or.inl ⟨by rfl, ?_⟩) (by assumption) ?_
  rotate_left
  · intro w hSw
    obtain ⟨x0, x1, x2, x3, x4, x5, x6, x7, x8, x9, x10, x11, x12, x13, x14, x15, x16, x17, x18, x19⟩ := hSw
    go_simp
    all_goals with_reducible rfl
  try simp only [Act.put]
  refine wpAnyH_take (i := 4) (v := ?_) rfl (by kernel_rfl) (by kernel_rfl) (by kernel_rfl) (fun _ _ _ h => h) (Or.inl ⟨by rfl, ?_⟩) (by assumption) ?_
  rotate_left
  · intro w hSw
    obtain ⟨x0, x1, x2, x3, x4, x5, x6, x7, x8, x9, x10, x11, x12, x13, x14, x15, x16, x17, x18, x19⟩ := hSw
    go_simp
    all_goals with_reducible rfl
  try simp only [Act.put]
  refine wpAnyH_take (i := 5) (v := ?_) rfl (by kernel_rfl) (by kernel_rfl) (by kernel_rfl) (fun _ _ _ h => h) (Or.inl ⟨by rfl, ?_⟩) (by assumption) ?_
  rotate_left
  · intro w hSw
    obtain ⟨x0, x1, x2, x3, x4, x5, x6, x7, x8, x9, x10, x11, x12, x13, x14, x15, x16, x17, x18, x19⟩ := hSw
    go_simp
    all_goals with_reducible rfl
  try simp only [Act.put]
  refine wpAnyH_take (i := 6) (v := ?_) rfl (by kernel_rfl) (by kernel_rfl) (by kernel_rfl) (fun _ _ _ h => h) (Or.inl ⟨by rfl, ?_⟩) (by assumption) ?_
  rotate_left
  · intro w hSw
    obtain ⟨x0, x1, x2, x3, x4, x5, x6, x7, x8, x9, x10, x11, x12, x13, x14, x15, x16, x17, x18, x19⟩ := hSw
    go_simp
    all_goals with_reducible rfl
  try simp only [Act.put]
  refine wpAnyH_take (i := 7) (v := ?_) rfl (by kernel_rfl) (by kernel_rfl) (by kernel_rfl) (fun _ _ _ h => h) (Or.inl ⟨by rfl, ?_⟩) (by assumption) ?_
  rotate_left
  · intro w hSw
    obtain ⟨x0, x1, x2, x3, x4, x5, x6, x7, x8, x9, x10, x11, x12, x13, x14, x15, x16, x17, x18, x19⟩ := hSw
    go_simp
    all_goals with_reducible rfl
  try simp only [Act.put]
  refine wpAnyH_ready (rs := [8]) (by kernel_rfl) (by simp) ?_
  refine AllReadyH.cons (o := _) rfl (fun K hK => ?_) AllReadyH.nil
  go_simp
  refine (HK1.out _).mono ?_
  rintro e wp ⟨rfl, hwp⟩
  subst wp
  go_wp2_with fail
  refine hK.out _ _ HX0.out (fun hHelda => ?_)
  clear hK K
  try simp only [Act.put]
  refine wpAnyH_ready (rs := [9]) (by kernel_rfl) (by simp) ?_
  refine AllReadyH.cons (o := _) rfl (fun K hK => ?_) AllReadyH.nil
  go_simp
  refine (HY1.out w.drew (Below.refl w.heap.size w).drew).mono ?_
  rintro e w1 ⟨rfl, hb1⟩
  have B1 := hid_m ((Below.refl w.heap.size w).trans ((below_of_drew hb1).mono (Below.refl w.heap.size w).size))
  have hn1 : w1.heap[tb]? = some (taskB t k v f g a s) := by rw [hb1.block tb (m_blk_lt HN0.out)]; exact HN0.out
  have HN1 := hid_m hn1
  have HX1 := hid_m (Rx.of (HH.out.on B1.out).mp hn1)
  clear hb1 hn1
  go_wp2_with fail
  refine hK.out _ _ HX1.out (fun hHeldb => ?_)
  clear hK K
  try simp only [Act.put]
  refine wpAnyH_ready (rs := [10]) (by kernel_rfl) (by simp) ?_
  refine AllReadyH.cons (o := _) rfl (fun K hK => ?_) AllReadyH.nil
  go_simp
  refine hK.out _ _ HX1.out (fun hHeldc => ?_)
  clear hK K
  try simp only [Act.put]
  refine wpAnyH_done (by kernel_rfl) ?_ _
  go_wp2_with fail
  refine wp_region_held_drew (S := Rx B tb (.int .u8 q1) (.int .i64 z1) (.int .i64 z2) (.slice p2 p3 p4) (.slice p5 p6 p7) (.int .u8 r1) (.int .i64 z3) (.int .i64 z4) (.slice s2 s3 s4) (.slice s5 s6 s7) code room mem t k v f g a s) (by kernel_rfl) HX1.out (fun hHeld => ?_)
  refine wpAnyH_take (i := 0) (v := ?_) rfl (by kernel_rfl) (by kernel_rfl) (by kernel_rfl) (fun _ _ _ h => h) (Or.inl ⟨by rfl, ?_⟩) (by assumption) ?_
  rotate_left
  · intro w hSw
    obtain ⟨x0, x1, x2, x3, x4, x5, x6, x7, x8, x9, x10, x11, x12, x13, x14, x15, x16, x17, x18, x19⟩ := hSw
    go_simp
    all_goals with_reducible rfl
  try simp only [Act.put]
  refine wpAnyH_take (i := 1) (v := ?_) rfl (by kernel_rfl) (by kernel_rfl) (by kernel_rfl) (fun _ _ _ h => h) (Or.inl ⟨by rfl, ?_⟩) (by assumption) ?_
  rotate_left
  · intro w hSw
    obtain ⟨x0, x1, x2, x3, x4, x5, x6, x7, x8, x9, x10, x11, x12, x13, x14, x15, x16, x17, x18, x19⟩ := hSw
    go_simp
    all_goals with_reducible rfl
  try simp only [Act.put]
  refine wpAnyH_take (i := 2) (v := ?_) rfl (by kernel_rfl) (by kernel_rfl) (by kernel_rfl) (fun _ _ _ h => h) (Or.inl ⟨by rfl, ?_⟩) (by assumption) ?_
  rotate_left
  · intro w hSw
    obtain ⟨x0, x1, x2, x3, x4, x5, x6, x7, x8, x9, x10, x11, x12, x13, x14, x15, x16, x17, x18, x19⟩ := hSw
    go_simp
    all_goals with_reducible rfl
  try simp only [Act.put]
  refine wpAnyH_take (i := 3) (v := ?_) rfl (by kernel_rfl) (by kernel_rfl) (by kernel_rfl) (fun _ _ _ h => h) (Or.inl ⟨by rfl, ?_⟩) (by assumption) ?_
  rotate_left
  · intro w hSw
    obtain ⟨x0, x1, x2, x3, x4, x5, x6, x7, x8, x9, x10, x11, x12, x13, x14, x15, x16, x17, x18, x19⟩ := hSw
    go_simp
    all_goals with_reducible rfl
  try simp only [Act.put]
  refine wpAnyH_take (i := 4) (v := ?_) rfl (by kernel_rfl) (by kernel_rfl) (by kernel_rfl) (fun _ _ _ h => h) (Or.inl ⟨by rfl, ?_⟩) (by assumption) ?_
  rotate_left
  · intro w hSw
    obtain ⟨x0, x1, x2, x3, x4, x5, x6, x7, x8, x9, x10, x11, x12, x13, x14, x15, x16, x17, x18, x19⟩ := hSw
    go_simp
    all_goals with_reducible rfl
  try simp only [Act.put]
  refine wpAnyH_take (i := 5) (v := ?_) rfl (by kernel_rfl) (by kernel_rfl) (by kernel_rfl) (fun _ _ _ h => h) (Or.inl ⟨by rfl, ?_⟩) (by assumption) ?_
  rotate_left
  · intro w hSw
    obtain ⟨x0, x1, x2, x3, x4, x5, x6, x7, x8, x9, x10, x11, x12, x13, x14, x15, x16, x17, x18, x19⟩ := hSw
    go_simp
    all_goals with_reducible rfl
  try simp only [Act.put]
  refine wpAnyH_take (i := 6) (v := ?_) rfl (by kernel_rfl) (by kernel_rfl) (by kernel_rfl) (fun _ _ _ h => h) (Or.inl ⟨by rfl, ?_⟩) (by assumption) ?_
  rotate_left
  · intro w hSw
    obtain ⟨x0, x1, x2, x3, x4, x5, x6, x7, x8, x9, x10, x11, x12, x13, x14, x15, x16, x17, x18, x19⟩ := hSw
    go_simp
    all_goals with_reducible rfl
  try simp only [Act.put]
  refine wpAnyH_take (i := 7) (v := ?_) rfl (by kernel_rfl) (by kernel_rfl) (by kernel_rfl) (fun _ _ _ h => h) (Or.inl ⟨by rfl, ?_⟩) (by assumption) ?_
  rotate_left
  · intro w hSw
    obtain ⟨x0, x1, x2, x3, x4, x5, x6, x7, x8, x9, x10, x11, x12, x13, x14, x15, x16, x17, x18, x19⟩ := hSw
    go_simp
    all_goals with_reducible rfl
  try simp only [Act.put]
  refine wpAnyH_ready (rs := [8]) (by kernel_rfl) (by simp) ?_
  refine AllReadyH.cons (o := _) rfl (fun K hK => ?_) AllReadyH.nil
  go_simp
  refine (HK2.out _).mono ?_
  rintro e wp ⟨rfl, hwp⟩
  subst wp
  go_wp2_with fail
  refine hK.out _ _ HX1.out (fun hHelda => ?_)
  clear hK K
  try simp only [Act.put]
  refine wpAnyH_ready (rs := [9]) (by kernel_rfl) (by simp) ?_
  refine AllReadyH.cons (o := _) rfl (fun K hK => ?_) AllReadyH.nil
  go_simp
  refine (HY2.out w1.drew B1.out.drew).mono ?_
  rintro e w2 ⟨rfl, hb2⟩
  have B2 := hid_m (B1.out.trans ((below_of_drew hb2).mono B1.out.size))
  have hn2 : w2.heap[tb]? = some (taskB t k v f g a s) := by rw [hb2.block tb (m_blk_lt HN1.out)]; exact HN1.out
  have HN2 := hid_m hn2
  have HX2 := hid_m (Rx.of (HH.out.on B2.out).mp hn2)
  clear hb2 hn2
  go_wp2_with fail
  refine hK.out _ _ HX2.out (fun hHeldb => ?_)
  clear hK K
  try simp only [Act.put]
  refine wpAnyH_ready (rs := [10]) (by kernel_rfl) (by simp) ?_
  refine AllReadyH.cons (o := _) rfl (fun K hK => ?_) AllReadyH.nil
  go_simp
  refine hK.out _ _ HX2.out (fun hHeldc => ?_)
  clear hK K
  try simp only [Act.put]
  refine wpAnyH_done (by kernel_rfl) ?_ _
  obtain ⟨x0, x1, x2, x3, x4, x5, x6, x7, x8, x9, x10, x11, x12, x13, x14, x15, x16, x17, x18, x19⟩ := HX2.out
  clear x0 x1 x2 x3 x4 x5 x6 x7 x8 x9 x10 x11 x13 x14 x15 x16 x17 x18 x19
  go_wp2_with fail
  refine (HL1.out _).mono ?_
  rintro e w3 ⟨rfl, hb3⟩
  have B3 := hid_m (B2.out.trans (hb3.mono B2.out.size))
  have HN3 : Hid (w3.heap[tb]? = some (taskB t k v f g a s)) := by unfold Hid; rw [hb3.block tb (m_blk_lt HN2.out)]; exact HN2.out
  have HX3 := hid_m (Rx.of (HH.out.on B3.out).mp HN3.out)
  clear hb3
  clear x12
  go_wp2_with fail
  refine (HL2.out _).mono ?_
  rintro e w4 ⟨rfl, hb4⟩
  rename_i K13 hK13 Kc hKc
  have HK13 := hid_m hK13
  clear hK13
  have B4 := hid_m (B3.out.trans (hb4.mono B3.out.size))
  have HN4 : Hid (w4.heap[tb]? = some (taskB t k v f g a s)) := by unfold Hid; rw [hb4.block tb (m_blk_lt HN3.out)]; exact HN3.out
  have HX4 := hid_m (Rx.of (HH.out.on B4.out).mp HN4.out)
  clear hb4
  go_wp2_with fail
  refine HK13.out _ _ ?_
  exact srun_tail2 B tb M sl room q1 z1 z2 p2 p3 p4 p5 p6 p7 r1 z3 z4 s2 s3 s4 s5 s6 s7 tk tv Sk Sv code mem lv L t k v f g a s kAt vAt m2 m' res st n L' T' (HH.out.on B4.out) HN4.out HRN.out HLF.out HST.out.1 HST.out.2 HPP.out HCN.out (HF0.out.trans (Fr.of B4.out) (fun g hg => Or.inl hg)) HBD.out.1 HBD.out.2.1 HBD.out.2.2 HT1.out _ _ _ _ _ _ _ _ _ _ _ _ _ _ _ _ _ _ _ _ _ _ _ _ _ _ _ _ _ _ _ _ _ _ _ _ _ _ _ _ _ _ _ _ _ _ _ _ _ _ _ _ _ _ _ _ _ _ _ _ _ _ _ _ _ _ _ _ _ _ _ _ _ _ _ _ _ _ _ _ _ _ _ _ _ _ _ _ _ _ _ _ _ _ _ _ _ _ _ _ _ _ _ _ _ _ _ _ _ _ _ _ _ _ _ _ _ _ _ _ _ _ _ _ _ _ _ _ _ _ _ _ _ _ _ _ _ _ _ _ _ _ _ _ _ _ _ _ _ _ _ _ _ _ _ _ _ _ _ _ _ _ _
end Go.Proofs.Ytghggcehloiemab
