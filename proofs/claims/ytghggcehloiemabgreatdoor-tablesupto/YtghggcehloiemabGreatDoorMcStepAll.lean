import Derived.Test.YtghggcehloiemabGreatDoorMcVAll
import Derived.Deep.RegionWith
namespace Go.Proofs.YtghggcehloiemabGreatDoor
open Go.RowKit
set_option linter.unusedVariables false
set_option maxRecDepth 16000

/-- The runner, its memory, the instruction's own copy. -/
structure St (w0 w : World) (B rb mb cap len ib op a b k : Nat) (m : P.M) : Prop where
  rn : Rn w rb (.slice (some ⟨mb, 0, none⟩) len cap) m
  mm : Mm w mb m.mem
  ins : w.heap[ib]? = some (.cells #[.int .i64 op, .int .i64 a, .int .i64 b, .int .i64 k] 112 (0, 0))
  bel : Below B w0 w
theorem St.on {w0 w w' : World} {B rb mb cap len ib op a b k : Nat} {m : P.M} (h : St w0 w B rb mb cap len ib op a b k m) (hb : Below w.heap.size w w') (hB : B ≤ w.heap.size) : St w0 w' B rb mb cap len ib op a b k m :=
  ⟨h.rn.of (hb.block _ h.rn.lt), h.mm.of (hb.block _ h.mm.lt), by rw [hb.block _ (m_blk_lt h.ins)]; exact h.ins, h.bel.trans (hb.mono hB)⟩
theorem St.i0 {w0 w : World} {B rb mb cap len ib op a b k : Nat} {m : P.M} (h : St w0 w B rb mb cap len ib op a b k m) : w.cell? ⟨ib, 0, none⟩ = some (.int .i64 op) ∧ w.cell? ⟨ib, 1, none⟩ = some (.int .i64 a) ∧ w.cell? ⟨ib, 2, none⟩ = some (.int .i64 b) ∧ w.cell? ⟨ib, 3, none⟩ = some (.int .i64 k) := by
  refine ⟨?_, ?_, ?_, ?_⟩ <;> rw [cell_of_row _ _ _ _ _ _ h.ins] <;> rfl
theorem St.start {w : World} {B rb mb cap op a b k : Nat} {m : P.M} (hr : Rn w rb (.slice (some ⟨mb, 0, none⟩) m.mem.length cap) m) (hmm : Mm w mb m.mem) (hl : m.reg.length = 16) (hne : rb ≠ mb) (hB1 : B ≤ rb) (hB2 : B ≤ mb) (pc : Nat) :
    St w ((w.alloc (.cells #[.int .i64 op, .int .i64 a, .int .i64 b, .int .i64 k] 112)).setCell ⟨rb, 17, none⟩ (.int .i64 ((pc : Int) + 1))) B rb mb cap m.mem.length w.heap.size op a b k { m with pc := pc + 1 } := by
  have hrl := hr.lt
  have hml := hmm.lt
  have e : ((pc : Int) + 1) = ((pc + 1 : Nat) : Int) := by omega
  rw [e]
  refine ⟨(hr.of (alloc_old hrl)).setPc hl (pc + 1), (hmm.of (alloc_old hml)).of (set_other (fun h => hne h.symm)), ?_, ((Below.refl _ _).alloc (by omega) _).setCell hB1 _⟩
  rw [set_other (by omega)]; exact heap_alloc_new w _
theorem St.size {w0 w : World} {B rb mb cap len ib op a b k : Nat} {m : P.M} (h : St w0 w B rb mb cap len ib op a b k m) (hB : B ≤ rb) : B ≤ w.heap.size := by have := h.rn.lt; omega

theorem St.drew {w0 w : World} {B rb mb cap len ib op a b k : Nat} {m : P.M} (h : St w0 w B rb mb cap len ib op a b k m) : St w0 w.drew B rb mb cap len ib op a b k m :=
  ⟨h.rn.of rfl, h.mm.of rfl, h.ins, drew_below h.bel⟩

theorem i4_set {w : World} {ib rb o op a b k : Nat} {v : Value} (h : w.cell? ⟨ib, 0, none⟩ = some (.int .i64 op) ∧ w.cell? ⟨ib, 1, none⟩ = some (.int .i64 a) ∧ w.cell? ⟨ib, 2, none⟩ = some (.int .i64 b) ∧ w.cell? ⟨ib, 3, none⟩ = some (.int .i64 k)) (hne : ib ≠ rb) :
    (w.setCell ⟨rb, o, none⟩ v).cell? ⟨ib, 0, none⟩ = some (.int .i64 op) ∧ (w.setCell ⟨rb, o, none⟩ v).cell? ⟨ib, 1, none⟩ = some (.int .i64 a) ∧ (w.setCell ⟨rb, o, none⟩ v).cell? ⟨ib, 2, none⟩ = some (.int .i64 b) ∧ (w.setCell ⟨rb, o, none⟩ v).cell? ⟨ib, 3, none⟩ = some (.int .i64 k) := by
  have e : ∀ j, (w.setCell ⟨rb, o, none⟩ v).cell? ⟨ib, j, none⟩ = w.cell? ⟨ib, j, none⟩ := fun j => by
    unfold World.cell?
    rw [set_other (g := ib) hne]
  rw [e, e, e, e]; exact h
theorem i4_drew {w : World} {ib op a b k : Nat} (h : w.cell? ⟨ib, 0, none⟩ = some (.int .i64 op) ∧ w.cell? ⟨ib, 1, none⟩ = some (.int .i64 a) ∧ w.cell? ⟨ib, 2, none⟩ = some (.int .i64 b) ∧ w.cell? ⟨ib, 3, none⟩ = some (.int .i64 k)) :
    w.drew.cell? ⟨ib, 0, none⟩ = some (.int .i64 op) ∧ w.drew.cell? ⟨ib, 1, none⟩ = some (.int .i64 a) ∧ w.drew.cell? ⟨ib, 2, none⟩ = some (.int .i64 b) ∧ w.drew.cell? ⟨ib, 3, none⟩ = some (.int .i64 k) := h

set_option maxHeartbeats 4000000 in
theorem step_go (op a b k z y : Nat) (m : P.M) (rb mb cap B n : Nat) (w : World) (h11 : 11 ≤ op) (h14 : op ≤ 14) (hz : P.rg m b = z) (hy : P.rg m a = y) (ha : a < 16) (hb : b < 16) (hm : P.OkM n m) (hn : n ≤ 800) (hne : rb ≠ mb) (hB1 : B ≤ rb) (hB2 : B ≤ mb)
    (p : Nat) (hp : (if P.goB op y z then k else m.pc + 1) = p) (hr : Rn w rb (.slice (some ⟨mb, 0, none⟩) m.mem.length cap) m) (hmm : Mm w mb m.mem) :
    Calls Tryz.prog 93 #[.pointer (some ⟨rb, 0, none⟩), .agg #[.int .i64 op, .int .i64 a, .int .i64 b, .int .i64 k]] w fun e w' => e = .returned (.bool true) ∧ Rn w' rb (.slice (some ⟨mb, 0, none⟩) m.mem.length cap) { m with pc := p } ∧ Mm w' mb m.mem ∧ Below B w w' := by
  obtain ⟨pc, hpcv⟩ : ∃ pc, m.pc = pc := ⟨_, rfl⟩
  have hpc : pc ≤ 800 := by have := hm.here; omega
  have hr' : Rn (w.alloc (.cells #[.int .i64 op, .int .i64 a, .int .i64 b, .int .i64 k] 112)) rb (.slice (some ⟨mb, 0, none⟩) m.mem.length cap) m := hr.of (alloc_old hr.lt)
  have cp := hr'.pc hm
  have ff := hr'.fz 17
  rw [hpcv] at cp
  have hpw : wrap64 ((pc : Int) + 1) = (pc : Int) + 1 := w64_id _ (by omega) (by omega)
  have ST := hid_m (St.start (op := op) (a := a) (b := b) (k := k) hr hmm hm.sixteen hne hB1 hB2 pc)
  have hok : P.OkM (n + 1) { m with pc := pc + 1 } := ⟨hm.sixteen, hm.words, hpcv ▸ Nat.succ_lt_succ hm.here⟩
  have HOK := hid_m hok
  have HHB1 := hid_m hB1
  have HNE := hid_m hne
  have HA := hid_m ha
  have HB := hid_m hb
  have HZ : Hid (P.rg { m with pc := pc + 1 } b = z) := hz
  have HY : Hid (P.rg { m with pc := pc + 1 } a = y) := hy
  have HG := hid_m (And.intro h11 h14)
  have hsw : ∀ w, Calls Tryz.prog 96 #[.agg #[.int .i64 op, .int .i64 a, .int .i64 b, .int .i64 k]] w fun e w' => e = .returned (.bool true) ∧ Below w.heap.size w w' := by
    intro w
    have := saysWhere_any op a b k w
    rw [decide_eq_true h11] at this
    exact this
  have HSW := hid_m hsw
  have a0 : (0 : Int) ≤ (a : Int) := Int.natCast_nonneg a
  have a1 : (a : Int) < 16 := by omega
  have b0 : (0 : Int) ≤ (b : Int) := Int.natCast_nonneg b
  have b1 : (b : Int) < 16 := by omega
  have HPC := hid_m hpcv
  have HP := hid_m hp
  clear hr hmm hr' hm hz hy ha hb hne hB1 hB2 hn hpc h11 h14 hpcv hsw hok hp
  go_enter Tryz.func93, Tryz.ntmps93
  go_wp2_with fail
  refine (HSW.out _).mono ?_
  rintro e w2 ⟨rfl, hb2⟩
  have hst := ST.out.on hb2 (ST.out.size HHB1.out)
  clear hb2 cp ff
  have ca := hst.rn.reg HOK.out HA.out
  have cb := hst.rn.reg HOK.out HB.out
  rw [HY.out] at ca
  rw [HZ.out] at cb
  have cp2 := hst.rn.pc HOK.out
  have ff2 := hst.rn.fz 17
  obtain ⟨i0, i1, i2, i3⟩ := hst.i0
  have HST := hid_m hst
  clear hst
  have hcases : P.goB op y z = true ∨ P.goB op y z = false := by cases P.goB op y z <;> simp
  have hgo := fun w => goesOn_any op y z w HG.out.1 HG.out.2
  rcases hcases with hg | hg
  · rw [hg] at hgo
    have HGO := hid_m hgo
    have HGB := hid_m hg
    clear hgo hg
    go_wp2_with fail
    go_quiet (first | (go_at_call 138; refine Calls.quiet_of_same (HGO.out _)))
    go_wp2_with fail
    go_ret
    refine ⟨rfl, ?_, ?_, ?_⟩
    · have hp := HP.out; rw [HGB.out, if_pos rfl] at hp; subst hp; exact (HST.out.rn.of (heap_drewN _ nq _)).setPc HOK.out.sixteen k
    · exact (HST.out.mm.of (heap_drewN _ nq _)).of (set_other (fun h => HNE.out h.symm))
    · exact (m_drewN HST.out.bel nq).setCell HHB1.out _
  · rw [hg] at hgo
    have HGO := hid_m hgo
    have HGB := hid_m hg
    clear hgo hg
    go_wp2_with fail
    go_quiet (first | (go_at_call 138; refine Calls.quiet_of_same (HGO.out _)))
    go_wp2_with fail
    go_ret
    refine ⟨rfl, ?_, ?_, ?_⟩
    · have hp := HP.out; rw [HGB.out, if_neg (by simp), HPC.out] at hp; subst hp; exact HST.out.rn.of (heap_drewN _ nq _)
    · exact HST.out.mm.of (heap_drewN _ nq _)
    · exact m_drewN HST.out.bel nq

set_option maxHeartbeats 4000000 in
theorem step_calc (op a b k z y : Nat) (m : P.M) (rb mb cap B n : Nat) (w : World) (hop : op = 1 ∨ op = 2 ∨ op = 3 ∨ op = 4 ∨ op = 5 ∨ op = 6 ∨ op = 7 ∨ op = 8) (hk : k < 65536) (hk8 : op = 8 → k ≤ 31) (hz : P.rg m b = z) (hy : P.rg m a = y) (ha : a < 16) (hb : b < 16) (hm : P.OkM n m) (hn : n ≤ 800) (hne : rb ≠ mb) (hB1 : B ≤ rb) (hB2 : B ≤ mb)
    (hr : Rn w rb (.slice (some ⟨mb, 0, none⟩) m.mem.length cap) m) (hmm : Mm w mb m.mem) :
    Calls Tryz.prog 93 #[.pointer (some ⟨rb, 0, none⟩), .agg #[.int .i64 op, .int .i64 a, .int .i64 b, .int .i64 k]] w fun e w' => e = .returned (.bool true) ∧ Rn w' rb (.slice (some ⟨mb, 0, none⟩) m.mem.length cap) { m with reg := m.reg.set a (P.reck ⟨op, a, b, k⟩ y z), pc := m.pc + 1 } ∧ Mm w' mb m.mem ∧ Below B w w' := by
  obtain ⟨pc, hpcv⟩ : ∃ pc, m.pc = pc := ⟨_, rfl⟩
  have hpc : pc ≤ 800 := by have := hm.here; omega
  have hr' : Rn (w.alloc (.cells #[.int .i64 op, .int .i64 a, .int .i64 b, .int .i64 k] 112)) rb (.slice (some ⟨mb, 0, none⟩) m.mem.length cap) m := hr.of (alloc_old hr.lt)
  have cp := hr'.pc hm
  have ff := hr'.fz 17
  rw [hpcv] at cp
  have hpw : wrap64 ((pc : Int) + 1) = (pc : Int) + 1 := w64_id _ (by omega) (by omega)
  have ST := hid_m (St.start (op := op) (a := a) (b := b) (k := k) hr hmm hm.sixteen hne hB1 hB2 pc)
  have hok : P.OkM (n + 1) { m with pc := pc + 1 } := ⟨hm.sixteen, hm.words, hpcv ▸ Nat.succ_lt_succ hm.here⟩
  have HOK := hid_m hok
  have HHB1 := hid_m hB1
  have HRL := hid_m hr.lt
  have HNE := hid_m hne
  have HA := hid_m ha
  have HB := hid_m hb
  have HZ : Hid (P.rg { m with pc := pc + 1 } b = z) := hz
  have HY : Hid (P.rg { m with pc := pc + 1 } a = y) := hy
  have h11 : ¬ 11 ≤ op := by omega
  have h9 : ((op : Int) == 9) = false := by rw [beq_eq_false_iff_ne]; omega
  have h10 : ((op : Int) == 10) = false := by rw [beq_eq_false_iff_ne]; omega
  have hgb := P.rg_lt hm b
  have hga := P.rg_lt hm a
  rw [hz] at hgb
  rw [hy] at hga
  have HRK : Hid (∀ w, Calls Tryz.prog 140 #[.agg #[.int .i64 op, .int .i64 a, .int .i64 b, .int .i64 k], .int .u32 y, .int .u32 z] w fun e w' => e = .returned (.int .u32 (P.reck ⟨op, a, b, k⟩ y z)) ∧ Below w.heap.size w w') := fun w => reckon_any op a b k y z w hop hga hgb hk hk8
  have hsw : ∀ w, Calls Tryz.prog 96 #[.agg #[.int .i64 op, .int .i64 a, .int .i64 b, .int .i64 k]] w fun e w' => e = .returned (.bool false) ∧ Below w.heap.size w w' := by
    intro w
    have := saysWhere_any op a b k w
    rw [decide_eq_false h11] at this
    exact this
  have HSW := hid_m hsw
  have a0 : (0 : Int) ≤ (a : Int) := Int.natCast_nonneg a
  have a1 : (a : Int) < 16 := by omega
  have b0 : (0 : Int) ≤ (b : Int) := Int.natCast_nonneg b
  have b1 : (b : Int) < 16 := by omega
  have HPC := hid_m hpcv
  clear hr hmm hr' hm hz hy ha hb hne hB1 hB2 hn hpc h11 hpcv hsw hok hgb hga hop hk hk8
  go_enter Tryz.func93, Tryz.ntmps93
  go_wp2_with fail
  refine (HSW.out _).mono ?_
  rintro e w2 ⟨rfl, hb2⟩
  have hst := ST.out.on hb2 (ST.out.size HHB1.out)
  clear hb2 cp ff
  have ca := hst.rn.reg HOK.out HA.out
  have cb := hst.rn.reg HOK.out HB.out
  rw [HY.out] at ca
  rw [HZ.out] at cb
  have ff2 := hst.rn.fz a
  have kk := hst.i0
  have HST := hid_m hst
  have HIR : Hid (w.heap.size ≠ rb) := by unfold Hid; have := HRL.out; omega
  clear hst
  go_wp2_with fail
  refine wp_region_held_drew (S := (fun w' => w'.cell? ⟨w.heap.size, 0, none⟩ = some (.int .i64 op) ∧ w'.cell? ⟨w.heap.size, 1, none⟩ = some (.int .i64 a) ∧ w'.cell? ⟨w.heap.size, 2, none⟩ = some (.int .i64 b) ∧ w'.cell? ⟨w.heap.size, 3, none⟩ = some (.int .i64 k))) (by kernel_rfl) (i4_drew kk) (fun hHeld => ?_)
  refine wpAnyH_take (i := 0) (v := ?_) rfl (by kernel_rfl) (by kernel_rfl) (by kernel_rfl) (fun _ _ _ h => h) (Or.inl ⟨by rfl, ?_⟩) (by assumption) ?_
  rotate_left
  · intro w hSw
    try dsimp only at hSw
    go_simp
    all_goals with_reducible rfl
  try simp only [Act.put]
  refine wpAnyH_take (i := 1) (v := ?_) rfl (by kernel_rfl) (by kernel_rfl) (by kernel_rfl) (fun _ _ _ h => h) (Or.inl ⟨by rfl, ?_⟩) (by assumption) ?_
  rotate_left
  · intro w hSw
    try dsimp only at hSw
    go_simp
    all_goals with_reducible rfl
  try simp only [Act.put]
  refine wpAnyH_take (i := 2) (v := ?_) rfl (by kernel_rfl) (by kernel_rfl) (by kernel_rfl) (fun _ _ _ h => h) (Or.inl ⟨by rfl, ?_⟩) (by assumption) ?_
  rotate_left
  · intro w hSw
    try dsimp only at hSw
    go_simp
    all_goals with_reducible rfl
  try simp only [Act.put]
  refine wpAnyH_take (i := 3) (v := ?_) rfl (by kernel_rfl) (by kernel_rfl) (by kernel_rfl) (fun _ _ _ h => h) (Or.inl ⟨by rfl, ?_⟩) (by assumption) ?_
  rotate_left
  · intro w hSw
    try dsimp only at hSw
    go_simp
    all_goals with_reducible rfl
  try simp only [Act.put]
  refine wpAnyH_take (i := 4) (v := ?_) rfl (by kernel_rfl) (by kernel_rfl) (by kernel_rfl) (fun _ _ _ h => h) (Or.inl ⟨by rfl, ?_⟩) (by assumption) ?_
  rotate_left
  · intro w hSw
    try dsimp only at hSw
    go_simp
    all_goals with_reducible rfl
  try simp only [Act.put]
  refine wpAnyH_take (i := 5) (v := ?_) rfl (by kernel_rfl) (by kernel_rfl) (by kernel_rfl) (fun _ _ _ h => h) (Or.inl ⟨by rfl, ?_⟩) (by assumption) ?_
  rotate_left
  · intro w hSw
    try dsimp only at hSw
    go_simp
    all_goals with_reducible rfl
  try simp only [Act.put]
  refine wpAnyH_take (i := 6) (v := ?_) rfl (by kernel_rfl) (by kernel_rfl) (by kernel_rfl) (fun _ _ _ h => h) (Or.inl ⟨by rfl, ?_⟩) (by assumption) ?_
  rotate_left
  · intro w hSw
    try dsimp only at hSw
    go_simp
    all_goals with_reducible rfl
  try simp only [Act.put]
  refine wpAnyH_take (i := 7) (v := ?_) rfl (by kernel_rfl) (by kernel_rfl) (by kernel_rfl) (fun _ _ _ h => h) (Or.inl ⟨by rfl, ?_⟩) (by assumption) ?_
  rotate_left
  · intro w hSw
    try dsimp only at hSw
    go_simp
    all_goals with_reducible rfl
  try simp only [Act.put]
  refine wpAnyH_take (i := 8) (v := ?_) rfl (by kernel_rfl) (by kernel_rfl) (by kernel_rfl) (fun _ _ _ h => h) (Or.inl ⟨by rfl, ?_⟩) (by assumption) ?_
  rotate_left
  · intro w hSw
    try dsimp only at hSw
    go_simp
    all_goals with_reducible rfl
  try simp only [Act.put]
  refine wpAnyH_take (i := 9) (v := ?_) rfl (by kernel_rfl) (by kernel_rfl) (by kernel_rfl) (fun _ _ _ h => h) (Or.inl ⟨by rfl, ?_⟩) (by assumption) ?_
  rotate_left
  · intro w hSw
    try dsimp only at hSw
    go_simp
    all_goals with_reducible rfl
  try simp only [Act.put]
  refine wpAnyH_take (i := 11) (v := ?_) rfl (by kernel_rfl) (by kernel_rfl) (by kernel_rfl) (fun _ _ _ h => h) (Or.inl ⟨by rfl, ?_⟩) (by assumption) ?_
  rotate_left
  · intro w hSw
    try dsimp only at hSw
    go_simp
    all_goals with_reducible rfl
  try simp only [Act.put]
  refine wpAnyH_take (i := 12) (v := ?_) rfl (by kernel_rfl) (by kernel_rfl) (by kernel_rfl) (fun _ _ _ h => h) (Or.inl ⟨by rfl, ?_⟩) (by assumption) ?_
  rotate_left
  · intro w hSw
    try dsimp only at hSw
    go_simp
    all_goals with_reducible rfl
  try simp only [Act.put]
  refine wpAnyH_take (i := 13) (v := ?_) rfl (by kernel_rfl) (by kernel_rfl) (by kernel_rfl) (fun _ _ _ h => h) (Or.inl ⟨by rfl, ?_⟩) (by assumption) ?_
  rotate_left
  · intro w hSw
    try dsimp only at hSw
    go_simp
    all_goals with_reducible rfl
  try simp only [Act.put]
  refine wpAnyH_take (i := 14) (v := ?_) rfl (by kernel_rfl) (by kernel_rfl) (by kernel_rfl) (fun _ _ _ h => h) (Or.inl ⟨by rfl, ?_⟩) (by assumption) ?_
  rotate_left
  · intro w hSw
    try dsimp only at hSw
    go_simp
    all_goals with_reducible rfl
  try simp only [Act.put]
  refine wpAnyH_take (i := 15) (v := ?_) rfl (by kernel_rfl) (by kernel_rfl) (by kernel_rfl) (fun _ _ _ h => h) (Or.inl ⟨by rfl, ?_⟩) (by assumption) ?_
  rotate_left
  · intro w hSw
    try dsimp only at hSw
    go_simp
    all_goals with_reducible rfl
  try simp only [Act.put]
  refine wpAnyH_take (i := 16) (v := ?_) rfl (by kernel_rfl) (by kernel_rfl) (by kernel_rfl) (fun _ _ _ h => h) (Or.inl ⟨by rfl, ?_⟩) (by assumption) ?_
  rotate_left
  · intro w hSw
    try dsimp only at hSw
    go_simp
    all_goals with_reducible rfl
  try simp only [Act.put]
  refine wpAnyH_take (i := 19) (v := ?_) rfl (by kernel_rfl) (by kernel_rfl) (by kernel_rfl) (fun _ _ _ h => h) (Or.inl ⟨by rfl, ?_⟩) (by assumption) ?_
  rotate_left
  · intro w hSw
    try dsimp only at hSw
    go_simp
    all_goals with_reducible rfl
  try simp only [Act.put]
  refine wpAnyH_take (i := 20) (v := ?_) rfl (by kernel_rfl) (by kernel_rfl) (by kernel_rfl) (fun _ _ _ h => h) (Or.inl ⟨by rfl, ?_⟩) (by assumption) ?_
  rotate_left
  · intro w hSw
    try dsimp only at hSw
    go_simp
    all_goals with_reducible rfl
  try simp only [Act.put]
  refine wpAnyH_ready (rs := [10, 17]) (by kernel_rfl) (by simp) ?_
  refine AllReadyH.cons (o := _) rfl (fun K hK => ?_) ?_
  · go_simp
    refine hK.out _ _ (i4_drew kk) (fun hHeld => ?_)
    clear hK K
    try simp only [Act.put]
    refine wpAnyH_ready (rs := [17]) (by kernel_rfl) (by simp) ?_
    refine AllReadyH.cons (o := _) rfl (fun K hK => ?_) AllReadyH.nil
    go_simp
    refine hK.out _ _ (i4_drew kk) (fun hHeld => ?_)
    clear hK K
    try simp only [Act.put]
    refine wpAnyH_ready (rs := [18]) (by kernel_rfl) (by simp) ?_
    refine AllReadyH.cons (o := _) rfl (fun K hK => ?_) AllReadyH.nil
    go_simp
    refine (HRK.out _).mono ?_
    rintro e w3 ⟨rfl, hb3⟩
    have hst3 := HST.out.drew.on hb3 (HST.out.drew.size HHB1.out)
    have ca3 := hst3.rn.reg HOK.out HA.out
    have ff3 := hst3.rn.fz a
    have kk3 := hst3.i0
    have HST3 := hid_m hst3
    clear hst3 hb3
    go_wp2_with fail
    refine hK.out _ _ kk3 (fun hHeld3 => ?_)
    clear hK K
    try simp only [Act.put]
    refine wpAnyH_take (i := 21) (v := ?_) rfl (by kernel_rfl) (by kernel_rfl) (by kernel_rfl) (fun _ _ _ h => h) (Or.inl ⟨by rfl, ?_⟩) (by assumption) ?_
    rotate_left
    · intro w hSw
      try dsimp only at hSw
      go_simp
      all_goals with_reducible rfl
    try simp only [Act.put]
    refine wpAnyH_ready (rs := [22]) (by kernel_rfl) (by simp) ?_
    refine AllReadyH.cons (o := _) rfl (fun K hK => ?_) AllReadyH.nil
    go_simp
    refine hK.out _ _ (i4_set kk3 HIR.out) (fun hHeld4 => ?_)
    clear hK K
    try simp only [Act.put]
    refine wpAnyH_done (by kernel_rfl) ?_ _
    go_wp2_with fail
    go_ret
    refine ⟨rfl, ?_, ?_, ?_⟩
    · rw [HPC.out]; exact HST3.out.rn.setReg HOK.out.sixteen HA.out _
    · exact HST3.out.mm.of (set_other (fun h => HNE.out h.symm))
    · exact HST3.out.bel.setCell HHB1.out _
  refine AllReadyH.cons (o := _) rfl (fun K hK => ?_) AllReadyH.nil
  · go_simp
    refine hK.out _ _ (i4_drew kk) (fun hHeld => ?_)
    clear hK K
    try simp only [Act.put]
    refine wpAnyH_ready (rs := [10]) (by kernel_rfl) (by simp) ?_
    refine AllReadyH.cons (o := _) rfl (fun K hK => ?_) AllReadyH.nil
    go_simp
    refine hK.out _ _ (i4_drew kk) (fun hHeld => ?_)
    clear hK K
    try simp only [Act.put]
    refine wpAnyH_ready (rs := [18]) (by kernel_rfl) (by simp) ?_
    refine AllReadyH.cons (o := _) rfl (fun K hK => ?_) AllReadyH.nil
    go_simp
    refine (HRK.out _).mono ?_
    rintro e w3 ⟨rfl, hb3⟩
    have hst3 := HST.out.drew.on hb3 (HST.out.drew.size HHB1.out)
    have ca3 := hst3.rn.reg HOK.out HA.out
    have ff3 := hst3.rn.fz a
    have kk3 := hst3.i0
    have HST3 := hid_m hst3
    clear hst3 hb3
    go_wp2_with fail
    refine hK.out _ _ kk3 (fun hHeld3 => ?_)
    clear hK K
    try simp only [Act.put]
    refine wpAnyH_take (i := 21) (v := ?_) rfl (by kernel_rfl) (by kernel_rfl) (by kernel_rfl) (fun _ _ _ h => h) (Or.inl ⟨by rfl, ?_⟩) (by assumption) ?_
    rotate_left
    · intro w hSw
      try dsimp only at hSw
      go_simp
      all_goals with_reducible rfl
    try simp only [Act.put]
    refine wpAnyH_ready (rs := [22]) (by kernel_rfl) (by simp) ?_
    refine AllReadyH.cons (o := _) rfl (fun K hK => ?_) AllReadyH.nil
    go_simp
    refine hK.out _ _ (i4_set kk3 HIR.out) (fun hHeld4 => ?_)
    clear hK K
    try simp only [Act.put]
    refine wpAnyH_done (by kernel_rfl) ?_ _
    go_wp2_with fail
    go_ret
    refine ⟨rfl, ?_, ?_, ?_⟩
    · rw [HPC.out]; exact HST3.out.rn.setReg HOK.out.sixteen HA.out _
    · exact HST3.out.mm.of (set_other (fun h => HNE.out h.symm))
    · exact HST3.out.bel.setCell HHB1.out _
end Go.Proofs.YtghggcehloiemabGreatDoor
namespace Go.Proofs.YtghggcehloiemabGreatDoor
open Go.RowKit
set_option linter.unusedVariables false
set_option maxRecDepth 16000

set_option maxHeartbeats 4000000 in
theorem step_mem (op a b k z y : Nat) (m : P.M) (rb mb cap B n : Nat) (w : World) (hop : op = 9 ∨ op = 10) (hz : P.rg m b = z) (hy : P.rg m a = y) (ha : a < 16) (hb : b < 16) (hm : P.OkM n m) (hn : n ≤ 800) (hne : rb ≠ mb) (hB1 : B ≤ rb) (hB2 : B ≤ mb)
    (r : Bool) (m' : P.M) (rc : ∀ w, Rn w rb (.slice (some ⟨mb, 0, none⟩) m.mem.length cap) { m with pc := m.pc + 1 } → Mm w mb m.mem → Calls Tryz.prog 139 #[.pointer (some ⟨rb, 0, none⟩), .agg #[.int .i64 op, .int .i64 a, .int .i64 b, .int .i64 k]] w fun e w' => e = .returned (.bool r) ∧ (r = true → Rn w' rb (.slice (some ⟨mb, 0, none⟩) m.mem.length cap) m' ∧ Mm w' mb m'.mem) ∧ Below B w w')
    (hr : Rn w rb (.slice (some ⟨mb, 0, none⟩) m.mem.length cap) m) (hmm : Mm w mb m.mem) :
    Calls Tryz.prog 93 #[.pointer (some ⟨rb, 0, none⟩), .agg #[.int .i64 op, .int .i64 a, .int .i64 b, .int .i64 k]] w fun e w' => e = .returned (.bool r) ∧ (r = true → Rn w' rb (.slice (some ⟨mb, 0, none⟩) m.mem.length cap) m' ∧ Mm w' mb m'.mem) ∧ Below B w w' := by
  obtain ⟨pc, hpcv⟩ : ∃ pc, m.pc = pc := ⟨_, rfl⟩
  have hpc : pc ≤ 800 := by have := hm.here; omega
  have hr' : Rn (w.alloc (.cells #[.int .i64 op, .int .i64 a, .int .i64 b, .int .i64 k] 112)) rb (.slice (some ⟨mb, 0, none⟩) m.mem.length cap) m := hr.of (alloc_old hr.lt)
  have cp := hr'.pc hm
  have ff := hr'.fz 17
  rw [hpcv] at cp
  have hpw : wrap64 ((pc : Int) + 1) = (pc : Int) + 1 := w64_id _ (by omega) (by omega)
  have ST := hid_m (St.start (op := op) (a := a) (b := b) (k := k) hr hmm hm.sixteen hne hB1 hB2 pc)
  have hok : P.OkM (n + 1) { m with pc := pc + 1 } := ⟨hm.sixteen, hm.words, hpcv ▸ Nat.succ_lt_succ hm.here⟩
  have HOK := hid_m hok
  have HHB1 := hid_m hB1
  have HRL := hid_m hr.lt
  have HNE := hid_m hne
  have HA := hid_m ha
  have HB := hid_m hb
  have HZ : Hid (P.rg { m with pc := pc + 1 } b = z) := hz
  have HY : Hid (P.rg { m with pc := pc + 1 } a = y) := hy
  have h11 : ¬ 11 ≤ op := by omega
  have h910 : (((op : Int) == 9) || ((op : Int) == 10)) = true := by rcases hop with h | h <;> simp [h]
  have hrc : ∀ w, Rn w rb (.slice (some ⟨mb, 0, none⟩) m.mem.length cap) { m with pc := pc + 1 } → Mm w mb m.mem → Calls Tryz.prog 139 #[.pointer (some ⟨rb, 0, none⟩), .agg #[.int .i64 op, .int .i64 a, .int .i64 b, .int .i64 k]] w fun e w' => e = .returned (.bool r) ∧ (r = true → Rn w' rb (.slice (some ⟨mb, 0, none⟩) m.mem.length cap) m' ∧ Mm w' mb m'.mem) ∧ Below B w w' := hpcv ▸ rc
  have HRC := hid_m hrc
  have hsw : ∀ w, Calls Tryz.prog 96 #[.agg #[.int .i64 op, .int .i64 a, .int .i64 b, .int .i64 k]] w fun e w' => e = .returned (.bool false) ∧ Below w.heap.size w w' := by
    intro w
    have := saysWhere_any op a b k w
    rw [decide_eq_false h11] at this
    exact this
  have HSW := hid_m hsw
  have a0 : (0 : Int) ≤ (a : Int) := Int.natCast_nonneg a
  have a1 : (a : Int) < 16 := by omega
  have b0 : (0 : Int) ≤ (b : Int) := Int.natCast_nonneg b
  have b1 : (b : Int) < 16 := by omega
  have HPC := hid_m hpcv
  clear hr hmm hr' hm hz hy ha hb hne hB1 hB2 hn hpc h11 hpcv hsw hok hop rc hrc
  go_enter Tryz.func93, Tryz.ntmps93
  go_wp2_with fail
  refine (HSW.out _).mono ?_
  rintro e w2 ⟨rfl, hb2⟩
  have hst := ST.out.on hb2 (ST.out.size HHB1.out)
  clear hb2 cp ff
  obtain ⟨i0, i1, i2, i3⟩ := hst.i0
  have HST := hid_m hst
  clear hst
  go_wp2_with fail
  · have hx : (op : Int) = 9 := by first | assumption | (rename_i h; exact congrArg Nat.cast h)
    have hcall := HRC.out w2 HST.out.rn HST.out.mm
    rw [hx] at hcall
    refine hcall.mono ?_
    rintro e w3 ⟨rfl, hpost, hb3⟩
    have HPO := hid_m hpost
    clear hpost hcall
    go_wp2_with fail
    go_ret
    exact ⟨rfl, HPO.out, HST.out.bel.trans hb3⟩
  · refine (HRC.out _ HST.out.rn HST.out.mm).mono ?_
    rintro e w3 ⟨rfl, hpost, hb3⟩
    have HPO := hid_m hpost
    clear hpost
    go_wp2_with fail
    go_ret
    exact ⟨rfl, HPO.out, HST.out.bel.trans hb3⟩

/-- One step of the runner. -/
theorem mstep_any (x : P.I) (m : P.M) (rb mb cap B n c : Nat) (w : World) (h0 : x.op ≠ 0) (hx : P.OkI c x) (hk : x.k < 65536) (hm : P.OkM n m) (hn : n ≤ 800) (hne : rb ≠ mb) (hB1 : B ≤ rb) (hB2 : B ≤ mb)
    (hr : Rn w rb (.slice (some ⟨mb, 0, none⟩) m.mem.length cap) m) (hmm : Mm w mb m.mem) :
    Calls Tryz.prog 93 #[.pointer (some ⟨rb, 0, none⟩), .agg #[.int .i64 x.op, .int .i64 x.a, .int .i64 x.b, .int .i64 x.k]] w fun e w' => StepPost x m rb mb cap B w e w' := by
  obtain ⟨op, a, b, k⟩ := x
  obtain ⟨ho, ha, hb, hg, h8⟩ := hx
  simp only at ho ha hb hg h8 h0 hk ⊢
  have ha' : a < 16 := Nat.lt_succ_of_le ha
  have hb' : b < 16 := Nat.lt_succ_of_le hb
  by_cases h11 : 11 ≤ op
  · refine (step_go op a b k _ _ m rb mb cap B n w h11 ho rfl rfl ha' hb' hm hn hne hB1 hB2 _ rfl hr hmm).mono ?_
    rintro e w' ⟨he, h1, h2, h3⟩
    refine StepPost.some (m' := _) ?_ he h1 h2 h3
    unfold P.step
    rw [if_pos h11]
  · by_cases h9 : op = 9
    · subst h9
      have hs : P.step ⟨9, a, b, k⟩ m = (match m.mem[P.rg m b + k]? with
        | some c => some { m with reg := m.reg.set a c.toNat, pc := m.pc + 1 }
        | none => none) := by
        unfold P.step; rw [if_neg (show ¬ 11 ≤ 9 by decide), if_pos (show 9 = 9 from rfl)]; rfl
      by_cases hge : ¬ P.rg m b + k < m.mem.length
      · rw [List.getElem?_eq_none (Nat.not_lt.1 hge)] at hs
        refine (step_mem 9 a b k _ _ m rb mb cap B n w (Or.inl rfl) rfl rfl ha' hb' hm hn hne hB1 hB2 false m (fun w hr hm' => (reach_bad9 a b k _ _ { m with pc := m.pc + 1 } rb mb cap B (n + 1) w rfl rfl ha' hb' hk ⟨hm.sixteen, hm.words, Nat.succ_lt_succ hm.here⟩ hne hB1 hB2 hr hm' hge).mono (fun e w' h => ⟨h.1, fun h => (by cases h), h.2⟩)) hr hmm).mono ?_
        rintro e w' ⟨he, _, h3⟩
        exact StepPost.none hs he h3
      · obtain ⟨c, hc⟩ : ∃ c, m.mem[P.rg m b + k]? = some c := ⟨_, List.getElem?_eq_getElem (Classical.not_not.1 hge)⟩
        rw [hc] at hs
        refine (step_mem 9 a b k _ _ m rb mb cap B n w (Or.inl rfl) rfl rfl ha' hb' hm hn hne hB1 hB2 true { m with reg := m.reg.set a c.toNat, pc := m.pc + 1 } (fun w hr hm' => (reach_load a b k _ _ { m with pc := m.pc + 1 } rb mb cap B (n + 1) w rfl rfl ha' hb' hk ⟨hm.sixteen, hm.words, Nat.succ_lt_succ hm.here⟩ hne hB1 hB2 hr hm' c hc).mono (fun e w' h => ⟨h.1, fun _ => ⟨h.2.1, h.2.2.1⟩, h.2.2.2⟩)) hr hmm).mono ?_
        rintro e w' ⟨he, h1, h3⟩
        exact StepPost.some hs he (h1 rfl).1 (h1 rfl).2 h3
    · by_cases h10 : op = 10
      · subst h10
        have hs : P.step ⟨10, a, b, k⟩ m = (if P.rg m b + k < m.mem.length then some { m with mem := m.mem.set (P.rg m b + k) (UInt8.ofNat (P.rg m a)), pc := m.pc + 1 } else none) := by
          unfold P.step; rw [if_neg (show ¬ 11 ≤ 10 by decide), if_neg (show ¬ 10 = 9 by decide), if_pos (show 10 = 10 from rfl)]
        by_cases hlt : P.rg m b + k < m.mem.length
        · rw [if_pos hlt] at hs
          refine (step_mem 10 a b k _ _ m rb mb cap B n w (Or.inr rfl) rfl rfl ha' hb' hm hn hne hB1 hB2 true { m with mem := m.mem.set (P.rg m b + k) (UInt8.ofNat (P.rg m a)), pc := m.pc + 1 } (fun w hr hm' => (reach_store a b k _ _ { m with pc := m.pc + 1 } rb mb cap B (n + 1) w rfl rfl ha' hb' hk ⟨hm.sixteen, hm.words, Nat.succ_lt_succ hm.here⟩ hne hB1 hB2 hr hm' hlt).mono (fun e w' h => ⟨h.1, fun _ => ⟨h.2.1, h.2.2.1⟩, h.2.2.2⟩)) hr hmm).mono ?_
          rintro e w' ⟨he, h1, h3⟩
          exact StepPost.some hs he (h1 rfl).1 (h1 rfl).2 h3
        · rw [if_neg hlt] at hs
          refine (step_mem 10 a b k _ _ m rb mb cap B n w (Or.inr rfl) rfl rfl ha' hb' hm hn hne hB1 hB2 false m (fun w hr hm' => (reach_bad10 a b k _ _ { m with pc := m.pc + 1 } rb mb cap B (n + 1) w rfl rfl ha' hb' hk ⟨hm.sixteen, hm.words, Nat.succ_lt_succ hm.here⟩ hne hB1 hB2 hr hm' hlt).mono (fun e w' h => ⟨h.1, fun h => (by cases h), h.2⟩)) hr hmm).mono ?_
          rintro e w' ⟨he, _, h3⟩
          exact StepPost.none hs he h3
      · refine (step_calc op a b k _ _ m rb mb cap B n w (by omega) hk h8 rfl rfl ha' hb' hm hn hne hB1 hB2 hr hmm).mono ?_
        rintro e w' ⟨he, h1, h2, h3⟩
        refine StepPost.some (m' := _) ?_ he h1 h2 h3
        unfold P.step
        rw [if_neg h11, if_neg h9, if_neg h10]
end Go.Proofs.YtghggcehloiemabGreatDoor
namespace Go.Proofs.YtghggcehloiemabGreatDoor
open Go.RowKit
set_option linter.unusedVariables false
set_option maxRecDepth 16000

def outV (o : P.O) : Value := .agg #[.string ⟨o.mem.toArray⟩, .int .i64 o.res, .int .i64 o.st, .int .i64 o.steps]

theorem cell_alloc_old {w : World} {o : Obj} {b i : Nat} (h : b < w.heap.size) : (w.alloc o).cell? ⟨b, i, none⟩ = w.cell? ⟨b, i, none⟩ := by
  unfold World.cell?; rw [alloc_old h]
/-- The four blocks at the head of Run. -/
structure Hd (w wq : World) (cv : Value) (a b c fuel : Nat) (mem : List UInt8) : Prop where
  code : wq.heap[w.heap.size]? = some (.cells #[cv] 75 (0, 0))
  start : wq.heap[w.heap.size + 1]? = some (.cells #[.int .i64 a, .int .i64 b, .int .i64 c, .int .i64 fuel] 101 (0, 0))
  out : wq.heap[w.heap.size + 1 + 1]? = some (.cells #[.string ⟨#[]⟩, .int .i64 0, .int .i64 0, .int .i64 0] 56 (0, 0))
  mm : Mm wq (w.heap.size + 1 + 1 + 1) mem
  size : wq.heap.size = w.heap.size + 1 + 1 + 1 + 1
  bel : Below w.heap.size w wq
theorem Hd.make (w : World) (cv : Value) (a b c fuel : Nat) (s : ByteArray) (cp : Nat) :
    Hd w ((((w.alloc (.cells #[cv] 75)).alloc (.cells #[.int .i64 a, .int .i64 b, .int .i64 c, .int .i64 fuel] 101)).alloc (.cells #[.string ⟨#[]⟩, .int .i64 0, .int .i64 0, .int .i64 0] 56)).drew.alloc (.cells (bytesRow s cp) 5 ((bytesRow s cp).size, (bytesRow s cp).size + 1))) cv a b c fuel s.data.toList := by
  have s1 : (w.alloc (.cells #[cv] 75)).heap.size = w.heap.size + 1 := by simp
  have s2 : ((w.alloc (.cells #[cv] 75)).alloc (.cells #[.int .i64 a, .int .i64 b, .int .i64 c, .int .i64 fuel] 101)).heap.size = w.heap.size + 1 + 1 := by simp
  have s3 : (((w.alloc (.cells #[cv] 75)).alloc (.cells #[.int .i64 a, .int .i64 b, .int .i64 c, .int .i64 fuel] 101)).alloc (.cells #[.string ⟨#[]⟩, .int .i64 0, .int .i64 0, .int .i64 0] 56)).drew.heap.size = w.heap.size + 1 + 1 + 1 := by
    show (((w.alloc (.cells #[cv] 75)).alloc (.cells #[.int .i64 a, .int .i64 b, .int .i64 c, .int .i64 fuel] 101)).alloc (.cells #[.string ⟨#[]⟩, .int .i64 0, .int .i64 0, .int .i64 0] 56)).heap.size = _
    simp
  refine ⟨?_, ?_, ?_, ?_, ?_, ?_⟩
  · rw [alloc_old (by omega)]
    show (((w.alloc (.cells #[cv] 75)).alloc (.cells #[.int .i64 a, .int .i64 b, .int .i64 c, .int .i64 fuel] 101)).alloc (.cells #[.string ⟨#[]⟩, .int .i64 0, .int .i64 0, .int .i64 0] 56)).heap[w.heap.size]? = _
    rw [alloc_old (by omega), alloc_old (by omega)]; exact heap_alloc_new w _
  · rw [alloc_old (by omega)]
    show (((w.alloc (.cells #[cv] 75)).alloc (.cells #[.int .i64 a, .int .i64 b, .int .i64 c, .int .i64 fuel] 101)).alloc (.cells #[.string ⟨#[]⟩, .int .i64 0, .int .i64 0, .int .i64 0] 56)).heap[w.heap.size + 1]? = _
    rw [alloc_old (by omega), ← s1]; exact heap_alloc_new _ _
  · rw [alloc_old (by omega)]
    show (((w.alloc (.cells #[cv] 75)).alloc (.cells #[.int .i64 a, .int .i64 b, .int .i64 c, .int .i64 fuel] 101)).alloc (.cells #[.string ⟨#[]⟩, .int .i64 0, .int .i64 0, .int .i64 0] 56)).heap[w.heap.size + 1 + 1]? = _
    rw [← s2]; exact heap_alloc_new _ _
  · rw [← s3]; exact Mm.new _ s cp
  · rw [← s3]; simp
  · have h1 : Below w.heap.size w (w.alloc (.cells #[cv] 75)) := (Below.refl _ _).alloc (Nat.le_refl _) _
    have h2 := h1.alloc h1.size (.cells #[.int .i64 a, .int .i64 b, .int .i64 c, .int .i64 fuel] 101)
    have h3 := h2.alloc h2.size (.cells #[.string ⟨#[]⟩, .int .i64 0, .int .i64 0, .int .i64 0] 56)
    have h4 := drew_below h3
    exact h4.alloc h4.size _

theorem P.go_step {code : List P.I} {f n : Nat} {m m' : P.M} {x : P.I} (hx : code[m.pc]? = some x) (h0 : x.op ≠ 0) (hs : P.step x m = some m') : P.go code (f + 1) n m = P.go code f (n + 1) m' := by
  rw [P.go, hx]; simp only; rw [if_neg h0, hs]
theorem P.go_bad {code : List P.I} {f n : Nat} {m : P.M} {x : P.I} (hx : code[m.pc]? = some x) (h0 : x.op ≠ 0) (hs : P.step x m = none) : P.go code (f + 1) n m = ⟨[], 0, 0, 0, 7⟩ := by
  rw [P.go, hx]; simp only; rw [if_neg h0, hs]
theorem P.go_end {code : List P.I} {f n : Nat} {m : P.M} {x : P.I} (hx : code[m.pc]? = some x) (h0 : x.op = 0) : P.go code (f + 1) n m = ⟨m.mem, P.rg m 0, x.k, n + 1, 0⟩ := by
  rw [P.go, hx]; simp only; rw [if_pos h0]
theorem P.go_zero (code : List P.I) (n : Nat) (m : P.M) : P.go code 0 n m = ⟨[], 0, 0, 0, 8⟩ := rfl
theorem w64_next (q fuel : Nat) (h : q < fuel) (hf : fuel ≤ 20000) : wrap64 ((q : Int) + 1) = (q : Int) + 1 := w64_id _ (by omega) (by omega)
theorem less_left {q fuel : Nat} (h : q < fuel) : fuel - (q + 1) < fuel - q := by omega
theorem out4 {w : World} {ob : Nat} {T : TypeId} {u0 u1 u2 u3 : Value} (v0 v1 v2 v3 : Value) (h : w.heap[ob]? = some (.cells #[u0, u1, u2, u3] T (0, 0))) :
    ((((w.setCell ⟨ob, 0, none⟩ v0).setCell ⟨ob, 1, none⟩ v1).setCell ⟨ob, 2, none⟩ v2).setCell ⟨ob, 3, none⟩ v3).heap[ob]? = some (.cells #[v0, v1, v2, v3] T (0, 0)) := by
  simp [World.setCell, Array.getElem?_modify, h]
theorem out_below {B : Nat} {w0 w : World} {ob : Nat} (v0 v1 v2 v3 : Value) (h : Below B w0 w) (hB : B ≤ ob) :
    Below B w0 ((((w.setCell ⟨ob, 0, none⟩ v0).setCell ⟨ob, 1, none⟩ v1).setCell ⟨ob, 2, none⟩ v2).setCell ⟨ob, 3, none⟩ v3) :=
  (((h.setCell hB _).setCell hB _).setCell hB _).setCell hB _

/-- What the loop of Run holds. -/
structure RL (W0 wr : World) (rb mb cp : Nat) (l : List UInt8) (fuel q : Nat) (m0 m : P.M) : Prop where
  inv : P.go (P.codeOf l) fuel 0 m0 = P.go (P.codeOf l) (fuel - q) q m
  ok : P.OkM (l.length / 5) m
  len : m.mem.length = m0.mem.length
  rn : Rn wr rb (.slice (some ⟨mb, 0, none⟩) m0.mem.length cp) m
  mm : Mm wr mb m.mem
  bel : Below mb W0 wr

/-- The memory as a text. -/
theorem conv_mem {w : World} {mb cp : Nat} {mem : List UInt8} (h : Mm w mb mem) : (convert 38 9 (.slice (some ⟨mb, 0, none⟩) mem.length cp)).run Tryz.prog w = .ok (.string ⟨mem.toArray⟩) w := by
  refine run_convert_bytes_back (P := Tryz.prog) w 38 9 5 ⟨mb, 0, none⟩ cp mem Tryz.underlying38 Tryz.underlying5 Tryz.underlying9 ?_
  intro j hj
  have := h.cell (List.getElem?_eq_getElem hj)
  rw [show (⟨mb, 0, none⟩ : Addr).add j = ⟨mb, j, none⟩ from by simp [Addr.add]; intro e; rw [e]]
  exact this
theorem out_facts {w : World} {ob : Nat} {u0 u1 u2 u3 : Value} (h : w.heap[ob]? = some (.cells #[u0, u1, u2, u3] 56 (0, 0))) :
    w.cell? ⟨ob, 0, none⟩ = some u0 ∧ w.cell? ⟨ob, 1, none⟩ = some u1 ∧ w.cell? ⟨ob, 2, none⟩ = some u2 ∧ w.cell? ⟨ob, 3, none⟩ = some u3 ∧ ∀ j, w.frozen? ⟨ob, j, none⟩ = false := by
  refine ⟨?_, ?_, ?_, ?_, fun j => by simp [World.frozen?, h]⟩ <;> rw [cell_of_row _ _ _ _ _ _ h] <;> rfl
theorem out_end {B : Nat} {w0 w : World} {ob : Nat} {u0 u1 u2 u3 : Value} (v0 v1 v2 v3 : Value) (h : w.heap[ob]? = some (.cells #[u0, u1, u2, u3] 56 (0, 0))) (hb : Below B w0 w) (hB : B ≤ ob) :
    ∃ W4, ((((w.setCell ⟨ob, 0, none⟩ v0).setCell ⟨ob, 1, none⟩ v1).setCell ⟨ob, 2, none⟩ v2).setCell ⟨ob, 3, none⟩ v3) = W4 ∧ W4.cell? ⟨ob, 0, none⟩ = some v0 ∧ W4.cell? ⟨ob, 1, none⟩ = some v1 ∧ W4.cell? ⟨ob, 2, none⟩ = some v2 ∧ W4.cell? ⟨ob, 3, none⟩ = some v3 ∧ Below B w0 W4 := by
  have z := out4 v0 v1 v2 v3 h
  obtain ⟨z0, z1, z2, z3, _⟩ := out_facts z
  exact ⟨_, rfl, z0, z1, z2, z3, out_below _ _ _ _ hb hB⟩
end Go.Proofs.YtghggcehloiemabGreatDoor
namespace Go.Proofs.YtghggcehloiemabGreatDoor
open Go.RowKit
set_option linter.unusedVariables false
set_option maxRecDepth 16000

theorem Tryz.infoMInt : (Tryz.prog.info? 3).map (fun i => (i.zero, i.size, i.bytes)) = some (some (.int .i64 0), 1, 8) := by kernel_rfl
theorem Tryz.infoMBool : (Tryz.prog.info? 4).map (fun i => (i.zero, i.size, i.bytes)) = some (some (.bool false), 1, 1) := by kernel_rfl
theorem Tryz.infoMU8 : (Tryz.prog.info? 5).map (fun i => (i.zero, i.size, i.bytes)) = some (some (.int .u8 0), 1, 1) := by kernel_rfl

def natV (x : Nat) : Value := .int .i64 x
end Go.Proofs.YtghggcehloiemabGreatDoor
