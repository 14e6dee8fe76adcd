import Derived.Test.YtghggcehloiemabGreatDoorMcXAll
import Derived.Deep.RegionWith
namespace Go.Proofs.YtghggcehloiemabGreatDoor
open Go.RowKit
set_option linter.unusedVariables false
set_option maxRecDepth 16000

/-- The runner, its memory, the instruction's own copy. -/
structure St (w0 w : World) (B rb mb cap len ib op a b k : Nat) (m : P.M) : Prop where
  rn : Rn w rb (.slice (some ⟨mb, 0, none⟩) len cap) m
  mm : Mm w mb m.mem
  ins : w.heap[ib]? = some (.cells #[.int .i64 op, .int .i64 a, .int .i64 b, .int .i64 k] 112 (0, 0))
  bel : Below B w0 w
theorem St.on {w0 w w' : World} {B rb mb cap len ib op a b k : Nat} {m : P.M} (h : St w0 w B rb mb cap len ib op a b k m) (hb : Below w.heap.size w w') (hB : B ≤ w.heap.size) : St w0 w' B rb mb cap len ib op a b k m :=
  ⟨h.rn.of (hb.block _ h.rn.lt), h.mm.of (hb.block _ h.mm.lt), by rw [hb.block _ (m_blk_lt h.ins)]; exact h.ins, h.bel.trans (hb.mono hB)⟩
theorem St.i0 {w0 w : World} {B rb mb cap len ib op a b k : Nat} {m : P.M} (h : St w0 w B rb mb cap len ib op a b k m) : w.cell? ⟨ib, 0, none⟩ = some (.int .i64 op) ∧ w.cell? ⟨ib, 1, none⟩ = some (.int .i64 a) ∧ w.cell? ⟨ib, 2, none⟩ = some (.int .i64 b) ∧ w.cell? ⟨ib, 3, none⟩ = some (.int .i64 k) := by
  refine ⟨?_, ?_, ?_, ?_⟩ <;> rw [cell_of_row _ _ _ _ _ _ h.ins] <;> rfl
theorem St.start {w : World} {B rb mb cap op a b k : Nat} {m : P.M} (hr : Rn w rb (.slice (some ⟨mb, 0, none⟩) m.mem.length cap) m) (hmm : Mm w mb m.mem) (hl : m.reg.length = 16) (hne : rb ≠ mb) (hB1 : B ≤ rb) (hB2 : B ≤ mb) (pc : Nat) :
    St w ((w.alloc (.cells #[.int .i64 op, .int .i64 a, .int .i64 b, .int .i64 k] 112)).setCell ⟨rb, 17, none⟩ (.int .i64 ((pc : Int) + 1))) B rb mb cap m.mem.length w.heap.size op a b k { m with pc := pc + 1 } := by
  have hrl := hr.lt
  have hml := hmm.lt
  have e : ((pc : Int) + 1) = ((pc + 1 : Nat) : Int) := by omega
  rw [e]
  refine ⟨(hr.of (alloc_old hrl)).setPc hl (pc + 1), (hmm.of (alloc_old hml)).of (set_other (fun h => hne h.symm)), ?_, ((Below.refl _ _).alloc (by omega) _).setCell hB1 _⟩
  rw [set_other (by omega)]; exact heap_alloc_new w _
theorem St.size {w0 w : World} {B rb mb cap len ib op a b k : Nat} {m : P.M} (h : St w0 w B rb mb cap len ib op a b k m) (hB : B ≤ rb) : B ≤ w.heap.size := by have := h.rn.lt; omega

theorem St.drew {w0 w : World} {B rb mb cap len ib op a b k : Nat} {m : P.M} (h : St w0 w B rb mb cap len ib op a b k m) : St w0 w.drew B rb mb cap len ib op a b k m :=
  ⟨h.rn.of rfl, h.mm.of rfl, h.ins, drew_below h.bel⟩

theorem i4_set {w : World} {ib rb o op a b k : Nat} {v : Value} (h : w.cell? ⟨ib, 0, none⟩ = some (.int .i64 op) ∧ w.cell? ⟨ib, 1, none⟩ = some (.int .i64 a) ∧ w.cell? ⟨ib, 2, none⟩ = some (.int .i64 b) ∧ w.cell? ⟨ib, 3, none⟩ = some (.int .i64 k)) (hne : ib ≠ rb) :
    (w.setCell ⟨rb, o, none⟩ v).cell? ⟨ib, 0, none⟩ = some (.int .i64 op) ∧ (w.setCell ⟨rb, o, none⟩ v).cell? ⟨ib, 1, none⟩ = some (.int .i64 a) ∧ (w.setCell ⟨rb, o, none⟩ v).cell? ⟨ib, 2, none⟩ = some (.int .i64 b) ∧ (w.setCell ⟨rb, o, none⟩ v).cell? ⟨ib, 3, none⟩ = some (.int .i64 k) := by
  have e : ∀ j, (w.setCell ⟨rb, o, none⟩ v).cell? ⟨ib, j, none⟩ = w.cell? ⟨ib, j, none⟩ := fun j => by
    unfold World.cell?
    rw [set_other (g := ib) hne]
  rw [e, e, e, e]; exact h
theorem i4_drew {w : World} {ib op a b k : Nat} (h : w.cell? ⟨ib, 0, none⟩ = some (.int .i64 op) ∧ w.cell? ⟨ib, 1, none⟩ = some (.int .i64 a) ∧ w.cell? ⟨ib, 2, none⟩ = some (.int .i64 b) ∧ w.cell? ⟨ib, 3, none⟩ = some (.int .i64 k)) :
    w.drew.cell? ⟨ib, 0, none⟩ = some (.int .i64 op) ∧ w.drew.cell? ⟨ib, 1, none⟩ = some (.int .i64 a) ∧ w.drew.cell? ⟨ib, 2, none⟩ = some (.int .i64 b) ∧ w.drew.cell? ⟨ib, 3, none⟩ = some (.int .i64 k) := h

set_option maxHeartbeats 4000000 in
theorem step_go (op a b k z y : Nat) (m : P.M) (rb mb cap B n : Nat) (w : World) (h11 : 11 ≤ op) (h14 : op ≤ 14) (hz : P.rg m b = z) (hy : P.rg m a = y) (ha : a < 16) (hb : b < 16) (hm : P.OkM n m) (hn : n ≤ 800) (hne : rb ≠ mb) (hB1 : B ≤ rb) (hB2 : B ≤ mb)
    (p : Nat) (hp : (if P.goB op y z then k else m.pc + 1) = p) (hr : Rn w rb (.slice (some ⟨mb, 0, none⟩) m.mem.length cap) m) (hmm : Mm w mb m.mem) :
    Calls Tryz.prog 93 #[.pointer (some ⟨rb, 0, none⟩), .agg #[.int .i64 op, .int .i64 a, .int .i64 b, .int .i64 k]] w fun e w' => e = .returned (.bool true) ∧ Rn w' rb (.slice (some ⟨mb, 0, none⟩) m.mem.length cap) { m with pc := p } ∧ Mm w' mb m.mem ∧ Below B w w' := by
  obtain ⟨pc, hpcv⟩ : ∃ pc, m.pc = pc := ⟨_, rfl⟩
  have hpc : pc ≤ 800 := by have := hm.here; omega
  have hr' : Rn (w.alloc (.cells #[.int .i64 op, .int .i64 a, .int .i64 b, .int .i64 k] 112)) rb (.slice (some ⟨mb, 0, none⟩) m.mem.length cap) m := hr.of (alloc_old hr.lt)
  have cp := hr'.pc hm
  have ff := hr'.fz 17
  rw [hpcv] at cp
  have hpw : wrap64 ((pc : Int) + 1) = (pc : Int) + 1 := w64_id _ (by omega) (by omega)
  have ST := hid_m (St.start (op := op) (a := a) (b := b) (k := k) hr hmm hm.sixteen hne hB1 hB2 pc)
  have hok : P.OkM (n + 1) { m with pc := pc + 1 } := ⟨hm.sixteen, hm.words, hpcv ▸ Nat.succ_lt_succ hm.here⟩
  have HOK := hid_m hok
  have HHB1 := hid_m hB1
  have HNE := hid_m hne
  have HA := hid_m ha
  have HB := hid_m hb
  have HZ : Hid (P.rg { m with pc := pc + 1 } b = z) := hz
  have HY : Hid (P.rg { m with pc := pc + 1 } a = y) := hy
  have HG := hid_m (And.intro h11 h14)
  have hsw : ∀ w, Calls Tryz.prog 96 #[.agg #[.int .i64 op, .int .i64 a, .int .i64 b, .int .i64 k]] w fun e w' => e = .returned (.bool true) ∧ Below w.heap.size w w' := by
    intro w
    have := saysWhere_any op a b k w
    rw [decide_eq_true h11] at this
    exact this
  have HSW := hid_m hsw
  have a0 : (0 : Int) ≤ (a : Int) := Int.natCast_nonneg a
  have a1 : (a : Int) < 16 := by omega
  have b0 : (0 : Int) ≤ (b : Int) := Int.natCast_nonneg b
  have b1 : (b : Int) < 16 := by omega
  have HPC := hid_m hpcv
  have HP := hid_m hp
  clear hr hmm hr' hm hz hy ha hb hne hB1 hB2 hn hpc h11 h14 hpcv hsw hok hp
  go_enter Tryz.func93, Tryz.ntmps93
  go_wp2_with fail
  refine (HSW.out _).mono ?_
  rintro e w2 ⟨rfl, hb2⟩
  have hst := ST.out.on hb2 (ST.out.size HHB1.out)
  clear hb2 cp ff
  have ca := hst.rn.reg HOK.out HA.out
  have cb := hst.rn.reg HOK.out HB.out
  rw [HY.out] at ca
  rw [HZ.out] at cb
  have cp2 := hst.rn.pc HOK.out
  have ff2 := hst.rn.fz 17
  obtain ⟨i0, i1, i2, i3⟩ := hst.i0
  have HST := hid_m hst
  clear hst
  have hcases : P.goB op y z = true ∨ P.goB op y z = false := by cases P.goB op y z <;> simp
  have hgo := fun w => goesOn_any op y z w HG.out.1 HG.out.2
  rcases hcases with hg | hg
  · rw [hg] at hgo
    have HGO := hid_m hgo
    have HGB := hid_m hg
    clear hgo hg
    go_wp2_with fail
    go_quiet (first | (go_at_call 138; refine Calls.quiet_of_same (HGO.out _)))
    go_wp2_with fail
    go_ret
    refine ⟨rfl, ?_, ?_, ?_⟩
    · have hp := HP.out; rw [HGB.out, if_pos rfl] at hp; subst hp; exact (HST.out.rn.of (heap_drewN _ nq _)).setPc HOK.out.sixteen k
    · exact (HST.out.mm.of (heap_drewN _ nq _)).of (set_other (fun h => HNE.out h.symm))
    · exact (m_drewN HST.out.bel nq).setCell HHB1.out _
  · rw [hg] at hgo
    have HGO := hid_m hgo
    have HGB := hid_m hg
    clear hgo hg
    go_wp2_with fail
    go_quiet (first | (go_at_call 138; refine Calls.quiet_of_same (HGO.out _)))
    go_wp2_with fail
    go_ret
    refine ⟨rfl, ?_, ?_, ?_⟩
    · have hp := HP.out; rw [HGB.out, if_neg (by simp), HPC.out] at hp; subst hp; exact HST.out.rn.of (heap_drewN _ nq _)
    · exact HST.out.mm.of (heap_drewN _ nq _)
    · exact m_drewN HST.out.bel nq

set_option maxHeartbeats 4000000 in
theorem step_calc (op a b k z y : Nat) (m : P.M) (rb mb cap B n : Nat) (w : World) (hop : op = 1 ∨ op = 2 ∨ op = 3 ∨ op = 4 ∨ op = 5 ∨ op = 6 ∨ op = 7 ∨ op = 8) (hk : k < 65536) (hk8 : op = 8 → k ≤ 31) (hz : P.rg m b = z) (hy : P.rg m a = y) (ha : a < 16) (hb : b < 16) (hm : P.OkM n m) (hn : n ≤ 800) (hne : rb ≠ mb) (hB1 : B ≤ rb) (hB2 : B ≤ mb)
    (hr : Rn w rb (.slice (some ⟨mb, 0, none⟩) m.mem.length cap) m) (hmm : Mm w mb m.mem) :
    Calls Tryz.prog 93 #[.pointer (some ⟨rb, 0, none⟩), .agg #[.int .i64 op, .int .i64 a, .int .i64 b, .int .i64 k]] w fun e w' => e = .returned (.bool true) ∧ Rn w' rb (.slice (some ⟨mb, 0, none⟩) m.mem.length cap) { m with reg := m.reg.set a (P.reck ⟨op, a, b, k⟩ y z), pc := m.pc + 1 } ∧ Mm w' mb m.mem ∧ Below B w w' := by
  obtain ⟨pc, hpcv⟩ : ∃ pc, m.pc = pc := ⟨_, rfl⟩
  have hpc : pc ≤ 800 := by have := hm.here; omega
  have hr' : Rn (w.alloc (.cells #[.int .i64 op, .int .i64 a, .int .i64 b, .int .i64 k] 112)) rb (.slice (some ⟨mb, 0, none⟩) m.mem.length cap) m := hr.of (alloc_old hr.lt)
  have cp := hr'.pc hm
  have ff := hr'.fz 17
  rw [hpcv] at cp
  have hpw : wrap64 ((pc : Int) + 1) = (pc : Int) + 1 := w64_id _ (by omega) (by omega)
  have ST := hid_m (St.start (op := op) (a := a) (b := b) (k := k) hr hmm hm.sixteen hne hB1 hB2 pc)
  have hok : P.OkM (n + 1) { m with pc := pc + 1 } := ⟨hm.sixteen, hm.words, hpcv ▸ Nat.succ_lt_succ hm.here⟩
  have HOK := hid_m hok
  have HHB1 := hid_m hB1
  have HRL := hid_m hr.lt
  have HNE := hid_m hne
  have HA := hid_m ha
  have HB := hid_m hb
  have HZ : Hid (P.rg { m with pc := pc + 1 } b = z) := hz
  have HY : Hid (P.rg { m with pc := pc + 1 } a = y) := hy
  have h11 : ¬ 11 ≤ op := by omega
  have h9 : ((op : Int) == 9) = false := by rw [beq_eq_false_iff_ne]; omega
  have h10 : ((op : Int) == 10) = false := by rw [beq_eq_false_iff_ne]; omega
  have hgb := P.rg_lt hm b
  have hga := P.rg_lt hm a
  rw [hz] at hgb
  rw [hy] at hga
  have HRK : Hid (∀ w, Calls Tryz.prog 140 #[.agg #[.int .i64 op, .int .i64 a, .int .i64 b, .int .i64 k], .int .u32 y, .int .u32 z] w fun e w' => e = .returned (.int .u32 (P.reck ⟨op, a, b, k⟩ y z)) ∧ Below w.heap.size w w') := fun w => reckon_any op a b k y z w hop hga hgb hk hk8
  have hsw : ∀ w, Calls Tryz.prog 96 #[.agg #[.int .i64 op, .int .i64 a, .int .i64 b, .int .i64 k]] w fun e w' => e = .returned (.bool false) ∧ Below w.heap.size w w' := by
    intro w
    have := saysWhere_any op a b k w
    rw [decide_eq_false h11] at this
    exact this
  have HSW := hid_m hsw
  have a0 : (0 : Int) ≤ (a : Int) := Int.natCast_nonneg a
  have a1 : (a : Int) < 16 := by omega
  have b0 : (0 : Int) ≤ (b : Int) := Int.natCast_nonneg b
  have b1 : (b : Int) < 16 := by omega
  have HPC := hid_m hpcv
  clear hr hmm hr' hm hz hy ha hb hne hB1 hB2 hn hpc h11 hpcv hsw hok hgb hga hop hk hk8
  go_enter Tryz.func93, Tryz.ntmps93
  go_wp2_with fail
  refine (HSW.out _).mono ?_
  rintro e w2 ⟨rfl, hb2⟩
  have hst := ST.out.on hb2 (ST.out.size HHB1.out)
  clear hb2 cp ff
  have ca := hst.rn.reg HOK.out HA.out
  have cb := hst.rn.reg HOK.out HB.out
  rw [HY.out] at ca
  rw [HZ.out] at cb
  have ff2 := hst.rn.fz a
  have kk := hst.i0
  have HST := hid_m hst
  have HIR : Hid (w.heap.size ≠ rb) := by unfold Hid; have := HRL.out; omega
  clear hst
  go_wp2_with fail
  refine wp_region_held_drew (S := (fun w' => w'.cell? ⟨w.heap.size, 0, none⟩ = some (.int .i64 op) ∧ w'.cell? ⟨w.heap.size, 1, none⟩ = some (.int .i64 a) ∧ w'.cell? ⟨w.heap.size, 2, none⟩ = some (.int .i64 b) ∧ w'.cell? ⟨w.heap.size, 3, none⟩ = some (.int .i64 k))) (by kernel_rfl) (i4_drew kk) (fun hHeld => ?_)
  refine wpAnyH_take (i := 0) (v := ?_) rfl (by kernel_rfl) (by kernel_rfl) (by kernel_rfl) (fun _ _ _ h => h) (Or.inl ⟨by rfl, ?_⟩) (by assumption) ?_
  rotate_left
  · intro w hSw
    try dsimp only at hSw
    go_simp
    all_goals with_reducible rfl
  try simp only [Act.put]
  refine wpAnyH_take (i := 1) (v := ?_) rfl (by kernel_rfl) (by kernel_rfl) (by kernel_rfl) (fun _ _ _ h => h) (Or.inl ⟨by rfl, ?_⟩) (by assumption) ?_
  rotate_left
  · intro w hSw
    try dsimp only at hSw
    go_simp
    all_goals with_reducible rfl
  try simp only [Act.put]
  refine wpAnyH_take (i := 2) (v := ?_) rfl (by kernel_rfl) (by kernel_rfl) (by kernel_rfl) (fun _ _ _ h => h) (Or.inl ⟨by rfl, ?_⟩) (by assumption) ?_
  rotate_left
  · intro w hSw
    try dsimp only at hSw
    go_simp
    all_goals with_reducible rfl
  try simp only [Act.put]
  refine wpAnyH_take (i := 3) (v := ?_) rfl (by kernel_rfl) (by kernel_rfl) (by kernel_rfl) (fun _ _ _ h => h) (Or.inl ⟨by rfl, ?_⟩) (by assumption) ?_
  rotate_left
  · intro w hSw
    try dsimp only at hSw
    go_simp
    all_goals with_reducible rfl
  try simp only [Act.put]
  refine wpAnyH_take (i := 4) (v := ?_) rfl (by kernel_rfl) (by kernel_rfl) (by kernel_rfl) (fun _ _ _ h => h) (Or.inl ⟨by rfl, ?_⟩) (by assumption) ?_
  rotate_left
  · intro w hSw
    try dsimp only at hSw
    go_simp
    all_goals with_reducible rfl
  try simp only [Act.put]
  refine wpAnyH_take (i := 5) (v := ?_) rfl (by kernel_rfl) (by kernel_rfl) (by kernel_rfl) (fun _ _ _ h => h) (Or.inl ⟨by rfl, ?_⟩) (by assumption) ?_
  rotate_left
  · intro w hSw
    try dsimp only at hSw
    go_simp
    all_goals with_reducible rfl
  try simp only [Act.put]
  refine wpAnyH_take (i := 6) (v := ?_) rfl (by kernel_rfl) (by kernel_rfl) (by kernel_rfl) (fun _ _ _ h => h) (Or.inl ⟨by rfl, ?_⟩) (by assumption) ?_
  rotate_left
  · intro w hSw
    try dsimp only at hSw
    go_simp
    all_goals with_reducible rfl
  try simp only [Act.put]
  refine wpAnyH_take (i := 7) (v := ?_) rfl (by kernel_rfl) (by kernel_rfl) (by kernel_rfl) (fun _ _ _ h => h) (Or.inl ⟨by rfl, ?_⟩) (by assumption) ?_
  rotate_left
  · intro w hSw
    try dsimp only at hSw
    go_simp
    all_goals with_reducible rfl
  try simp only [Act.put]
  refine wpAnyH_take (i := 8) (v := ?_) rfl (by kernel_rfl) (by kernel_rfl) (by kernel_rfl) (fun _ _ _ h => h) (Or.inl ⟨by rfl, ?_⟩) (by assumption) ?_
  rotate_left
  · intro w hSw
    try dsimp only at hSw
    go_simp
    all_goals with_reducible rfl
  try simp only [Act.put]
  refine wpAnyH_take (i := 9) (v := ?_) rfl (by kernel_rfl) (by kernel_rfl) (by kernel_rfl) (fun _ _ _ h => h) (Or.inl ⟨by rfl, ?_⟩) (by assumption) ?_
  rotate_left
  · intro w hSw
    try dsimp only at hSw
    go_simp
    all_goals with_reducible rfl
  try simp only [Act.put]
  refine wpAnyH_take (i := 11) (v := ?_) rfl (by kernel_rfl) (by kernel_rfl) (by kernel_rfl) (fun _ _ _ h => h) (Or.inl ⟨by rfl, ?_⟩) (by assumption) ?_
  rotate_left
  · intro w hSw
    try dsimp only at hSw
    go_simp
    all_goals with_reducible rfl
  try simp only [Act.put]
  refine wpAnyH_take (i := 12) (v := ?_) rfl (by kernel_rfl) (by kernel_rfl) (by kernel_rfl) (fun _ _ _ h => h) (Or.inl ⟨by rfl, ?_⟩) (by assumption) ?_
  rotate_left
  · intro w hSw
    try dsimp only at hSw
    go_simp
    all_goals with_reducible rfl
  try simp only [Act.put]
  refine wpAnyH_take (i := 13) (v := ?_) rfl (by kernel_rfl) (by kernel_rfl) (by kernel_rfl) (fun _ _ _ h => h) (Or.inl ⟨by rfl, ?_⟩) (by assumption) ?_
  rotate_left
  · intro w hSw
    try dsimp only at hSw
    go_simp
    all_goals with_reducible rfl
  try simp only [Act.put]
  refine wpAnyH_take (i := 14) (v := ?_) rfl (by kernel_rfl) (by kernel_rfl) (by kernel_rfl) (fun _ _ _ h => h) (Or.inl ⟨by rfl, ?_⟩) (by assumption) ?_
  rotate_left
  · intro w hSw
    try dsimp only at hSw
    go_simp
    all_goals with_reducible rfl
  try simp only [Act.put]
  refine wpAnyH_take (i := 15) (v := ?_) rfl (by kernel_rfl) (by kernel_rfl) (by kernel_rfl) (fun _ _ _ h => h) (Or.inl ⟨by rfl, ?_⟩) (by assumption) ?_
  rotate_left
  · intro w hSw
    try dsimp only at hSw
    go_simp
    all_goals with_reducible rfl
  try simp only [Act.put]
  refine wpAnyH_take (i := 16) (v := ?_) rfl (by kernel_rfl) (by kernel_rfl) (by kernel_rfl) (fun _ _ _ h => h) (Or.inl ⟨by rfl, ?_⟩) (by assumption) ?_
  rotate_left
  · intro w hSw
    try dsimp only at hSw
    go_simp
    all_goals with_reducible rfl
  try simp only [Act.put]
  refine wpAnyH_take (i := 19) (v := ?_) rfl (by kernel_rfl) (by kernel_rfl) (by kernel_rfl) (fun _ _ _ h => h) (Or.inl ⟨by rfl, ?_⟩) (by assumption) ?_
  rotate_left
  · intro w hSw
    try dsimp only at hSw
    go_simp
    all_goals with_reducible rfl
  try simp only [Act.put]
  refine wpAnyH_take (i := 20) (v := ?_) rfl (by kernel_rfl) (by kernel_rfl) (by kernel_rfl) (fun _ _ _ h => h) (Or.inl ⟨by rfl, ?_⟩) (by assumption) ?_
  rotate_left
  · intro w hSw
    try dsimp only at hSw
    go_simp
    all_goals with_reducible rfl
  try simp only [Act.put]
  refine wpAnyH_ready (rs := [10, 17]) (by kernel_rfl) (by simp) ?_
  refine AllReadyH.cons (o := _) rfl (fun K hK => ?_) ?_
  · go_simp
    refine hK.out _ _ (i4_drew kk) (fun hHeld => ?_)
    clear hK K
    try simp only [Act.put]
    refine wpAnyH_ready (rs := [17]) (by kernel_rfl) (by simp) ?_
    refine AllReadyH.cons (o := _) rfl (fun K hK => ?_) AllReadyH.nil
    go_simp
    refine hK.out _ _ (i4_drew kk) (fun hHeld => ?_)
    clear hK K
    try simp only [Act.put]
    refine wpAnyH_ready (rs := [18]) (by kernel_rfl) (by simp) ?_
    refine AllReadyH.cons (o := _) rfl (fun K hK => ?_) AllReadyH.nil
    go_simp
    refine (HRK.out _).mono ?_
    rintro e w3 ⟨rfl, hb3⟩
    have hst3 := HST.out.drew.on hb3 (HST.out.drew.size HHB1.out)
    have ca3 := hst3.rn.reg HOK.out HA.out
    have ff3 := hst3.rn.fz a
    have kk3 := hst3.i0
    have HST3 := hid_m hst3
    clear hst3 hb3
    go_wp2_with fail
    refine hK.out _ _ kk3 (fun hHeld3 => ?_)
    clear hK K
    try simp only [Act.put]
    refine wpAnyH_take (i := 21) (v := ?_) rfl (by kernel_rfl) (by kernel_rfl) (by kernel_rfl) (fun _ _ _ h => h) (Or.inl ⟨by rfl, ?_⟩) (by assumption) ?_
    rotate_left
    · intro w hSw
      try dsimp only at hSw
      go_simp
      all_goals with_reducible rfl
    try simp only [Act.put]
    refine wpAnyH_ready (rs := [22]) (by kernel_rfl) (by simp) ?_
    refine AllReadyH.cons (o := _) rfl (fun K hK => ?_) AllReadyH.nil
    go_simp
    refine hK.out _ _ (i4_set kk3 HIR.out) (fun hHeld4 => ?_)
    clear hK K
    try simp only [Act.put]
    refine wpAnyH_done (by kernel_rfl) ?_ _
    go_wp2_with fail
    go_ret
    refine ⟨rfl, ?_, ?_, ?_⟩
    · rw [HPC.out]; exact HST3.out.rn.setReg HOK.out.sixteen HA.out _
    · exact HST3.out.mm.of (set_other (fun h => HNE.out h.symm))
    · exact HST3.out.bel.setCell HHB1.out _
  refine AllReadyH.cons (o := _) rfl (fun K hK => ?_) AllReadyH.nil
  · go_simp
    refine hK.out _ _ (i4_drew kk) (fun hHeld => ?_)
    clear hK K
    try simp only [Act.put]
    refine wpAnyH_ready (rs := [10]) (by kernel_rfl) (by simp) ?_
    refine AllReadyH.cons (o := _) rfl (fun K hK => ?_) AllReadyH.nil
    go_simp
    refine hK.out _ _ (i4_drew kk) (fun hHeld => ?_)
    clear hK K
    try simp only [Act.put]
    refine wpAnyH_ready (rs := [18]) (by kernel_rfl) (by simp) ?_
    refine AllReadyH.cons (o := _) rfl (fun K hK => ?_) AllReadyH.nil
    go_simp
    refine (HRK.out _).mono ?_
    rintro e w3 ⟨rfl, hb3⟩
    have hst3 := HST.out.drew.on hb3 (HST.out.drew.size HHB1.out)
    have ca3 := hst3.rn.reg HOK.out HA.out
    have ff3 := hst3.rn.fz a
    have kk3 := hst3.i0
    have HST3 := hid_m hst3
    clear hst3 hb3
    go_wp2_with fail
    refine hK.out _ _ kk3 (fun hHeld3 => ?_)
    clear hK K
    try simp only [Act.put]
    refine wpAnyH_take (i := 21) (v := ?_) rfl (by kernel_rfl) (by kernel_rfl) (by kernel_rfl) (fun _ _ _ h => h) (Or.inl ⟨by rfl, ?_⟩) (by assumption) ?_
    rotate_left
    · intro w hSw
      try dsimp only at hSw
      go_simp
      all_goals with_reducible rfl
    try simp only [Act.put]
    refine wpAnyH_ready (rs := [22]) (by kernel_rfl) (by simp) ?_
    refine AllReadyH.cons (o := _) rfl (fun K hK => ?_) AllReadyH.nil
    go_simp
    refine hK.out _ _ (i4_set kk3 HIR.out) (fun hHeld4 => ?_)
    clear hK K
    try simp only [Act.put]
    refine wpAnyH_done (by kernel_rfl) ?_ _
    go_wp2_with fail
    go_ret
    refine ⟨rfl, ?_, ?_, ?_⟩
    · rw [HPC.out]; exact HST3.out.rn.setReg HOK.out.sixteen HA.out _
    · exact HST3.out.mm.of (set_other (fun h => HNE.out h.symm))
    · exact HST3.out.bel.setCell HHB1.out _
end Go.Proofs.YtghggcehloiemabGreatDoor
