import Derived.Test.YtghggcehloiemabGreatDoorMcRef
import Derived.Test.YtghggcehloiemabGreatDoorMcStepAll
import Derived.Deep.OwnRows
import Derived.Deep.RegionWith
namespace Go.Proofs.YtghggcehloiemabGreatDoor
open Go.RowKit
set_option linter.unusedVariables false
set_option maxRecDepth 16000

theorem runOf_code {lc mem : List UInt8} {a b c fuel : Int} (h : ¬ P.IsCode lc) : P.runOf lc mem a b c fuel = ⟨[], 0, 0, 0, 4⟩ := by unfold P.runOf; rw [if_pos h]
theorem runOf_long {lc mem : List UInt8} {a b c fuel : Int} (hc : P.IsCode lc) (h : 2048 < mem.length) : P.runOf lc mem a b c fuel = ⟨[], 0, 0, 0, 5⟩ := by unfold P.runOf; rw [if_neg (not_not_intro hc), if_pos h]
theorem runOf_arg {lc mem : List UInt8} {a b c fuel : Int} (hc : P.IsCode lc) (hm : ¬ 2048 < mem.length) (h : ¬ (P.Word a ∧ P.Word b ∧ P.Word c ∧ 0 ≤ fuel ∧ fuel ≤ 20000)) : P.runOf lc mem a b c fuel = ⟨[], 0, 0, 0, 6⟩ := by unfold P.runOf; rw [if_neg (not_not_intro hc), if_neg hm, if_pos h]
theorem runOf_go {lc mem : List UInt8} {a b c fuel : Int} (hc : P.IsCode lc) (hm : ¬ 2048 < mem.length) (h : P.Word a ∧ P.Word b ∧ P.Word c ∧ 0 ≤ fuel ∧ fuel ≤ 20000) : P.runOf lc mem a b c fuel = P.go (P.codeOf lc) fuel.toNat 0 (P.start mem a.toNat b.toNat c.toNat) := by unfold P.runOf; rw [if_neg (not_not_intro hc), if_neg hm, if_neg (not_not_intro h)]

theorem made16 : madeCells #[.int .i64 0] 16 = #[.int .i64 0, .int .i64 0, .int .i64 0, .int .i64 0, .int .i64 0, .int .i64 0, .int .i64 0, .int .i64 0, .int .i64 0, .int .i64 0, .int .i64 0, .int .i64 0, .int .i64 0, .int .i64 0, .int .i64 0, .int .i64 0] := by
  apply Array.toList_inj.1
  rw [toList_madeCells_one]; rfl

/-- The reference's registers. -/
def Rg (w : World) (gb : Nat) (reg : List Nat) : Prop := w.heap[gb]? = some (.cells (reg.map natV).toArray 3 (0, 0))
theorem Rg.cell {w : World} {gb i n : Nat} {m : P.M} (h : Rg w gb m.reg) (hm : P.OkM n m) (hi : i < 16) : w.cell? ⟨gb, i, none⟩ = some (.int .i64 (P.rg m i)) := by
  rw [cell_of_row _ _ _ _ _ _ h]
  have hl : i < m.reg.length := by rw [hm.sixteen]; exact hi
  simp [P.rg, List.getElem?_eq_getElem hl, natV]
theorem Rg.fz {w : World} {gb : Nat} {reg : List Nat} (h : Rg w gb reg) (i : Nat) : w.frozen? ⟨gb, i, none⟩ = false := by unfold Rg at h; simp [World.frozen?, h]
theorem Rg.set {w : World} {gb i : Nat} {reg : List Nat} (h : Rg w gb reg) (v : Nat) : Rg (w.setCell ⟨gb, i, none⟩ (.int .i64 v)) gb (reg.set i v) := by
  unfold Rg at *
  simp [World.setCell, Array.getElem?_modify, h, List.map_set, natV]
theorem Rg.of {w w' : World} {gb : Nat} {reg : List Nat} (h : Rg w gb reg) (he : w'.heap[gb]? = w.heap[gb]?) : Rg w' gb reg := by unfold Rg at *; rw [he]; exact h
theorem Rg.lt {w : World} {gb : Nat} {reg : List Nat} (h : Rg w gb reg) : gb < w.heap.size := m_blk_lt h
/-- What the reference's loop holds. -/
structure RR (W0 wr : World) (gb mb : Nat) (l : List UInt8) (fuel q : Nat) (m0 m : P.M) : Prop where
  inv : P.go (P.codeOf l) fuel 0 m0 = P.go (P.codeOf l) (fuel - q) q m
  ok : P.OkM (l.length / 5) m
  len : m.mem.length = m0.mem.length
  rg : Rg wr gb m.reg
  mm : Mm wr mb m.mem
  bel : Below gb W0 wr
theorem RR.on {W0 wr wr' : World} {gb mb fuel q : Nat} {l : List UInt8} {m0 m : P.M} (h : RR W0 wr gb mb l fuel q m0 m) (hb : Below wr.heap.size wr wr') : RR W0 wr' gb mb l fuel q m0 m :=
  ⟨h.inv, h.ok, h.len, h.rg.of (hb.block _ h.rg.lt), h.mm.of (hb.block _ h.mm.lt), h.bel.trans (hb.mono (Nat.le_of_lt h.rg.lt))⟩
theorem head_regs (w : World) (a b c : Nat) : Rg (w.alloc (.cells #[.int .i64 a, .int .i64 b, .int .i64 c, .int .i64 0, .int .i64 0, .int .i64 0, .int .i64 0, .int .i64 0, .int .i64 0, .int .i64 0, .int .i64 0, .int .i64 0, .int .i64 0, .int .i64 0, .int .i64 0, .int .i64 0] 3)) w.heap.size [a, b, c, 0, 0, 0, 0, 0, 0, 0, 0, 0, 0, 0, 0, 0] := heap_alloc_new w _

theorem RR.step {W0 w w' : World} {gb mb fuel q pc : Nat} {l : List UInt8} {m0 m m' : P.M} {x : P.I} (h : RR W0 w gb mb l fuel q m0 m) (hc : P.IsCode l) (hlt : q < fuel) (hpc : m.pc = pc) (hpl : pc < l.length / 5) (hxe : P.insAt l pc = x) (h0 : x.op ≠ 0) (hs : P.step x m = some m')
    (hrg : Rg w' gb m'.reg) (hmm : Mm w' mb m'.mem) (hb : Below gb W0 w') : RR W0 w' gb mb l fuel (q + 1) m0 m' := by
  refine ⟨?_, P.step_ok hc hpl h.ok hpc (by rw [hxe]; exact h0) (by rw [hxe]; exact hs), (P.step_mem hs).trans h.len, hrg, hmm, hb⟩
  rw [h.inv, show fuel - q = (fuel - (q + 1)) + 1 by omega]
  exact P.go_step (by rw [hpc, P.codeOf_get l pc hpl, hxe]) h0 hs
theorem RR.bad {W0 w : World} {gb mb fuel q pc : Nat} {l : List UInt8} {m0 m : P.M} {x : P.I} (h : RR W0 w gb mb l fuel q m0 m) (hlt : q < fuel) (hpc : m.pc = pc) (hpl : pc < l.length / 5) (hxe : P.insAt l pc = x) (h0 : x.op ≠ 0) (hs : P.step x m = none) : P.go (P.codeOf l) fuel 0 m0 = ⟨[], 0, 0, 0, 7⟩ := by
  rw [h.inv, show fuel - q = (fuel - (q + 1)) + 1 by omega]
  exact P.go_bad (by rw [hpc, P.codeOf_get l pc hpl, hxe]) h0 hs
theorem P.step_load {x : P.I} {m : P.M} {c : UInt8} (h : x.op = 9) (hc : m.mem[P.rg m x.b + x.k]? = some c) : P.step x m = some { m with reg := m.reg.set x.a c.toNat, pc := m.pc + 1 } := by
  unfold P.step; rw [if_neg (by omega), if_pos h, hc]
theorem P.step_load_no {x : P.I} {m : P.M} (h : x.op = 9) (hc : m.mem.length ≤ P.rg m x.b + x.k) : P.step x m = none := by
  unfold P.step; rw [if_neg (by omega), if_pos h, List.getElem?_eq_none hc]
theorem P.step_store {x : P.I} {m : P.M} (h : x.op = 10) (hc : P.rg m x.b + x.k < m.mem.length) : P.step x m = some { m with mem := m.mem.set (P.rg m x.b + x.k) (UInt8.ofNat (P.rg m x.a)), pc := m.pc + 1 } := by
  unfold P.step; rw [if_neg (by omega), if_neg (by omega), if_pos h, if_pos hc]
theorem P.step_store_no {x : P.I} {m : P.M} (h : x.op = 10) (hc : m.mem.length ≤ P.rg m x.b + x.k) : P.step x m = none := by
  unfold P.step; rw [if_neg (by omega), if_neg (by omega), if_pos h, if_neg (by omega)]
theorem P.step_goes {x : P.I} {m : P.M} (h : 11 ≤ x.op) : P.step x m = some { m with pc := if P.goB x.op (P.rg m x.a) (P.rg m x.b) then x.k else m.pc + 1 } := by
  unfold P.step; rw [if_pos h]
theorem P.step_sum {x : P.I} {m : P.M} (h : ¬ 11 ≤ x.op) (h9 : x.op ≠ 9) (h10 : x.op ≠ 10) : P.step x m = some { m with reg := m.reg.set x.a (P.reck x (P.rg m x.a) (P.rg m x.b)), pc := m.pc + 1 } := by
  unfold P.step; rw [if_neg h, if_neg h9, if_neg h10]
theorem next2_int (q : Nat) : Value.int .i64 ((q : Int) + 1 + 1) = .int .i64 (((q + 1 : Nat) : Int) + 1) := by rw [Int.natCast_add]; rfl
theorem next2_less {q fuel : Nat} (h : q < fuel) : fuel + 1 - (intOf (.int .i64 ((q : Int) + 1 + 1))).toNat < fuel + 1 - (intOf (.int .i64 ((q : Int) + 1))).toNat := by simp only [intOf]; omega
/-- What a region holds: the instruction, and two registers. -/
structure X6 (gb ib op xa xb k z y : Nat) (w : World) : Prop where
  x0 : w.cell? ⟨ib, 0, none⟩ = some (.int .i64 op)
  x1 : w.cell? ⟨ib, 1, none⟩ = some (.int .i64 xa)
  x2 : w.cell? ⟨ib, 2, none⟩ = some (.int .i64 xb)
  x3 : w.cell? ⟨ib, 3, none⟩ = some (.int .i64 k)
  x4 : w.cell? ⟨gb, xa, none⟩ = some (.int .i64 z)
  x5 : w.cell? ⟨gb, xb, none⟩ = some (.int .i64 y)
theorem X6.of {gb ib op xa xb k z y : Nat} {w w' : World} (h : X6 gb ib op xa xb k z y w) (e1 : w'.heap[ib]? = w.heap[ib]?) (e2 : w'.heap[gb]? = w.heap[gb]?) : X6 gb ib op xa xb k z y w' := by
  have c : ∀ b j, w'.heap[b]? = w.heap[b]? → w'.cell? ⟨b, j, none⟩ = w.cell? ⟨b, j, none⟩ := fun b j e => by unfold World.cell?; rw [e]
  exact ⟨by rw [c _ _ e1]; exact h.x0, by rw [c _ _ e1]; exact h.x1, by rw [c _ _ e1]; exact h.x2, by rw [c _ _ e1]; exact h.x3, by rw [c _ _ e2]; exact h.x4, by rw [c _ _ e2]; exact h.x5⟩
theorem fuel_left' {q fuel : Nat} (h : q < fuel) : fuel - q = (fuel - (q + 1)) + 1 := by omega
theorem low_byte (z : Nat) : ((UInt8.ofNat z).toNat : Int) = ((z % 256 : Nat) : Int) := by simp

set_option maxHeartbeats 4000000 in
theorem rrun_go (s t : ByteArray) (a b c fuel : Int) (w : World) (hs : s.size ≤ maxLen) (o : P.O) (ho : P.runOf s.data.toList t.data.toList a b c fuel = o) (hc : P.IsCode s.data.toList) (hm : ¬ 2048 < t.size) (hw : P.Word a ∧ P.Word b ∧ P.Word c ∧ 0 ≤ fuel ∧ fuel ≤ 20000) :
    Calls Tryz.prog 124 #[.string s, .string t, .int .i64 a, .int .i64 b, .int .i64 c, .int .i64 fuel] w fun e w' => e = .returned (.tuple #[outV o, .int .i64 o.err]) ∧ Below w.heap.size w w' := by
  have HO := hid_m ho
  have HS := hid_m hs
  have htl := tl_len' t
  have HC := hid_m hc
  have hm' : ¬ (2048 : Int) < t.size := by omega
  have HM : Hid (¬ 2048 < t.data.toList.length) := by unfold Hid; rw [htl]; exact hm
  have HW0 := hid_m hw
  clear ho hs hc hm hw htl
  go_enter Tryz.func124, Tryz.ntmps124
  go_wp2_with fail
  refine (risCode_any s _ HS.out).mono ?_
  rintro e w1 ⟨rfl, hb1⟩
  have hbA : Below w.heap.size w (w.alloc (.cells #[.string ⟨#[]⟩, .int .i64 0, .int .i64 0, .int .i64 0] 56)) := (Below.refl _ _).alloc (Nat.le_refl _) _
  have hb : Below w.heap.size w w1 := hbA.trans (hb1.mono hbA.size)
  have ko : w1.heap[w.heap.size]? = some (.cells #[.string ⟨#[]⟩, .int .i64 0, .int .i64 0, .int .i64 0] 56 (0, 0)) := by
    rw [hb1.block _ (by simp)]; exact heap_alloc_new w _
  obtain ⟨o0, o1, o2, o3, of⟩ := out_facts ko
  have HKO := hid_m ko
  have HB := hid_m hb
  have wlt := m_blk_lt ko
  clear hb1 hbA hb ko
  rw [decide_eq_true HC.out]
  have hw := HW0.out
  clear HW0
  have HE : Hid (o = P.go (P.codeOf s.data.toList) fuel.toNat 0 (P.start t.data.toList a.toNat b.toNat c.toNat)) := by unfold Hid; rw [← HO.out]; exact runOf_go HC.out HM.out hw
  obtain ⟨wa, wb, wc, hf0, hf1⟩ := hw
  have da := decide_eq_true wa
  have db := decide_eq_true wb
  have dc := decide_eq_true wc
  have HW := hid_m (And.intro wa (And.intro wb wc))
  have hf0' : ¬ fuel < 0 := by omega
  have hf1' : ¬ 20000 < fuel := by omega
  clear wa wb wc
  go_wp2_with fail
  refine (rword_any a _).mono ?_
  rintro e w2 ⟨rfl, rfl⟩
  rw [da]
  go_wp2_with fail
  refine (rword_any b _).mono ?_
  rintro e w2 ⟨rfl, rfl⟩
  rw [db]
  go_wp2_with fail
  refine (rword_any c _).mono ?_
  rintro e w2 ⟨rfl, rfl⟩
  rw [dc]
  have hmk : ∀ w : World, (Instr.makeSlice 63 (.int .i64 16) (.int .i64 16)).run Tryz.prog w = .ok (.slice (some ⟨w.heap.size, 0, none⟩) 16 16) (w.alloc (.cells #[.int .i64 0, .int .i64 0, .int .i64 0, .int .i64 0, .int .i64 0, .int .i64 0, .int .i64 0, .int .i64 0, .int .i64 0, .int .i64 0, .int .i64 0, .int .i64 0, .int .i64 0, .int .i64 0, .int .i64 0, .int .i64 0] 3)) := fun w => made16 ▸ run_make_row' (P := Tryz.prog) 63 3 (.int .i64 0) 8 Tryz.underlying63 Tryz.infoMInt rfl .i64 .i64 16 (by decide) (by decide) w
  go_wp2_with fail
  rw [run_bytes_of_string (P := Tryz.prog) _ 9 38 5 t Tryz.underlying9 Tryz.underlying38 Tryz.underlying5]
  generalize grownCap _ t.size 0 5 = cp
  obtain ⟨na, rfl⟩ : ∃ n : Nat, a = n := ⟨a.toNat, by have := HW.out.1.1; omega⟩
  obtain ⟨nb, rfl⟩ : ∃ n : Nat, b = n := ⟨b.toNat, by have := HW.out.2.1.1; omega⟩
  obtain ⟨nc, rfl⟩ : ∃ n : Nat, c = n := ⟨c.toNat, by have := HW.out.2.2.1; omega⟩
  obtain ⟨nf, rfl⟩ : ∃ n : Nat, fuel = n := ⟨fuel.toNat, by omega⟩
  rw [Int.toNat_natCast, Int.toNat_natCast, Int.toNat_natCast, Int.toNat_natCast] at HE
  obtain ⟨gb, hgb⟩ : ∃ gb, w2.heap.size = gb := ⟨_, rfl⟩
  have hr := head_regs w2 na nb nc
  have hbr : Below w2.heap.size w2 (w2.alloc (.cells #[.int .i64 na, .int .i64 nb, .int .i64 nc, .int .i64 0, .int .i64 0, .int .i64 0, .int .i64 0, .int .i64 0, .int .i64 0, .int .i64 0, .int .i64 0, .int .i64 0, .int .i64 0, .int .i64 0, .int .i64 0, .int .i64 0] 3)) := (Below.refl _ _).alloc (Nat.le_refl _) _
  have hsz : (w2.alloc (.cells #[.int .i64 na, .int .i64 nb, .int .i64 nc, .int .i64 0, .int .i64 0, .int .i64 0, .int .i64 0, .int .i64 0, .int .i64 0, .int .i64 0, .int .i64 0, .int .i64 0, .int .i64 0, .int .i64 0, .int .i64 0, .int .i64 0] 3)).heap.size = gb + 1 := by rw [← hgb]; simp
  rw [hsz, hgb]
  generalize (w2.alloc (.cells #[.int .i64 na, .int .i64 nb, .int .i64 nc, .int .i64 0, .int .i64 0, .int .i64 0, .int .i64 0, .int .i64 0, .int .i64 0, .int .i64 0, .int .i64 0, .int .i64 0, .int .i64 0, .int .i64 0, .int .i64 0, .int .i64 0] 3)) = wa at hr hbr hsz ⊢
  have hmm : Mm (wa.drew.alloc (.cells (bytesRow t cp) 5 ((bytesRow t cp).size, (bytesRow t cp).size + 1))) (gb + 1) t.data.toList := by rw [← hsz]; exact Mm.new wa.drew t cp
  have hbm : Below wa.heap.size wa (wa.drew.alloc (.cells (bytesRow t cp) 5 ((bytesRow t cp).size, (bytesRow t cp).size + 1))) := (drew_below (Below.refl _ _)).alloc (Nat.le_refl _) _
  generalize (wa.drew.alloc (.cells (bytesRow t cp) 5 ((bytesRow t cp).size, (bytesRow t cp).size + 1))) = W0 at hmm hbm ⊢
  have hr0 : Rg W0 gb (P.start t.data.toList na nb nc).reg := by rw [← hgb]; exact hr.of (hbm.block _ hr.lt)
  have hb0 : Below gb w2 W0 := by rw [← hgb]; exact hbr.trans (hbm.mono hbr.size)
  have hbw : Below w.heap.size w W0 := HB.out.trans (hb0.mono (by rw [← hgb]; exact HB.out.size))
  have ko0 : W0.heap[w.heap.size]? = some (.cells #[.string ⟨#[]⟩, .int .i64 0, .int .i64 0, .int .i64 0] 56 (0, 0)) := by rw [hb0.block _ (by rw [← hgb]; exact wlt)]; exact HKO.out
  have HL0 : Hid (RR W0 W0 gb (gb + 1) s.data.toList nf 0 (P.start t.data.toList na nb nc) (P.start t.data.toList na nb nc)) :=
    ⟨rfl, P.start_ok _ _ _ _ _ (by have := HW.out.1.2; unfold P.W32; omega) (by have := HW.out.2.1.2; unfold P.W32; omega) (by have := HW.out.2.2.2; unfold P.W32; omega) HC.out.some, rfl, hr0, hmm, Below.refl _ _⟩
  have HK0 := hid_m ko0
  have HBW := hid_m hbw
  have HGW : Hid (w.heap.size < gb) := by unfold Hid; rw [← hgb]; exact wlt
  have HTL : Hid ((P.start t.data.toList na nb nc).mem.length = t.size) := tl_len' t
  have HF1 : Hid (nf ≤ 20000) := by unfold Hid; omega
  have HSL : Hid (s.data.toList.length = s.size) := tl_len' s
  clear hr hbr hsz hmm hbm hr0 hb0 hbw ko0 hgb hmk HO HKO HB wlt o0 o1 o2 o3 of da db dc hf0 hf1 hf0' hf1' HW hm'
  obtain ⟨m0, hm0⟩ : ∃ m0, P.start t.data.toList na nb nc = m0 := ⟨_, rfl⟩
  rw [hm0] at HL0 HTL HE
  have HP0 : Hid (m0.pc = 0) := by unfold Hid; rw [← hm0]; rfl
  clear hm0
  go_wp2_with fail
  go_loopw [18, 19] (fun i n wr => ∃ (q pc : Nat) (m : P.M), q ≤ nf ∧ i = .int .i64 pc ∧ n = .int .i64 ((q : Int) + 1) ∧ Hid (m.pc = pc ∧ RR W0 wr gb (gb + 1) s.data.toList nf q m0 m)) (fun _ n _ => nf + 1 - (intOf n).toNat)
  case atStart => exact ⟨0, 0, m0, Nat.zero_le _, rfl, rfl, HP0.out, HL0.out⟩
  case round =>
    obtain ⟨q, pc, m, hq, rfl, rfl, HL⟩ := hrel
    by_cases hlt : q < nf
    · have hpl : pc < s.data.toList.length / 5 := by rw [← HL.out.1]; exact HL.out.2.ok.here
      have h5 : 5 * pc + 5 ≤ s.size := by have := HC.out.five; have := HSL.out; omega
      have hs6 : s.size ≤ 1000000 := by have := HC.out.five; have := HC.out.few; have := HSL.out; omega
      have hat := fun w => rat_go s pc w h5 hs6
      have hx := P.codeOf_get s.data.toList pc hpl
      have hok := HC.out.all pc hpl
      have hxb := insAt_lt s.data.toList pc
      obtain ⟨x, hxe⟩ : ∃ x, P.insAt s.data.toList pc = x := ⟨_, rfl⟩
      rw [hxe] at hat hx hok hxb
      have HXE := hid_m hxe
      have HX := hid_m hx
      have HPL := hid_m hpl
      obtain ⟨op, xa, xb, k⟩ := x
      have HOK := hid_m hok
      have HAT := hid_m hat
      have HXB := hid_m hxb
      have hle : (q : Int) + 1 ≤ (nf : Int) := by omega
      clear hxe hx hpl hok hat hxb h5 hs6
      go_wp2_with fail
      refine (HAT.out _).mono ?_
      rintro e w2 ⟨rfl, hb2⟩
      go_wp2_with fail
      refine (rgoes_any op xa xb k _).mono ?_
      rintro e w3 ⟨rfl, hb3⟩
      have hb2a : Below wr.heap.size wr (w2.alloc (.cells #[.int .i64 op, .int .i64 xa, .int .i64 xb, .int .i64 k] 194)) := hb2.alloc hb2.size _
      have hb23 : Below wr.heap.size wr w3 := hb2a.trans (hb3.mono hb2a.size)
      have hnew : w3.heap[w2.heap.size]? = some (.cells #[.int .i64 op, .int .i64 xa, .int .i64 xb, .int .i64 k] 194 (0, 0)) := by rw [hb3.block _ (by simp)]; exact heap_alloc_new _ _
      have n0 : w3.cell? ⟨w2.heap.size, 0, none⟩ = some (.int .i64 op) := by rw [cell_of_row _ _ _ _ _ _ hnew]; rfl
      have n1 : w3.cell? ⟨w2.heap.size, 1, none⟩ = some (.int .i64 xa) := by rw [cell_of_row _ _ _ _ _ _ hnew]; rfl
      have n2 : w3.cell? ⟨w2.heap.size, 2, none⟩ = some (.int .i64 xb) := by rw [cell_of_row _ _ _ _ _ _ hnew]; rfl
      have n3 : w3.cell? ⟨w2.heap.size, 3, none⟩ = some (.int .i64 k) := by rw [cell_of_row _ _ _ _ _ _ hnew]; rfl
      have L3 := HL.out.2.on hb23
      have o2 : xa ≤ 15 := HOK.out.2.1
      have o3 : xb ≤ 15 := HOK.out.2.2.1
      have rB : w3.cell? ⟨gb, xb, none⟩ = some (.int .i64 (P.rg m xb)) := L3.rg.cell L3.ok (by omega)
      have rA : w3.cell? ⟨gb, xa, none⟩ = some (.int .i64 (P.rg m xa)) := L3.rg.cell L3.ok (by omega)
      have hyl := P.rg_lt L3.ok xb
      have hzl := P.rg_lt L3.ok xa
      obtain ⟨y, hy⟩ : ∃ y, P.rg m xb = y := ⟨_, rfl⟩
      obtain ⟨z, hz⟩ : ∃ z, P.rg m xa = z := ⟨_, rfl⟩
      rw [hy] at rB hyl
      rw [hz] at rA hzl
      have HY := hid_m hy
      have HZ := hid_m hz
      have HPW := hid_m (And.intro hyl hzl)
      have hkk : k < 65536 := HXB.out.2.2.2
      have hpw : wrap64 ((y : Int) + (k : Int)) = ((y + k : Nat) : Int) := by
        unfold P.W32 at hyl; rw [w64_id _ (by omega) (by omega)]; omega
      have hpc : wrap64 ((pc : Int) + 1) = (pc : Int) + 1 := by
        have := HPL.out; have := HC.out.few; exact w64_id _ (by omega) (by omega)
      have b0 : (0 : Int) ≤ (xb : Int) := by omega
      have b1 : (xb : Int) < 16 := by omega
      have a0 : (0 : Int) ≤ (xa : Int) := by omega
      have a1 : (xa : Int) < 16 := by omega
      have HL3 := hid_m L3
      have HB23 := hid_m hb23
      have HNX : Hid (w3.heap[w2.heap.size]? = some (.cells #[.int .i64 op, .int .i64 xa, .int .i64 xb, .int .i64 k] 194 (0, 0))) := hnew
      clear hb2 hb2a hb23 hnew hb3 L3 o2 o3 hy hz hyl hzl hkk
      have HPV := hid_m hpw
      have HPC := hid_m hpc
      clear hpc
      go_wp2_with fail
      go_region
      rw [hpw]
      obtain ⟨p, hpk⟩ : ∃ p, y + k = p := ⟨_, rfl⟩
      rw [hpk]
      have HPK := hid_m hpk
      clear hpk
      clear hpw n0 n1 n2 n3 rB rA
      obtain ⟨w4, hw4⟩ : ∃ w4, w3.drew = w4 := ⟨_, rfl⟩
      have hn4 : w4.heap[w2.heap.size]? = some (.cells #[.int .i64 op, .int .i64 xa, .int .i64 xb, .int .i64 k] 194 (0, 0)) := by rw [← hw4]; exact HNX.out
      have L4 : RR W0 w4 gb (gb + 1) s.data.toList nf q m0 m := by rw [← hw4]; exact ⟨HL3.out.inv, HL3.out.ok, HL3.out.len, HL3.out.rg, HL3.out.mm, drew_below HL3.out.bel⟩
      rw [hw4]
      have n0 : w4.cell? ⟨w2.heap.size, 0, none⟩ = some (.int .i64 op) := by rw [cell_of_row _ _ _ _ _ _ hn4]; rfl
      have n1 : w4.cell? ⟨w2.heap.size, 1, none⟩ = some (.int .i64 xa) := by rw [cell_of_row _ _ _ _ _ _ hn4]; rfl
      have n2 : w4.cell? ⟨w2.heap.size, 2, none⟩ = some (.int .i64 xb) := by rw [cell_of_row _ _ _ _ _ _ hn4]; rfl
      have n3 : w4.cell? ⟨w2.heap.size, 3, none⟩ = some (.int .i64 k) := by rw [cell_of_row _ _ _ _ _ _ hn4]; rfl
      have rB : w4.cell? ⟨gb, xb, none⟩ = some (.int .i64 y) := by rw [← HY.out]; exact L4.rg.cell L4.ok (Nat.lt_succ_of_le HOK.out.2.2.1)
      have rA : w4.cell? ⟨gb, xa, none⟩ = some (.int .i64 z) := by rw [← HZ.out]; exact L4.rg.cell L4.ok (Nat.lt_succ_of_le HOK.out.2.1)
      have ko3 : w4.heap[w.heap.size]? = some (.cells #[.string ⟨#[]⟩, .int .i64 0, .int .i64 0, .int .i64 0] 56 (0, 0)) := by rw [L4.bel.block _ HGW.out]; exact HK0.out
      obtain ⟨k0, k1, k2, k3, kf⟩ := out_facts ko3
      have HK3 := hid_m ko3
      have HB3 : Hid (Below w.heap.size w w4) := HBW.out.trans (L4.bel.mono (Nat.le_of_lt HGW.out))
      have HML : Hid (m.mem.length = t.size) := L4.len.trans HTL.out
      have HQW : Hid (wrap64 ((q : Int) + 1 + 1) = (q : Int) + 1 + 1) := by have := HF1.out; exact w64_id _ (by omega) (by omega)
      have HL4 := hid_m L4
      have HN4 : Hid (w4.drew.heap[w2.heap.size]? = some (.cells #[.int .i64 op, .int .i64 xa, .int .i64 xb, .int .i64 k] 194 (0, 0))) := hn4
      have HXL : Hid (w2.heap.size < w4.drew.heap.size) := m_blk_lt hn4
      have HLT := hid_m hlt
      clear ko3 hn4 L4 hw4 HL3 hq hlt
      have HFN : Hid (∀ x : P.I, P.insAt s.data.toList pc = x → True) := fun _ _ => trivial
      by_cases h0 : op = 0
      · subst h0
        have hcv : (convert 38 9 (.slice (some ⟨gb + 1, 0, none⟩) t.size cp)).run Tryz.prog w4.drew = .ok (.string ⟨m.mem.toArray⟩) w4.drew := by rw [← HML.out]; exact conv_mem (HL4.out.mm.of rfl)
        have r0 : w4.cell? ⟨gb, 0, none⟩ = some (.int .i64 (P.rg m 0)) := HL4.out.rg.cell HL4.out.ok (by decide)
        have HGO : Hid (P.go (P.codeOf s.data.toList) nf 0 m0 = ⟨m.mem, P.rg m 0, k, q + 1, 0⟩) := by
          unfold Hid; rw [HL4.out.inv, fuel_left' HLT.out]; exact P.go_end (by rw [HL.out.1]; exact HX.out) rfl
        have hpc := HPC.out
        go_wp2_with fail
        go_region
        go_wp2_with fail
        obtain ⟨W4, hW4, z0, z1, z2, z3, hbf⟩ := out_end (.string ⟨m.mem.toArray⟩) (.int .i64 (P.rg m 0)) (.int .i64 k) (.int .i64 ((q : Int) + 1)) HK3.out HB3.out (Nat.le_refl _)
        rw [hW4]
        refine bodyPost_ret (v := .tuple #[.agg #[.string ⟨m.mem.toArray⟩, .int .i64 (P.rg m 0), .int .i64 k, .int .i64 ((q : Int) + 1)], .int .i64 0]) (by simp [results, Tryz.results124, go_sem, z0, z1, z2, z3]) rfl ?_
        exact ⟨by rw [HE.out, HGO.out]; rfl, drew_below hbf⟩
      · by_cases h9 : op = 9
        · subst h9
          by_cases hp : p < t.size
          · have hp1 : (p : Int) < (t.size : Int) := by omega
            have hp2 : (0 : Int) ≤ (p : Int) := by omega
            have hp3 : ¬ ((t.size : Int) ≤ (p : Int)) := by omega
            obtain ⟨c, hc⟩ : ∃ c, m.mem[p]? = some c := ⟨_, List.getElem?_eq_getElem (by rw [HML.out]; exact hp)⟩
            have hcc := HL4.out.mm.cell hc
            have hcw := wrap_byte c
            have hfz := HL4.out.rg.fz xa
            have HCC := hid_m hc
            clear hc hp h0
            have hpc := HPC.out
            have hqw := HQW.out
            go_wp2_with fail
            clear hqw n0 n2 n3 rB k0 k1 k2 k3 kf
            go_region
            have HLN := HL4.out.step (m' := { m with reg := m.reg.set xa c.toNat, pc := m.pc + 1 }) (w' := (w4.setCell ⟨gb, xa, none⟩ (.int .i64 c.toNat)).drew) HC.out HLT.out HL.out.1 HPL.out HXE.out (show (9 : Nat) ≠ 0 by decide) (P.step_load rfl (by show m.mem[P.rg m xb + k]? = _; rw [HY.out, HPK.out]; exact HCC.out)) ((HL4.out.rg.set _).of rfl) ((HL4.out.mm.of (set_other (Nat.succ_ne_self gb))).of rfl) (drew_below (HL4.out.bel.setCell (Nat.le_refl _) _))
            obtain ⟨w6, hw6⟩ : ∃ w6, (w4.setCell ⟨gb, xa, none⟩ (.int .i64 c.toNat)).drew = w6 := ⟨_, rfl⟩
            rw [hw6] at HLN ⊢
            have HLM := hid_m HLN
            clear HLN hw6 hcc hcw hfz n1 rA hp1 hp2 hp3 hpc
            have hqw := HQW.out
            go_wp2_with fail
            have HLN := HLM.out
            refine ⟨⟨q + 1, pc + 1, { m with reg := m.reg.set xa c.toNat, pc := m.pc + 1 }, HLT.out, by first | (rw [HPC.out]; rfl) | rfl, by first | (rw [HQW.out]; exact next2_int q) | exact next2_int q, by show m.pc + 1 = _; rw [HL.out.1], HLN⟩, by first | (rw [HQW.out]; exact next2_less HLT.out) | exact next2_less HLT.out⟩
          · have hp3 : ((t.size : Int) ≤ (p : Int)) := by omega
            have HGO := hid_m (HL4.out.bad HLT.out HL.out.1 HPL.out HXE.out (show (9 : Nat) ≠ 0 by decide) (P.step_load_no rfl (by show _ ≤ P.rg m xb + k; rw [HY.out, HPK.out, HML.out]; omega)))
            clear hp h0
            have hpc := HPC.out
            go_wp2_with fail
            obtain ⟨W4, hW4, z0, z1, z2, z3, hbf⟩ := out_end (.string ⟨#[]⟩) (.int .i64 0) (.int .i64 0) (.int .i64 0) HK3.out HB3.out (Nat.le_refl _)
            rw [hW4]
            refine bodyPost_ret (v := .tuple #[.agg #[.string ⟨#[]⟩, .int .i64 0, .int .i64 0, .int .i64 0], .int .i64 7]) (by simp [results, Tryz.results124, go_sem, z0, z1, z2, z3]) rfl ?_
            exact ⟨by rw [HE.out, HGO.out]; rfl, hbf⟩
        · by_cases h10 : op = 10
          · subst h10
            by_cases hp : p < t.size
            · have hp1 : (p : Int) < (t.size : Int) := by omega
              have hp2 : (0 : Int) ≤ (p : Int) := by omega
              have hp3 : ¬ ((t.size : Int) ≤ (p : Int)) := by omega
              have hps : p < m.mem.length := by rw [HML.out]; exact hp
              obtain ⟨c, hc⟩ : ∃ c, m.mem[p]? = some c := ⟨_, List.getElem?_eq_getElem hps⟩
              have hcc := HL4.out.mm.cell hc
              have hfz := HL4.out.mm.fz hps
              have HPS := hid_m hps
              clear hc hp hps h0 h9
              have hpc := HPC.out
              have hqw := HQW.out
              go_wp2_with fail
              have HLN := HL4.out.step (m' := { m with mem := m.mem.set (P.rg m xb + k) (UInt8.ofNat (P.rg m xa)), pc := m.pc + 1 }) (w' := w4.setCell ⟨gb + 1, p, none⟩ (.int .u8 ((z : Int) % 256))) HC.out HLT.out HL.out.1 HPL.out HXE.out (show (10 : Nat) ≠ 0 by decide) (P.step_store rfl (by show P.rg m xb + k < _; rw [HY.out, HPK.out]; exact HPS.out)) (HL4.out.rg.of (set_other (Nat.succ_ne_self gb).symm)) (by rw [HY.out, HPK.out, HZ.out, show ((z : Int) % 256) = ((UInt8.ofNat z).toNat : Int) from by rw [low_byte]; rfl]; exact HL4.out.mm.set HPS.out _) (HL4.out.bel.setCell (Nat.le_succ _) _)
              refine ⟨⟨q + 1, pc + 1, { m with mem := m.mem.set (P.rg m xb + k) (UInt8.ofNat (P.rg m xa)), pc := m.pc + 1 }, HLT.out, by first | (rw [HPC.out]; rfl) | rfl, by first | (rw [HQW.out]; exact next2_int q) | exact next2_int q, by show m.pc + 1 = _; rw [HL.out.1], HLN⟩, by first | (rw [HQW.out]; exact next2_less HLT.out) | exact next2_less HLT.out⟩
            · have hp3 : ((t.size : Int) ≤ (p : Int)) := by omega
              have HGO := hid_m (HL4.out.bad HLT.out HL.out.1 HPL.out HXE.out (show (10 : Nat) ≠ 0 by decide) (P.step_store_no rfl (by show _ ≤ P.rg m xb + k; rw [HY.out, HPK.out, HML.out]; omega)))
              clear hp h0 h9
              have hpc := HPC.out
              go_wp2_with fail
              obtain ⟨W4, hW4, z0, z1, z2, z3, hbf⟩ := out_end (.string ⟨#[]⟩) (.int .i64 0) (.int .i64 0) (.int .i64 0) HK3.out HB3.out (Nat.le_refl _)
              rw [hW4]
              refine bodyPost_ret (v := .tuple #[.agg #[.string ⟨#[]⟩, .int .i64 0, .int .i64 0, .int .i64 0], .int .i64 7]) (by simp [results, Tryz.results124, go_sem, z0, z1, z2, z3]) rfl ?_
              exact ⟨by rw [HE.out, HGO.out]; rfl, hbf⟩
          · have e0 : ((op : Int) == 0) = false := by rw [beq_eq_false_iff_ne]; omega
            have e9 : ((op : Int) == 9) = false := by rw [beq_eq_false_iff_ne]; omega
            have e10 : ((op : Int) == 10) = false := by rw [beq_eq_false_iff_ne]; omega
            have H0 := hid_m (And.intro h0 (And.intro h9 h10))
            have h14 : op ≤ 14 := HOK.out.1
            have HLD : Hid (RR W0 w4.drew gb (gb + 1) s.data.toList nf q m0 m) := ⟨HL4.out.inv, HL4.out.ok, HL4.out.len, HL4.out.rg, HL4.out.mm, drew_below HL4.out.bel⟩
            have hzl : z < 4294967296 := HPW.out.2
            have hyl : y < 4294967296 := HPW.out.1
            by_cases h11 : 11 ≤ op
            · rw [decide_eq_true h11, decide_eq_true h14, Bool.true_and]
              obtain ⟨gv, hgv⟩ : ∃ gv, P.goB op z y = gv := ⟨_, rfl⟩
              have HCL : Hid (∀ w, Calls Tryz.prog 154 #[.agg #[.int .i64 op, .int .i64 xa, .int .i64 xb, .int .i64 k], .int .i64 z, .int .i64 y] w fun e w' => e = .returned (.bool gv) ∧ Below w.heap.size w w') := fun w => by rw [← hgv]; exact rleaves_any op xa xb k z y w h11 h14
              have HSG : Hid (P.step ⟨op, xa, xb, k⟩ m = some { m with pc := if gv then k else m.pc + 1 }) := by
                unfold Hid; rw [P.step_goes h11]; show some ({ m with pc := if P.goB op (P.rg m xa) (P.rg m xb) then k else m.pc + 1 } : P.M) = _; rw [HZ.out, HY.out, hgv]
              clear h0 h9 h10 h11 h14 hzl hyl hgv
              have hpc := HPC.out
              have hqw := HQW.out
              have kk : X6 gb w2.heap.size op xa xb k z y w4 := ⟨n0, n1, n2, n3, rA, rB⟩
              go_wp2_with fail
              refine wp_region_held_drew (S := X6 gb w2.heap.size op xa xb k z y) (by kernel_rfl) (kk.of rfl rfl) (fun hHeld => ?_)
              refine wpAnyH_take (i := 0) (v := ?_) rfl (by kernel_rfl) (by kernel_rfl) (by kernel_rfl) (fun _ _ _ h => h) (Or.inl ⟨by rfl, ?_⟩) (by assumption) ?_
              rotate_left
              · intro w hSw
                obtain ⟨x0, x1, x2, x3, x4, x5⟩ := hSw
                go_simp
                all_goals with_reducible rfl
              try simp only [Act.put]
              refine wpAnyH_take (i := 1) (v := ?_) rfl (by kernel_rfl) (by kernel_rfl) (by kernel_rfl) (fun _ _ _ h => h) (Or.inl ⟨by rfl, ?_⟩) (by assumption) ?_
              rotate_left
              · intro w hSw
                obtain ⟨x0, x1, x2, x3, x4, x5⟩ := hSw
                go_simp
                all_goals with_reducible rfl
              try simp only [Act.put]
              refine wpAnyH_take (i := 2) (v := ?_) rfl (by kernel_rfl) (by kernel_rfl) (by kernel_rfl) (fun _ _ _ h => h) (Or.inl ⟨by rfl, ?_⟩) (by assumption) ?_
              rotate_left
              · intro w hSw
                obtain ⟨x0, x1, x2, x3, x4, x5⟩ := hSw
                go_simp
                all_goals with_reducible rfl
              try simp only [Act.put]
              refine wpAnyH_take (i := 3) (v := ?_) rfl (by kernel_rfl) (by kernel_rfl) (by kernel_rfl) (fun _ _ _ h => h) (Or.inl ⟨by rfl, ?_⟩) (by assumption) ?_
              rotate_left
              · intro w hSw
                obtain ⟨x0, x1, x2, x3, x4, x5⟩ := hSw
                go_simp
                all_goals with_reducible rfl
              try simp only [Act.put]
              refine wpAnyH_take (i := 4) (v := ?_) rfl (by kernel_rfl) (by kernel_rfl) (by kernel_rfl) (fun _ _ _ h => h) (Or.inl ⟨by rfl, ?_⟩) (by assumption) ?_
              rotate_left
              · intro w hSw
                obtain ⟨x0, x1, x2, x3, x4, x5⟩ := hSw
                go_simp
                all_goals with_reducible rfl
              try simp only [Act.put]
              refine wpAnyH_take (i := 5) (v := ?_) rfl (by kernel_rfl) (by kernel_rfl) (by kernel_rfl) (fun _ _ _ h => h) (Or.inl ⟨by rfl, ?_⟩) (by assumption) ?_
              rotate_left
              · intro w hSw
                obtain ⟨x0, x1, x2, x3, x4, x5⟩ := hSw
                go_simp
                all_goals with_reducible rfl
              try simp only [Act.put]
              refine wpAnyH_take (i := 6) (v := ?_) rfl (by kernel_rfl) (by kernel_rfl) (by kernel_rfl) (fun _ _ _ h => h) (Or.inl ⟨by rfl, ?_⟩) (by assumption) ?_
              rotate_left
              · intro w hSw
                obtain ⟨x0, x1, x2, x3, x4, x5⟩ := hSw
                go_simp
                all_goals with_reducible rfl
              try simp only [Act.put]
              refine wpAnyH_take (i := 7) (v := ?_) rfl (by kernel_rfl) (by kernel_rfl) (by kernel_rfl) (fun _ _ _ h => h) (Or.inl ⟨by rfl, ?_⟩) (by assumption) ?_
              rotate_left
              · intro w hSw
                obtain ⟨x0, x1, x2, x3, x4, x5⟩ := hSw
                go_simp
                all_goals with_reducible rfl
              try simp only [Act.put]
              refine wpAnyH_take (i := 8) (v := ?_) rfl (by kernel_rfl) (by kernel_rfl) (by kernel_rfl) (fun _ _ _ h => h) (Or.inl ⟨by rfl, ?_⟩) (by assumption) ?_
              rotate_left
              · intro w hSw
                obtain ⟨x0, x1, x2, x3, x4, x5⟩ := hSw
                go_simp
                all_goals with_reducible rfl
              try simp only [Act.put]
              refine wpAnyH_take (i := 9) (v := ?_) rfl (by kernel_rfl) (by kernel_rfl) (by kernel_rfl) (fun _ _ _ h => h) (Or.inl ⟨by rfl, ?_⟩) (by assumption) ?_
              rotate_left
              · intro w hSw
                obtain ⟨x0, x1, x2, x3, x4, x5⟩ := hSw
                go_simp
                all_goals with_reducible rfl
              try simp only [Act.put]
              refine wpAnyH_take (i := 10) (v := ?_) rfl (by kernel_rfl) (by kernel_rfl) (by kernel_rfl) (fun _ _ _ h => h) (Or.inl ⟨by rfl, ?_⟩) (by assumption) ?_
              rotate_left
              · intro w hSw
                obtain ⟨x0, x1, x2, x3, x4, x5⟩ := hSw
                go_simp
                all_goals with_reducible rfl
              try simp only [Act.put]
              refine wpAnyH_ready (rs := [11]) (by kernel_rfl) (by simp) ?_
              refine AllReadyH.cons (o := _) rfl (fun K hK => ?_) AllReadyH.nil
              go_simp
              refine (HCL.out _).mono ?_
              rintro e w5 ⟨rfl, hb5⟩
              have L5 : RR W0 w5 gb (gb + 1) s.data.toList nf q m0 m := HLD.out.on hb5
              have hn5 : w5.heap[w2.heap.size]? = some (.cells #[.int .i64 op, .int .i64 xa, .int .i64 xb, .int .i64 k] 194 (0, 0)) := by rw [hb5.block _ HXL.out]; exact HN4.out
              have n05 : w5.cell? ⟨w2.heap.size, 0, none⟩ = some (.int .i64 op) := by rw [cell_of_row _ _ _ _ _ _ hn5]; rfl
              have n15 : w5.cell? ⟨w2.heap.size, 1, none⟩ = some (.int .i64 xa) := by rw [cell_of_row _ _ _ _ _ _ hn5]; rfl
              have n25 : w5.cell? ⟨w2.heap.size, 2, none⟩ = some (.int .i64 xb) := by rw [cell_of_row _ _ _ _ _ _ hn5]; rfl
              have n35 : w5.cell? ⟨w2.heap.size, 3, none⟩ = some (.int .i64 k) := by rw [cell_of_row _ _ _ _ _ _ hn5]; rfl
              have rB5 : w5.cell? ⟨gb, xb, none⟩ = some (.int .i64 y) := by rw [← HY.out]; exact L5.rg.cell L5.ok (Nat.lt_succ_of_le HOK.out.2.2.1)
              have rA5 : w5.cell? ⟨gb, xa, none⟩ = some (.int .i64 z) := by rw [← HZ.out]; exact L5.rg.cell L5.ok (Nat.lt_succ_of_le HOK.out.2.1)
              have hfz := L5.rg.fz xa
              have HL5 := hid_m L5
              clear L5 hn5 hb5 n0 n1 n2 n3 rA rB kk
              go_wp2_with fail
              refine hK.out _ _ ⟨n05, n15, n25, n35, rA5, rB5⟩ (fun hHeld3 => ?_)
              clear hK K
              try simp only [Act.put]
              refine wpAnyH_take (i := 12) (v := ?_) rfl (by kernel_rfl) (by kernel_rfl) (by kernel_rfl) (fun _ _ _ h => h) (Or.inl ⟨by rfl, ?_⟩) (by assumption) ?_
              rotate_left
              · intro w hSw
                obtain ⟨x0, x1, x2, x3, x4, x5⟩ := hSw
                go_simp
                all_goals with_reducible rfl
              try simp only [Act.put]
              refine wpAnyH_done (by kernel_rfl) ?_ _
              cases gv with
              | true =>
                go_wp2_with fail
                have HLN := HL5.out.step (m' := { m with pc := k }) (w' := w5) HC.out HLT.out HL.out.1 HPL.out HXE.out H0.out.1 HSG.out HL5.out.rg HL5.out.mm HL5.out.bel
                refine ⟨⟨q + 1, k, { m with pc := k }, HLT.out, by first | (rw [HPC.out]; rfl) | rfl, by first | (rw [HQW.out]; exact next2_int q) | exact next2_int q, rfl, HLN⟩, by first | (rw [HQW.out]; exact next2_less HLT.out) | exact next2_less HLT.out⟩
              | false =>
                go_wp2_with fail
                have HLN := HL5.out.step (m' := { m with pc := m.pc + 1 }) (w' := w5) HC.out HLT.out HL.out.1 HPL.out HXE.out H0.out.1 HSG.out HL5.out.rg HL5.out.mm HL5.out.bel
                refine ⟨⟨q + 1, pc + 1, { m with pc := m.pc + 1 }, HLT.out, by first | (rw [HPC.out]; rfl) | rfl, by first | (rw [HQW.out]; exact next2_int q) | exact next2_int q, by show m.pc + 1 = _; rw [HL.out.1], HLN⟩, by first | (rw [HQW.out]; exact next2_less HLT.out) | exact next2_less HLT.out⟩
            · rw [decide_eq_false h11, Bool.false_and]
              obtain ⟨r, hr⟩ : ∃ r, P.reck ⟨op, xa, xb, k⟩ z y = r := ⟨_, rfl⟩
              have HCL : Hid (∀ w, Calls Tryz.prog 155 #[.agg #[.int .i64 op, .int .i64 xa, .int .i64 xb, .int .i64 k], .int .i64 z, .int .i64 y] w fun e w' => e = .returned (.int .i64 r) ∧ Below w.heap.size w w') := fun w => rmade_any op xa xb k z y r w (by omega) hzl hyl HOK.out.2.2.2.2 hr
              have HSG : Hid (P.step ⟨op, xa, xb, k⟩ m = some { m with reg := m.reg.set xa r, pc := m.pc + 1 }) := by
                unfold Hid; rw [P.step_sum h11 h9 h10]; show some ({ m with reg := m.reg.set xa (P.reck ⟨op, xa, xb, k⟩ (P.rg m xa) (P.rg m xb)), pc := m.pc + 1 } : P.M) = _; rw [HZ.out, HY.out, hr]
              clear h0 h9 h10 h11 h14 hzl hyl hr
              have hpc := HPC.out
              have hqw := HQW.out
              have kk : X6 gb w2.heap.size op xa xb k z y w4 := ⟨n0, n1, n2, n3, rA, rB⟩
              go_wp2_with fail
              refine wp_region_held_drew (S := X6 gb w2.heap.size op xa xb k z y) (by kernel_rfl) (kk.of rfl rfl) (fun hHeld => ?_)
              refine wpAnyH_take (i := 0) (v := ?_) rfl (by kernel_rfl) (by kernel_rfl) (by kernel_rfl) (fun _ _ _ h => h) (Or.inl ⟨by rfl, ?_⟩) (by assumption) ?_
              rotate_left
              · intro w hSw
                obtain ⟨x0, x1, x2, x3, x4, x5⟩ := hSw
                go_simp
                all_goals with_reducible rfl
              try simp only [Act.put]
              refine wpAnyH_take (i := 1) (v := ?_) rfl (by kernel_rfl) (by kernel_rfl) (by kernel_rfl) (fun _ _ _ h => h) (Or.inl ⟨by rfl, ?_⟩) (by assumption) ?_
              rotate_left
              · intro w hSw
                obtain ⟨x0, x1, x2, x3, x4, x5⟩ := hSw
                go_simp
                all_goals with_reducible rfl
              try simp only [Act.put]
              refine wpAnyH_take (i := 2) (v := ?_) rfl (by kernel_rfl) (by kernel_rfl) (by kernel_rfl) (fun _ _ _ h => h) (Or.inl ⟨by rfl, ?_⟩) (by assumption) ?_
              rotate_left
              · intro w hSw
                obtain ⟨x0, x1, x2, x3, x4, x5⟩ := hSw
                go_simp
                all_goals with_reducible rfl
              try simp only [Act.put]
              refine wpAnyH_take (i := 3) (v := ?_) rfl (by kernel_rfl) (by kernel_rfl) (by kernel_rfl) (fun _ _ _ h => h) (Or.inl ⟨by rfl, ?_⟩) (by assumption) ?_
              rotate_left
              · intro w hSw
                obtain ⟨x0, x1, x2, x3, x4, x5⟩ := hSw
                go_simp
                all_goals with_reducible rfl
              try simp only [Act.put]
              refine wpAnyH_take (i := 4) (v := ?_) rfl (by kernel_rfl) (by kernel_rfl) (by kernel_rfl) (fun _ _ _ h => h) (Or.inl ⟨by rfl, ?_⟩) (by assumption) ?_
              rotate_left
              · intro w hSw
                obtain ⟨x0, x1, x2, x3, x4, x5⟩ := hSw
                go_simp
                all_goals with_reducible rfl
              try simp only [Act.put]
              refine wpAnyH_take (i := 5) (v := ?_) rfl (by kernel_rfl) (by kernel_rfl) (by kernel_rfl) (fun _ _ _ h => h) (Or.inl ⟨by rfl, ?_⟩) (by assumption) ?_
              rotate_left
              · intro w hSw
                obtain ⟨x0, x1, x2, x3, x4, x5⟩ := hSw
                go_simp
                all_goals with_reducible rfl
              try simp only [Act.put]
              refine wpAnyH_take (i := 6) (v := ?_) rfl (by kernel_rfl) (by kernel_rfl) (by kernel_rfl) (fun _ _ _ h => h) (Or.inl ⟨by rfl, ?_⟩) (by assumption) ?_
              rotate_left
              · intro w hSw
                obtain ⟨x0, x1, x2, x3, x4, x5⟩ := hSw
                go_simp
                all_goals with_reducible rfl
              try simp only [Act.put]
              refine wpAnyH_take (i := 7) (v := ?_) rfl (by kernel_rfl) (by kernel_rfl) (by kernel_rfl) (fun _ _ _ h => h) (Or.inl ⟨by rfl, ?_⟩) (by assumption) ?_
              rotate_left
              · intro w hSw
                obtain ⟨x0, x1, x2, x3, x4, x5⟩ := hSw
                go_simp
                all_goals with_reducible rfl
              try simp only [Act.put]
              refine wpAnyH_take (i := 8) (v := ?_) rfl (by kernel_rfl) (by kernel_rfl) (by kernel_rfl) (fun _ _ _ h => h) (Or.inl ⟨by rfl, ?_⟩) (by assumption) ?_
              rotate_left
              · intro w hSw
                obtain ⟨x0, x1, x2, x3, x4, x5⟩ := hSw
                go_simp
                all_goals with_reducible rfl
              try simp only [Act.put]
              refine wpAnyH_take (i := 9) (v := ?_) rfl (by kernel_rfl) (by kernel_rfl) (by kernel_rfl) (fun _ _ _ h => h) (Or.inl ⟨by rfl, ?_⟩) (by assumption) ?_
              rotate_left
              · intro w hSw
                obtain ⟨x0, x1, x2, x3, x4, x5⟩ := hSw
                go_simp
                all_goals with_reducible rfl
              try simp only [Act.put]
              refine wpAnyH_take (i := 10) (v := ?_) rfl (by kernel_rfl) (by kernel_rfl) (by kernel_rfl) (fun _ _ _ h => h) (Or.inl ⟨by rfl, ?_⟩) (by assumption) ?_
              rotate_left
              · intro w hSw
                obtain ⟨x0, x1, x2, x3, x4, x5⟩ := hSw
                go_simp
                all_goals with_reducible rfl
              try simp only [Act.put]
              refine wpAnyH_ready (rs := [11]) (by kernel_rfl) (by simp) ?_
              refine AllReadyH.cons (o := _) rfl (fun K hK => ?_) AllReadyH.nil
              go_simp
              refine (HCL.out _).mono ?_
              rintro e w5 ⟨rfl, hb5⟩
              have L5 : RR W0 w5 gb (gb + 1) s.data.toList nf q m0 m := HLD.out.on hb5
              have hn5 : w5.heap[w2.heap.size]? = some (.cells #[.int .i64 op, .int .i64 xa, .int .i64 xb, .int .i64 k] 194 (0, 0)) := by rw [hb5.block _ HXL.out]; exact HN4.out
              have n05 : w5.cell? ⟨w2.heap.size, 0, none⟩ = some (.int .i64 op) := by rw [cell_of_row _ _ _ _ _ _ hn5]; rfl
              have n15 : w5.cell? ⟨w2.heap.size, 1, none⟩ = some (.int .i64 xa) := by rw [cell_of_row _ _ _ _ _ _ hn5]; rfl
              have n25 : w5.cell? ⟨w2.heap.size, 2, none⟩ = some (.int .i64 xb) := by rw [cell_of_row _ _ _ _ _ _ hn5]; rfl
              have n35 : w5.cell? ⟨w2.heap.size, 3, none⟩ = some (.int .i64 k) := by rw [cell_of_row _ _ _ _ _ _ hn5]; rfl
              have rB5 : w5.cell? ⟨gb, xb, none⟩ = some (.int .i64 y) := by rw [← HY.out]; exact L5.rg.cell L5.ok (Nat.lt_succ_of_le HOK.out.2.2.1)
              have rA5 : w5.cell? ⟨gb, xa, none⟩ = some (.int .i64 z) := by rw [← HZ.out]; exact L5.rg.cell L5.ok (Nat.lt_succ_of_le HOK.out.2.1)
              have hfz := L5.rg.fz xa
              have HL5 := hid_m L5
              clear L5 hn5 hb5 n0 n1 n2 n3 rA rB kk
              go_wp2_with fail
              refine hK.out _ _ ⟨n05, n15, n25, n35, rA5, rB5⟩ (fun hHeld3 => ?_)
              clear hK K
              try simp only [Act.put]
              refine wpAnyH_take (i := 12) (v := ?_) rfl (by kernel_rfl) (by kernel_rfl) (by kernel_rfl) (fun _ _ _ h => h) (Or.inl ⟨by rfl, ?_⟩) (by assumption) ?_
              rotate_left
              · intro w hSw
                obtain ⟨x0, x1, x2, x3, x4, x5⟩ := hSw
                go_simp
                all_goals with_reducible rfl
              try simp only [Act.put]
              refine wpAnyH_done (by kernel_rfl) ?_ _
              go_wp2_with fail
              have HLN := HL5.out.step (m' := { m with reg := m.reg.set xa r, pc := m.pc + 1 }) (w' := w5.setCell ⟨gb, xa, none⟩ (.int .i64 r)) HC.out HLT.out HL.out.1 HPL.out HXE.out H0.out.1 HSG.out (HL5.out.rg.set _) (HL5.out.mm.of (set_other (Nat.succ_ne_self gb))) (HL5.out.bel.setCell (Nat.le_refl _) _)
              refine ⟨⟨q + 1, pc + 1, { m with reg := m.reg.set xa r, pc := m.pc + 1 }, HLT.out, by first | (rw [HPC.out]; rfl) | rfl, by first | (rw [HQW.out]; exact next2_int q) | exact next2_int q, by show m.pc + 1 = _; rw [HL.out.1], HLN⟩, by first | (rw [HQW.out]; exact next2_less HLT.out) | exact next2_less HLT.out⟩
    · have hqf : q = nf := by omega
      subst hqf
      have hle : ¬ (q : Int) + 1 ≤ (q : Int) := by omega
      have HGO : Hid (P.go (P.codeOf s.data.toList) q 0 m0 = ⟨[], 0, 0, 0, 8⟩) := by unfold Hid; rw [HL.out.2.inv, Nat.sub_self, P.go_zero]
      have ko3 : wr.heap[w.heap.size]? = some (.cells #[.string ⟨#[]⟩, .int .i64 0, .int .i64 0, .int .i64 0] 56 (0, 0)) := by rw [HL.out.2.bel.block _ HGW.out]; exact HK0.out
      obtain ⟨k0, k1, k2, k3, kf⟩ := out_facts ko3
      have HK3 := hid_m ko3
      have HB3 : Hid (Below w.heap.size w wr) := HBW.out.trans (HL.out.2.bel.mono (Nat.le_of_lt HGW.out))
      clear ko3
      go_wp2_with fail
      obtain ⟨W4, hW4, z0, z1, z2, z3, hbf⟩ := out_end (.string ⟨#[]⟩) (.int .i64 0) (.int .i64 0) (.int .i64 0) HK3.out HB3.out (Nat.le_refl _)
      rw [hW4]
      refine bodyPost_ret (v := .tuple #[.agg #[.string ⟨#[]⟩, .int .i64 0, .int .i64 0, .int .i64 0], .int .i64 8]) (by simp [results, Tryz.results124, go_sem, z0, z1, z2, z3]) rfl ?_
      exact ⟨by rw [HE.out, HGO.out]; rfl, hbf⟩

end Go.Proofs.YtghggcehloiemabGreatDoor
