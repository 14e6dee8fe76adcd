import Derived.Test.YtghggcehloiemabGreatDoorMcStep2All
namespace Go.Proofs.YtghggcehloiemabGreatDoor
open Go.RowKit
set_option linter.unusedVariables false
set_option maxRecDepth 16000

theorem rg_wrap {x : Nat} (h : x < P.W32) : IntKind.i64.wrap (x : Int) = x := by unfold P.W32 at h; exact wrap_id _ (by omega) (by omega)
theorem fuel_left {q fuel : Nat} (h : q < fuel) : fuel - q = (fuel - (q + 1)) + 1 := by omega
theorem next_int {q : Nat} (hw : wrap64 ((q : Int) + 1) = (q : Int) + 1) : Value.int .i64 (wrap64 ((q : Int) + 1)) = .int .i64 ((q + 1 : Nat) : Int) := by rw [hw, Int.natCast_add]; rfl
theorem next_less' {q fuel : Nat} (h : q < fuel) (hw : wrap64 ((q : Int) + 1) = (q : Int) + 1) : fuel - (intOf (.int .i64 (wrap64 ((q : Int) + 1)))).toNat < fuel - (intOf (.int .i64 (q : Int))).toNat := by rw [hw]; simp only [intOf]; omega

set_option maxHeartbeats 4000000 in
theorem mrun_any (l : List UInt8) (hcode : P.IsCode l) (s : ByteArray) (a b c fuel : Nat) (w : World) (g N cap base : Nat) (ha : a < 4294967296) (hb : b < 4294967296) (hc : c < 4294967296) (hf : fuel ≤ 20000) (hs : s.size ≤ 2048)
    (hown : w.ownsRow base 112 4 (.slice (some ⟨g, 0, none⟩) N cap) (P.codeOf l).length (codeCells (P.codeOf l))) :
    Calls Tryz.prog 50 #[.agg #[.slice (some ⟨g, 0, none⟩) N cap], .string s, .agg #[.int .i64 a, .int .i64 b, .int .i64 c, .int .i64 fuel]] w fun e w' => e = .returned (.tuple #[outV (P.go (P.codeOf l) fuel 0 (P.start s.data.toList a b c)), .int .i64 (P.go (P.codeOf l) fuel 0 (P.start s.data.toList a b c)).err]) ∧ Below w.heap.size w w' := by
  have HOWN := hid_m hown
  have HCO := hid_m hcode
  have wa : IntKind.u32.wrap (a : Int) = a := by rw [wrap_u32]; omega
  have wb : IntKind.u32.wrap (b : Int) = b := by rw [wrap_u32]; omega
  have wc : IntKind.u32.wrap (c : Int) = c := by rw [wrap_u32]; omega
  have HFU := hid_m hf
  have HSI := hid_m hs
  have HAB := hid_m (And.intro ha (And.intro hb hc))
  clear hown hcode ha hb hc hf hs
  go_enter Tryz.func50, Tryz.ntmps50
  go_wp2_with fail
  rw [run_bytes_of_string (P := Tryz.prog) _ 9 38 5 s Tryz.underlying9 Tryz.underlying38 Tryz.underlying5]
  generalize grownCap _ s.size 0 5 = cp
  have hd := Hd.make w (.slice (some ⟨g, 0, none⟩) N cap) a b c fuel s cp
  have hsz : (((w.alloc (.cells #[.slice (some ⟨g, 0, none⟩) N cap] 75)).alloc (.cells #[.int .i64 a, .int .i64 b, .int .i64 c, .int .i64 fuel] 101)).alloc (.cells #[.string ⟨#[]⟩, .int .i64 0, .int .i64 0, .int .i64 0] 56)).heap.size = w.heap.size + 1 + 1 + 1 := by simp
  rw [hsz]
  generalize ((((w.alloc (.cells #[.slice (some ⟨g, 0, none⟩) N cap] 75)).alloc (.cells #[.int .i64 a, .int .i64 b, .int .i64 c, .int .i64 fuel] 101)).alloc (.cells #[.string ⟨#[]⟩, .int .i64 0, .int .i64 0, .int .i64 0] 56)).drew.alloc (.cells (bytesRow s cp) 5 ((bytesRow s cp).size, (bytesRow s cp).size + 1))) = wq at hd ⊢
  clear hsz
  have cs0 : wq.cell? ⟨w.heap.size + 1, 0, none⟩ = some (.int .i64 a) := by rw [cell_of_row _ _ _ _ _ _ hd.start]; rfl
  have cs1 : wq.cell? ⟨w.heap.size + 1, 1, none⟩ = some (.int .i64 b) := by rw [cell_of_row _ _ _ _ _ _ hd.start]; rfl
  have cs2 : wq.cell? ⟨w.heap.size + 1, 2, none⟩ = some (.int .i64 c) := by rw [cell_of_row _ _ _ _ _ _ hd.start]; rfl
  have cs3 : wq.cell? ⟨w.heap.size + 1, 3, none⟩ = some (.int .i64 fuel) := by rw [cell_of_row _ _ _ _ _ _ hd.start]; rfl
  have HD := hid_m hd
  have hqs := hd.size
  clear hd
  have q1 : w.heap.size + 1 < wq.heap.size := by omega
  have c0 : ∀ o, (wq.alloc o).cell? ⟨w.heap.size + 1, 0, none⟩ = some (.int .i64 a) := fun o => by rw [← cs0]; exact cell_alloc_old q1
  have c1 : ∀ o, (wq.alloc o).cell? ⟨w.heap.size + 1, 1, none⟩ = some (.int .i64 b) := fun o => by rw [← cs1]; exact cell_alloc_old q1
  have c2 : ∀ o, (wq.alloc o).cell? ⟨w.heap.size + 1, 2, none⟩ = some (.int .i64 c) := fun o => by rw [← cs2]; exact cell_alloc_old q1
  have c3 : ∀ o, (wq.alloc o).cell? ⟨w.heap.size + 1, 3, none⟩ = some (.int .i64 fuel) := fun o => by rw [← cs3]; exact cell_alloc_old q1
  clear hqs cs0 cs1 cs2 cs3 q1
  go_wp2_with fail
  have hd := HD.out
  have hqs := hd.size
  have hcl : (P.codeOf l).length = l.length / 5 := P.codeOf_length l
  obtain ⟨rb, hrb⟩ : ∃ rb, wq.heap.size = rb := ⟨_, rfl⟩
  obtain ⟨mb, hmb⟩ : ∃ mb, w.heap.size + 1 + 1 + 1 = mb := ⟨_, rfl⟩
  have hw0 : ∃ W0, wq.alloc (.cells #[.int .u32 a, .int .u32 b, .int .u32 c, .int .u32 0, .int .u32 0, .int .u32 0, .int .u32 0, .int .u32 0, .int .u32 0, .int .u32 0, .int .u32 0, .int .u32 0, .int .u32 0, .int .u32 0, .int .u32 0, .int .u32 0, .slice (some ⟨w.heap.size + 1 + 1 + 1, 0, none⟩) s.size cp, .int .i64 0] 152) = W0 := ⟨_, rfl⟩
  obtain ⟨W0, hW0⟩ := hw0
  have f1 : Below wq.heap.size wq W0 := by rw [← hW0]; exact (Below.refl _ _).alloc (Nat.le_refl _) _
  have f2 : Below w.heap.size w W0 := hd.bel.trans (f1.mono hd.bel.size)
  have r0 : RL W0 W0 rb mb cp l fuel 0 (P.start s.data.toList a b c) (P.start s.data.toList a b c) := by
    refine ⟨rfl, P.start_ok _ _ _ _ _ HAB.out.1 HAB.out.2.1 HAB.out.2.2 HCO.out.some, rfl, ?_, ?_, Below.refl _ _⟩
    · unfold Rn; rw [← hW0, ← hrb, ← hmb]
      have := heap_alloc_new wq (.cells (rnCells (P.start s.data.toList a b c) (.slice (some ⟨w.heap.size + 1 + 1 + 1, 0, none⟩) s.size cp)) 152)
      have e : (P.start s.data.toList a b c).mem.length = s.size := by simp [P.start]
      rw [e]; exact this
    · rw [← hmb]; exact hd.mm.of (f1.block _ (by omega))
  have k1 : W0.heap[w.heap.size]? = some (.cells #[.slice (some ⟨g, 0, none⟩) N cap] 75 (0, 0)) := by rw [f1.block _ (by omega)]; exact hd.code
  have k2 : W0.heap[w.heap.size + 1]? = some (.cells #[.int .i64 a, .int .i64 b, .int .i64 c, .int .i64 fuel] 101 (0, 0)) := by rw [f1.block _ (by omega)]; exact hd.start
  have k3 : W0.heap[w.heap.size + 1 + 1]? = some (.cells #[.string ⟨#[]⟩, .int .i64 0, .int .i64 0, .int .i64 0] 56 (0, 0)) := by rw [f1.block _ (by omega)]; exact hd.out
  have k4 : W0.ownsRow base 112 4 (.slice (some ⟨g, 0, none⟩) N cap) (P.codeOf l).length (codeCells (P.codeOf l)) := owns_on HOWN.out f2
  have hgl : g < w.heap.size := (HOWN.out.lt g rfl).2
  have hlt1 : w.heap.size < mb ∧ w.heap.size + 1 < mb ∧ w.heap.size + 1 + 1 < mb ∧ g < mb ∧ mb < rb := by omega
  rw [hW0, hrb, hmb]
  have HR0 := hid_m r0
  have HK1 := hid_m k1
  have HK2 := hid_m k2
  have HK3 := hid_m k3
  have HK4 := hid_m k4
  have HF2 := hid_m f2
  have HLT := hid_m hlt1
  have HCL := hid_m hcl
  clear r0 k1 k2 k3 k4 f1 f2 hlt1 hW0 hd hqs hrb hmb hgl hcl c0 c1 c2 c3 wa wb wc HD HOWN
  go_loopw [9] (fun j wr => ∃ (q : Nat) (m : P.M), q ≤ fuel ∧ j = .int .i64 q ∧ Hid (RL W0 wr rb mb cp l fuel q (P.start s.data.toList a b c) m)) (fun j _ => fuel - (intOf j).toNat)
  case atStart => exact ⟨0, _, Nat.zero_le _, rfl, HR0.out⟩
  case round =>
    obtain ⟨q, m, hq, rfl, HL⟩ := hrel
    have e3 : wr.cell? ⟨w.heap.size + 1, 3, none⟩ = some (.int .i64 fuel) := by
      rw [cell_of_row wr _ 3 _ _ _ (by rw [HL.out.bel.block _ HLT.out.2.1]; exact HK2.out)]; rfl
    by_cases hlt : q < fuel
    · obtain ⟨pc, hpc⟩ : ∃ pc, m.pc = pc := ⟨_, rfl⟩
      have hpl : pc < l.length / 5 := by rw [← hpc]; exact HL.out.ok.here
      have ec : wr.cell? ⟨w.heap.size, 0, none⟩ = some (.slice (some ⟨g, 0, none⟩) N cap) := by
        rw [cell_of_row wr _ 0 _ _ _ (by rw [HL.out.bel.block _ HLT.out.1]; exact HK1.out)]; rfl
      have ep : wr.cell? ⟨rb, 17, none⟩ = some (.int .i64 pc) := by rw [HL.out.rn.pc HL.out.ok, hpc]
      have ow : wr.ownsRow base 112 4 (.slice (some ⟨g, 0, none⟩) N cap) (P.codeOf l).length (codeCells (P.codeOf l)) := m_owns_of HK4.out (fun g' hg' => HL.out.bel.block g' (by cases hg'; exact HLT.out.2.2.2.1))
      have hx := P.codeOf_get l pc hpl
      obtain ⟨d0, d1, d2, d3, hN1, hN2⟩ := ins_cell ow rfl hx
      rw [HCL.out] at hN1
      have hpN : pc < N := by omega
      have hok := HCO.out.all pc hpl
      have hkk := (insAt_lt l pc).2.2.2
      obtain ⟨x, hxe⟩ : ∃ x, P.insAt l pc = x := ⟨_, rfl⟩
      rw [hxe] at d0 d1 d2 d3 hx hok hkk
      have HX := hid_m hx
      have HXE := hid_m hxe
      have HOKI := hid_m hok
      have HKK := hid_m hkk
      have HPC := hid_m hpc
      have HPL := hid_m hpl
      obtain ⟨op, ra, rb', k⟩ := x
      simp only at d0 d1 d2 d3
      have i0 : (0 : Int) ≤ (pc : Int) := Int.natCast_nonneg pc
      have i1 : (pc : Int) < (N : Int) := by omega
      clear hx hok hkk hpc hpl ow hN1 hN2 hpN hxe
      by_cases h0 : op = 0
      · subst h0
        have hrl := HL.out.rn.lt
        have em : ∀ o, (wr.alloc o).cell? ⟨rb, 16, none⟩ = some (.slice (some ⟨mb, 0, none⟩) m.mem.length cp) := fun o => by rw [cell_alloc_old hrl, HL.out.len]; exact HL.out.rn.mem HL.out.ok
        have er : ∀ o, (wr.alloc o).cell? ⟨rb, 0, none⟩ = some (.int .u32 (P.rg m 0)) := fun o => by rw [cell_alloc_old hrl]; exact HL.out.rn.reg HL.out.ok (by decide)
        have hml := HL.out.mm.lt
        have hcv : ∀ o, (convert 38 9 (.slice (some ⟨mb, 0, none⟩) m.mem.length cp)).run Tryz.prog (wr.alloc o) = .ok (.string ⟨m.mem.toArray⟩) (wr.alloc o) := fun o => conv_mem (HL.out.mm.of (alloc_old hml))
        have hko : ∀ o, (wr.alloc o).heap[w.heap.size + 1 + 1]? = some (.cells #[.string ⟨#[]⟩, .int .i64 0, .int .i64 0, .int .i64 0] 56 (0, 0)) := fun o => by
          rw [alloc_old (Nat.lt_trans HLT.out.2.2.1 hml), HL.out.bel.block _ HLT.out.2.2.1]; exact HK3.out
        have o0 : ∀ o, (wr.alloc o).cell? ⟨w.heap.size + 1 + 1, 0, none⟩ = some (.string ⟨#[]⟩) := fun o => by rw [cell_of_row _ _ _ _ _ _ (hko o)]; rfl
        have o1 : ∀ o, (wr.alloc o).cell? ⟨w.heap.size + 1 + 1, 1, none⟩ = some (.int .i64 0) := fun o => by rw [cell_of_row _ _ _ _ _ _ (hko o)]; rfl
        have o2 : ∀ o, (wr.alloc o).cell? ⟨w.heap.size + 1 + 1, 2, none⟩ = some (.int .i64 0) := fun o => by rw [cell_of_row _ _ _ _ _ _ (hko o)]; rfl
        have o3 : ∀ o, (wr.alloc o).cell? ⟨w.heap.size + 1 + 1, 3, none⟩ = some (.int .i64 0) := fun o => by rw [cell_of_row _ _ _ _ _ _ (hko o)]; rfl
        have of : ∀ o j, (wr.alloc o).frozen? ⟨w.heap.size + 1 + 1, j, none⟩ = false := fun o j => by simp [World.frozen?, hko o]
        have hqw := w64_next q fuel hlt HFU.out
        have hrw : IntKind.i64.wrap (P.rg m 0 : Int) = P.rg m 0 := rg_wrap (P.rg_lt HL.out.ok 0)
        have HGO : Hid (P.go (P.codeOf l) fuel 0 (P.start s.data.toList a b c) = ⟨m.mem, P.rg m 0, k, q + 1, 0⟩) := by
          unfold Hid; rw [HL.out.inv, fuel_left hlt]; exact P.go_end (by rw [HPC.out]; exact HX.out) rfl
        have HKO := hid_m hko
        have HBF : Hid (∀ o, Below w.heap.size w (wr.alloc o)) := fun o => (HF2.out.trans (HL.out.bel.mono (Nat.le_of_lt HLT.out.1))).alloc (Nat.le_of_lt (Nat.lt_trans HLT.out.1 hml)) _
        clear hrl hml hko
        go_wp2_with fail
        obtain ⟨W4, hW4, z0, z1, z2, z3, hbf⟩ := out_end (.string ⟨m.mem.toArray⟩) (.int .i64 (P.rg m 0)) (.int .i64 k) (.int .i64 ((q : Int) + 1)) (HKO.out _) (HBF.out _) (Nat.le_succ_of_le (Nat.le_succ _))
        rw [hW4]
        refine bodyPost_ret (v := .tuple #[.agg #[.string ⟨m.mem.toArray⟩, .int .i64 (P.rg m 0), .int .i64 k, .int .i64 ((q : Int) + 1)], .int .i64 0]) (by simp [results, Tryz.results50, go_sem, z0, z1, z2, z3]) rfl ?_
        exact ⟨by rw [HGO.out]; rfl, hbf⟩
      · have h0' : ((op : Int) == 0) = false := by rw [beq_eq_false_iff_ne]; omega
        have HO0 := hid_m h0
        clear h0
        go_wp2_with fail
        have hrl := HL.out.rn.lt
        have hml := HL.out.mm.lt
        have hlen := HL.out.len
        have hrn := HL.out.rn
        rw [← hlen] at hrn
        refine (mstep_any ⟨op, ra, rb', k⟩ m rb mb cp mb (l.length / 5) (l.length / 5) _ HO0.out HOKI.out HKK.out HL.out.ok HCO.out.few (Nat.ne_of_gt HLT.out.2.2.2.2) (Nat.le_of_lt HLT.out.2.2.2.2) (Nat.le_refl _) (hrn.of (alloc_old hrl)) (HL.out.mm.of (alloc_old hml))).mono ?_
        rintro e w2 ⟨hpost, hb2⟩
        have hbel : Below mb W0 w2 := (HL.out.bel.alloc (by omega) _).trans hb2
        have HBL := hid_m hbel
        have HHL := hid_m hlen
        clear hb2 hbel hrl hml hrn hlen d0 d1 d2 d3 ec ep
        have hstep : (∃ m', P.step ⟨op, ra, rb', k⟩ m = some m') ∨ P.step ⟨op, ra, rb', k⟩ m = none := by
          cases P.step ⟨op, ra, rb', k⟩ m with
          | none => exact .inr rfl
          | some m' => exact .inl ⟨m', rfl⟩
        rcases hstep with ⟨m', hst⟩ | hst
        · rw [hst] at hpost
          obtain ⟨rfl, hr', hm'⟩ := hpost
          have HRR := hid_m hr'
          have HMM := hid_m hm'
          have HST := hid_m hst
          have hqw := w64_next q fuel hlt HFU.out
          clear hr' hm' hst e3
          go_wp2_with fail
          refine ⟨⟨q + 1, m', hlt, next_int hqw, ?_⟩, next_less' hlt hqw⟩
          refine ⟨?_, P.step_ok HCO.out HPL.out HL.out.ok HPC.out (by rw [HXE.out]; exact HO0.out) (by rw [HXE.out]; exact HST.out), (P.step_mem HST.out).trans HHL.out, by rw [← HHL.out]; exact HRR.out, HMM.out, HBL.out⟩
          rw [HL.out.inv, fuel_left hlt]; exact P.go_step (by rw [HPC.out]; exact HX.out) HO0.out HST.out
        · rw [hst] at hpost
          subst hpost
          have HGO : Hid (P.go (P.codeOf l) fuel 0 (P.start s.data.toList a b c) = ⟨[], 0, 0, 0, 7⟩) := by
            unfold Hid; rw [HL.out.inv, fuel_left hlt]; exact P.go_bad (by rw [HPC.out]; exact HX.out) HO0.out hst
          clear hst e3
          have ko : w2.heap[w.heap.size + 1 + 1]? = some (.cells #[.string ⟨#[]⟩, .int .i64 0, .int .i64 0, .int .i64 0] 56 (0, 0)) := by rw [HBL.out.block _ HLT.out.2.2.1]; exact HK3.out
          have o0 : w2.cell? ⟨w.heap.size + 1 + 1, 0, none⟩ = some (.string ⟨#[]⟩) := by rw [cell_of_row _ _ _ _ _ _ ko]; rfl
          have o1 : w2.cell? ⟨w.heap.size + 1 + 1, 1, none⟩ = some (.int .i64 0) := by rw [cell_of_row _ _ _ _ _ _ ko]; rfl
          have o2 : w2.cell? ⟨w.heap.size + 1 + 1, 2, none⟩ = some (.int .i64 0) := by rw [cell_of_row _ _ _ _ _ _ ko]; rfl
          have o3 : w2.cell? ⟨w.heap.size + 1 + 1, 3, none⟩ = some (.int .i64 0) := by rw [cell_of_row _ _ _ _ _ _ ko]; rfl
          have of : ∀ j, w2.frozen? ⟨w.heap.size + 1 + 1, j, none⟩ = false := fun j => by simp [World.frozen?, ko]
          have HKO := hid_m ko
          have HBF : Hid (Below w.heap.size w w2) := HF2.out.trans (HBL.out.mono (Nat.le_of_lt HLT.out.1))
          clear ko
          go_wp2_with fail
          have z := out4 (.string ⟨#[]⟩) (.int .i64 0) (.int .i64 0) (.int .i64 0) HKO.out
          obtain ⟨W4, hW4⟩ : ∃ W4, ((((w2.setCell ⟨w.heap.size + 1 + 1, 0, none⟩ (.string ⟨#[]⟩)).setCell ⟨w.heap.size + 1 + 1, 1, none⟩ (.int .i64 0)).setCell ⟨w.heap.size + 1 + 1, 2, none⟩ (.int .i64 0)).setCell ⟨w.heap.size + 1 + 1, 3, none⟩ (.int .i64 0)) = W4 := ⟨_, rfl⟩
          have hbf : Below w.heap.size w W4 := by rw [← hW4]; exact out_below _ _ _ _ HBF.out (Nat.le_succ_of_le (Nat.le_succ _))
          rw [hW4] at z ⊢
          have z0 : W4.cell? ⟨w.heap.size + 1 + 1, 0, none⟩ = some (.string ⟨#[]⟩) := by rw [cell_of_row _ _ _ _ _ _ z]; rfl
          have z1 : W4.cell? ⟨w.heap.size + 1 + 1, 1, none⟩ = some (.int .i64 0) := by rw [cell_of_row _ _ _ _ _ _ z]; rfl
          have z2 : W4.cell? ⟨w.heap.size + 1 + 1, 2, none⟩ = some (.int .i64 0) := by rw [cell_of_row _ _ _ _ _ _ z]; rfl
          have z3 : W4.cell? ⟨w.heap.size + 1 + 1, 3, none⟩ = some (.int .i64 0) := by rw [cell_of_row _ _ _ _ _ _ z]; rfl
          refine bodyPost_ret (v := .tuple #[.agg #[.string ⟨#[]⟩, .int .i64 0, .int .i64 0, .int .i64 0], .int .i64 7]) (by simp [results, Tryz.results50, go_sem, z0, z1, z2, z3]) rfl ?_
          exact ⟨by rw [HGO.out]; rfl, hbf⟩
    · have hqf : q = fuel := by omega
      subst hqf
      have HGO : Hid (P.go (P.codeOf l) q 0 (P.start s.data.toList a b c) = ⟨[], 0, 0, 0, 8⟩) := by unfold Hid; rw [HL.out.inv, Nat.sub_self, P.go_zero]
      have ko : wr.heap[w.heap.size + 1 + 1]? = some (.cells #[.string ⟨#[]⟩, .int .i64 0, .int .i64 0, .int .i64 0] 56 (0, 0)) := by rw [HL.out.bel.block _ HLT.out.2.2.1]; exact HK3.out
      have o0 : wr.cell? ⟨w.heap.size + 1 + 1, 0, none⟩ = some (.string ⟨#[]⟩) := by rw [cell_of_row _ _ _ _ _ _ ko]; rfl
      have o1 : wr.cell? ⟨w.heap.size + 1 + 1, 1, none⟩ = some (.int .i64 0) := by rw [cell_of_row _ _ _ _ _ _ ko]; rfl
      have o2 : wr.cell? ⟨w.heap.size + 1 + 1, 2, none⟩ = some (.int .i64 0) := by rw [cell_of_row _ _ _ _ _ _ ko]; rfl
      have o3 : wr.cell? ⟨w.heap.size + 1 + 1, 3, none⟩ = some (.int .i64 0) := by rw [cell_of_row _ _ _ _ _ _ ko]; rfl
      have of : ∀ j, wr.frozen? ⟨w.heap.size + 1 + 1, j, none⟩ = false := fun j => by simp [World.frozen?, ko]
      have HKO := hid_m ko
      have HBF : Hid (Below w.heap.size w wr) := HF2.out.trans (HL.out.bel.mono (Nat.le_of_lt HLT.out.1))
      clear ko
      go_wp2_with fail
      have z := out4 (.string ⟨#[]⟩) (.int .i64 0) (.int .i64 0) (.int .i64 0) HKO.out
      obtain ⟨W4, hW4⟩ : ∃ W4, ((((wr.setCell ⟨w.heap.size + 1 + 1, 0, none⟩ (.string ⟨#[]⟩)).setCell ⟨w.heap.size + 1 + 1, 1, none⟩ (.int .i64 0)).setCell ⟨w.heap.size + 1 + 1, 2, none⟩ (.int .i64 0)).setCell ⟨w.heap.size + 1 + 1, 3, none⟩ (.int .i64 0)) = W4 := ⟨_, rfl⟩
      have hbf : Below w.heap.size w W4 := by rw [← hW4]; exact out_below _ _ _ _ HBF.out (Nat.le_succ_of_le (Nat.le_succ _))
      rw [hW4] at z ⊢
      have z0 : W4.cell? ⟨w.heap.size + 1 + 1, 0, none⟩ = some (.string ⟨#[]⟩) := by rw [cell_of_row _ _ _ _ _ _ z]; rfl
      have z1 : W4.cell? ⟨w.heap.size + 1 + 1, 1, none⟩ = some (.int .i64 0) := by rw [cell_of_row _ _ _ _ _ _ z]; rfl
      have z2 : W4.cell? ⟨w.heap.size + 1 + 1, 2, none⟩ = some (.int .i64 0) := by rw [cell_of_row _ _ _ _ _ _ z]; rfl
      have z3 : W4.cell? ⟨w.heap.size + 1 + 1, 3, none⟩ = some (.int .i64 0) := by rw [cell_of_row _ _ _ _ _ _ z]; rfl
      refine bodyPost_ret (v := .tuple #[.agg #[.string ⟨#[]⟩, .int .i64 0, .int .i64 0, .int .i64 0], .int .i64 8]) (by simp [results, Tryz.results50, go_sem, z0, z1, z2, z3]) rfl ?_
      exact ⟨by rw [HGO.out]; rfl, hbf⟩
end Go.Proofs.YtghggcehloiemabGreatDoor
