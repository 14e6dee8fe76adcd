import Derived.Test.YtghggcehloiemabGreatDoorPrCAll
import Derived.Test.YtghggcehloiemabGreatDoorPrK
import Derived.Test.YtghggcehloiemabGreatDoorLayWAll
import Derived.Deep.RegionHeld3
namespace Go.Proofs.YtghggcehloiemabGreatDoor
open Go.RowKit
set_option linter.unusedVariables false
set_option maxRecDepth 16000
/-- A type's parts lie in memory, below block b. -/
structure Sh (w : World) (b : Nat) (v : Value) (t : P.Ty 4) : Prop where
  own : ∃ base, w.ownsRow base 145 4 v (P.parts 4 t).length (cellsOf (P.parts 4 t))
  low : ∀ g, v.ownBlock = some g → g < b
theorem Sh.on {w w' : World} {b : Nat} {v : Value} {t : P.Ty 4} (h : Sh w b v t) (hb : Below b w w') : Sh w' b v t := by
  obtain ⟨⟨base, ho⟩, hl⟩ := h
  exact ⟨⟨base, m_owns_of ho (fun g hg => hb.block g (hl g hg))⟩, hl⟩
theorem Sh.of {w w' : World} {b : Nat} {v : Value} {t : P.Ty 4} (h : Sh w b v t) (hs : ∀ g, v.ownBlock = some g → w'.heap[g]? = w.heap[g]?) : Sh w' b v t := by
  obtain ⟨⟨base, ho⟩, hl⟩ := h
  exact ⟨⟨base, m_owns_of ho hs⟩, hl⟩
theorem Kp.of {w w' : World} {b : Nat} {v : Value} {kp : List Nat} (h : Kp w b v kp) (hs : ∀ g, v.ownBlock = some g → w'.heap[g]? = w.heap[g]?) : Kp w' b v kp := by
  obtain ⟨⟨base, ho⟩, hl⟩ := h
  exact ⟨⟨base, m_owns_of ho hs⟩, hl⟩
theorem Sh.up {w : World} {b b' : Nat} {v : Value} {t : P.Ty 4} (h : Sh w b v t) (hb : b ≤ b') : Sh w b' v t := ⟨h.own, fun g hg => Nat.lt_of_lt_of_le (h.low g hg) hb⟩
theorem Kp.up {w : World} {b b' : Nat} {v : Value} {kp : List Nat} (h : Kp w b v kp) (hb : b ≤ b') : Kp w b' v kp := ⟨h.own, fun g hg => Nat.lt_of_lt_of_le (h.low g hg) hb⟩
/-- A type that was read: what is known of it. -/
structure Known (t : P.Ty 4) : Prop where
  sz1 : 1 ≤ (P.sz 4 t).1
  sz32 : (P.sz 4 t).1 ≤ 32
  few : (P.parts 4 t).length ≤ 80
  ok : ∀ x ∈ P.parts 4 t, P.PtOk (P.sz 4 t).1 x
  inc : P.Inc (P.parts 4 t) 0 (P.sz 4 t).1
  pos : 1 ≤ (P.cov (P.parts 4 t)).length
theorem known_of {l : List UInt8} {t : P.Ty 4} (h : P.tyOf l = some t) : Known t := by
  obtain ⟨hrd, h32, h80⟩ := tyOf_some h
  obtain ⟨hfine, hplen⟩ := P.rd_fine 4 _ t [] hrd
  have htr := P.rd_tr 4 _ t [] hrd
  exact ⟨hfine.2.1, h32, by simp only [List.length_nil, Nat.add_zero] at hplen; omega, hfine.2.2, P.inc_parts 4 t htr, P.cov_pos 4 t htr⟩
theorem Known.covl {t : P.Ty 4} (h : Known t) : (P.cov (P.parts 4 t)).length ≤ (P.sz 4 t).1 := by have := P.cov_len h.inc; omega
theorem Known.cov32 {t : P.Ty 4} (h : Known t) : ∀ x ∈ P.cov (P.parts 4 t), x < 32 := fun x hx => by have := (P.cov_bounds h.inc x hx).2; have := h.sz32; omega

/-- Two types lie in memory as parameters. -/
def X2 (b0 b1 : Nat) (a1 a2 a3 a4 a5 a6 : Value) (w : World) : Prop := w.cell? ⟨b0, 0, none⟩ = some a1 ∧ w.cell? ⟨b0, 1, none⟩ = some a2 ∧ w.cell? ⟨b0, 2, none⟩ = some a3 ∧ w.cell? ⟨b1, 0, none⟩ = some a4 ∧ w.cell? ⟨b1, 1, none⟩ = some a5 ∧ w.cell? ⟨b1, 2, none⟩ = some a6
/-- And room for a plan. -/
structure X3 (b0 b1 b2 : Nat) (a1 a2 a3 a4 a5 a6 : Value) (w : World) : Prop where
  k : w.heap[b0]? = some (.cells #[a1, a2, a3] 62 (0, 0))
  v : w.heap[b1]? = some (.cells #[a4, a5, a6] 62 (0, 0))
  r : w.heap[b2]? = some (.cells #[.slice none 0 0, .slice none 0 0, .int .i64 0] 65 (0, 0))
theorem X3.x2 {b0 b1 b2 : Nat} {a1 a2 a3 a4 a5 a6 : Value} {w : World} (h : X3 b0 b1 b2 a1 a2 a3 a4 a5 a6 w) : X2 b0 b1 a1 a2 a3 a4 a5 a6 w := by
  obtain ⟨c0, c1, c2, _, _, _⟩ := cells3 h.k
  obtain ⟨d0, d1, d2, _, _, _⟩ := cells3 h.v
  exact ⟨c0, c1, c2, d0, d1, d2⟩
theorem X3.on {b0 b1 b2 : Nat} {a1 a2 a3 a4 a5 a6 : Value} {w w' : World} (h : X3 b0 b1 b2 a1 a2 a3 a4 a5 a6 w) (hb : Below w.heap.size w w') : X3 b0 b1 b2 a1 a2 a3 a4 a5 a6 w' :=
  ⟨by rw [hb.block _ (m_blk_lt h.k)]; exact h.k, by rw [hb.block _ (m_blk_lt h.v)]; exact h.v, by rw [hb.block _ (m_blk_lt h.r)]; exact h.r⟩
theorem X3.set {b0 b1 b2 : Nat} {a1 a2 a3 a4 a5 a6 : Value} {w : World} (h : X3 b0 b1 b2 a1 a2 a3 a4 a5 a6 w) (x y z : Value) (h0 : b0 ≠ b2) (h1 : b1 ≠ b2) : X2 b0 b1 a1 a2 a3 a4 a5 a6 (((w.setCell ⟨b2, 0, none⟩ x).setCell ⟨b2, 1, none⟩ y).setCell ⟨b2, 2, none⟩ z) ∧ (((w.setCell ⟨b2, 0, none⟩ x).setCell ⟨b2, 1, none⟩ y).setCell ⟨b2, 2, none⟩ z).heap[b2]? = some (.cells #[x, y, z] 65 (0, 0)) := by
  have e : ∀ g, g ≠ b2 → (((w.setCell ⟨b2, 0, none⟩ x).setCell ⟨b2, 1, none⟩ y).setCell ⟨b2, 2, none⟩ z).heap[g]? = w.heap[g]? := fun g hg => by rw [set_other hg, set_other hg, set_other hg]
  have hk := h.k
  have hv := h.v
  rw [← e b0 h0] at hk
  rw [← e b1 h1] at hv
  obtain ⟨c0, c1, c2, _, _, _⟩ := cells3 hk
  obtain ⟨d0, d1, d2, _, _, _⟩ := cells3 hv
  exact ⟨⟨c0, c1, c2, d0, d1, d2⟩, by simp [World.setCell, Array.getElem?_modify, h.r]⟩
theorem X3.make (w : World) (a1 a2 a3 a4 a5 a6 : Value) : X3 w.heap.size (w.heap.size + 1) (w.heap.size + 1 + 1) a1 a2 a3 a4 a5 a6 (((w.alloc (.cells #[a1, a2, a3] 62)).alloc (.cells #[a4, a5, a6] 62)).alloc (.cells #[.slice none 0 0, .slice none 0 0, .int .i64 0] 65)) := by
  refine ⟨?_, ?_, ?_⟩
  · rw [Below.heap_alloc _ _ _ (by simp; omega), Below.heap_alloc _ _ _ (by simp)]; exact heap_alloc_new _ _
  · rw [Below.heap_alloc _ _ _ (by simp), show w.heap.size + 1 = (w.alloc (.cells #[a1, a2, a3] 62)).heap.size by simp]; exact heap_alloc_new _ _
  · rw [show w.heap.size + 1 + 1 = ((w.alloc (.cells #[a1, a2, a3] 62)).alloc (.cells #[a4, a5, a6] 62)).heap.size by simp]; exact heap_alloc_new _ _
set_option maxHeartbeats 4000000 in
theorem make_any {w : World} (tk tv : P.Ty 4) (vk vv : Value) (slots : Int) (hk : Known tk) (hv : Known tv) (sk : Sh w w.heap.size vk tk) (sv : Sh w w.heap.size vv tv) (hsl : 1 ≤ slots ∧ slots ≤ 16) :
    Calls Tryz.prog 53 #[.agg #[.int .i64 (P.sz 4 tk).1, .int .i64 (P.sz 4 tk).2, vk], .agg #[.int .i64 (P.sz 4 tv).1, .int .i64 (P.sz 4 tv).2, vv], .int .i64 slots] w fun e w' => ∃ kv' vv', e = .returned (.tuple #[.agg #[kv', vv', .int .i64 slots], .bool true]) ∧ Kp w' w'.heap.size kv' (P.cov (P.parts 4 tk)) ∧ Kp w' w'.heap.size vv' (P.cov (P.parts 4 tv)) ∧ (∀ g, kv'.ownBlock = some g ∨ vv'.ownBlock = some g → w.heap.size ≤ g) ∧ Below w.heap.size w w' := by
  obtain ⟨h1, h2⟩ := hsl
  obtain ⟨bk, hok⟩ := sk.own
  obtain ⟨bv, hov⟩ := sv.own
  obtain ⟨ak, Nk, ck, rfl⟩ := owns_slice hok
  obtain ⟨av, Nv, cv, rfl⟩ := owns_slice hov
  have HSK := hid_m sk
  have HSV := hid_m sv
  have HK := hid_m hk
  have HV := hid_m hv
  obtain ⟨z1, hz1⟩ : ∃ z, (P.sz 4 tk).1 = z := ⟨_, rfl⟩
  obtain ⟨z2, hz2⟩ : ∃ z, (P.sz 4 tk).2 = z := ⟨_, rfl⟩
  obtain ⟨z3, hz3⟩ : ∃ z, (P.sz 4 tv).1 = z := ⟨_, rfl⟩
  obtain ⟨z4, hz4⟩ : ∃ z, (P.sz 4 tv).2 = z := ⟨_, rfl⟩
  rw [hz1, hz2, hz3, hz4]
  have Z1 := hid_m hz1
  have Z3 := hid_m hz3
  clear sk sv hk hv hok hov hz1 hz2 hz3 hz4
  go_enter Tryz.func53, Tryz.ntmps53
  go_wp2_with fail
  have x3 := X3.make w (.int .i64 z1) (.int .i64 z2) (.slice ak Nk ck) (.int .i64 z3) (.int .i64 z4) (.slice av Nv cv)
  have hbA : Below w.heap.size w (((w.alloc (.cells #[.int .i64 z1, .int .i64 z2, .slice ak Nk ck] 62)).alloc (.cells #[.int .i64 z3, .int .i64 z4, .slice av Nv cv] 62)).alloc (.cells #[.slice none 0 0, .slice none 0 0, .int .i64 0] 65)) := (((Below.refl _ _).alloc (Nat.le_refl _) _).alloc (by simp) _).alloc (by simp; omega) _
  obtain ⟨W, hW⟩ : ∃ W, (((w.alloc (.cells #[.int .i64 z1, .int .i64 z2, .slice ak Nk ck] 62)).alloc (.cells #[.int .i64 z3, .int .i64 z4, .slice av Nv cv] 62)).alloc (.cells #[.slice none 0 0, .slice none 0 0, .int .i64 0] 65)) = W := ⟨_, rfl⟩
  rw [hW] at x3 hbA ⊢
  clear hW
  obtain ⟨b0, hb0⟩ : ∃ b, w.heap.size = b := ⟨_, rfl⟩
  rw [hb0] at x3
  obtain ⟨b1, hb1⟩ : ∃ b, b0 + 1 = b := ⟨_, rfl⟩
  rw [hb1] at x3
  obtain ⟨b2, hb2⟩ : ∃ b, b1 + 1 = b := ⟨_, rfl⟩
  rw [hb2] at x3
  rw [show w.heap.size + 1 + 1 = b2 by omega, show w.heap.size + 1 = b1 by omega, show (Value.pointer (some ⟨w.heap.size, 0, none⟩)) = .pointer (some ⟨b0, 0, none⟩) by rw [hb0]]
  have HX := hid_m x3
  have HBA := hid_m hbA
  have HB2 : Hid (w.heap.size ≤ b2 ∧ b0 ≠ b2 ∧ b1 ≠ b2) := by unfold Hid; omega
  have kk := x3.x2
  have hd : ∀ w, X2 b0 b1 (.int .i64 z1) (.int .i64 z2) (.slice ak Nk ck) (.int .i64 z3) (.int .i64 z4) (.slice av Nv cv) w → X2 b0 b1 (.int .i64 z1) (.int .i64 z2) (.slice ak Nk ck) (.int .i64 z3) (.int .i64 z4) (.slice av Nv cv) w.drew := fun _ h => h
  have HD := hid_m (hd W kk)
  clear x3 hbA hb0 hb1 hb2 kk hd
  refine wp_region_held_drew (S := X2 b0 b1 (.int .i64 z1) (.int .i64 z2) (.slice ak Nk ck) (.int .i64 z3) (.int .i64 z4) (.slice av Nv cv)) (by kernel_rfl) HD.out (fun hHeld => ?_)
  refine wpAnyH_take (i := 0) (v := ?_) rfl (by kernel_rfl) (by kernel_rfl) (by kernel_rfl) (fun _ _ _ h => h) (Or.inl ⟨by rfl, ?_⟩) (by assumption) ?_
  rotate_left
  · intro w hSw
    obtain ⟨x0, x1, x2, x3, x4, x5⟩ := hSw
    go_simp
    all_goals with_reducible rfl
  try simp only [Act.put]
  refine wpAnyH_take (i := 2) (v := ?_) rfl (by kernel_rfl) (by kernel_rfl) (by kernel_rfl) (fun _ _ _ h => h) (Or.inl ⟨by rfl, ?_⟩) (by assumption) ?_
  rotate_left
  · intro w hSw
    obtain ⟨x0, x1, x2, x3, x4, x5⟩ := hSw
    go_simp
    all_goals with_reducible rfl
  try simp only [Act.put]
  refine wpAnyH_take (i := 4) (v := ?_) rfl (by kernel_rfl) (by kernel_rfl) (by kernel_rfl) (fun _ _ _ h => h) (Or.inl ⟨by rfl, ?_⟩) (by assumption) ?_
  rotate_left
  · intro w hSw
    obtain ⟨x0, x1, x2, x3, x4, x5⟩ := hSw
    go_simp
    all_goals with_reducible rfl
  try simp only [Act.put]
  refine wpAnyH_ready (rs := [1]) (by kernel_rfl) (by simp) ?_
  refine AllReadyH.cons (o := _) rfl (fun K hK => ?_) AllReadyH.nil
  go_simp
  have bd : Below w.heap.size w W.drew := HBA.out.drew
  obtain ⟨bk', ok'⟩ := (HSK.out.on bd).own
  refine (covered_any W.drew z1 z2 bk' (.slice ak Nk ck) (P.parts 4 tk) ok' (by rw [← Z1.out]; exact HK.out.sz32) HK.out.few (by rw [← Z1.out]; exact HK.out.ok) (by rw [← Z1.out]; exact HK.out.inc)).mono ?_
  rintro e w1 ⟨v1, rfl, ow1, hb1⟩
  have hxd : X3 b0 b1 b2 (.int .i64 z1) (.int .i64 z2) (.slice ak Nk ck) (.int .i64 z3) (.int .i64 z4) (.slice av Nv cv) W.drew := ⟨HX.out.k, HX.out.v, HX.out.r⟩
  have X1 := hid_m (hxd.on hb1)
  have B1 := hid_m (bd.trans (hb1.mono bd.size))
  have O1 := hid_m ow1
  obtain ⟨a1, N1, c1, rfl⟩ := owns_slice ow1
  clear ow1 hb1 ok' bd
  go_wp2_with fail
  refine hK.out _ _ X1.out.x2 (fun hHeld1 => ?_)
  clear hK K
  try simp only [Act.put]
  refine wpAnyH_ready (rs := [3]) (by kernel_rfl) (by simp) ?_
  refine AllReadyH.cons (o := _) rfl (fun K hK => ?_) AllReadyH.nil
  go_simp
  obtain ⟨bv', ov'⟩ := (HSV.out.on B1.out).own
  refine (covered_any w1 z3 z4 bv' (.slice av Nv cv) (P.parts 4 tv) ov' (by rw [← Z3.out]; exact HV.out.sz32) HV.out.few (by rw [← Z3.out]; exact HV.out.ok) (by rw [← Z3.out]; exact HV.out.inc)).mono ?_
  rintro e w2 ⟨v2, rfl, ow2, hb2⟩
  have X2' := hid_m (X1.out.on hb2)
  have B2 := hid_m (B1.out.trans (hb2.mono B1.out.size))
  have O2 := hid_m ow2
  have O12 := hid_m (owns_on O1.out hb2)
  obtain ⟨a2, N2, c2, rfl⟩ := owns_slice ow2
  clear ow2 hb2 ov'
  go_wp2_with fail
  refine hK.out _ _ X2'.out.x2 (fun hHeld2 => ?_)
  clear hK K
  try simp only [Act.put]
  refine wpAnyH_ready (rs := [5]) (by kernel_rfl) (by simp) ?_
  refine AllReadyH.cons (o := _) rfl (fun K hK => ?_) AllReadyH.nil
  go_simp
  refine hK.out _ _ X2'.out.x2 (fun hHeld3 => ?_)
  clear hK K
  try simp only [Act.put]
  refine wpAnyH_ready (rs := [6]) (by kernel_rfl) (by simp) ?_
  refine AllReadyH.cons (o := _) rfl (fun K hK => ?_) AllReadyH.nil
  obtain ⟨r0, r1, r2, f0, f1, f2⟩ := cells3 X2'.out.r
  go_simp
  obtain ⟨hs1, hs2⟩ := X2'.out.set (.slice a1 N1 c1) (.slice a2 N2 c2) (.int .i64 slots) HB2.out.2.1 HB2.out.2.2
  have hlt2 := m_blk_lt X2'.out.r
  have hlW := m_blk_lt HX.out.r
  have hw1 := B1.out.size
  have k1 : Kp (((w2.setCell ⟨b2, 0, none⟩ (.slice a1 N1 c1)).setCell ⟨b2, 1, none⟩ (.slice a2 N2 c2)).setCell ⟨b2, 2, none⟩ (.int .i64 slots)) w2.heap.size (.slice a1 N1 c1) (P.cov (P.parts 4 tk)) := by
    refine ⟨⟨_, m_owns_of O12.out (fun g hg => ?_)⟩, fun g hg => (O12.out.lt g hg).2⟩
    have := (O12.out.lt g hg).1
    have hne : g ≠ b2 := by simp at this; omega
    rw [set_other hne, set_other hne, set_other hne]
  have k2 : Kp (((w2.setCell ⟨b2, 0, none⟩ (.slice a1 N1 c1)).setCell ⟨b2, 1, none⟩ (.slice a2 N2 c2)).setCell ⟨b2, 2, none⟩ (.int .i64 slots)) w2.heap.size (.slice a2 N2 c2) (P.cov (P.parts 4 tv)) := by
    refine ⟨⟨_, m_owns_of O2.out (fun g hg => ?_)⟩, fun g hg => (O2.out.lt g hg).2⟩
    have := (O2.out.lt g hg).1
    have hne : g ≠ b2 := by have := m_blk_lt X1.out.r; omega
    rw [set_other hne, set_other hne, set_other hne]
  have LO : Hid (∀ g, (Value.slice a1 N1 c1).ownBlock = some g ∨ (Value.slice a2 N2 c2).ownBlock = some g → w.heap.size ≤ g) := by
    intro g hg
    have hA := HBA.out.size
    rcases hg with hg | hg
    · have := (O12.out.lt g hg).1; simp at this; omega
    · have := (O2.out.lt g hg).1; omega
  have b3 : Below w.heap.size w (((w2.setCell ⟨b2, 0, none⟩ (.slice a1 N1 c1)).setCell ⟨b2, 1, none⟩ (.slice a2 N2 c2)).setCell ⟨b2, 2, none⟩ (.int .i64 slots)) := ((B2.out.setCell HB2.out.1 _).setCell HB2.out.1 _).setCell HB2.out.1 _
  have z3' : (((w2.setCell ⟨b2, 0, none⟩ (.slice a1 N1 c1)).setCell ⟨b2, 1, none⟩ (.slice a2 N2 c2)).setCell ⟨b2, 2, none⟩ (.int .i64 slots)).heap.size = w2.heap.size := by simp [World.setCell]
  obtain ⟨w3, hw3⟩ : ∃ w3, (((w2.setCell ⟨b2, 0, none⟩ (.slice a1 N1 c1)).setCell ⟨b2, 1, none⟩ (.slice a2 N2 c2)).setCell ⟨b2, 2, none⟩ (.int .i64 slots)) = w3 := ⟨_, rfl⟩
  rw [hw3] at hs1 hs2 k1 k2 b3 z3' ⊢
  rw [← z3'] at k1 k2
  clear hw3 r0 r1 r2 f0 f1 f2 hlt2 hlW hw1 z3' X2' X1 HX
  refine hK.out _ _ hs1 (fun hHeld4 => ?_)
  clear hK K
  try simp only [Act.put]
  refine wpAnyH_ready (rs := [7]) (by kernel_rfl) (by simp) ?_
  refine AllReadyH.cons (o := _) rfl (fun K hK => ?_) AllReadyH.nil
  go_simp
  refine hK.out _ _ hs1 (fun hHeld5 => ?_)
  clear hK K
  try simp only [Act.put]
  refine wpAnyH_done (by kernel_rfl) ?_ _
  obtain ⟨q0, q1, q2, _, _, _⟩ := cells3 hs2
  have K1 := hid_m k1
  have K2 := hid_m k2
  have B3 := hid_m b3
  clear k1 k2 b3 hs1 hs2
  go_wp2_with fail
  refine bodyPost_ret (v := .tuple #[.agg #[.slice a1 N1 c1, .slice a2 N2 c2, .int .i64 slots], .bool true]) (by simp [results, Tryz.results53, go_sem, q0, q1, q2]) rfl ⟨_, _, rfl, K1.out, K2.out, LO.out, B3.out⟩

set_option maxHeartbeats 1000000 in
theorem make_not (w : World) (a1 a2 a4 a5 : Int) (x y : Option Addr) (n k m l : Nat) (slots : Int) (hsl : ¬ (1 ≤ slots ∧ slots ≤ 16)) :
    Calls Tryz.prog 53 #[.agg #[.int .i64 a1, .int .i64 a2, .slice x n k], .agg #[.int .i64 a4, .int .i64 a5, .slice y m l], .int .i64 slots] w fun e w' => e = .returned (.tuple #[.agg #[.slice none 0 0, .slice none 0 0, .int .i64 0], .bool false]) ∧ Below w.heap.size w w' := by
  have x3 := X3.make w (.int .i64 a1) (.int .i64 a2) (.slice x n k) (.int .i64 a4) (.int .i64 a5) (.slice y m l)
  obtain ⟨q0, q1, q2, f0, f1, f2⟩ := cells3 x3.r
  have HB : Hid (Below w.heap.size w (((w.alloc (.cells #[.int .i64 a1, .int .i64 a2, .slice x n k] 62)).alloc (.cells #[.int .i64 a4, .int .i64 a5, .slice y m l] 62)).alloc (.cells #[.slice none 0 0, .slice none 0 0, .int .i64 0] 65))) := (((Below.refl _ _).alloc (Nat.le_refl _) _).alloc (by simp) _).alloc (by simp; omega) _
  clear x3
  by_cases h : slots < 1
  · go_enter Tryz.func53, Tryz.ntmps53
    go_wp2_with fail
    refine bodyPost_ret (v := .tuple #[.agg #[.slice none 0 0, .slice none 0 0, .int .i64 0], .bool false]) (by simp [results, Tryz.results53, go_sem, q0, q1, q2]) rfl ⟨rfl, HB.out⟩
  · have h16 : 16 < slots := by omega
    go_enter Tryz.func53, Tryz.ntmps53
    go_wp2_with fail
    refine bodyPost_ret (v := .tuple #[.agg #[.slice none 0 0, .slice none 0 0, .int .i64 0], .bool false]) (by simp [results, Tryz.results53, go_sem, q0, q1, q2]) rfl ⟨rfl, HB.out⟩
set_option maxHeartbeats 1000000 in
theorem plRoom_any (gk ck gv cv nk nv sl : Nat) (w : World) (hk : nk ≤ 32) (hv : nv ≤ 32) (hs : sl ≤ 16) :
    Calls Tryz.prog 27 #[.agg #[.slice (some ⟨gk, 0, none⟩) nk ck, .slice (some ⟨gv, 0, none⟩) nv cv, .int .i64 sl]] w fun e w' => e = .returned (.int .i64 ((1 + sl * (nk + nv) : Nat) : Int)) ∧ Below w.heap.size w w' := by
  have hm : sl * (nk + nv) ≤ 1024 := by
    have := Nat.mul_le_mul hs (show nk + nv ≤ 64 by omega); omega
  obtain ⟨e, he⟩ : ∃ e, nk + nv = e := ⟨_, rfl⟩
  obtain ⟨t, ht⟩ : ∃ t, sl * e = t := ⟨_, rfl⟩
  rw [he, ht] at hm
  have HC := hid_m (entry_any gk ck gv cv nk nv sl · (show nk ≤ 100 by omega) (show nv ≤ 100 by omega))
  rw [he] at HC
  rw [he, ht]
  have HM : Hid (IntKind.i64.wrap ((sl : Int) * (e : Int)) = (t : Int)) := by
    unfold Hid
    have e1 : (sl : Int) * (e : Int) = (t : Int) := by rw [← ht]; exact (Int.natCast_mul _ _).symm
    rw [e1]; exact wrap_id _ (by omega) (by omega)
  have HA : Hid (IntKind.i64.wrap (1 + (t : Int)) = ((1 + t : Nat) : Int)) := by unfold Hid; rw [wrap_id _ (by omega) (by omega)]; omega
  have hb1 : Below w.heap.size w (w.alloc (.cells #[.slice (some ⟨gk, 0, none⟩) nk ck, .slice (some ⟨gv, 0, none⟩) nv cv, .int .i64 sl] 65)) := (Below.refl _ _).alloc (Nat.le_refl _) _
  have hn1 : (w.alloc (.cells #[.slice (some ⟨gk, 0, none⟩) nk ck, .slice (some ⟨gv, 0, none⟩) nv cv, .int .i64 sl] 65)).heap[w.heap.size]? = some (.cells #[.slice (some ⟨gk, 0, none⟩) nk ck, .slice (some ⟨gv, 0, none⟩) nv cv, .int .i64 sl] 65 (0, 0)) := heap_alloc_new _ _
  have HB1 := hid_m hb1
  have HN1 := hid_m hn1
  clear hm he ht hb1 hn1 hk hv hs
  go_enter Tryz.func27, Tryz.ntmps27
  go_wp2_with fail
  obtain ⟨W, hW⟩ : ∃ W, w.alloc (.cells #[.slice (some ⟨gk, 0, none⟩) nk ck, .slice (some ⟨gv, 0, none⟩) nv cv, .int .i64 sl] 65) = W := ⟨_, rfl⟩
  rw [hW] at HB1 HN1 ⊢
  clear hW
  obtain ⟨c0, c1, c2, _, _, _⟩ := cells3 HN1.out
  refine wp_region_held_drew (S := fun w' => w'.cell? ⟨w.heap.size, 0, none⟩ = some (.slice (some ⟨gk, 0, none⟩) nk ck) ∧ w'.cell? ⟨w.heap.size, 1, none⟩ = some (.slice (some ⟨gv, 0, none⟩) nv cv) ∧ w'.cell? ⟨w.heap.size, 2, none⟩ = some (.int .i64 sl)) (by kernel_rfl) ⟨c0, c1, c2⟩ (fun hHeld => ?_)
  refine wpAnyH_take (i := 0) (v := ?_) rfl (by kernel_rfl) (by kernel_rfl) (by kernel_rfl) (fun _ _ _ h => h) (Or.inl ⟨by rfl, ?_⟩) (by assumption) ?_
  rotate_left
  · intro w hSw
    obtain ⟨x0, x1, x2⟩ := hSw
    go_simp
    all_goals with_reducible rfl
  try simp only [Act.put]
  refine wpAnyH_take (i := 1) (v := ?_) rfl (by kernel_rfl) (by kernel_rfl) (by kernel_rfl) (fun _ _ _ h => h) (Or.inl ⟨by rfl, ?_⟩) (by assumption) ?_
  rotate_left
  · intro w hSw
    obtain ⟨x0, x1, x2⟩ := hSw
    go_simp
    all_goals with_reducible rfl
  try simp only [Act.put]
  refine wpAnyH_take (i := 2) (v := ?_) rfl (by kernel_rfl) (by kernel_rfl) (by kernel_rfl) (fun _ _ _ h => h) (Or.inl ⟨by rfl, ?_⟩) (by assumption) ?_
  rotate_left
  · intro w hSw
    obtain ⟨x0, x1, x2⟩ := hSw
    go_simp
    all_goals with_reducible rfl
  try simp only [Act.put]
  refine wpAnyH_ready (rs := [3]) (by kernel_rfl) (by simp) ?_
  refine AllReadyH.cons (o := _) rfl (fun K hK => ?_) AllReadyH.nil
  go_simp
  refine (HC.out _).mono ?_
  rintro e w1 ⟨rfl, hb1⟩
  have bd : Below w.heap.size w W.drew := HB1.out.drew
  have hn1 : w1.heap[w.heap.size]? = some (.cells #[.slice (some ⟨gk, 0, none⟩) nk ck, .slice (some ⟨gv, 0, none⟩) nv cv, .int .i64 sl] 65 (0, 0)) := by rw [hb1.block _ (show w.heap.size < W.heap.size from m_blk_lt HN1.out)]; exact HN1.out
  have B1 := hid_m (bd.trans (hb1.mono bd.size))
  obtain ⟨d0, d1, d2, _, _, _⟩ := cells3 hn1
  clear bd hb1 hn1 c0 c1 c2
  go_wp2_with fail
  refine hK.out _ _ ⟨d0, d1, d2⟩ (fun hHeld1 => ?_)
  clear hK K
  try simp only [Act.put]
  refine wpAnyH_take (i := 4) (v := ?_) rfl (by kernel_rfl) (by kernel_rfl) (by kernel_rfl) (fun _ _ _ h => h) (Or.inl ⟨by rfl, ?_⟩) (by assumption) ?_
  rotate_left
  · intro w hSw
    obtain ⟨x0, x1, x2⟩ := hSw
    go_simp
    all_goals with_reducible rfl
  try simp only [Act.put]
  refine wpAnyH_take (i := 5) (v := ?_) rfl (by kernel_rfl) (by kernel_rfl) (by kernel_rfl) (fun _ _ _ h => h) (Or.inl ⟨by rfl, ?_⟩) (by assumption) ?_
  rotate_left
  · intro w hSw
    obtain ⟨x0, x1, x2⟩ := hSw
    go_simp
    all_goals with_reducible rfl
  try simp only [Act.put]
  refine wpAnyH_ready (rs := [6]) (by kernel_rfl) (by simp) ?_
  refine AllReadyH.cons (o := _) rfl (fun K hK => ?_) AllReadyH.nil
  go_simp
  refine hK.out _ _ ⟨d0, d1, d2⟩ (fun hHeld2 => ?_)
  clear hK K
  try simp only [Act.put]
  refine wpAnyH_done (by kernel_rfl) ?_ _
  go_wp2_with fail
  go_ret
  refine ⟨?_, B1.out⟩
  show Ending.returned (.int .i64 (IntKind.i64.wrap (1 + IntKind.i64.wrap ((sl : Int) * (e : Int))))) = _
  rw [HM.out, HA.out]

/-- A row stored whole. -/
structure Stored (w : World) (g : Nat) (cells : Array Value) (t : TypeId) (wS : World) : Prop where
  here : wS.heap[g]? = some (.cells cells t (0, 0))
  other : ∀ k, k ≠ g → wS.heap[k]? = w.heap[k]?
  size : wS.heap.size = w.heap.size
  below : ∀ b, b ≤ g → Below b w wS
theorem stored_row (w : World) (g : Nat) (old cells : Array Value) (t : TypeId) (hg : w.heap[g]? = some (.cells old t (0, 0))) : Stored w g cells t (w.setRow g cells) :=
  ⟨setRow_heap w g old cells t _ hg, fun k hk => setRow_other w g k cells hk, setRow_size w g cells, fun b hb => ⟨rfl, rfl, rfl, by simp, fun k hk => setRow_other w g k cells (by omega)⟩⟩
theorem wpList_store_to {P : Program} {ops : Array Oper} {rest : List Oper} {o : Oper} {a : Act} {w : World} {Q : Exit → Act → World → Prop} (hgd : o.guard = none) (ty : TypeId) (x y : Operand) (ho : o.op = .store ty x y)
    (g : Nat) (cells : Array Value) (hx : a.eval x = .pointer (some ⟨g, 0, none⟩)) (hy : a.eval y = .agg cells)
    (t : TypeId) (old : Array Value) (hg : w.heap[g]? = some (.cells old t (0, 0))) (hi : (P.info? ty).map (·.size) = some cells.size)
    (hold : old.size = cells.size) (h1 : cells.all (·.oneCell') = true)
    (h : ∀ wS, Stored w g cells t wS → wpList P ops Q rest (a.put o.dst undef) wS) : wpList P ops Q (o :: rest) a w :=
  wpList_store_row hgd ty x y ho g cells hx hy t old hg hi hold h1 (h _ (stored_row w g old cells t hg))
theorem wpList_build_none {P : Program} {ops : Array Oper} {rest : List Oper} {o : Oper} {a : Act} {w : World} {Q : Exit → Act → World → Prop} (hg : o.guard = none) (t : TypeId) (ho : o.op = .build t #[]) (cells : Array Value)
    (hb : P.built t [] = some cells) (h : wpList P ops Q rest (a.put o.dst (.agg cells)) w) : wpList P ops Q (o :: rest) a w :=
  wpList_build hg t #[] ho (by simp [hb]) (by simpa [hb] using h)
theorem built_m : Tryz.prog.built 67 [] = some #[.int .i64 0, .int .i64 0, .slice none 0 0, .int .i64 0, .int .i64 0, .slice none 0 0, .slice none 0 0, .slice none 0 0, .int .i64 0] := by rfl
theorem wpList_build_three {P : Program} {ops : Array Oper} {rest : List Oper} {o : Oper} {a : Act} {w : World} {Q : Exit → Act → World → Prop} (hg : o.guard = none) (t : TypeId) (x y z : Operand) (ho : o.op = .build t #[(0, x), (1, y), (2, z)]) (u v r : Value) (hu : a.eval x = u) (hv : a.eval y = v) (hr : a.eval z = r) (cells : Array Value)
    (hb : P.built t [(0, u), (1, v), (2, r)] = some cells) (h : wpList P ops Q rest (a.put o.dst (.agg cells)) w) : wpList P ops Q (o :: rest) a w :=
  wpList_build hg t _ ho (by simp [hu, hv, hr, hb]) (by simpa [hu, hv, hr, hb] using h)
theorem built_m3 (a b c d e f g h i : Value) : Tryz.prog.built 67 [(0, .agg #[a, b, c]), (1, .agg #[d, e, f]), (2, .agg #[g, h, i])] = some #[a, b, c, d, e, f, g, h, i] := by kernel_rfl
theorem size_s : (Tryz.prog.info? 62).map (·.size) = some 3 := by kernel_rfl
theorem size_m : (Tryz.prog.info? 67).map (·.size) = some 9 := by kernel_rfl
theorem cells9 {w : World} {B : Nat} {x0 x1 x2 x3 x4 x5 x6 x7 x8 : Value} {T : TypeId} (h : w.heap[B]? = some (.cells #[x0, x1, x2, x3, x4, x5, x6, x7, x8] T (0, 0))) : (w.cell? ⟨B, 0, none⟩ = some x0 ∧ w.cell? ⟨B, 1, none⟩ = some x1 ∧ w.cell? ⟨B, 2, none⟩ = some x2 ∧ w.cell? ⟨B, 3, none⟩ = some x3 ∧ w.cell? ⟨B, 4, none⟩ = some x4 ∧ w.cell? ⟨B, 5, none⟩ = some x5 ∧ w.cell? ⟨B, 6, none⟩ = some x6 ∧ w.cell? ⟨B, 7, none⟩ = some x7 ∧ w.cell? ⟨B, 8, none⟩ = some x8) ∧ ∀ o, w.frozen? ⟨B, o, none⟩ = false := by
  refine ⟨⟨?_, ?_, ?_, ?_, ?_, ?_, ?_, ?_, ?_⟩, fun o => by simp [World.frozen?, h]⟩
  all_goals (rw [cell_of_row w B _ _ _ _ h]; rfl)
theorem sh_of {w w' : World} {v : Value} {t : P.Ty 4} {base : Nat} (h : w'.ownsRow base 145 4 v (P.parts 4 t).length (cellsOf (P.parts 4 t))) : Sh w' w'.heap.size v t := ⟨⟨base, h⟩, fun g hg => (h.lt g hg).2⟩
theorem Sh.next {w w' : World} {v : Value} {t : P.Ty 4} (h : Sh w w.heap.size v t) (hb : Below w.heap.size w w') : Sh w' w'.heap.size v t := (h.on hb).up hb.size
theorem Kp.next {w w' : World} {v : Value} {kp : List Nat} (h : Kp w w.heap.size v kp) (hb : Below w.heap.size w w') : Kp w' w'.heap.size v kp := (h.on hb).up hb.size
/-- What measure answers. -/
def MsPost (lk lv : List UInt8) (slots : Int) (w : World) (e : Ending) (w' : World) : Prop :=
  Below w.heap.size w w' ∧ match P.tyOf lk, P.tyOf lv with
  | some tk, some tv => if 1 ≤ slots ∧ slots ≤ 16 then ∃ vk vv kv' vv', e = .returned (.tuple #[.agg #[.int .i64 (P.sz 4 tk).1, .int .i64 (P.sz 4 tk).2, vk, .int .i64 (P.sz 4 tv).1, .int .i64 (P.sz 4 tv).2, vv, kv', vv', .int .i64 slots], .int .i64 0]) ∧ Sh w' w'.heap.size vk tk ∧ Sh w' w'.heap.size vv tv ∧ Kp w' w'.heap.size kv' (P.cov (P.parts 4 tk)) ∧ Kp w' w'.heap.size vv' (P.cov (P.parts 4 tv)) ∧ (∀ g, vk.ownBlock = some g ∨ vv.ownBlock = some g ∨ kv'.ownBlock = some g ∨ vv'.ownBlock = some g → w.heap.size ≤ g)
    else e = .returned (.tuple #[.agg #[.int .i64 0, .int .i64 0, .slice none 0 0, .int .i64 0, .int .i64 0, .slice none 0 0, .slice none 0 0, .slice none 0 0, .int .i64 0], .int .i64 6])
  | _, _ => e = .returned (.tuple #[.agg #[.int .i64 0, .int .i64 0, .slice none 0 0, .int .i64 0, .int .i64 0, .slice none 0 0, .slice none 0 0, .slice none 0 0, .int .i64 0], .int .i64 1])
set_option maxHeartbeats 4000000 in
theorem measure_any (sk sv : ByteArray) (slots : Int) (w : World) (hk : sk.size ≤ maxLen) (hv : sv.size ≤ maxLen) :
    Calls Tryz.prog 26 #[.string sk, .string sv, .int .i64 slots] w fun e w' => MsPost sk.data.toList sv.data.toList slots w e w' := by
  have hbA : Below w.heap.size w (w.alloc (.cells #[.int .i64 0, .int .i64 0, .slice none 0 0, .int .i64 0, .int .i64 0, .slice none 0 0, .slice none 0 0, .slice none 0 0, .int .i64 0] 67)) := (Below.refl _ _).alloc (Nat.le_refl _) _
  have hnA : (w.alloc (.cells #[.int .i64 0, .int .i64 0, .slice none 0 0, .int .i64 0, .int .i64 0, .slice none 0 0, .slice none 0 0, .slice none 0 0, .int .i64 0] 67)).heap[w.heap.size]? = some (.cells #[.int .i64 0, .int .i64 0, .slice none 0 0, .int .i64 0, .int .i64 0, .slice none 0 0, .slice none 0 0, .slice none 0 0, .int .i64 0] 67 (0, 0)) := heap_alloc_new _ _
  have HBA := hid_m hbA
  have HNA := hid_m hnA
  clear hbA hnA
  go_enter Tryz.func26, Tryz.ntmps26
  go_wp2_with fail
  refine (parse_any sk _ hk).mono ?_
  rintro e w1 ⟨hpost, hbe⟩
  have B1 := hid_m (HBA.out.trans (hbe.mono HBA.out.size))
  have hn1 : w1.heap[w.heap.size]? = some (.cells #[.int .i64 0, .int .i64 0, .slice none 0 0, .int .i64 0, .int .i64 0, .slice none 0 0, .slice none 0 0, .slice none 0 0, .int .i64 0] 67 (0, 0)) := by rw [hbe.block _ (m_blk_lt HNA.out)]; exact HNA.out
  have HN1 := hid_m hn1
  obtain ⟨⟨c0, c1, c2, c3, c4, c5, c6, c7, c8⟩, cf⟩ := cells9 hn1
  have hbl := m_blk_lt hn1
  clear hbe hn1
  cases htk : P.tyOf sk.data.toList with
  | none =>
    rw [htk] at hpost
    simp only at hpost
    subst hpost
    have HT := hid_m htk
    clear htk c0 c1 c2 c3 c4 c5 c6 c7 c8 cf hbl
    go_wp2_with (first
      | (refine wpList_build_none rfl 67 rfl _ built_m ?_
         refine wpList_store_to rfl 67 _ _ rfl w.heap.size _ rfl rfl 67 _ (by rw [Below.heap_alloc _ _ _ (m_blk_lt HN1.out)]; exact HN1.out) size_m rfl (by simp [Value.oneCell']) ?_
         intro wS hS))
    obtain ⟨⟨c0, c1, c2, c3, c4, c5, c6, c7, c8⟩, cf⟩ := cells9 hS.here
    refine bodyPost_ret (v := .tuple #[.agg #[.int .i64 0, .int .i64 0, .slice none 0 0, .int .i64 0, .int .i64 0, .slice none 0 0, .slice none 0 0, .slice none 0 0, .int .i64 0], .int .i64 1]) (by simp [results, Tryz.results26, go_sem, c0, c1, c2, c3, c4, c5, c6, c7, c8]) rfl ⟨?_, ?_⟩
    · exact (B1.out.alloc B1.out.size _).trans (hS.below _ (Nat.le_refl _))
    · rw [HT.out]
  | some tk =>
    rw [htk] at hpost
    simp only at hpost
    obtain ⟨vk, rfl, hownk⟩ := hpost
    obtain ⟨ak, Nk, ck, rfl⟩ := owns_slice hownk
    have KK := hid_m (known_of htk)
    have SK := hid_m (sh_of (w := w) hownk)
    have HFK : Hid (∀ g, (Value.slice ak Nk ck).ownBlock = some g → w.heap.size < g) := fun g hg => by have := (hownk.lt g hg).1; simp at this; omega
    have HTK := hid_m htk
    obtain ⟨z1, hz1⟩ : ∃ z, (P.sz 4 tk).1 = z := ⟨_, rfl⟩
    obtain ⟨z2, hz2⟩ : ∃ z, (P.sz 4 tk).2 = z := ⟨_, rfl⟩
    rw [hz1, hz2]
    have Z1 := hid_m hz1
    have Z2 := hid_m hz2
    clear htk hownk hz1 hz2
    clear c0 c1 c2 c3 c4 c5 c6 c7 c8 cf hbl
    have hnk : (w1.alloc (.cells #[.int .i64 z1, .int .i64 z2, .slice ak Nk ck] 62)).heap[w1.heap.size]? = some (.cells #[.int .i64 z1, .int .i64 z2, .slice ak Nk ck] 62 (0, 0)) := heap_alloc_new _ _
    have hnm : (w1.alloc (.cells #[.int .i64 z1, .int .i64 z2, .slice ak Nk ck] 62)).heap[w.heap.size]? = some (.cells #[.int .i64 0, .int .i64 0, .slice none 0 0, .int .i64 0, .int .i64 0, .slice none 0 0, .slice none 0 0, .slice none 0 0, .int .i64 0] 67 (0, 0)) := by rw [Below.heap_alloc _ _ _ (m_blk_lt HN1.out)]; exact HN1.out
    have hbk := B1.out.alloc B1.out.size (.cells #[.int .i64 z1, .int .i64 z2, .slice ak Nk ck] 62)
    have hbs : Below w1.heap.size w1 (w1.alloc (.cells #[.int .i64 z1, .int .i64 z2, .slice ak Nk ck] 62)) := (Below.refl _ _).alloc (Nat.le_refl _) _
    have HNK := hid_m hnk
    have HNM := hid_m hnm
    have HBK := hid_m hbk
    have SK1 := hid_m (SK.out.next hbs)
    clear hnk hnm hbk hbs
    go_wp2_with fail
    obtain ⟨bk, hbk⟩ : ∃ b, w1.heap.size = b := ⟨_, rfl⟩
    obtain ⟨W1, hW1⟩ : ∃ W1, w1.alloc (.cells #[.int .i64 z1, .int .i64 z2, .slice ak Nk ck] 62) = W1 := ⟨_, rfl⟩
    rw [hW1] at HNK HNM HBK SK1 ⊢
    rw [hbk] at HNK ⊢
    clear hW1 hbk SK B1 HN1
    refine (parse_any sv _ hv).mono ?_
    rintro e w2 ⟨hpost, hbe⟩
    have B2 := hid_m (HBK.out.trans (hbe.mono HBK.out.size))
    have SK2 := hid_m (SK1.out.next hbe)
    have hnm : w2.heap[w.heap.size]? = some (.cells #[.int .i64 0, .int .i64 0, .slice none 0 0, .int .i64 0, .int .i64 0, .slice none 0 0, .slice none 0 0, .slice none 0 0, .int .i64 0] 67 (0, 0)) := by rw [hbe.block _ (m_blk_lt HNM.out)]; exact HNM.out
    have hnk : w2.heap[bk]? = some (.cells #[.int .i64 z1, .int .i64 z2, .slice ak Nk ck] 62 (0, 0)) := by rw [hbe.block _ (m_blk_lt HNK.out)]; exact HNK.out
    have HNM2 := hid_m hnm
    have HNK2 := hid_m hnk
    clear hbe hnm hnk HNM HNK SK1
    cases htv : P.tyOf sv.data.toList with
    | none =>
      rw [htv] at hpost
      simp only at hpost
      subst hpost
      have HT := hid_m htv
      clear htv
      go_wp2_with (first
        | (refine wpList_build_none rfl 67 rfl _ built_m ?_
           refine wpList_store_to rfl 67 _ _ rfl w.heap.size _ rfl rfl 67 _ (by rw [Below.heap_alloc _ _ _ (m_blk_lt HNM2.out)]; exact HNM2.out) size_m rfl (by simp [Value.oneCell']) ?_
           intro wS hS))
      obtain ⟨⟨c0, c1, c2, c3, c4, c5, c6, c7, c8⟩, cf⟩ := cells9 hS.here
      refine bodyPost_ret (v := .tuple #[.agg #[.int .i64 0, .int .i64 0, .slice none 0 0, .int .i64 0, .int .i64 0, .slice none 0 0, .slice none 0 0, .slice none 0 0, .int .i64 0], .int .i64 1]) (by simp [results, Tryz.results26, go_sem, c0, c1, c2, c3, c4, c5, c6, c7, c8]) rfl ⟨?_, ?_⟩
      · exact (B2.out.alloc B2.out.size _).trans (hS.below _ (Nat.le_refl _))
      · rw [HTK.out, HT.out]
    | some tv =>
      rw [htv] at hpost
      simp only at hpost
      obtain ⟨vv, rfl, hownv⟩ := hpost
      obtain ⟨av, Nv, cv, rfl⟩ := owns_slice hownv
      have KV := hid_m (known_of htv)
      have SV := hid_m (sh_of (w := w) hownv)
      have HFV : Hid (∀ g, (Value.slice av Nv cv).ownBlock = some g → w.heap.size < g) := fun g hg => by have := (hownv.lt g hg).1; have := HBK.out.size; omega
      have HTV := hid_m htv
      obtain ⟨z3, hz3⟩ : ∃ z, (P.sz 4 tv).1 = z := ⟨_, rfl⟩
      obtain ⟨z4, hz4⟩ : ∃ z, (P.sz 4 tv).2 = z := ⟨_, rfl⟩
      rw [hz3, hz4]
      have Z3 := hid_m hz3
      have Z4 := hid_m hz4
      clear htv hownv hz3 hz4
      have hnv : (w2.alloc (.cells #[.int .i64 z3, .int .i64 z4, .slice av Nv cv] 62)).heap[w2.heap.size]? = some (.cells #[.int .i64 z3, .int .i64 z4, .slice av Nv cv] 62 (0, 0)) := heap_alloc_new _ _
      have hnm : (w2.alloc (.cells #[.int .i64 z3, .int .i64 z4, .slice av Nv cv] 62)).heap[w.heap.size]? = some (.cells #[.int .i64 0, .int .i64 0, .slice none 0 0, .int .i64 0, .int .i64 0, .slice none 0 0, .slice none 0 0, .slice none 0 0, .int .i64 0] 67 (0, 0)) := by rw [Below.heap_alloc _ _ _ (m_blk_lt HNM2.out)]; exact HNM2.out
      have hnk : (w2.alloc (.cells #[.int .i64 z3, .int .i64 z4, .slice av Nv cv] 62)).heap[bk]? = some (.cells #[.int .i64 z1, .int .i64 z2, .slice ak Nk ck] 62 (0, 0)) := by rw [Below.heap_alloc _ _ _ (m_blk_lt HNK2.out)]; exact HNK2.out
      have hbk := B2.out.alloc B2.out.size (.cells #[.int .i64 z3, .int .i64 z4, .slice av Nv cv] 62)
      have hbs : Below w2.heap.size w2 (w2.alloc (.cells #[.int .i64 z3, .int .i64 z4, .slice av Nv cv] 62)) := (Below.refl _ _).alloc (Nat.le_refl _) _
      obtain ⟨k0, k1, k2, _, _, _⟩ := cells3 hnk
      have HNK3 := hid_m hnk
      have HNV3 := hid_m hnv
      have HNM3 := hid_m hnm
      have HB3 := hid_m hbk
      have SK3 := hid_m (SK2.out.next hbs)
      have SV3 := hid_m (SV.out.next hbs)
      clear hnk hnm hbk hbs hnv SV SK2 HNK2 HNM2 B2
      go_wp2_with fail
      obtain ⟨bv, hbv⟩ : ∃ b, w2.heap.size = b := ⟨_, rfl⟩
      obtain ⟨W2, hW2⟩ : ∃ W2, w2.alloc (.cells #[.int .i64 z3, .int .i64 z4, .slice av Nv cv] 62) = W2 := ⟨_, rfl⟩
      rw [hW2] at HNK3 HNV3 HNM3 HB3 SK3 SV3 ⊢
      rw [hbv] at HNV3 ⊢
      clear hW2 hbv k0 k1 k2
      by_cases hsl : 1 ≤ slots ∧ slots ≤ 16
      · have hmk := make_any (w := W2) tk tv (.slice ak Nk ck) (.slice av Nv cv) slots KK.out KV.out SK3.out SV3.out hsl
        rw [Z1.out, Z2.out, Z3.out, Z4.out] at hmk
        refine hmk.mono ?_
        rintro e w3 ⟨kv', vv', rfl, hkp, hvp, hlo, hbe⟩
        have hnk : w3.heap[bk]? = some (.cells #[.int .i64 z1, .int .i64 z2, .slice ak Nk ck] 62 (0, 0)) := by rw [hbe.block _ (m_blk_lt HNK3.out)]; exact HNK3.out
        have hnv : w3.heap[bv]? = some (.cells #[.int .i64 z3, .int .i64 z4, .slice av Nv cv] 62 (0, 0)) := by rw [hbe.block _ (m_blk_lt HNV3.out)]; exact HNV3.out
        have hnm : w3.heap[w.heap.size]? = some (.cells #[.int .i64 0, .int .i64 0, .slice none 0 0, .int .i64 0, .int .i64 0, .slice none 0 0, .slice none 0 0, .slice none 0 0, .int .i64 0] 67 (0, 0)) := by rw [hbe.block _ (m_blk_lt HNM3.out)]; exact HNM3.out
        obtain ⟨_, hok⟩ := hkp.own
        obtain ⟨_, hov⟩ := hvp.own
        obtain ⟨a1, N1, c1, rfl⟩ := owns_slice hok
        obtain ⟨a2, N2, c2, rfl⟩ := owns_slice hov
        have hb4 : Below w3.heap.size w3 (w3.alloc (.cells #[.slice a1 N1 c1, .slice a2 N2 c2, .int .i64 slots] 65)) := (Below.refl _ _).alloc (Nat.le_refl _) _
        have b4 := (HB3.out.trans (hbe.mono HB3.out.size)).trans (hb4.mono (HB3.out.trans (hbe.mono HB3.out.size)).size)
        have SK4 := hid_m ((SK3.out.next hbe).next hb4)
        have SV4 := hid_m ((SV3.out.next hbe).next hb4)
        have PK4 := hid_m (hkp.next hb4)
        have PV4 := hid_m (hvp.next hb4)
        have hnk4 : (w3.alloc (.cells #[.slice a1 N1 c1, .slice a2 N2 c2, .int .i64 slots] 65)).heap[bk]? = some (.cells #[.int .i64 z1, .int .i64 z2, .slice ak Nk ck] 62 (0, 0)) := by rw [Below.heap_alloc _ _ _ (m_blk_lt hnk)]; exact hnk
        have hnv4 : (w3.alloc (.cells #[.slice a1 N1 c1, .slice a2 N2 c2, .int .i64 slots] 65)).heap[bv]? = some (.cells #[.int .i64 z3, .int .i64 z4, .slice av Nv cv] 62 (0, 0)) := by rw [Below.heap_alloc _ _ _ (m_blk_lt hnv)]; exact hnv
        have hnm4 : (w3.alloc (.cells #[.slice a1 N1 c1, .slice a2 N2 c2, .int .i64 slots] 65)).heap[w.heap.size]? = some (.cells #[.int .i64 0, .int .i64 0, .slice none 0 0, .int .i64 0, .int .i64 0, .slice none 0 0, .slice none 0 0, .slice none 0 0, .int .i64 0] 67 (0, 0)) := by rw [Below.heap_alloc _ _ _ (m_blk_lt hnm)]; exact hnm
        have hnp4 : (w3.alloc (.cells #[.slice a1 N1 c1, .slice a2 N2 c2, .int .i64 slots] 65)).heap[w3.heap.size]? = some (.cells #[.slice a1 N1 c1, .slice a2 N2 c2, .int .i64 slots] 65 (0, 0)) := heap_alloc_new _ _
        have NK4 := hid_m hnk4
        have NV4 := hid_m hnv4
        have NM4 := hid_m hnm4
        have NP4 := hid_m hnp4
        have B4 := hid_m b4
        have HSL := hid_m hsl
        have HLO := hid_m hlo
        have HWW := hid_m (m_blk_lt HNM3.out)
        clear hlo hnk hnv hnm hok hov hb4 b4 hnk4 hnv4 hnm4 hnp4 hkp hvp hbe hmk hsl HNK3 HNV3 HNM3 HB3 SK3 SV3
        go_wp2_with (first
          | (refine wpList_load_row rfl 62 _ rfl bk rfl 62 #[.int .i64 z1, .int .i64 z2, .slice ak Nk ck] (0, 0) _ NK4.out Tryz.underlying62 rfl size_s ?_
             refine wpList_load_row rfl 62 _ rfl bv rfl 62 #[.int .i64 z3, .int .i64 z4, .slice av Nv cv] (0, 0) _ NV4.out Tryz.underlying62 rfl size_s ?_
             refine wpList_load_row rfl 65 _ rfl w3.heap.size rfl 65 #[.slice a1 N1 c1, .slice a2 N2 c2, .int .i64 slots] (0, 0) _ NP4.out Tryz.underlying65 rfl size_p ?_
             refine wpList_build_three rfl 67 _ _ _ rfl _ _ _ rfl rfl rfl _ (built_m3 _ _ _ _ _ _ _ _ _) ?_
             refine wpList_store_to rfl 67 _ _ rfl w.heap.size _ rfl rfl 67 _ NM4.out size_m rfl (by simp [Value.oneCell']) ?_
             intro wS hS))
        obtain ⟨⟨d0, d1, d2, d3, d4, d5, d6, d7, d8⟩, cf⟩ := cells9 hS.here
        refine bodyPost_ret (v := .tuple #[.agg #[.int .i64 z1, .int .i64 z2, .slice ak Nk ck, .int .i64 z3, .int .i64 z4, .slice av Nv cv, .slice a1 N1 c1, .slice a2 N2 c2, .int .i64 slots], .int .i64 0]) (by simp [results, Tryz.results26, go_sem, d0, d1, d2, d3, d4, d5, d6, d7, d8]) rfl ⟨?_, ?_⟩
        · exact B4.out.trans (hS.below _ (Nat.le_refl _))
        · rw [HTK.out, HTV.out]; simp only; rw [if_pos HSL.out]
          refine ⟨_, _, _, _, by rw [Z1.out, Z2.out, Z3.out, Z4.out], ?_, ?_, ?_, ?_, ?_⟩
          · exact (SK4.out.of (fun g hg => hS.other g (by have := HFK.out g hg; omega))).up (by rw [hS.size]; exact Nat.le_refl _)
          · exact (SV4.out.of (fun g hg => hS.other g (by have := HFV.out g hg; omega))).up (by rw [hS.size]; exact Nat.le_refl _)
          · exact (PK4.out.of (fun g hg => hS.other g (by have := HLO.out g (Or.inl hg); have := HWW.out; omega))).up (by rw [hS.size]; exact Nat.le_refl _)
          · exact (PV4.out.of (fun g hg => hS.other g (by have := HLO.out g (Or.inr hg); have := HWW.out; omega))).up (by rw [hS.size]; exact Nat.le_refl _)
          · intro g hg
            rcases hg with hg | hg | hg | hg
            · exact Nat.le_of_lt (HFK.out g hg)
            · exact Nat.le_of_lt (HFV.out g hg)
            · have := HLO.out g (Or.inl hg); have := HWW.out; omega
            · have := HLO.out g (Or.inr hg); have := HWW.out; omega
      · refine (make_not W2 z1 z2 z3 z4 ak av Nk ck Nv cv slots hsl).mono ?_
        rintro e w3 ⟨rfl, hbe⟩
        have B3 := hid_m (HB3.out.trans (hbe.mono HB3.out.size))
        have hnm : w3.heap[w.heap.size]? = some (.cells #[.int .i64 0, .int .i64 0, .slice none 0 0, .int .i64 0, .int .i64 0, .slice none 0 0, .slice none 0 0, .slice none 0 0, .int .i64 0] 67 (0, 0)) := by rw [hbe.block _ (m_blk_lt HNM3.out)]; exact HNM3.out
        have HNM4 := hid_m hnm
        have HSL := hid_m hsl
        clear hnm hbe hsl HNK3 HNV3 HNM3 HB3 SK3 SV3
        go_wp2_with (first
          | (refine wpList_build_none rfl 67 rfl _ built_m ?_
             refine wpList_store_to rfl 67 _ _ rfl w.heap.size _ rfl rfl 67 _ (by rw [Below.heap_alloc _ _ _ (m_blk_lt HNM4.out)]; exact HNM4.out) size_m rfl (by simp [Value.oneCell']) ?_
             intro wS hS))
        obtain ⟨⟨c0, c1, c2, c3, c4, c5, c6, c7, c8⟩, cf⟩ := cells9 hS.here
        refine bodyPost_ret (v := .tuple #[.agg #[.int .i64 0, .int .i64 0, .slice none 0 0, .int .i64 0, .int .i64 0, .slice none 0 0, .slice none 0 0, .slice none 0 0, .int .i64 0], .int .i64 6]) (by simp [results, Tryz.results26, go_sem, c0, c1, c2, c3, c4, c5, c6, c7, c8]) rfl ⟨?_, ?_⟩
        · exact (B3.out.alloc B3.out.size _).trans (hS.below _ (Nat.le_refl _))
        · rw [HTK.out, HTV.out]; simp only; rw [if_neg HSL.out]; trivial
end Go.Proofs.YtghggcehloiemabGreatDoor
