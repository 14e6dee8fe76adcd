import Derived.Test.YtghggcehloiemabGreatDoorTbPAll
import Derived.Test.YtghggcehloiemabGreatDoorMdAAll
import Derived.Test.YtghggcehloiemabGreatDoorRefStruct
import Derived.Test.YtghggcehloiemabGreatDoorMdCAll
namespace Go.Proofs.YtghggcehloiemabGreatDoor
open Go.RowKit
set_option linter.unusedVariables false
set_option maxRecDepth 16000
/-- The keeper's world: fourteen cells, its keys, its values. -/
def wdC (x0 x1 x2 x3 x4 x5 x6 x7 x8 x9 x10 x11 x12 x13 kv vv : Value) : Array Value := #[x0, x1, x2, x3, x4, x5, x6, x7, x8, x9, x10, x11, x12, x13, kv, vv]
structure Wd (w : World) (b M sl : Nat) (x0 x1 x2 x3 x4 x5 x6 x7 x8 x9 x10 x11 x12 kv vv : Value) (L : List (ByteArray × ByteArray)) : Prop where
  blk : w.heap[b]? = some (.cells (wdC x0 x1 x2 x3 x4 x5 x6 x7 x8 x9 x10 x11 x12 (.int .i64 sl) kv vv) 37 (0, 0))
  ok : w.ownsRow M 9 1 kv L.length ((L.map Prod.fst).map Value.string)
  ov : w.ownsRow M 9 1 vv L.length ((L.map Prod.snd).map Value.string)
  ne : ∀ g, kv.ownBlock = some g → vv.ownBlock ≠ some g
  lt : b < M
  here : M ≤ w.heap.size
  few : L.length ≤ sl
  sl16 : sl ≤ 16
section
variable {w w' : World} {b M sl : Nat} {x0 x1 x2 x3 x4 x5 x6 x7 x8 x9 x10 x11 x12 kv vv : Value} {L : List (ByteArray × ByteArray)}
theorem Wd.c13 (h : Wd w b M sl x0 x1 x2 x3 x4 x5 x6 x7 x8 x9 x10 x11 x12 kv vv L) : w.cell? ⟨b, 13, none⟩ = some (.int .i64 sl) := by rw [cell_of_row _ _ _ _ _ _ h.blk]; rfl
theorem Wd.c14 (h : Wd w b M sl x0 x1 x2 x3 x4 x5 x6 x7 x8 x9 x10 x11 x12 kv vv L) : w.cell? ⟨b, 14, none⟩ = some kv := by rw [cell_of_row _ _ _ _ _ _ h.blk]; rfl
theorem Wd.c15 (h : Wd w b M sl x0 x1 x2 x3 x4 x5 x6 x7 x8 x9 x10 x11 x12 kv vv L) : w.cell? ⟨b, 15, none⟩ = some vv := by rw [cell_of_row _ _ _ _ _ _ h.blk]; rfl
theorem Wd.fz (h : Wd w b M sl x0 x1 x2 x3 x4 x5 x6 x7 x8 x9 x10 x11 x12 kv vv L) (i : Nat) : w.frozen? ⟨b, i, none⟩ = false := by simp [World.frozen?, h.blk]
theorem Wd.lt2 (h : Wd w b M sl x0 x1 x2 x3 x4 x5 x6 x7 x8 x9 x10 x11 x12 kv vv L) : b < w.heap.size := by have := h.lt; have := h.here; omega
theorem Wd.on (h : Wd w b M sl x0 x1 x2 x3 x4 x5 x6 x7 x8 x9 x10 x11 x12 kv vv L) (hb : Below w.heap.size w w') : Wd w' b M sl x0 x1 x2 x3 x4 x5 x6 x7 x8 x9 x10 x11 x12 kv vv L :=
  ⟨by rw [hb.block b h.lt2]; exact h.blk, owns_on h.ok hb, owns_on h.ov hb, h.ne, h.lt, Nat.le_trans h.here hb.size, h.few, h.sl16⟩
theorem Wd.len (h : Wd w b M sl x0 x1 x2 x3 x4 x5 x6 x7 x8 x9 x10 x11 x12 kv vv L) {a : Option Addr} {N cap : Nat} (hk : kv = .slice a N cap) : N = L.length := by
  rcases h.ok.2 with ⟨h1, h2⟩ | ⟨g, cap', cur, h1, _⟩
  · rw [hk] at h1; cases h1; omega
  · rw [hk] at h1; cases h1; rfl
end
theorem key_cell {w : World} {base g N cap i : Nat} {L : List (ByteArray × ByteArray)} {p : ByteArray × ByteArray} (h : w.ownsRow base 9 1 (.slice (some ⟨g, 0, none⟩) N cap) L.length ((L.map Prod.fst).map Value.string)) (hx : L[i]? = some p) : w.cell? ⟨g, i, none⟩ = some (.string p.1) ∧ N ≤ cap := by
  have h2 : w.ownsRow base 9 1 (.slice (some ⟨g, 0, none⟩) N cap) (L.map Prod.fst).length ((L.map Prod.fst).map Value.string) := by rw [List.length_map]; exact h
  have := str_cell h2 (i := i) (x := p.1) (by rw [List.getElem?_map, hx]; rfl)
  exact ⟨this.1, this.2.2⟩
theorem val_cell {w : World} {base g N cap i : Nat} {L : List (ByteArray × ByteArray)} {p : ByteArray × ByteArray} (h : w.ownsRow base 9 1 (.slice (some ⟨g, 0, none⟩) N cap) L.length ((L.map Prod.snd).map Value.string)) (hx : L[i]? = some p) : w.cell? ⟨g, i, none⟩ = some (.string p.2) ∧ N ≤ cap := by
  have h2 : w.ownsRow base 9 1 (.slice (some ⟨g, 0, none⟩) N cap) (L.map Prod.snd).length ((L.map Prod.snd).map Value.string) := by rw [List.length_map]; exact h
  have := str_cell h2 (i := i) (x := p.2) (by rw [List.getElem?_map, hx]; rfl)
  exact ⟨this.1, this.2.2⟩
set_option maxHeartbeats 4000000 in
theorem wat_any {w : World} (b M sl : Nat) (x0 x1 x2 x3 x4 x5 x6 x7 x8 x9 x10 x11 x12 kv vv : Value) (L : List (ByteArray × ByteArray)) (k : ByteArray) (h : Wd w b M sl x0 x1 x2 x3 x4 x5 x6 x7 x8 x9 x10 x11 x12 kv vv L) :
    Calls Tryz.prog 16 #[.pointer (some ⟨b, 0, none⟩), .string k] w fun e w' => e = .returned (.int .i64 (atI (P.atK L k))) ∧ w' = w := by
  obtain ⟨a, N, cap, rfl⟩ := owns_slice h.ok
  have hNl := h.len rfl
  have hc := h.c14
  have HNL := hid_m hNl
  have HOWN := hid_m h.ok
  have hN : N ≤ 100 := by have := h.few; have := h.sl16; omega
  have hb := h.lt2
  clear h hNl
  go_enter Tryz.func16, Tryz.ntmps16
  go_wp2_with fail
  go_loopw [5] (fun j wr => ∃ (t : Nat), t ≤ N ∧ j = .int .i64 t ∧ Hid (∀ q ∈ L.take t, q.1 ≠ k) ∧ wr = w) (fun j _ => N - (intOf j).toNat)
  case atStart => exact ⟨0, Nat.zero_le _, rfl, fun q hq => by simp at hq, rfl⟩
  case round =>
    obtain ⟨t, ht, rfl, HQ, hwr⟩ := hrel
    subst wr
    by_cases hlt : t < N
    · obtain ⟨p, hp⟩ : ∃ p, L[t]? = some p := ⟨_, List.getElem?_eq_getElem (by have := HNL.out; omega)⟩
      obtain ⟨g, cap', hv, _, hgl⟩ := HOWN.out.form (by have := HNL.out; omega)
      have ha : a = some ⟨g, 0, none⟩ := by injection hv
      subst ha
      clear hv
      obtain ⟨d0, hcp⟩ := key_cell HOWN.out hp
      have HPE := hid_m hp
      have j0 : (0 : Int) ≤ (t : Int) := Int.natCast_nonneg t
      have j1 : (t : Int) < (N : Int) := by omega
      have HTN : Hid (t + 1 ≤ N) := hlt
      have HTW : Hid (wrap64 ((t : Int) + 1) = (t : Int) + 1) := w64_id _ (by omega) (by omega)
      clear hp ht hlt
      obtain ⟨pk, pv⟩ := p
      simp only at d0
      by_cases he : pk = k
      · subst he
        have HA : Hid (P.atK L pk = some t) := atK_snoc HPE.out HQ.out rfl
        go_wp2_with fail
        go_ret
        exact ⟨by rw [HA.out]; rfl, rfl⟩
      · have HQ2 : Hid (∀ q ∈ L.take (t + 1), q.1 ≠ k) := by
          intro q hq
          rw [List.take_add_one, HPE.out] at hq
          rcases List.mem_append.1 hq with hq | hq
          · exact HQ.out q hq
          · simp at hq; subst hq; exact he
        have hne := str_ne he
        clear he
        go_wp2_with fail
        exact ⟨⟨t + 1, HTN.out, by first | (rw [HTW.out]; exact next_t) | exact next_t, HQ2.out, trivial⟩, by first | (rw [HTW.out]; exact less_t HTN.out) | exact less_t HTN.out⟩
    · have hte : t = N := by omega
      subst hte
      have HA : Hid (P.atK L k = none) := P.atK_none (fun q hq => HQ.out q (by rw [List.take_of_length_le (Nat.le_of_eq HNL.out.symm)]; exact hq))
      clear ht hlt
      go_wp2_with fail
      go_ret
      exact ⟨by rw [HA.out]; rfl, rfl⟩
end Go.Proofs.YtghggcehloiemabGreatDoor
namespace Go.Proofs.YtghggcehloiemabGreatDoor
open Go.RowKit
set_option linter.unusedVariables false
set_option maxRecDepth 16000
/-- Two rows of strings that a call makes, beside each other. -/
structure Tw (w0 w : World) (l m : Value) (L : List (ByteArray × ByteArray)) : Prop where
  ok : w.ownsRow w0.heap.size 9 1 l L.length ((L.map Prod.fst).map Value.string)
  ov : w.ownsRow w0.heap.size 9 1 m L.length ((L.map Prod.snd).map Value.string)
  ne : ∀ g, l.ownBlock = some g → m.ownBlock ≠ some g
  bel : Below w0.heap.size w0 w
theorem Tw.grow1 {w0 w w4 : World} {l m : Value} {L : List (ByteArray × ByteArray)} {g4 n4 cap4 : Nat} {o : Obj} (h : Tw w0 w l m L) (hg : (w.alloc o).grownBy w4 l.ownBlock) (hat : l.ownBlock = some g4 ∨ g4 = (w.alloc o).heap.size) :
    w4.ownsRow w0.heap.size 9 1 m L.length ((L.map Prod.snd).map Value.string) ∧ Below w0.heap.size w0 w4 ∧ (∀ g, (Value.slice (some ⟨g4, 0, none⟩) n4 cap4).ownBlock = some g → m.ownBlock ≠ some g) := by
  have hs := h.bel.size
  refine ⟨m_owns_of h.ov (fun g hgm => ?_), Below.grown (h.bel.alloc hs o) hg (by simp; omega) (fun j hj => (h.ok.lt _ hj).1), fun g hgg hgm => ?_⟩
  · have := (h.ov.lt g hgm).2
    rw [hg.block g (by simp; omega) (fun e => h.ne g e.symm hgm), Below.heap_alloc _ _ _ this]
  · have e : g4 = g := by simpa [Value.ownBlock] using hgg
    subst e
    have h2 := (h.ov.lt _ hgm).2
    rcases hat with h1 | h1
    · exact h.ne _ h1 hgm
    · simp at h1; omega
theorem Tw.grow2 {w0 w4 w6 : World} {m : Value} {L : List (ByteArray × ByteArray)} {g4 n4 cap4 g6 : Nat} {o : Obj} {K V : List Value} {nk : Nat}
    (hok : w4.ownsRow w0.heap.size 9 1 (.slice (some ⟨g4, 0, none⟩) n4 cap4) nk K) (hbel : Below w0.heap.size w0 w4) (hlt : g4 < w4.heap.size) (hov : w4.ownsRow w0.heap.size 9 1 m L.length V) (hne : m.ownBlock ≠ some g4)
    (hg : (w4.alloc o).grownBy w6 m.ownBlock) (hat : m.ownBlock = some g6 ∨ g6 = (w4.alloc o).heap.size) :
    w6.ownsRow w0.heap.size 9 1 (.slice (some ⟨g4, 0, none⟩) n4 cap4) nk K ∧ Below w0.heap.size w0 w6 ∧ g4 ≠ g6 := by
  have hs := hbel.size
  refine ⟨m_owns_of hok (fun g hgm => ?_), Below.grown (hbel.alloc hs o) hg (by simp; omega) (fun j hj => (hov.lt _ hj).1), fun e => ?_⟩
  · have e : g4 = g := by simpa [Value.ownBlock] using hgm
    subst e
    rw [hg.block _ (by simp; omega) (fun e => hne e.symm), Below.heap_alloc _ _ _ hlt]
  · subst e
    rcases hat with h1 | h1
    · exact hne h1
    · simp at h1; omega
set_option maxHeartbeats 4000000 in
theorem wdrop_any {w : World} (b M sl : Nat) (x0 x1 x2 x3 x4 x5 x6 x7 x8 x9 x10 x11 x12 kv vv : Value) (L : List (ByteArray × ByteArray)) (i0 : Nat) (hi0 : i0 < L.length) (h : Wd w b M sl x0 x1 x2 x3 x4 x5 x6 x7 x8 x9 x10 x11 x12 kv vv L) :
    Calls Tryz.prog 35 #[.pointer (some ⟨b, 0, none⟩), .int .i64 i0] w fun e w' => e = .returned (.tuple #[]) ∧ (∃ kv' vv', Wd w' b M sl x0 x1 x2 x3 x4 x5 x6 x7 x8 x9 x10 x11 x12 kv' vv' (L.eraseIdx i0) ∧ (∀ g, kv'.ownBlock = some g ∨ vv'.ownBlock = some g → w.heap.size ≤ g)) ∧ Fr b none w w' := by
  obtain ⟨ip, hip, hz0, hz1, hz2⟩ := info_parts Tryz.infoString
  obtain ⟨a, N, cap, rfl⟩ := owns_slice h.ok
  obtain ⟨a', N', cap', rfl⟩ := owns_slice h.ov
  have HNL := hid_m (h.len rfl)
  have HNL' : Hid (N' = L.length) := by
    rcases h.ov.2 with ⟨h1, h2⟩ | ⟨g, c, cur, h1, _⟩
    · cases h1; exact h2.symm
    · cases h1; rfl
  have hN : N ≤ 16 := by have := h.few; have := h.sl16; have := HNL.out; omega
  have HH := hid_m h
  have HI0 := hid_m hi0
  clear h hi0
  go_enter Tryz.func35, Tryz.ntmps35
  go_wp2_with fail
  go_loopw [4, 5, 6] (fun l m i wr => ∃ (t : Nat), t ≤ N ∧ i = .int .i64 t ∧ Hid (Tw w wr l m ((L.take t).eraseIdx i0))) (fun _ _ i _ => N - (intOf i).toNat)
  case atStart => exact ⟨0, Nat.zero_le _, rfl, World.ownsRow_nil _ _ _ _, World.ownsRow_nil _ _ _ _, (fun g hg => by cases hg), Below.refl _ _⟩
  case round =>
    obtain ⟨t, ht, rfl, htw⟩ := hrel
    have HM := hid_m (HH.out.on htw.out.bel)
    have hws := htw.out.bel.size
    have d14 := HM.out.c14
    have d15 := HM.out.c15
    by_cases hlt : t < N
    · obtain ⟨p, hp⟩ : ∃ p, L[t]? = some p := ⟨_, List.getElem?_eq_getElem (by have := HNL.out; omega)⟩
      obtain ⟨g, c1, hv, _, hgl⟩ := HM.out.ok.form (by have := HNL.out; omega)
      have ha : a = some ⟨g, 0, none⟩ := by injection hv
      subst ha
      obtain ⟨g', c1', hv', _, hgl'⟩ := HM.out.ov.form (by have := HNL.out; omega)
      have ha' : a' = some ⟨g', 0, none⟩ := by injection hv'
      subst ha'
      obtain ⟨e0, hcp⟩ := key_cell HM.out.ok hp
      obtain ⟨e1, hcp'⟩ := val_cell HM.out.ov hp
      have HNX := hid_m (erase_next (i0 := i0) hp)
      have HTL : Hid (((L.take t).eraseIdx i0).length ≤ 16) := by
        unfold Hid
        have := List.length_eraseIdx_le (L.take t) i0
        rw [List.length_take] at this; omega
      have j0 : (0 : Int) ≤ (t : Int) := Int.natCast_nonneg t
      have j1 : (t : Int) < (N : Int) := by omega
      have j2 : (t : Int) < (N' : Int) := by have := HNL.out; have := HNL'.out; omega
      have HTN : Hid (t + 1 ≤ N) := hlt
      have HTW : Hid (wrap64 ((t : Int) + 1) = (t : Int) + 1) := w64_id _ (by omega) (by omega)
      have HPP := hid_m hp
      obtain ⟨pk, pv⟩ := p
      simp only at e0 e1
      clear hv hv' hp ht hlt
      by_cases hti : t = i0
      · have hne : ((t : Int) != (i0 : Int)) = false := by rw [bne_eq_false_iff_eq]; omega
        have HNX2 : Hid ((L.take (t + 1)).eraseIdx i0 = (L.take t).eraseIdx i0) := by unfold Hid; rw [HNX.out, if_pos hti]
        clear hti e0 e1
        go_wp2_with fail
        refine ⟨⟨t + 1, HTN.out, by first | (rw [HTW.out]; exact next_t) | exact next_t, ?_⟩, by first | (rw [HTW.out]; exact less_t HTN.out) | exact less_t HTN.out⟩
        rw [HNX2.out]; exact htw
      · have hne : ((t : Int) != (i0 : Int)) = true := by rw [bne_iff_ne]; omega
        have HNX2 : Hid ((L.take (t + 1)).eraseIdx i0 = (L.take t).eraseIdx i0 ++ [(pk, pv)]) := by unfold Hid; rw [HNX.out, if_neg hti]
        have hcl := HTL.out
        clear hti
        go_wp2_with (first
          | (at_builtin; refine wpList_append_lies _ rfl _ _ 35 rfl w.heap.size 9 ip (.string ByteArray.empty) 1 16 Tryz.underlying35 hip hz0 hz1 hz2 rfl (by decide) u4 _ (((((L.take t).eraseIdx i0)).map Prod.fst).map Value.string) rfl (htw.out.ok.alloc _) ⟨wr.heap.size, 0, none⟩ 1 1 [.string pk] rfl rfl (one_new _ _ _) (fun x hx => by simp at hx; subst hx; rfl) (by omega) (by unfold maxLen; omega) (by omega) (by simp; omega) _ rfl ?_; intro g4 cap4 w4 hown4 hgrow4 hat4 hlt4
             obtain ⟨hv4, hb4, hne4⟩ := htw.out.grow1 (n4 := ((L.take t).eraseIdx i0).length + 1) (cap4 := cap4) hgrow4 hat4
             have hws4 := hb4.size
             have HB4 := hid_m (HH.out.on hb4)
             clear d14 d15 e0 e1 hcp hcp'
             have d15 := HB4.out.c15
             obtain ⟨e1, hcp'⟩ := val_cell HB4.out.ov HPP.out)
          | (at_builtin; refine wpList_append_lies _ rfl _ _ 35 rfl w.heap.size 9 ip (.string ByteArray.empty) 1 16 Tryz.underlying35 hip hz0 hz1 hz2 rfl (by decide) u5 _ (((((L.take t).eraseIdx i0)).map Prod.snd).map Value.string) rfl (hv4.alloc _) ⟨w4.heap.size, 0, none⟩ 1 1 [.string pv] rfl rfl (one_new _ _ _) (fun x hx => by simp at hx; subst hx; rfl) (by omega) (by unfold maxLen; omega) (by omega) (by simp; omega) _ rfl ?_; intro g6 cap6 w6 hown6 hgrow6 hat6 hlt6
             obtain ⟨hk6, hb6, hne6⟩ := Tw.grow2 (g6 := g6) hown4 hb4 hlt4 hv4 (hne4 g4 rfl) hgrow6 hat6))
        refine ⟨⟨t + 1, HTN.out, by first | (rw [HTW.out]; exact next_t) | exact next_t, ?_⟩, by first | (rw [HTW.out]; exact less_t HTN.out) | exact less_t HTN.out⟩
        rw [HNX2.out]
        exact ⟨by simpa using hk6, by simpa using hown6, fun g hg hg' => by simp [Value.ownBlock] at hg hg'; omega, hb6⟩
    · have hte : t = N := by omega
      subst hte
      have htk : L.take t = L := List.take_of_length_le (Nat.le_of_eq HNL.out.symm)
      rw [htk] at htw
      obtain ⟨a5, N5, c5, rfl⟩ := owns_slice htw.out.ok
      obtain ⟨a6, N6, c6, rfl⟩ := owns_slice htw.out.ov
      have f14 := HM.out.fz 14
      have f15 := HM.out.fz 15
      clear ht hlt htk
      go_wp2_with fail
      refine bodyPost_end (results_none rfl _ _ _) rfl ?_
      have hb := htw.out.bel
      have hbs := hb.size
      have hin : ∀ g, w.heap.size ≤ g → g ≠ b := fun g hg => by have := HH.out.lt2; omega
      refine ⟨rfl, ⟨_, _, ⟨?_, ?_, ?_, htw.out.ne, HM.out.lt, ?_, ?_, HM.out.sl16⟩, ?_⟩, ?_⟩
      · have := HM.out.blk; unfold wdC at this; simp [World.setCell, Array.getElem?_modify, this, wdC]
      · refine m_owns_of (p_owns_less htw.out.ok HH.out.here) (fun g hg => ?_)
        have := hin g (htw.out.ok.lt g hg).1
        rw [set_other this, set_other this]
      · refine m_owns_of (p_owns_less htw.out.ov HH.out.here) (fun g hg => ?_)
        have := hin g (htw.out.ov.lt g hg).1
        rw [set_other this, set_other this]
      · have := HM.out.here; simp [World.setCell]; omega
      · have := List.length_eraseIdx_le L i0; have := HM.out.few; omega
      · intro g hg
        rcases hg with hg | hg
        · exact (htw.out.ok.lt g hg).1
        · exact (htw.out.ov.lt g hg).1
      · exact ((Fr.of (b := b) (r := none) hb).set 14 _).set 15 _
end Go.Proofs.YtghggcehloiemabGreatDoor
