import Derived.Test.YtghggcehloiemabGreatDoorMcPAll
import Derived.Test.YtghggcehloiemabGreatDoorMcStepAll
import Derived.Deep.OwnRows
namespace Go.Proofs.YtghggcehloiemabGreatDoor
open Go.RowKit
set_option linter.unusedVariables false
set_option maxRecDepth 16000

/-- The marks. -/
def Fl (w : World) (fb : Nat) (fl : List Bool) : Prop := w.heap[fb]? = some (.cells (fl.map Value.bool).toArray 4 (0, 0))
theorem Fl.cell {w : World} {fb i : Nat} {fl : List Bool} {b : Bool} (h : Fl w fb fl) (hi : fl[i]? = some b) : w.cell? ⟨fb, i, none⟩ = some (.bool b) := by
  rw [cell_of_row _ _ _ _ _ _ h]; simp [hi]
theorem Fl.fz {w : World} {fb : Nat} {fl : List Bool} (h : Fl w fb fl) (i : Nat) : w.frozen? ⟨fb, i, none⟩ = false := by unfold Fl at h; simp [World.frozen?, h]
theorem Fl.set {w : World} {fb i : Nat} {fl : List Bool} (h : Fl w fb fl) : Fl (w.setCell ⟨fb, i, none⟩ (.bool true)) fb (fl.set i true) := by
  unfold Fl at *
  simp [World.setCell, Array.getElem?_modify, h, List.map_set]
theorem Fl.of {w w' : World} {fb : Nat} {fl : List Bool} (h : Fl w fb fl) (he : w'.heap[fb]? = w.heap[fb]?) : Fl w' fb fl := by unfold Fl at *; rw [he]; exact h
theorem Fl.lt {w : World} {fb : Nat} {fl : List Bool} (h : Fl w fb fl) : fb < w.heap.size := m_blk_lt h
theorem Fl.made (w : World) (n : Nat) : Fl (w.alloc (.cells (madeCells #[.bool false] n) 4)) w.heap.size (List.replicate n false) := by
  unfold Fl
  have e : madeCells #[.bool false] n = ((List.replicate n false).map Value.bool).toArray := by
    apply Array.toList_inj.1
    rw [toList_madeCells_one]; simp
  rw [e]; exact heap_alloc_new w _
/-- Where the walker lies, where its marks, and what lies ahead of both or behind both. -/
structure Sd (b fb B L : Nat) : Prop where
  ne : fb ≠ b
  b1 : b < B
  f1 : fb < B
  l1 : L ≤ b
  l2 : L ≤ fb
/-- The walker: its code, its marks, its queue. -/
structure Wt (w : World) (b fb B : Nat) (lv : Value) (n : Nat) (fl : List Bool) (q : List Nat) (qv : Value) : Prop where
  blk : w.heap[b]? = some (.cells #[lv, .slice (some ⟨fb, 0, none⟩) n n, qv] 156 (0, 0))
  fl : Fl w fb fl
  own : w.ownsRow B 3 1 qv q.length (q.map natV)
  room : B ≤ w.heap.size
theorem Wt.c0 {w : World} {b fb B : Nat} {lv : Value} {n : Nat} {fl : List Bool} {q : List Nat} {qv : Value} (h : Wt w b fb B lv n fl q qv) : w.cell? ⟨b, 0, none⟩ = some lv := by rw [cell_of_row _ _ _ _ _ _ h.blk]; rfl
theorem Wt.c1 {w : World} {b fb B : Nat} {lv : Value} {n : Nat} {fl : List Bool} {q : List Nat} {qv : Value} (h : Wt w b fb B lv n fl q qv) : w.cell? ⟨b, 1, none⟩ = some (.slice (some ⟨fb, 0, none⟩) n n) := by rw [cell_of_row _ _ _ _ _ _ h.blk]; rfl
theorem Wt.c2 {w : World} {b fb B : Nat} {lv : Value} {n : Nat} {fl : List Bool} {q : List Nat} {qv : Value} (h : Wt w b fb B lv n fl q qv) : w.cell? ⟨b, 2, none⟩ = some qv := by rw [cell_of_row _ _ _ _ _ _ h.blk]; rfl
theorem Wt.mark {w : World} {b fb B L i : Nat} {lv : Value} {n : Nat} {fl : List Bool} {q : List Nat} {qv : Value} (h : Wt w b fb B lv n fl q qv) (sd : Sd b fb B L) : Wt (w.setCell ⟨fb, i, none⟩ (.bool true)) b fb B lv n (fl.set i true) q qv :=
  ⟨by rw [set_other (fun e => sd.ne e.symm)]; exact h.blk, h.fl.set, m_owns_of h.own (fun g hg => set_other (by have := (h.own.lt g hg).1; have := sd.f1; omega)), by simpa using h.room⟩
theorem Wt.grow {w w3 : World} {b fb B L k : Nat} {lv : Value} {n : Nat} {fl : List Bool} {q : List Nat} {qv qv' : Value} {o : Obj} (h : Wt w b fb B lv n fl q qv) (sd : Sd b fb B L) (hg : (w.alloc o).grownBy w3 qv.ownBlock) (hown' : w3.ownsRow B 3 1 qv' (q.length + 1) (q.map natV ++ [natV k])) :
    Wt (w3.setCell ⟨b, 2, none⟩ qv') b fb B lv n fl (q ++ [k]) qv' ∧ Below L w (w3.setCell ⟨b, 2, none⟩ qv') ∧ w3.frozen? ⟨b, 2, none⟩ = false ∧ w3.cell? ⟨b, 2, none⟩ = some qv ∧ (∀ g, g < w.heap.size → g ≠ b → qv.ownBlock ≠ some g → (w3.setCell ⟨b, 2, none⟩ qv').heap[g]? = w.heap[g]?) := by
  have hb3 := m_grown_blk h.own hg sd.b1 h.blk
  have hf3 := m_grown_blk h.own hg sd.f1 h.fl
  have hl := h.fl.lt
  have hlb := m_blk_lt h.blk
  have l1 := sd.l1
  have b1 := sd.b1
  have hrm := h.room
  have hgs : w.heap.size ≤ w3.heap.size := by have := hg.size; simp at this; omega
  refine ⟨⟨?_, ?_, ?_, by simp; omega⟩, ?_, by simp [World.frozen?, hb3], by rw [cell_of_row _ _ _ _ _ _ hb3]; rfl, fun g hgl hgb hgq => by rw [set_other hgb, hg.block g (by simp; omega) (fun e => hgq e.symm), Below.heap_alloc _ _ _ hgl]⟩
  · simp [World.setCell, Array.getElem?_modify, hb3]
  · unfold Fl; rw [set_other sd.ne]; exact hf3
  · have : (w3.setCell ⟨b, 2, none⟩ qv').ownsRow B 3 1 qv' (q.length + 1) (q.map natV ++ [natV k]) := m_owns_of hown' (fun g hg => set_other (by have := (hown'.lt g hg).1; omega))
    simpa using this
  · exact (Below.grown ((Below.refl L w).alloc (by omega) o) hg (by simp; omega) (fun j hj => by have := (h.own.lt _ hj).1; omega)).setCell l1 qv'

theorem one_new (w : World) (a : Value) (t : TypeId) : ∀ j u, [a][j]? = some u → (w.alloc (.cells #[a] t)).cell? ((⟨w.heap.size, 0, none⟩ : Addr).add j) = some u :=
  World.news_of_block (heap_alloc_new w _)

theorem one_new' {w : World} {n : Nat} (h : w.heap.size = n) (a : Value) (t : TypeId) : ∀ j u, [a][j]? = some u → (w.alloc (.cells #[a] t)).cell? ((⟨n, 0, none⟩ : Addr).add j) = some u := by rw [← h]; exact one_new w a t

set_option maxHeartbeats 1000000 in
theorem reach_no {w : World} {b fb B n k : Nat} {lv : Value} {fl : List Bool} {q : List Nat} {qv : Value} (h : Wt w b fb B lv n fl q qv) (hk : k < n) (hn : n ≤ 800) (hf : fl[k]? = some true) :
    Calls Tryz.prog 141 #[.pointer (some ⟨b, 0, none⟩), .int .i64 k] w fun e w' => e = .returned (.tuple #[]) ∧ w' = w := by
  have c1 := h.c1
  have cf := h.fl.cell hf
  have h0 : ¬ ((k : Int) < 0) := by omega
  have h1 : (k : Int) < (n : Int) := by omega
  have h1' : ¬ (n : Int) ≤ (k : Int) := by omega
  have h2 : (0 : Int) ≤ (k : Int) := by omega
  clear h hf
  go_enter Tryz.func141, Tryz.ntmps141
  go_wp2_with fail
  refine bodyPost_ret (results_none rfl _ _ _) rfl ?_
  exact ⟨rfl, rfl⟩
set_option maxHeartbeats 1000000 in
theorem reach_yes {w : World} {b fb B L n k : Nat} {lv : Value} {fl : List Bool} {q : List Nat} {qv : Value} (h : Wt w b fb B lv n fl q qv) (sd : Sd b fb B L) (hk : k < n) (hn : n ≤ 800) (hq : q.length ≤ 800) (hf : fl[k]? = some false) :
    Calls Tryz.prog 141 #[.pointer (some ⟨b, 0, none⟩), .int .i64 k] w fun e w' => e = .returned (.tuple #[]) ∧ (∃ qv', Wt w' b fb B lv n (fl.set k true) (q ++ [k]) qv') ∧ Below L w w' ∧ (∀ g, g < w.heap.size → g ≠ b → g ≠ fb → qv.ownBlock ≠ some g → w'.heap[g]? = w.heap[g]?) := by
  have c1 := h.c1
  have cf := h.fl.cell hf
  have zf := h.fl.fz k
  have hm := h.mark (i := k) sd
  have c2 := hm.c2
  have hfl := h.fl.lt
  have hbl := m_blk_lt h.blk
  have h0 : ¬ ((k : Int) < 0) := by omega
  have h1 : (k : Int) < (n : Int) := by omega
  have h1' : ¬ (n : Int) ≤ (k : Int) := by omega
  have h2 : (0 : Int) ≤ (k : Int) := by omega
  have hbe : Below L w (w.setCell ⟨fb, k, none⟩ (.bool true)) := (Below.refl L w).setCell sd.l2 _
  obtain ⟨i0, hi0, hz0, hz1, hz2⟩ := info_parts Tryz.infoMInt
  have HM := hid_m hm
  have HF := hid_m sd
  have hbB := sd.b1
  have hroom := h.room
  have hfB := sd.f1
  clear h hf hm
  go_enter Tryz.func141, Tryz.ntmps141
  go_wp2_with (first
    | (at_builtin; (refine wpList_append_lies _ rfl _ _ 63 rfl B 3 i0 (.int .i64 0) 1 8 Tryz.underlying63 hi0 hz0 hz1 hz2 rfl (by decide) qv q.length (q.map natV) rfl (HM.out.own.alloc _) ⟨w.heap.size, 0, none⟩ 1 1 [natV k] rfl rfl (one_new' (by simp) _ _) (fun x hx => by simp at hx; subst hx; rfl) (by omega) (by unfold maxLen; omega) (by omega) (by simp; omega) _ rfl ?_; intro g cap w3 hown' hgrow hat hlt')
       obtain ⟨X1, X2, X3, X4, X5⟩ := HM.out.grow HF.out hgrow hown'))
  go_end0
  exact ⟨rfl, ⟨_, X1⟩, hbe.trans X2, fun g g1 g2 g3 g4 => by rw [X5 g (by simpa using g1) g2 g4, set_other g3]⟩
theorem reach_any {w : World} {b fb B L n k : Nat} {lv : Value} {fl : List Bool} {q : List Nat} {qv : Value} (h : Wt w b fb B lv n fl q qv) (sd : Sd b fb B L) (hl : fl.length = n) (hk : k < n) (hn : n ≤ 800) (hq : q.length ≤ 800) :
    Calls Tryz.prog 141 #[.pointer (some ⟨b, 0, none⟩), .int .i64 k] w fun e w' => e = .returned (.tuple #[]) ∧ (∃ qv', Wt w' b fb B lv n (P.marked fl k) (P.queued fl q k) qv') ∧ Below L w w' ∧ (∀ g, g < w.heap.size → g ≠ b → g ≠ fb → qv.ownBlock ≠ some g → w'.heap[g]? = w.heap[g]?) := by
  cases hf : fl[k]? with
  | none => rw [List.getElem?_eq_none_iff] at hf; omega
  | some c =>
    cases c with
    | true =>
      refine (reach_no h hk hn hf).mono ?_
      rintro e w' ⟨rfl, rfl⟩
      unfold P.marked P.queued
      rw [hf, if_neg (by simp), if_neg (by simp)]
      exact ⟨rfl, ⟨qv, h⟩, Below.refl _ _, fun _ _ _ _ _ => rfl⟩
    | false =>
      refine (reach_yes h sd hk hn hq hf).mono ?_
      rintro e w' ⟨rfl, hx, hb, hk⟩
      unfold P.marked P.queued
      rw [hf, if_pos rfl, if_pos rfl]
      exact ⟨rfl, hx, hb, hk⟩
end Go.Proofs.YtghggcehloiemabGreatDoor
namespace Go.Proofs.YtghggcehloiemabGreatDoor
open Go.RowKit
set_option linter.unusedVariables false
set_option maxRecDepth 16000

theorem row1_cell {w : World} {base g N cap n t : Nat} {e : TypeId} {xs : List Value} {u : Value} (h : w.ownsRow base e 1 (.slice (some ⟨g, 0, none⟩) N cap) n xs) (hn : n = xs.length) (hx : xs[t]? = some u) : w.cell? ⟨g, t, none⟩ = some u := by
  obtain ⟨h1, h2⟩ := h
  rcases h2 with ⟨h2, _⟩ | ⟨g', cap', cur, hv, hb, hg, hn', hm, hsz, htk⟩
  · cases h2
  · cases hv
    have ht : t < xs.length := (List.getElem?_eq_some_iff.1 hx).1
    rw [cell_of_row w g _ _ _ _ hg]
    rw [← htk, List.getElem?_take_of_lt (by omega)] at hx
    simpa using hx

/-- What the walker's loop holds. -/
structure WL (W0 wr : World) (b fb B L : Nat) (lv : Value) (c : List P.I) (t : Nat) (fl : List Bool) (q : List Nat) (qv : Value) : Prop where
  wt : Wt wr b fb B lv c.length fl q qv
  wk : P.Wk c fl q
  zero : 0 ∈ q
  seen : P.Seen c q t
  bel : Below L W0 wr
  here : t ≤ q.length

theorem Wt.on {w w' : World} {b fb B : Nat} {lv : Value} {n : Nat} {fl : List Bool} {q : List Nat} {qv : Value} (h : Wt w b fb B lv n fl q qv) (hb : Below w.heap.size w w') : Wt w' b fb B lv n fl q qv :=
  ⟨by rw [hb.block _ (m_blk_lt h.blk)]; exact h.blk, h.fl.of (hb.block _ h.fl.lt), owns_on h.own hb, Nat.le_trans h.room hb.size⟩
theorem Wt.copy {w w3 : World} {b fb B : Nat} {lv : Value} {n : Nat} {fl : List Bool} {q : List Nat} {qv : Value} {ib : Nat} {o : Obj} (h : Wt w b fb B lv n fl q qv) (hw : Wt w3 b fb B lv n fl q qv) (hi : w3.heap[ib]? = some o) (hl : w.heap.size ≤ ib) (w' : World) (hk : ∀ g, g < w3.heap.size → g ≠ b → g ≠ fb → qv.ownBlock ≠ some g → w'.heap[g]? = w3.heap[g]?) : w'.heap[ib]? = some o := by
  have h1 := m_blk_lt h.blk
  have h2 := h.fl.lt
  rw [hk ib (m_blk_lt hi) (by omega) (by omega) (fun e => by have := (h.own.lt _ e).2; omega)]; exact hi
theorem reach_next {w : World} {b fb B L n k : Nat} {lv : Value} {fl : List Bool} {q : List Nat} {qv : Value} (h : Wt w b fb B lv n fl q qv) (sd : Sd b fb B L) (hl : fl.length = n) (hk : k + 1 < n) (hn : n ≤ 800) (hq : q.length ≤ 800) :
    Calls Tryz.prog 141 #[.pointer (some ⟨b, 0, none⟩), .int .i64 ((k : Int) + 1)] w fun e w' => e = .returned (.tuple #[]) ∧ (∃ qv', Wt w' b fb B lv n (P.marked fl (k + 1)) (P.queued fl q (k + 1)) qv') ∧ Below L w w' := by
  refine (reach_any (k := k + 1) h sd hl hk hn hq).mono ?_
  rintro e w' ⟨h1, h2, h3, _⟩
  exact ⟨h1, h2, h3⟩
theorem next_t {t : Nat} : Value.int .i64 ((t : Int) + 1) = .int .i64 ((t + 1 : Nat) : Int) := by rw [Int.natCast_add]; rfl
theorem less_t {t n : Nat} (h : t < n) : n - (intOf (.int .i64 ((t : Int) + 1))).toNat < n - (intOf (.int .i64 (t : Int))).toNat := by simp only [intOf]; omega
theorem seen_both {c : List P.I} {fl : List Bool} {q : List Nat} {t j : Nat} {x : P.I} (hw : P.Wk c fl q) (hs : P.Seen c q t) (hz : 0 ∈ q) (hc : P.CodeL c) (hj : q[t]? = some j) (hx : c[j]? = some x) (fl' : List Bool) (q' : List Nat)
    (h1 : (11 ≤ x.op ∧ fl' = P.marked fl x.k ∧ q' = P.queued fl q x.k) ∨ (¬ 11 ≤ x.op ∧ fl' = fl ∧ q' = q)) (fl'' : List Bool) (q'' : List Nat)
    (h2 : (¬ P.Ends x ∧ fl'' = P.marked fl' (j + 1) ∧ q'' = P.queued fl' q' (j + 1)) ∨ (P.Ends x ∧ fl'' = fl' ∧ q'' = q')) : P.Wk c fl'' q'' ∧ P.Seen c q'' (t + 1) ∧ 0 ∈ q'' ∧ t + 1 ≤ q''.length := by
  have hr : P.Reach c j := hw.reach j (List.mem_of_getElem? hj)
  have htl := (List.getElem?_eq_some_iff.1 hj).1
  have k1 : P.Wk c fl' q' ∧ (11 ≤ x.op → x.k ∈ q') ∧ (∀ i : Nat, i < q.length → q'[i]? = q[i]?) ∧ (∀ z ∈ q, z ∈ q') := by
    rcases h1 with ⟨h11, rfl, rfl⟩ | ⟨h11, rfl, rfl⟩
    · have hr' := P.Reach.go hr hx h11
      obtain ⟨a, b⟩ := hw.mark hr' (P.reach_in hc hr')
      exact ⟨a, fun _ => b, fun i hi => by rw [P.queued_keeps (List.getElem?_eq_getElem hi), List.getElem?_eq_getElem hi], fun z hz => P.queued_mem hz⟩
    · exact ⟨hw, fun h => absurd h h11, fun _ _ => rfl, fun _ h => h⟩
  obtain ⟨w1, a1, b1, c1⟩ := k1
  have hj' : q'[t]? = some j := by rw [b1 t htl]; exact hj
  have htl' := (List.getElem?_eq_some_iff.1 hj').1
  have k2 : P.Wk c fl'' q'' ∧ (¬ P.Ends x → j + 1 ∈ q'') ∧ (∀ i : Nat, i < q'.length → q''[i]? = q'[i]?) ∧ (∀ z ∈ q', z ∈ q'') := by
    rcases h2 with ⟨he, rfl, rfl⟩ | ⟨he, rfl, rfl⟩
    · have hr' := P.Reach.next hr hx he
      obtain ⟨a, b⟩ := w1.mark hr' (P.reach_in hc hr')
      exact ⟨a, fun _ => b, fun i hi => by rw [P.queued_keeps (List.getElem?_eq_getElem hi), List.getElem?_eq_getElem hi], fun z hz => P.queued_mem hz⟩
    · exact ⟨w1, fun h => absurd he h, fun _ _ => rfl, fun _ h => h⟩
  obtain ⟨w2, a2, b2, c2⟩ := k2
  have hj'' : q''[t]? = some j := by rw [b2 t htl']; exact hj'
  refine ⟨w2, ?_, c2 _ (c1 _ hz), (List.getElem?_eq_some_iff.1 hj'').1⟩
  have hqq : ∀ i : Nat, i < q.length → q''[i]? = q[i]? := fun i hi => by
    have e := b1 i hi
    have hi' : i < q'.length := by rw [List.getElem?_eq_getElem hi] at e; exact (List.getElem?_eq_some_iff.1 e).1
    rw [b2 i hi', e]
  exact hs.more hj hx hqq (fun z hz => c2 _ (c1 _ hz)) (fun h => c2 _ (a1 h)) a2

set_option maxHeartbeats 4000000 in
theorem walk_any (c : List P.I) (hc : P.CodeL c) (hk : ∀ x ∈ c, x.k < 65536) (w : World) (b fb B L g N cap base : Nat) (sd : Sd b fb B L) (hg : g < L)
    (hown : w.ownsRow base 112 4 (.slice (some ⟨g, 0, none⟩) N cap) c.length (codeCells c))
    (h : Wt w b fb B (.slice (some ⟨g, 0, none⟩) N cap) c.length (List.replicate c.length false) [] (.slice none 0 0)) :
    Calls Tryz.prog 94 #[.pointer (some ⟨b, 0, none⟩)] w fun e w' => e = .returned (.tuple #[]) ∧ (∃ fl q qv, P.Flags c fl ∧ Wt w' b fb B (.slice (some ⟨g, 0, none⟩) N cap) c.length fl q qv) ∧ Below L w w' := by
  have HC := hid_m hc
  have HK := hid_m hk
  have HF := hid_m sd
  have HG := hid_m hg
  have HO := hid_m hown
  have HW := hid_m h
  have h800 := hc.few
  have h1 := hc.one
  clear hc hk hown h hg sd
  go_enter Tryz.func94, Tryz.ntmps94
  go_wp2_with fail
  refine (reach_any (k := 0) HW.out HF.out (by simp) (by omega) h800 (by simp)).mono ?_
  rintro e w1 ⟨rfl, ⟨qv, hwt⟩, hb1, _⟩
  have hmk := P.Wk.mark (P.Wk.start c) P.Reach.zero HC.out.one
  have HL0 : Hid (∃ fl q qv, WL w w1 b fb B L (.slice (some ⟨g, 0, none⟩) N cap) c 0 fl q qv) := ⟨_, _, _, hwt, hmk.1, hmk.2, P.Seen.zero _ _, hb1, Nat.zero_le _⟩
  clear hwt hb1 hmk
  go_wp2_with fail
  go_loopw [2] (fun j wr => ∃ (t : Nat), t ≤ c.length ∧ j = .int .i64 t ∧ Hid (∃ fl q qv, WL w wr b fb B L (.slice (some ⟨g, 0, none⟩) N cap) c t fl q qv)) (fun j _ => c.length - (intOf j).toNat)
  case atStart => exact ⟨0, Nat.zero_le _, rfl, HL0.out⟩
  case round =>
    obtain ⟨t, ht, rfl, HL⟩ := hrel
    obtain ⟨fl, q, qv, hl⟩ := HL.out
    have c2 := hl.wt.c2
    have c0 := hl.wt.c0
    have hqf := hl.wk.few
    have hhere := hl.here
    by_cases hlt : t < q.length
    · obtain ⟨j, hj⟩ : ∃ j, q[t]? = some j := ⟨_, List.getElem?_eq_getElem hlt⟩
      obtain ⟨gq, cq, hqv, _, _⟩ := hl.wt.own.form (by omega)
      obtain ⟨NQ, hNQ⟩ : ∃ NQ, NQ = q.length := ⟨_, rfl⟩
      rw [← hNQ] at hqv
      subst hqv
      have cj : wr.cell? ⟨gq, t, none⟩ = some (.int .i64 j) := row1_cell hl.wt.own (by simp) (by rw [List.getElem?_map, hj]; rfl)
      have hr : P.Reach c j := hl.wk.reach j (List.mem_of_getElem? hj)
      have hjl := P.reach_in HC.out hr
      obtain ⟨x, hx⟩ : ∃ x, c[j]? = some x := ⟨_, List.getElem?_eq_getElem hjl⟩
      have how : wr.ownsRow base 112 4 (.slice (some ⟨g, 0, none⟩) N cap) c.length (codeCells c) := m_owns_of HO.out (fun g' hg' => hl.bel.block g' (by cases hg'; exact HG.out))
      obtain ⟨d0, d1, d2, d3, hN1, hN2⟩ := ins_cell how rfl hx
      have HJ := hid_m hj
      have HR := hid_m hr
      have HX := hid_m hx
      have HLL := hid_m hl
      have i0 : (0 : Int) ≤ (t : Int) := Int.natCast_nonneg t
      have i1 : (t : Int) < (NQ : Int) := by omega
      have j0 : (0 : Int) ≤ (j : Int) := Int.natCast_nonneg j
      have j1 : (j : Int) < (N : Int) := by omega
      have HB := hid_m (And.intro hlt (And.intro hjl hqf))
      have HTC : Hid (t + 1 ≤ c.length) := by unfold Hid; omega
      have HTW : Hid (wrap64 ((t : Int) + 1) = (t : Int) + 1) := w64_id _ (by omega) (by omega)
      obtain ⟨op, xa, xb, k⟩ := x
      simp only at d0 d1 d2 d3
      clear hj hr hx how hl hjl hN1 hN2 hlt hqf hhere ht hNQ
      go_wp2_with fail
      refine (saysWhere_any op xa xb k _).mono ?_
      rintro e w2 ⟨rfl, hb2⟩
      have hbA : Below wr.heap.size wr (wr.alloc (.cells #[.int .i64 op, .int .i64 xa, .int .i64 xb, .int .i64 k] 112)) := (Below.refl _ _).alloc (Nat.le_refl _) _
      have hbr : Below wr.heap.size wr w2 := hbA.trans (hb2.mono hbA.size)
      have hn2 : w2.heap[wr.heap.size]? = some (.cells #[.int .i64 op, .int .i64 xa, .int .i64 xb, .int .i64 k] 112 (0, 0)) := by rw [hb2.block _ (by simp)]; exact heap_alloc_new _ _
      have w2t := HLL.out.wt.on hbr
      have n3 : w2.cell? ⟨wr.heap.size, 3, none⟩ = some (.int .i64 k) := by rw [cell_of_row _ _ _ _ _ _ hn2]; rfl
      have hbe2 : Below L w w2 := HLL.out.bel.trans (hbr.mono (Nat.le_trans HF.out.l2 (Nat.le_of_lt HLL.out.wt.fl.lt)))
      have hfl2 := HLL.out.wk.len
      have HW2 := hid_m w2t
      have HN2 := hid_m hn2
      have HBE2 := hid_m hbe2
      have HFL2 := hid_m hfl2
      have hrs : (11 ≤ op → k < c.length) := (HC.out.all j _ HX.out).2.2.2.1
      have HRS := hid_m hrs
      clear hbA hbr hn2 w2t hb2 hbe2 hrs hfl2 d0 d1 d2 d3 c2 c0 cj
      by_cases h11 : 11 ≤ op
      · rw [decide_eq_true h11]
        have H11 := hid_m h11
        have hkc := HRS.out h11
        have HKC := hid_m hkc
        clear h11 hkc
        go_wp2_with fail
        refine (reach_any (k := k) HW2.out HF.out HFL2.out HKC.out h800 (by have := HB.out.2.2; omega)).mono ?_
        rintro e w3 ⟨rfl, ⟨qv', hw3⟩, hb3, hk3⟩
        have hn3 := HLL.out.wt.copy HW2.out HN2.out (Nat.le_refl _) w3 hk3
        have m0 : w3.cell? ⟨wr.heap.size, 0, none⟩ = some (.int .i64 op) := by rw [cell_of_row _ _ _ _ _ _ hn3]; rfl
        have m1 : w3.cell? ⟨wr.heap.size, 1, none⟩ = some (.int .i64 xa) := by rw [cell_of_row _ _ _ _ _ _ hn3]; rfl
        have m2 : w3.cell? ⟨wr.heap.size, 2, none⟩ = some (.int .i64 xb) := by rw [cell_of_row _ _ _ _ _ _ hn3]; rfl
        have m3 : w3.cell? ⟨wr.heap.size, 3, none⟩ = some (.int .i64 k) := by rw [cell_of_row _ _ _ _ _ _ hn3]; rfl
        obtain ⟨fl', hfl'⟩ : ∃ x, P.marked fl k = x := ⟨_, rfl⟩
        obtain ⟨q', hq'⟩ : ∃ x, P.queued fl q k = x := ⟨_, rfl⟩
        have HW3 := hid_m hw3
        rw [hfl', hq'] at HW3
        have HB3 := hid_m (HBE2.out.trans hb3)
        have HC1 : Hid ((11 ≤ op ∧ fl' = P.marked fl k ∧ q' = P.queued fl q k) ∨ (¬ 11 ≤ op ∧ fl' = fl ∧ q' = q)) := .inl ⟨H11.out, hfl'.symm, hq'.symm⟩
        clear hfl' hq' hn3 hk3 hb3 hw3 n3
        go_wp2_with fail
        refine (nextFollows_any op xa xb k _).mono ?_
        rintro e w4 ⟨rfl, hb4⟩
        have w4t := HW3.out.on hb4
        have hbe4 : Below L w w4 := HB3.out.trans (hb4.mono (Nat.le_trans HF.out.l2 (Nat.le_of_lt HW3.out.fl.lt)))
        have HW4 := hid_m w4t
        have HB4 := hid_m hbe4
        clear w4t hbe4 hb4 m0 m1 m2 m3
        by_cases he : op = 0 ∨ op = 11
        · rw [decide_eq_false (not_not_intro he)]
          obtain ⟨k1, k2, k3, k4⟩ := seen_both HLL.out.wk HLL.out.seen HLL.out.zero HC.out HJ.out HX.out fl' q' HC1.out fl' q' (.inr ⟨he, rfl, rfl⟩)
          have HFIN2 : Hid (∃ fl q qv, WL w w4 b fb B L (.slice (some ⟨g, 0, none⟩) N cap) c (t + 1) fl q qv) := ⟨fl', q', qv', HW4.out, k1, k3, k2, HB4.out, k4⟩
          clear he k1 k2 k3 k4
          go_wp2_with fail
          refine ⟨⟨t + 1, HTC.out, by first | (rw [HTW.out]; exact next_t) | exact next_t, HFIN2.out⟩, by first | (rw [HTW.out]; exact less_t HTC.out) | exact less_t HTC.out⟩
        · rw [decide_eq_true he]
          have hnx := P.next_in HC.out HX.out he
          obtain ⟨k1, k2, k3, k4⟩ := seen_both HLL.out.wk HLL.out.seen HLL.out.zero HC.out HJ.out HX.out fl' q' HC1.out _ _ (.inl ⟨he, rfl, rfl⟩)
          have HFIN := hid_m (And.intro k1 (And.intro k3 (And.intro k2 k4)))
          have hjw : wrap64 ((j : Int) + 1) = ((j + 1 : Nat) : Int) := by have := HB.out.2.1; rw [w64_id _ (by omega) (by omega)]; rfl
          have HNX := hid_m hnx
          have hql : q'.length ≤ 800 := by
            rcases HC1.out with ⟨h, rfl, rfl⟩ | ⟨h, rfl, rfl⟩
            · have hq3 : (P.queued fl q k).length ≤ c.length := (HLL.out.wk.mark (P.Reach.go HR.out HX.out h) (HRS.out h)).1.few
              omega
            · have := HB.out.2.2; omega
          have hfl4 : fl'.length = c.length := by
            rcases HC1.out with ⟨h, rfl, rfl⟩ | ⟨h, rfl, rfl⟩
            · exact (HLL.out.wk.mark (P.Reach.go HR.out HX.out h) (HRS.out h)).1.len
            · exact HFL2.out
          have HQL := hid_m (And.intro hql hfl4)
          clear he hnx k1 k2 k3 k4 hql hfl4
          go_wp2_with fail
          refine (reach_next (k := j) HW4.out HF.out HQL.out.2 HNX.out h800 HQL.out.1).mono ?_
          rintro e w5 ⟨rfl, ⟨qv5, hw5⟩, hb5⟩
          have HFIN2 : Hid (∃ fl q qv, WL w w5 b fb B L (.slice (some ⟨g, 0, none⟩) N cap) c (t + 1) fl q qv) := ⟨_, _, _, hw5, HFIN.out.1, HFIN.out.2.1, HFIN.out.2.2.1, HB4.out.trans hb5, HFIN.out.2.2.2⟩
          clear hw5 hb5
          go_wp2_with fail
          refine ⟨⟨t + 1, HTC.out, by first | (rw [HTW.out]; exact next_t) | exact next_t, HFIN2.out⟩, by first | (rw [HTW.out]; exact less_t HTC.out) | exact less_t HTC.out⟩
      · rw [decide_eq_false h11]
        obtain ⟨fl', q', qv', w3, HC1, HW3, HB3, hn3⟩ : ∃ fl' q' qv' w3', Hid ((11 ≤ op ∧ fl' = P.marked fl k ∧ q' = P.queued fl q k) ∨ (¬ 11 ≤ op ∧ fl' = fl ∧ q' = q)) ∧ Hid (Wt w2 b fb B (.slice (some ⟨g, 0, none⟩) N cap) c.length fl' q' qv') ∧ Hid (Below L w w2) ∧ (w2 = w3') := ⟨fl, q, _, w2, .inr ⟨h11, rfl, rfl⟩, HW2.out, HBE2.out, rfl⟩
        clear hn3 w3
        have m0 : w2.cell? ⟨wr.heap.size, 0, none⟩ = some (.int .i64 op) := by rw [cell_of_row _ _ _ _ _ _ HN2.out]; rfl
        have m1 : w2.cell? ⟨wr.heap.size, 1, none⟩ = some (.int .i64 xa) := by rw [cell_of_row _ _ _ _ _ _ HN2.out]; rfl
        have m2 : w2.cell? ⟨wr.heap.size, 2, none⟩ = some (.int .i64 xb) := by rw [cell_of_row _ _ _ _ _ _ HN2.out]; rfl
        have m3 : w2.cell? ⟨wr.heap.size, 3, none⟩ = some (.int .i64 k) := by rw [cell_of_row _ _ _ _ _ _ HN2.out]; rfl
        clear h11 n3
        go_wp2_with fail
        refine (nextFollows_any op xa xb k _).mono ?_
        rintro e w4 ⟨rfl, hb4⟩
        have w4t := HW3.out.on hb4
        have hbe4 : Below L w w4 := HB3.out.trans (hb4.mono (Nat.le_trans HF.out.l2 (Nat.le_of_lt HW3.out.fl.lt)))
        have HW4 := hid_m w4t
        have HB4 := hid_m hbe4
        clear w4t hbe4 hb4 m0 m1 m2 m3
        by_cases he : op = 0 ∨ op = 11
        · rw [decide_eq_false (not_not_intro he)]
          obtain ⟨k1, k2, k3, k4⟩ := seen_both HLL.out.wk HLL.out.seen HLL.out.zero HC.out HJ.out HX.out fl' q' HC1.out fl' q' (.inr ⟨he, rfl, rfl⟩)
          have HFIN2 : Hid (∃ fl q qv, WL w w4 b fb B L (.slice (some ⟨g, 0, none⟩) N cap) c (t + 1) fl q qv) := ⟨fl', q', qv', HW4.out, k1, k3, k2, HB4.out, k4⟩
          clear he k1 k2 k3 k4
          go_wp2_with fail
          refine ⟨⟨t + 1, HTC.out, by first | (rw [HTW.out]; exact next_t) | exact next_t, HFIN2.out⟩, by first | (rw [HTW.out]; exact less_t HTC.out) | exact less_t HTC.out⟩
        · rw [decide_eq_true he]
          have hnx := P.next_in HC.out HX.out he
          obtain ⟨k1, k2, k3, k4⟩ := seen_both HLL.out.wk HLL.out.seen HLL.out.zero HC.out HJ.out HX.out fl' q' HC1.out _ _ (.inl ⟨he, rfl, rfl⟩)
          have HFIN := hid_m (And.intro k1 (And.intro k3 (And.intro k2 k4)))
          have hjw : wrap64 ((j : Int) + 1) = ((j + 1 : Nat) : Int) := by have := HB.out.2.1; rw [w64_id _ (by omega) (by omega)]; rfl
          have HNX := hid_m hnx
          have hql : q'.length ≤ 800 := by
            rcases HC1.out with ⟨h, rfl, rfl⟩ | ⟨h, rfl, rfl⟩
            · have hq3 : (P.queued fl q k).length ≤ c.length := (HLL.out.wk.mark (P.Reach.go HR.out HX.out h) (HRS.out h)).1.few
              omega
            · have := HB.out.2.2; omega
          have hfl4 : fl'.length = c.length := by
            rcases HC1.out with ⟨h, rfl, rfl⟩ | ⟨h, rfl, rfl⟩
            · exact (HLL.out.wk.mark (P.Reach.go HR.out HX.out h) (HRS.out h)).1.len
            · exact HFL2.out
          have HQL := hid_m (And.intro hql hfl4)
          clear he hnx k1 k2 k3 k4 hql hfl4
          go_wp2_with fail
          refine (reach_next (k := j) HW4.out HF.out HQL.out.2 HNX.out h800 HQL.out.1).mono ?_
          rintro e w5 ⟨rfl, ⟨qv5, hw5⟩, hb5⟩
          have HFIN2 : Hid (∃ fl q qv, WL w w5 b fb B L (.slice (some ⟨g, 0, none⟩) N cap) c (t + 1) fl q qv) := ⟨_, _, _, hw5, HFIN.out.1, HFIN.out.2.1, HFIN.out.2.2.1, HB4.out.trans hb5, HFIN.out.2.2.2⟩
          clear hw5 hb5
          go_wp2_with fail
          refine ⟨⟨t + 1, HTC.out, by first | (rw [HTW.out]; exact next_t) | exact next_t, HFIN2.out⟩, by first | (rw [HTW.out]; exact less_t HTC.out) | exact less_t HTC.out⟩
    · have hte : t = q.length := by omega
      subst hte
      have hfin := hl.wk.flags hl.zero hl.seen
      rcases hl.wt.own.2 with ⟨hq0, hlen⟩ | ⟨gq, cq, cur, hq0, _⟩
      · have hz := hl.zero
        rw [List.length_eq_zero_iff.1 hlen] at hz
        cases hz
      · have HFIN : Hid (∃ fl q qv, P.Flags c fl ∧ Wt wr b fb B (.slice (some ⟨g, 0, none⟩) N cap) c.length fl q qv) := ⟨fl, q, qv, hfin, hl.wt⟩
        have HBL := hid_m hl.bel
        subst hq0
        clear hfin hl hqf hhere ht hlt
        go_wp2_with fail
        go_end0
        exact ⟨rfl, HFIN.out, HBL.out⟩
end Go.Proofs.YtghggcehloiemabGreatDoor
