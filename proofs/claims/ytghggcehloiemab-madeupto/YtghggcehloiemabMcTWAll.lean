import Derived.Test.YtghggcehloiemabMcPAll
import Derived.Test.YtghggcehloiemabMcStep2All
import Derived.Deep.OwnRows
namespace Go.Proofs.Ytghggcehloiemab
open Go.RowKit
set_option linter.unusedVariables false
set_option maxRecDepth 16000

/-- The marks. -/
def Fl (w : World) (fb : Nat) (fl : List Bool) : Prop := w.heap[fb]? = some (.cells (fl.map Value.bool).toArray 4 (0, 0))
theorem Fl.cell {w : World} {fb i : Nat} {fl : List Bool} {b : Bool} (h : Fl w fb fl) (hi : fl[i]? = some b) : w.cell? ⟨fb, i, none⟩ = some (.bool b) := by
  rw [cell_of_row _ _ _ _ _ _ h]; simp [hi]
theorem Fl.fz {w : World} {fb : Nat} {fl : List Bool} (h : Fl w fb fl) (i : Nat) : w.frozen? ⟨fb, i, none⟩ = false := by unfold Fl at h; simp [World.frozen?, h]
theorem Fl.set {w : World} {fb i : Nat} {fl : List Bool} (h : Fl w fb fl) : Fl (w.setCell ⟨fb, i, none⟩ (.bool true)) fb (fl.set i true) := by
  unfold Fl at *
  simp [World.setCell, Array.getElem?_modify, h, List.map_set]
theorem Fl.of {w w' : World} {fb : Nat} {fl : List Bool} (h : Fl w fb fl) (he : w'.heap[fb]? = w.heap[fb]?) : Fl w' fb fl := by unfold Fl at *; rw [he]; exact h
theorem Fl.lt {w : World} {fb : Nat} {fl : List Bool} (h : Fl w fb fl) : fb < w.heap.size := m_blk_lt h
theorem Fl.made (w : World) (n : Nat) : Fl (w.alloc (.cells (madeCells #[.bool false] n) 4)) w.heap.size (List.replicate n false) := by
  unfold Fl
  have e : madeCells #[.bool false] n = ((List.replicate n false).map Value.bool).toArray := by
    apply Array.toList_inj.1
    rw [toList_madeCells_one]; simp
  rw [e]; exact heap_alloc_new w _
/-- Where the walker lies, where its marks, and what lies ahead of both or behind both. -/
structure Sd (b fb B L : Nat) : Prop where
  ne : fb ≠ b
  b1 : b < B
  f1 : fb < B
  l1 : L ≤ b
  l2 : L ≤ fb
theorem one_new (w : World) (a : Value) (t : TypeId) : ∀ j u, [a][j]? = some u → (w.alloc (.cells #[a] t)).cell? ((⟨w.heap.size, 0, none⟩ : Addr).add j) = some u :=
  World.news_of_block (heap_alloc_new w _)

theorem one_new' {w : World} {n : Nat} (h : w.heap.size = n) (a : Value) (t : TypeId) : ∀ j u, [a][j]? = some u → (w.alloc (.cells #[a] t)).cell? ((⟨n, 0, none⟩ : Addr).add j) = some u := by rw [← h]; exact one_new w a t

end Go.Proofs.Ytghggcehloiemab
namespace Go.Proofs.Ytghggcehloiemab
open Go.RowKit
set_option linter.unusedVariables false
set_option maxRecDepth 16000

theorem row1_cell {w : World} {base g N cap n t : Nat} {e : TypeId} {xs : List Value} {u : Value} (h : w.ownsRow base e 1 (.slice (some ⟨g, 0, none⟩) N cap) n xs) (hn : n = xs.length) (hx : xs[t]? = some u) : w.cell? ⟨g, t, none⟩ = some u := by
  obtain ⟨h1, h2⟩ := h
  rcases h2 with ⟨h2, _⟩ | ⟨g', cap', cur, hv, hb, hg, hn', hm, hsz, htk⟩
  · cases h2
  · cases hv
    have ht : t < xs.length := (List.getElem?_eq_some_iff.1 hx).1
    rw [cell_of_row w g _ _ _ _ hg]
    rw [← htk, List.getElem?_take_of_lt (by omega)] at hx
    simpa using hx

theorem next_t {t : Nat} : Value.int .i64 ((t : Int) + 1) = .int .i64 ((t + 1 : Nat) : Int) := by rw [Int.natCast_add]; rfl
theorem less_t {t n : Nat} (h : t < n) : n - (intOf (.int .i64 ((t : Int) + 1))).toNat < n - (intOf (.int .i64 (t : Int))).toNat := by simp only [intOf]; omega
theorem seen_both {c : List P.I} {fl : List Bool} {q : List Nat} {t j : Nat} {x : P.I} (hw : P.Wk c fl q) (hs : P.Seen c q t) (hz : 0 ∈ q) (hc : P.CodeL c) (hj : q[t]? = some j) (hx : c[j]? = some x) (fl' : List Bool) (q' : List Nat)
    (h1 : (11 ≤ x.op ∧ fl' = P.marked fl x.k ∧ q' = P.queued fl q x.k) ∨ (¬ 11 ≤ x.op ∧ fl' = fl ∧ q' = q)) (fl'' : List Bool) (q'' : List Nat)
    (h2 : (¬ P.Ends x ∧ fl'' = P.marked fl' (j + 1) ∧ q'' = P.queued fl' q' (j + 1)) ∨ (P.Ends x ∧ fl'' = fl' ∧ q'' = q')) : P.Wk c fl'' q'' ∧ P.Seen c q'' (t + 1) ∧ 0 ∈ q'' ∧ t + 1 ≤ q''.length := by
  have hr : P.Reach c j := hw.reach j (List.mem_of_getElem? hj)
  have htl := (List.getElem?_eq_some_iff.1 hj).1
  have k1 : P.Wk c fl' q' ∧ (11 ≤ x.op → x.k ∈ q') ∧ (∀ i : Nat, i < q.length → q'[i]? = q[i]?) ∧ (∀ z ∈ q, z ∈ q') := by
    rcases h1 with ⟨h11, rfl, rfl⟩ | ⟨h11, rfl, rfl⟩
    · have hr' := P.Reach.go hr hx h11
      obtain ⟨a, b⟩ := hw.mark hr' (P.reach_in hc hr')
      exact ⟨a, fun _ => b, fun i hi => by rw [P.queued_keeps (List.getElem?_eq_getElem hi), List.getElem?_eq_getElem hi], fun z hz => P.queued_mem hz⟩
    · exact ⟨hw, fun h => absurd h h11, fun _ _ => rfl, fun _ h => h⟩
  obtain ⟨w1, a1, b1, c1⟩ := k1
  have hj' : q'[t]? = some j := by rw [b1 t htl]; exact hj
  have htl' := (List.getElem?_eq_some_iff.1 hj').1
  have k2 : P.Wk c fl'' q'' ∧ (¬ P.Ends x → j + 1 ∈ q'') ∧ (∀ i : Nat, i < q'.length → q''[i]? = q'[i]?) ∧ (∀ z ∈ q', z ∈ q'') := by
    rcases h2 with ⟨he, rfl, rfl⟩ | ⟨he, rfl, rfl⟩
    · have hr' := P.Reach.next hr hx he
      obtain ⟨a, b⟩ := w1.mark hr' (P.reach_in hc hr')
      exact ⟨a, fun _ => b, fun i hi => by rw [P.queued_keeps (List.getElem?_eq_getElem hi), List.getElem?_eq_getElem hi], fun z hz => P.queued_mem hz⟩
    · exact ⟨w1, fun h => absurd he h, fun _ _ => rfl, fun _ h => h⟩
  obtain ⟨w2, a2, b2, c2⟩ := k2
  have hj'' : q''[t]? = some j := by rw [b2 t htl']; exact hj'
  refine ⟨w2, ?_, c2 _ (c1 _ hz), (List.getElem?_eq_some_iff.1 hj'').1⟩
  have hqq : ∀ i : Nat, i < q.length → q''[i]? = q[i]? := fun i hi => by
    have e := b1 i hi
    have hi' : i < q'.length := by rw [List.getElem?_eq_getElem hi] at e; exact (List.getElem?_eq_some_iff.1 e).1
    rw [b2 i hi', e]
  exact hs.more hj hx hqq (fun z hz => c2 _ (c1 _ hz)) (fun h => c2 _ (a1 h)) a2

end Go.Proofs.Ytghggcehloiemab
