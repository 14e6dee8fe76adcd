import Derived.Test.YtghggcehloiemabTypAtAll
namespace Go.Proofs.Ytghggcehloiemab
open Go.RowKit
set_option linter.unusedVariables false
set_option maxRecDepth 16000

/-- What stands while the reference gathers a struct's fields: its result's box, its variable t at T, the strings, the two rows; blocks of S are as in w0. -/
structure Q (w : World) (T : Nat) (vS : Value) (ss : List ByteArray) (w0 : World) (S : Nat → Prop) (x1 x2 xF xA vF : Value) (nF : Nat) (XF : List Value) (vA : Value) (nA : Nat) (XA : List Value) (wr : World) : Prop where
  res : wr.heap[w.heap.size]? = some (.cells #[.int .u8 0, .int .i64 0, .int .i64 0, .slice none 0 0, .slice none 0 0] 33 (0, 0))
  lt : w.heap.size < T
  var : wr.heap[T]? = some (.cells #[.int .u8 123, x1, x2, xF, xA] 33 (0, 0))
  strs : wr.ownsRow (w.heap.size + 1) 9 1 vS ss.length (ss.map Value.string)
  strsT : ∀ g, vS.ownBlock = some g → g < T
  rowF : wr.ownsRow (T + 1) 33 5 vF nF XF
  rowA : wr.ownsRow (T + 1) 3 1 vA nA XA
  ne : ∀ g, vF.ownBlock = some g → vA.ownBlock ≠ some g
  foot : ∀ g, S g → T < g ∧ g < wr.heap.size ∧ vF.ownBlock ≠ some g ∧ vA.ownBlock ≠ some g
  keep : ∀ g, S g → wr.heap[g]? = w0.heap[g]?
  below : Below w.heap.size w wr

section
variable {w : World} {T : Nat} {vS : Value} {ss : List ByteArray} {w0 : World} {S : Nat → Prop} {x1 x2 xF xA vF : Value} {nF : Nat} {XF : List Value} {vA : Value} {nA : Nat} {XA : List Value} {wr : World}

theorem Q.tlt (h : Q w T vS ss w0 S x1 x2 xF xA vF nF XF vA nA XA wr) : T < wr.heap.size := blk_lt h.var
/-- A call that makes memory alone; new blocks may come under S. -/
theorem Q.on (h : Q w T vS ss w0 S x1 x2 xF xA vF nF XF vA nA XA wr) {w' : World} (hb : Below wr.heap.size wr w') {S' : Nat → Prop} (hS : ∀ g, S' g → S g ∨ (wr.heap.size ≤ g ∧ g < w'.heap.size)) : Q w T vS ss w' S' x1 x2 xF xA vF nF XF vA nA XA w' := by
  have hT := h.tlt
  have hl := h.lt
  have hsz := hb.size
  have hF : ∀ g, vF.ownBlock = some g → g < wr.heap.size := fun g hg => (h.rowF.lt _ hg).2
  have hA : ∀ g, vA.ownBlock = some g → g < wr.heap.size := fun g hg => (h.rowA.lt _ hg).2
  refine ⟨by rw [hb.block _ (by omega)]; exact h.res, hl, by rw [hb.block _ hT]; exact h.var, owns_of h.strs (fun g hg => hb.block _ (by have := h.strsT g hg; omega)), h.strsT, owns_of h.rowF (fun g hg => hb.block _ (hF g hg)), owns_of h.rowA (fun g hg => hb.block _ (hA g hg)), h.ne, ?_, fun _ _ => rfl, h.below.trans (hb.mono (by omega))⟩
  intro g hg
  rcases hS g hg with h1 | ⟨h1, h2⟩
  · have := h.foot g h1; exact ⟨this.1, by omega, this.2.2⟩
  · exact ⟨by omega, h2, fun e => by have := hF g e; omega, fun e => by have := hA g e; omega⟩
theorem Q.setCell (h : Q w T vS ss w0 S x1 x2 xF xA vF nF XF vA nA XA wr) (k : Nat) (u : Value) {y1 y2 yF yA : Value} (hy : (#[.int .u8 123, x1, x2, xF, xA] : Array Value).setIfInBounds k u = #[.int .u8 123, y1, y2, yF, yA]) : Q w T vS ss w0 S y1 y2 yF yA vF nF XF vA nA XA (wr.setCell ⟨T, k, none⟩ u) := by
  have hl := h.lt
  have ho : ∀ g, g ≠ T → (wr.setCell ⟨T, k, none⟩ u).heap[g]? = wr.heap[g]? := fun g hg => Below.heap_setCell _ _ _ _ hg
  refine ⟨by rw [ho _ (by omega)]; exact h.res, hl, ?_, owns_of h.strs (fun g hg => ho _ (by have := h.strsT g hg; omega)), h.strsT, owns_of h.rowF (fun g hg => ho _ (by have := (h.rowF.lt _ hg).1; omega)), owns_of h.rowA (fun g hg => ho _ (by have := (h.rowA.lt _ hg).1; omega)), h.ne, ?_, ?_, h.below.setCell (by simp; omega) _⟩
  · simp [World.setCell, Array.getElem?_modify, h.var, hy]
  · intro g hg; have := h.foot g hg; exact ⟨this.1, by simpa [World.setCell] using this.2.1, this.2.2⟩
  · intro g hg; have := h.foot g hg; rw [ho _ (by omega)]; exact h.keep g hg
theorem Q.appF (h : Q w T vS ss w0 S x1 x2 xF xA vF nF XF vA nA XA wr) {o : Obj} {w3 : World} {g n k : Nat} {X : List Value} (hg : (wr.alloc o).grownBy w3 vF.ownBlock) (hown : w3.ownsRow (T + 1) 33 5 (.slice (some ⟨g, 0, none⟩) n k) n X) (hat : vF.ownBlock = some g ∨ g = wr.heap.size + 1) :
    Q w T vS ss w0 S x1 x2 xF xA (.slice (some ⟨g, 0, none⟩) n k) n X vA nA XA w3 := by
  have hl := h.lt
  have hT := h.tlt
  have hsz := hg.size
  simp at hsz
  have ho : ∀ j, j < wr.heap.size → vF.ownBlock ≠ some j → w3.heap[j]? = wr.heap[j]? := fun j hj hne => by
    rw [hg.block j (by simp; omega) (fun e => hne e.symm), Below.heap_alloc _ _ _ hj]
  have hlow : ∀ j, j ≤ T → vF.ownBlock ≠ some j := fun j hj e => by have := (h.rowF.lt _ e).1; omega
  refine ⟨by rw [ho _ (by omega) (hlow _ (by omega))]; exact h.res, hl, by rw [ho _ hT (hlow _ (by omega))]; exact h.var, owns_of h.strs (fun j hj => ho _ (by have := h.strsT j hj; omega) (hlow _ (by have := h.strsT j hj; omega))), h.strsT, hown, owns_of h.rowA (fun j hj => ho _ (h.rowA.lt _ hj).2 (fun e => h.ne j e hj)), ?_, ?_, ?_, ?_⟩
  · intro j hj e
    simp [Value.ownBlock] at hj
    subst hj
    rcases hat with hat | hat
    · exact h.ne _ hat e
    · have := (h.rowA.lt _ e).2; omega
  · intro j hj
    have := h.foot j hj
    refine ⟨this.1, by omega, ?_, this.2.2.2⟩
    simp [Value.ownBlock]
    intro e
    subst e
    rcases hat with hat | hat
    · exact this.2.2.1 hat
    · omega
  · intro j hj
    have := h.foot j hj
    rw [ho j this.2.1 this.2.2.1]; exact h.keep j hj
  · exact Below.grown (h.below.alloc (by have := h.below.size; omega) o) hg (by simp; omega) (fun j hj => by have := (h.rowF.lt _ hj).1; omega)
theorem Q.appA (h : Q w T vS ss w0 S x1 x2 xF xA vF nF XF vA nA XA wr) {o : Obj} {w3 : World} {g n k : Nat} {X : List Value} (hg : (wr.alloc o).grownBy w3 vA.ownBlock) (hown : w3.ownsRow (T + 1) 3 1 (.slice (some ⟨g, 0, none⟩) n k) n X) (hat : vA.ownBlock = some g ∨ g = wr.heap.size + 1) :
    Q w T vS ss w0 S x1 x2 xF xA vF nF XF (.slice (some ⟨g, 0, none⟩) n k) n X w3 := by
  have hl := h.lt
  have hT := h.tlt
  have hsz := hg.size
  simp at hsz
  have ho : ∀ j, j < wr.heap.size → vA.ownBlock ≠ some j → w3.heap[j]? = wr.heap[j]? := fun j hj hne => by
    rw [hg.block j (by simp; omega) (fun e => hne e.symm), Below.heap_alloc _ _ _ hj]
  have hlow : ∀ j, j ≤ T → vA.ownBlock ≠ some j := fun j hj e => by have := (h.rowA.lt _ e).1; omega
  refine ⟨by rw [ho _ (by omega) (hlow _ (by omega))]; exact h.res, hl, by rw [ho _ hT (hlow _ (by omega))]; exact h.var, owns_of h.strs (fun j hj => ho _ (by have := h.strsT j hj; omega) (hlow _ (by have := h.strsT j hj; omega))), h.strsT, owns_of h.rowF (fun j hj => ho _ (h.rowF.lt _ hj).2 (h.ne j hj)), hown, ?_, ?_, ?_, ?_⟩
  · intro j hj e
    simp [Value.ownBlock] at e
    subst e
    rcases hat with hat | hat
    · exact h.ne _ hj hat
    · have := (h.rowF.lt _ hj).2; omega
  · intro j hj
    have := h.foot j hj
    refine ⟨this.1, by omega, this.2.2.1, ?_⟩
    simp [Value.ownBlock]
    intro e
    subst e
    rcases hat with hat | hat
    · exact this.2.2.2 hat
    · omega
  · intro j hj
    have := h.foot j hj
    rw [ho j this.2.1 this.2.2.2]; exact h.keep j hj
  · exact Below.grown (h.below.alloc (by have := h.below.size; omega) o) hg (by simp; omega) (fun j hj => by have := (h.rowA.lt _ hj).1; omega)
end
end Go.Proofs.Ytghggcehloiemab
