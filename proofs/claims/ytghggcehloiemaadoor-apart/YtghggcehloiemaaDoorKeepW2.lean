import Derived.Test.YtghggcehloiemaaDoorKeepW
import Derived.Deep.RegionHeld3
import Derived.Deep.DrawnRows
namespace Go.Proofs.YtghggcehloiemaaDoor
open Go.RowKit
set_option linter.unusedVariables false
set_option maxRecDepth 16000

theorem leafT_len (k : Nat) : (P.leafT k).length = 2 := by
  unfold P.leafT
  by_cases h0 : k = 0
  · rw [if_pos h0]; rfl
  · by_cases h1 : k = 1
    · rw [if_neg h0, if_pos h1]; rfl
    · by_cases h2 : k = 2
      · rw [if_neg h0, if_neg h1, if_pos h2]; rfl
      · by_cases h3 : k = 3
        · rw [if_neg h0, if_neg h1, if_neg h2, if_pos h3]; rfl
        · by_cases h4 : k = 4
          · rw [if_neg h0, if_neg h1, if_neg h2, if_neg h3, if_pos h4]; rfl
          · rw [if_neg h0, if_neg h1, if_neg h2, if_neg h3, if_neg h4]; rfl
theorem bytes_len (l : List UInt8) : (bytesOf l).size = l.length := by simp [bytesOf, ByteArray.size]
theorem pick6 (c : Int) : P.pickP c 6 ≤ 5 := Nat.le_of_lt_succ (pick_lt c 6 (by decide))

def I64 (x : Int) : Prop := -9223372036854775808 ≤ x ∧ x ≤ 9223372036854775807

/-- The five cells of a shape at block B. -/
def Five (w : World) (B : Nat) (v0 v1 v2 v3 v4 : Value) : Prop := w.cell? ⟨B, 0, none⟩ = some v0 ∧ w.cell? ⟨B, 1, none⟩ = some v1 ∧ w.cell? ⟨B, 2, none⟩ = some v2 ∧ w.cell? ⟨B, 3, none⟩ = some v3 ∧ w.cell? ⟨B, 4, none⟩ = some v4
theorem Five.on {w w' : World} {B : Nat} {v0 v1 v2 v3 v4 : Value} (h : Five w B v0 v1 v2 v3 v4) (hb : Below w.heap.size w w') : Five w' B v0 v1 v2 v3 v4 := by
  have key : ∀ a v, w.cell? a = some v → w'.cell? a = some v := fun a v hv => (hb.cell (p := a) (World.block_lt_of_cell? w a hv)).trans hv
  exact ⟨key _ _ h.1, key _ _ h.2.1, key _ _ h.2.2.1, key _ _ h.2.2.2.1, key _ _ h.2.2.2.2⟩
theorem Five.new (w : World) (v0 v1 v2 v3 v4 : Value) (T : TypeId) : Five (w.alloc (.cells #[v0, v1, v2, v3, v4] T)) w.heap.size v0 v1 v2 v3 v4 := by
  have h := heap_alloc_new w (.cells #[v0, v1, v2, v3, v4] T)
  refine ⟨?_, ?_, ?_, ?_, ?_⟩ <;> rw [cell_of_row _ _ _ _ _ _ h] <;> rfl
theorem five_on {w wp w3 : World} {B : Nat} {v0 v1 v2 v3 v4 : Value} (hb : Below wp.heap.size wp w3) (h : Five w B v0 v1 v2 v3 v4) (he : wp.heap = w.heap := by rfl) : Five w3 B v0 v1 v2 v3 v4 := by
  have h' : Five wp B v0 v1 v2 v3 v4 := by unfold Five World.cell? at *; rw [he]; exact h
  exact h'.on hb
theorem below_on {w0 w wp w3 : World} (hb : Below wp.heap.size wp w3) (h : Below w0.heap.size w0 w) (he : wp.heap = w.heap := by rfl) (ho : wp.os = w.os := by rfl) (ht : wp.tape = w.tape := by rfl) (hu : wp.output = w.output := by rfl) : Below w0.heap.size w0 w3 := by
  have h' : Below w0.heap.size w0 wp := ⟨ho.trans h.os, ht.trans h.tape, hu.trans h.output, by rw [he]; exact h.size, fun k hk => by rw [he]; exact h.block k hk⟩
  exact h'.trans (hb.mono h'.size)
theorem Five.drew {w : World} {B : Nat} {v0 v1 v2 v3 v4 : Value} (h : Five w B v0 v1 v2 v3 v4) : Five w.drew B v0 v1 v2 v3 v4 := h

/-- The leaf that a literal names. -/
def selI (l0 l1 l2 l3 : Int) (z : Int) : Int := if z = 0 then l0 else if z = 1 then l1 else if z = 2 then l2 else l3
theorem knumber_int (h l0 l1 l2 l3 z : Int) (w : World) (hz : z = 0 ∨ z = 1 ∨ z = 2 ∨ z = 3) (hl : ∀ x ∈ [l0, l1, l2, l3], I64 x) :
    Calls Tryd.prog 21 #[.agg #[.int .i64 h, .int .i64 l0, .int .i64 l1, .int .i64 l2, .int .i64 l3], .int .i64 z] w fun e w' => e = .returned (.int .i64 (P.pickP (selI l0 l1 l2 l3 z) 6)) ∧ Below w.heap.size w w' := by
  rcases hz with rfl | rfl | rfl | rfl
  · exact knumber_any h l0 l1 l2 l3 0 w (by decide) hl
  · exact knumber_any h l0 l1 l2 l3 1 w (by decide) hl
  · exact knumber_any h l0 l1 l2 l3 2 w (by decide) hl
  · exact knumber_any h l0 l1 l2 l3 3 w (by decide) hl
end Go.Proofs.YtghggcehloiemaaDoor
