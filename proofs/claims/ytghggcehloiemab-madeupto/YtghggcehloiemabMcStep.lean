import Derived.Test.YtghggcehloiemabMcXAll
import Derived.Deep.RegionWith
namespace Go.Proofs.Ytghggcehloiemab
open Go.RowKit
set_option linter.unusedVariables false
set_option maxRecDepth 16000

theorem i4_set {w : World} {ib rb o op a b k : Nat} {v : Value} (h : w.cell? ⟨ib, 0, none⟩ = some (.int .i64 op) ∧ w.cell? ⟨ib, 1, none⟩ = some (.int .i64 a) ∧ w.cell? ⟨ib, 2, none⟩ = some (.int .i64 b) ∧ w.cell? ⟨ib, 3, none⟩ = some (.int .i64 k)) (hne : ib ≠ rb) :
    (w.setCell ⟨rb, o, none⟩ v).cell? ⟨ib, 0, none⟩ = some (.int .i64 op) ∧ (w.setCell ⟨rb, o, none⟩ v).cell? ⟨ib, 1, none⟩ = some (.int .i64 a) ∧ (w.setCell ⟨rb, o, none⟩ v).cell? ⟨ib, 2, none⟩ = some (.int .i64 b) ∧ (w.setCell ⟨rb, o, none⟩ v).cell? ⟨ib, 3, none⟩ = some (.int .i64 k) := by
  have e : ∀ j, (w.setCell ⟨rb, o, none⟩ v).cell? ⟨ib, j, none⟩ = w.cell? ⟨ib, j, none⟩ := fun j => by
    unfold World.cell?
    rw [set_other (g := ib) hne]
  rw [e, e, e, e]; exact h
theorem i4_drew {w : World} {ib op a b k : Nat} (h : w.cell? ⟨ib, 0, none⟩ = some (.int .i64 op) ∧ w.cell? ⟨ib, 1, none⟩ = some (.int .i64 a) ∧ w.cell? ⟨ib, 2, none⟩ = some (.int .i64 b) ∧ w.cell? ⟨ib, 3, none⟩ = some (.int .i64 k)) :
    w.drew.cell? ⟨ib, 0, none⟩ = some (.int .i64 op) ∧ w.drew.cell? ⟨ib, 1, none⟩ = some (.int .i64 a) ∧ w.drew.cell? ⟨ib, 2, none⟩ = some (.int .i64 b) ∧ w.drew.cell? ⟨ib, 3, none⟩ = some (.int .i64 k) := h

end Go.Proofs.Ytghggcehloiemab
