import Derived.Test.YtghggcehloiemabMcStep
namespace Go.Proofs.Ytghggcehloiemab
open Go.RowKit
set_option linter.unusedVariables false
set_option maxRecDepth 16000

end Go.Proofs.Ytghggcehloiemab
namespace Go.Proofs.Ytghggcehloiemab
open Go.RowKit
set_option linter.unusedVariables false
set_option maxRecDepth 16000

def outV (o : P.O) : Value := .agg #[.string ⟨o.mem.toArray⟩, .int .i64 o.res, .int .i64 o.st, .int .i64 o.steps]

theorem cell_alloc_old {w : World} {o : Obj} {b i : Nat} (h : b < w.heap.size) : (w.alloc o).cell? ⟨b, i, none⟩ = w.cell? ⟨b, i, none⟩ := by
  unfold World.cell?; rw [alloc_old h]
theorem P.go_step {code : List P.I} {f n : Nat} {m m' : P.M} {x : P.I} (hx : code[m.pc]? = some x) (h0 : x.op ≠ 0) (hs : P.step x m = some m') : P.go code (f + 1) n m = P.go code f (n + 1) m' := by
  rw [P.go, hx]; simp only; rw [if_neg h0, hs]
theorem P.go_bad {code : List P.I} {f n : Nat} {m : P.M} {x : P.I} (hx : code[m.pc]? = some x) (h0 : x.op ≠ 0) (hs : P.step x m = none) : P.go code (f + 1) n m = ⟨[], 0, 0, 0, 7⟩ := by
  rw [P.go, hx]; simp only; rw [if_neg h0, hs]
theorem P.go_end {code : List P.I} {f n : Nat} {m : P.M} {x : P.I} (hx : code[m.pc]? = some x) (h0 : x.op = 0) : P.go code (f + 1) n m = ⟨m.mem, P.rg m 0, x.k, n + 1, 0⟩ := by
  rw [P.go, hx]; simp only; rw [if_pos h0]
theorem P.go_zero (code : List P.I) (n : Nat) (m : P.M) : P.go code 0 n m = ⟨[], 0, 0, 0, 8⟩ := rfl
theorem w64_next (q fuel : Nat) (h : q < fuel) (hf : fuel ≤ 20000) : wrap64 ((q : Int) + 1) = (q : Int) + 1 := w64_id _ (by omega) (by omega)
theorem less_left {q fuel : Nat} (h : q < fuel) : fuel - (q + 1) < fuel - q := by omega
theorem out4 {w : World} {ob : Nat} {T : TypeId} {u0 u1 u2 u3 : Value} (v0 v1 v2 v3 : Value) (h : w.heap[ob]? = some (.cells #[u0, u1, u2, u3] T (0, 0))) :
    ((((w.setCell ⟨ob, 0, none⟩ v0).setCell ⟨ob, 1, none⟩ v1).setCell ⟨ob, 2, none⟩ v2).setCell ⟨ob, 3, none⟩ v3).heap[ob]? = some (.cells #[v0, v1, v2, v3] T (0, 0)) := by
  simp [World.setCell, Array.getElem?_modify, h]
theorem out_below {B : Nat} {w0 w : World} {ob : Nat} (v0 v1 v2 v3 : Value) (h : Below B w0 w) (hB : B ≤ ob) :
    Below B w0 ((((w.setCell ⟨ob, 0, none⟩ v0).setCell ⟨ob, 1, none⟩ v1).setCell ⟨ob, 2, none⟩ v2).setCell ⟨ob, 3, none⟩ v3) :=
  (((h.setCell hB _).setCell hB _).setCell hB _).setCell hB _

/-- The memory as a text. -/
theorem conv_mem {w : World} {mb cp : Nat} {mem : List UInt8} (h : Mm w mb mem) : (convert 45 9 (.slice (some ⟨mb, 0, none⟩) mem.length cp)).run Try.prog w = .ok (.string ⟨mem.toArray⟩) w := by
  refine run_convert_bytes_back (P := Try.prog) w 45 9 5 ⟨mb, 0, none⟩ cp mem Try.underlying45 Try.underlying5 Try.underlying9 ?_
  intro j hj
  have := h.cell (List.getElem?_eq_getElem hj)
  rw [show (⟨mb, 0, none⟩ : Addr).add j = ⟨mb, j, none⟩ from by simp [Addr.add]; intro e; rw [e]]
  exact this
theorem out_facts {w : World} {ob : Nat} {u0 u1 u2 u3 : Value} (h : w.heap[ob]? = some (.cells #[u0, u1, u2, u3] 51 (0, 0))) :
    w.cell? ⟨ob, 0, none⟩ = some u0 ∧ w.cell? ⟨ob, 1, none⟩ = some u1 ∧ w.cell? ⟨ob, 2, none⟩ = some u2 ∧ w.cell? ⟨ob, 3, none⟩ = some u3 ∧ ∀ j, w.frozen? ⟨ob, j, none⟩ = false := by
  refine ⟨?_, ?_, ?_, ?_, fun j => by simp [World.frozen?, h]⟩ <;> rw [cell_of_row _ _ _ _ _ _ h] <;> rfl
theorem out_end {B : Nat} {w0 w : World} {ob : Nat} {u0 u1 u2 u3 : Value} (v0 v1 v2 v3 : Value) (h : w.heap[ob]? = some (.cells #[u0, u1, u2, u3] 51 (0, 0))) (hb : Below B w0 w) (hB : B ≤ ob) :
    ∃ W4, ((((w.setCell ⟨ob, 0, none⟩ v0).setCell ⟨ob, 1, none⟩ v1).setCell ⟨ob, 2, none⟩ v2).setCell ⟨ob, 3, none⟩ v3) = W4 ∧ W4.cell? ⟨ob, 0, none⟩ = some v0 ∧ W4.cell? ⟨ob, 1, none⟩ = some v1 ∧ W4.cell? ⟨ob, 2, none⟩ = some v2 ∧ W4.cell? ⟨ob, 3, none⟩ = some v3 ∧ Below B w0 W4 := by
  have z := out4 v0 v1 v2 v3 h
  obtain ⟨z0, z1, z2, z3, _⟩ := out_facts z
  exact ⟨_, rfl, z0, z1, z2, z3, out_below _ _ _ _ hb hB⟩
end Go.Proofs.Ytghggcehloiemab
namespace Go.Proofs.Ytghggcehloiemab
open Go.RowKit
set_option linter.unusedVariables false
set_option maxRecDepth 16000

theorem Try.infoMInt : (Try.prog.info? 3).map (fun i => (i.zero, i.size, i.bytes)) = some (some (.int .i64 0), 1, 8) := by kernel_rfl
theorem Try.infoMBool : (Try.prog.info? 4).map (fun i => (i.zero, i.size, i.bytes)) = some (some (.bool false), 1, 1) := by kernel_rfl
theorem Try.infoMU8 : (Try.prog.info? 5).map (fun i => (i.zero, i.size, i.bytes)) = some (some (.int .u8 0), 1, 1) := by kernel_rfl

def natV (x : Nat) : Value := .int .i64 x
end Go.Proofs.Ytghggcehloiemab
