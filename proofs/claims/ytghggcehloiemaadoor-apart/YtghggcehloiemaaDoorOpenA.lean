import Derived.Test.YtghggcehloiemaaDoorBackW
import Derived.ProofKit
import Derived.OpenShut
import Derived.Carry
import Derived.Laws.IdiomArrays
namespace Go.Proofs.YtghggcehloiemaaDoor
open Go.ChangeShapes Go.WideShapes Go.ChangeAt Go.RowKit
set_option linter.unusedVariables false
set_option maxRecDepth 16000

theorem cellsA4 : Tryd.prog.cellsOf 29 = 4 := by kernel_rfl
theorem cellsSh : Tryd.prog.cellsOf 31 = 5 := by kernel_rfl
theorem cellsI : Tryd.prog.cellsOf 3 = 1 := by kernel_rfl
theorem list4 {l : List Value} (h : l.length = 4) : ∃ a b c d, l = [a, b, c, d] := by
  match l, h with
  | [a, b, c, d], _ => exact ⟨a, b, c, d, rfl⟩
theorem list5 {l : List Value} (h : l.length = 5) : ∃ a b c d e, l = [a, b, c, d, e] := by
  match l, h with
  | [a, b, c, d, e], _ => exact ⟨a, b, c, d, e, rfl⟩
theorem one_cell {H : Type} {enc : TypeId × Value → H} {w : World} {base : Nat} {spare : Nat → Bool} {held : Bool} {n : Nat} {c : Value} {y : DataW H × List MemPlace} (h : DataW.trod enc Tryd.prog w base spare held n 3 [c] = some y) : ∃ z, c = .int .i64 z ∧ I64 z ∧ y.2 = [] := by
  obtain ⟨z, h1, h2, h3⟩ := DataW.trod_int Tryd.underlying3 h
  refine ⟨z, by simpa using h1, bounds_i64 h3, by rw [h2]⟩
theorem four_cells {H : Type} {enc : TypeId × Value → H} {w : World} {base : Nat} {spare : Nat → Bool} {held : Bool} {n : Nat} {a b c d : Value} {y : DataW H × List MemPlace} (h : DataW.trod enc Tryd.prog w base spare held n 29 [a, b, c, d] = some y) :
    ∃ c0 c1 c2 c3, a = .int .i64 c0 ∧ b = .int .i64 c1 ∧ c = .int .i64 c2 ∧ d = .int .i64 c3 ∧ (I64 c0 ∧ I64 c1 ∧ I64 c2 ∧ I64 c3) ∧ y.2 = [] := by
  obtain ⟨y0, y1, y2, y3, m, rfl, h0, h1, h2, h3⟩ := trod_array4 Tryd.underlying29 cellsI h
  obtain ⟨c0, rfl, b0, e0⟩ := one_cell h0
  obtain ⟨c1, rfl, b1, e1⟩ := one_cell h1
  obtain ⟨c2, rfl, b2, e2⟩ := one_cell h2
  obtain ⟨c3, rfl, b3, e3⟩ := one_cell h3
  exact ⟨c0, c1, c2, c3, rfl, rfl, rfl, rfl, ⟨b0, b1, b2, b3⟩, by simp [e0, e1, e2, e3]⟩
theorem open_a4 {H : Type} {enc : TypeId × Value → H} {W : World} {base : Nat} {v : Value} {d : DataW H} {p : List MemPlace} (hv : Value.okWide Tryd.prog W .any base 29 v) (h : DataW.Trod enc Tryd.prog W 0 (fun _ => true) true 29 v d p) :
    ∃ c0 c1 c2 c3 : Int, v = .agg #[.int .i64 c0, .int .i64 c1, .int .i64 c2, .int .i64 c3] ∧ (I64 c0 ∧ I64 c1 ∧ I64 c2 ∧ I64 c3) ∧ p = [] := by
  unfold Value.okWide at hv
  rw [Tryd.underlying29] at hv
  obtain ⟨cs, rfl, hsz, _⟩ := hv
  rw [cellsA4] at hsz
  obtain ⟨a, b, c, e, hl⟩ := list4 (l := cs.toList) (by simpa using hsz)
  obtain ⟨fuel, hf⟩ := h
  have hf' : DataW.trod enc Tryd.prog W 0 (fun _ => true) true fuel 29 cs.toList = some (d, p) := hf
  rw [hl] at hf'
  obtain ⟨c0, c1, c2, c3, rfl, rfl, rfl, rfl, hb, hp⟩ := four_cells hf'
  refine ⟨c0, c1, c2, c3, ?_, hb, hp⟩
  have : cs = #[.int .i64 c0, .int .i64 c1, .int .i64 c2, .int .i64 c3] := by rw [← Array.toList_inj, hl]
  rw [this]
theorem open_shape {H : Type} {enc : TypeId × Value → H} {W : World} {base : Nat} {v : Value} {d : DataW H} {p : List MemPlace} (hv : Value.okWide Tryd.prog W .any base 31 v) (h : DataW.Trod enc Tryd.prog W 0 (fun _ => true) true 31 v d p) :
    ∃ h0 c0 c1 c2 c3 : Int, v = .agg #[.int .i64 h0, .int .i64 c0, .int .i64 c1, .int .i64 c2, .int .i64 c3] ∧ I64 h0 ∧ (I64 c0 ∧ I64 c1 ∧ I64 c2 ∧ I64 c3) ∧ p = [] := by
  unfold Value.okWide at hv
  rw [Tryd.underlying31] at hv
  obtain ⟨cs, rfl, hsz, _⟩ := hv
  rw [cellsSh] at hsz
  obtain ⟨a0, a, b, c, e, hl⟩ := list5 (l := cs.toList) (by simpa using hsz)
  obtain ⟨fuel, hf⟩ := h
  have hf' : DataW.trod enc Tryd.prog W 0 (fun _ => true) true fuel 31 cs.toList = some (d, p) := hf
  rw [hl] at hf'
  obtain ⟨y0, y1, n, hx, _, g0, g1⟩ := trod_struct2 Tryd.underlying31 hf'
  simp only [cellsI, cellsA4, List.drop_zero, List.take_succ_cons, List.take_zero, List.drop_succ_cons] at g0 g1
  obtain ⟨h0, rfl, b0, e0⟩ := one_cell g0
  obtain ⟨c0, c1, c2, c3, rfl, rfl, rfl, rfl, hb, e1⟩ := four_cells g1
  refine ⟨h0, c0, c1, c2, c3, ?_, b0, hb, ?_⟩
  · have : cs = #[.int .i64 h0, .int .i64 c0, .int .i64 c1, .int .i64 c2, .int .i64 c3] := by rw [← Array.toList_inj, hl]
    rw [this]
  · have := congrArg Prod.snd hx
    simpa [e0, e1] using this
end Go.Proofs.YtghggcehloiemaaDoor
