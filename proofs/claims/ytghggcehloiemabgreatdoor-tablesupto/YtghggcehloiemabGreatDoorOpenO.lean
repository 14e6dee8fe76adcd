import Derived.Test.YtghggcehloiemabGreatDoorBaseAll
import Derived.ProofKit
import Derived.OpenShut
import Derived.Carry
import Derived.Deep.Slices
namespace Go.Proofs.YtghggcehloiemabGreatDoor
open Go.ChangeShapes Go.WideShapes Go.ChangeAt Go.RowKit Go.Deep
set_option linter.unusedVariables false
set_option maxRecDepth 16000
set_option linter.unusedSimpArgs false
def I6o (z : Int) : Prop := -9223372036854775808 ≤ z ∧ z ≤ 9223372036854775807
theorem cellsOI : Tryz.prog.cellsOf 3 = 1 := by kernel_rfl
theorem cellsOS : Tryz.prog.cellsOf 9 = 1 := by kernel_rfl
theorem o_int {H : Type} {enc : TypeId × Value → H} {w : World} {base : Nat} {spare : Nat → Bool} {held : Bool} {n : Nat} {c : Value} {y : DataW H × List MemPlace} (h : DataW.trod enc Tryz.prog w base spare held n 3 [c] = some y) : ∃ z, c = .int .i64 z ∧ I6o z ∧ y.2 = [] := by
  obtain ⟨z, h1, h2, h3⟩ := DataW.trod_int Tryz.underlying3 h
  refine ⟨z, by simpa using h1, ?_, by rw [h2]⟩
  exact bounds_i64 h3
theorem o_str {H : Type} {enc : TypeId × Value → H} {w : World} {base : Nat} {spare : Nat → Bool} {held : Bool} {n : Nat} {c : Value} {y : DataW H × List MemPlace} (h : DataW.trod enc Tryz.prog w base spare held n 9 [c] = some y) : ∃ s : ByteArray, c = .string s ∧ s.size ≤ maxLen ∧ y.1 = .lit (.string s.data.toList) ∧ y.2 = [] := by
  obtain ⟨s, h1, h2, h3⟩ := DataW.trod_string Tryz.underlying9 h
  exact ⟨s, by simpa using h1, h3, by rw [h2], by rw [h2]⟩
theorem cellsOp : Tryz.prog.cellsOf 86 = 8 := by kernel_rfl
theorem list8 {α : Type} {l : List α} (h : l.length = 8) : ∃ a b c d e f g i, l = [a, b, c, d, e, f, g, i] := by
  match l, h with
  | [a, b, c, d, e, f, g, i], _ => exact ⟨a, b, c, d, e, f, g, i, rfl⟩
/-- One step of a script, read. -/
theorem op_cells {H : Type} {enc : TypeId × Value → H} {w : World} {base : Nat} {spare : Nat → Bool} {held : Bool} {n : Nat} {cs : List Value} {y : DataW H × List MemPlace} (h : DataW.trod enc Tryz.prog w base spare held n 86 cs = some y) :
    ∃ (kd on a b c d : Int) (s t : ByteArray), cs = [.int .i64 kd, .int .i64 on, .int .i64 a, .int .i64 b, .int .i64 c, .int .i64 d, .string s, .string t] ∧ s.size ≤ maxLen ∧ t.size ≤ maxLen ∧ I6o kd ∧ I6o on ∧ I6o a ∧ I6o b ∧ I6o c ∧ I6o d ∧ ∃ e0 e1 e2 e3 e4 e5, y.1 = .agg [e0, e1, e2, e3, e4, e5, .lit (.string s.data.toList), .lit (.string t.data.toList)] := by
  obtain ⟨xs, m, _, hy, hl, hxl, hf⟩ := DataW.trod_struct Tryz.underlying86 h
  rw [cellsOp] at hl
  obtain ⟨c0, c1, c2, c3, c4, c5, c6, c7, rfl⟩ := list8 hl
  obtain ⟨y0, y1, y2, y3, y4, y5, y6, y7, rfl⟩ := list8 (l := xs) (by rw [hxl]; rfl)
  have g0 := hf 0 _ rfl
  have g1 := hf 1 _ rfl
  have g2 := hf 2 _ rfl
  have g3 := hf 3 _ rfl
  have g4 := hf 4 _ rfl
  have g5 := hf 5 _ rfl
  have g6 := hf 6 _ rfl
  have g7 := hf 7 _ rfl
  simp only [cellsOI, cellsOS, List.drop_zero, List.take_succ_cons, List.take_zero, List.drop_succ_cons, List.getElem?_cons_zero, List.getElem?_cons_succ] at g0 g1 g2 g3 g4 g5 g6 g7
  obtain ⟨kd, rfl, b0, _⟩ := o_int g0
  obtain ⟨on, rfl, b1, _⟩ := o_int g1
  obtain ⟨a, rfl, b2, _⟩ := o_int g2
  obtain ⟨b, rfl, b3, _⟩ := o_int g3
  obtain ⟨c, rfl, b4, _⟩ := o_int g4
  obtain ⟨d, rfl, b5, _⟩ := o_int g5
  obtain ⟨s, rfl, b6, k6, _⟩ := o_str g6
  obtain ⟨t, rfl, b7, k7, _⟩ := o_str g7
  refine ⟨kd, on, a, b, c, d, s, t, rfl, b6, b7, b0, b1, b2, b3, b4, b5, y0.1, y1.1, y2.1, y3.1, y4.1, y5.1, ?_⟩
  rw [hy, ← k6, ← k7]; rfl
/-- A script as the law reads it. -/
def OpAt (w : World) (b o : Nat) (kd on a b' c d : Int) (s t : ByteArray) : Prop :=
  w.cell? ⟨b, o, none⟩ = some (.int .i64 kd) ∧ w.cell? ⟨b, o + 1, none⟩ = some (.int .i64 on) ∧ w.cell? ⟨b, o + 2, none⟩ = some (.int .i64 a) ∧ w.cell? ⟨b, o + 3, none⟩ = some (.int .i64 b') ∧ w.cell? ⟨b, o + 4, none⟩ = some (.int .i64 c) ∧ w.cell? ⟨b, o + 5, none⟩ = some (.int .i64 d) ∧ w.cell? ⟨b, o + 6, none⟩ = some (.string s) ∧ w.cell? ⟨b, o + 7, none⟩ = some (.string t)
def OpsAt (w : World) (x : Option Addr) (N : Nat) : Prop := ∀ i, i < N → ∃ (b o : Nat) (kd on a b' c d : Int) (s t : ByteArray), x = some ⟨b, o, none⟩ ∧ b < w.heap.size ∧ OpAt w b (o + i * 8) kd on a b' c d s t ∧ (I6o kd ∧ I6o on ∧ I6o a ∧ I6o b' ∧ I6o c ∧ I6o d) ∧ s.size ≤ 1048576 ∧ t.size ≤ 1048576
theorem OpAt.on {w w' : World} {b o : Nat} {kd on a b' c d : Int} {s t : ByteArray} (h : OpAt w b o kd on a b' c d s t) (hb : Below w.heap.size w w') (hl : b < w.heap.size) : OpAt w' b o kd on a b' c d s t := by
  obtain ⟨h0, h1, h2, h3, h4, h5, h6, h7⟩ := h
  rw [← hb.cell (p := ⟨b, _, none⟩) hl] at h0 h1 h2 h3 h4 h5 h6 h7
  exact ⟨h0, h1, h2, h3, h4, h5, h6, h7⟩
theorem OpsAt.on {w w' : World} {x : Option Addr} {N : Nat} (h : OpsAt w x N) (hb : Below w.heap.size w w') : OpsAt w' x N := by
  intro i hi
  obtain ⟨b, o, kd, on, a, b', c, d, s, t, hx, hl, hc, hr⟩ := h i hi
  exact ⟨b, o, kd, on, a, b', c, d, s, t, hx, Nat.lt_of_lt_of_le hl hb.size, hc.on hb hl, hr⟩
end Go.Proofs.YtghggcehloiemabGreatDoor
