import Derived.WalkKit
import Derived.WalkSpells
import Derived.WalkLawsBesides
namespace Go.Proofs.Ytghggcehloiemab
open Go.RowKit

/-- A cursor (alone or at the head of a reader or writer) at block b. -/
def Cur (w : World) (b : Nat) (s : ByteArray) (i : Nat) (v : Value) (T : TypeId) : Prop := w.heap[b]? = some (.cells #[.string s, .int .i64 i, v] T (0, 0))

/-- Nothing but block b has turned, and no block has come. -/
structure Only (b : Nat) (w w' : World) : Prop where
  os : w'.os = w.os
  tape : w'.tape = w.tape
  output : w'.output = w.output
  size : w'.heap.size = w.heap.size
  block : ∀ k, k ≠ b → w'.heap[k]? = w.heap[k]?

theorem Only.refl (b : Nat) (w : World) : Only b w w := ⟨rfl, rfl, rfl, rfl, fun _ _ => rfl⟩
theorem Only.trans {b : Nat} {w w1 w2 : World} (h : Only b w w1) (k : Only b w1 w2) : Only b w w2 :=
  ⟨k.os.trans h.os, k.tape.trans h.tape, k.output.trans h.output, k.size.trans h.size, fun j hj => (k.block j hj).trans (h.block j hj)⟩
theorem Only.drewN {b : Nat} {w w1 : World} (h : Only b w w1) (n : Nat) : Only b w (w1.drewN n) := ⟨h.os, h.tape, h.output, h.size, h.block⟩
theorem Only.setCell {b : Nat} {w w1 : World} (h : Only b w w1) (o : Nat) (u : Value) : Only b w (w1.setCell ⟨b, o, none⟩ u) :=
  ⟨h.os, h.tape, h.output, by simpa [World.setCell] using h.size, fun j hj => (Below.heap_setCell _ _ _ _ (by simpa using hj)).trans (h.block j hj)⟩
theorem Only.below {B b : Nat} {w w1 : World} (h : Only b w w1) (hB : B ≤ b) : Below B w w1 := ⟨h.os, h.tape, h.output, by rw [h.size]; exact Nat.le_refl _, fun k hk => h.block k (by omega)⟩

theorem Cur.c0 {w : World} {b : Nat} {s : ByteArray} {i : Nat} {v : Value} {T : TypeId} (h : Cur w b s i v T) : w.cell? ⟨b, 0, none⟩ = some (.string s) := by
  rw [cell_of_row w b 0 _ _ _ h]; rfl
theorem Cur.c1 {w : World} {b : Nat} {s : ByteArray} {i : Nat} {v : Value} {T : TypeId} (h : Cur w b s i v T) : w.cell? ⟨b, 1, none⟩ = some (.int .i64 i) := by
  rw [cell_of_row w b 1 _ _ _ h]; rfl
theorem Cur.c2 {w : World} {b : Nat} {s : ByteArray} {i : Nat} {v : Value} {T : TypeId} (h : Cur w b s i v T) : w.cell? ⟨b, 2, none⟩ = some v := by
  rw [cell_of_row w b 2 _ _ _ h]; rfl
theorem Cur.fz {w : World} {b : Nat} {s : ByteArray} {i : Nat} {v : Value} {T : TypeId} (h : Cur w b s i v T) (o : Nat) : w.frozen? ⟨b, o, none⟩ = false := by
  unfold Cur at h; simp [World.frozen?, h]
theorem Cur.lt {w : World} {b : Nat} {s : ByteArray} {i : Nat} {v : Value} {T : TypeId} (h : Cur w b s i v T) : b < w.heap.size := by
  rcases Nat.lt_or_ge b w.heap.size with hl | hl
  · exact hl
  · unfold Cur at h; rw [Array.getElem?_eq_none hl] at h; cases h
theorem Cur.drewN {w : World} {b : Nat} {s : ByteArray} {i : Nat} {v : Value} {T : TypeId} (h : Cur w b s i v T) (n : Nat) : Cur (w.drewN n) b s i v T := by
  unfold Cur at *; simpa using h
theorem Cur.set1 {w : World} {b : Nat} {s : ByteArray} {i : Nat} {v : Value} {T : TypeId} (h : Cur w b s i v T) (j : Nat) : Cur (w.setCell ⟨b, 1, none⟩ (.int .i64 j)) b s j v T := by
  unfold Cur at *
  simp [World.setCell, Array.getElem?_modify, h]
theorem Cur.set2 {w : World} {b : Nat} {s : ByteArray} {i : Nat} {v : Value} {T : TypeId} (h : Cur w b s i v T) (u : Value) : Cur (w.setCell ⟨b, 2, none⟩ u) b s i u T := by
  unfold Cur at *
  simp [World.setCell, Array.getElem?_modify, h]
theorem Cur.only {w w' : World} {b b' : Nat} {s : ByteArray} {i : Nat} {v : Value} {T : TypeId} (h : Cur w b s i v T) (ho : Only b' w w') (hne : b ≠ b') : Cur w' b s i v T := by
  unfold Cur at *; rw [ho.block b hne, h]

/-- Where the cursor stands. -/
def atOf (w : World) (b : Nat) : Nat := match w.cell? ⟨b, 1, none⟩ with
  | some (.int _ j) => j.toNat
  | _ => 0
theorem Cur.atOf {w : World} {b : Nat} {s : ByteArray} {i : Nat} {v : Value} {T : TypeId} (h : Cur w b s i v T) : atOf w b = i := by
  simp [Go.Proofs.Ytghggcehloiemab.atOf, h.c1]

end Go.Proofs.Ytghggcehloiemab
