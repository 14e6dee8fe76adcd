import Derived.Test.YtghggcehloiemaaBase
namespace Go.Proofs.Ytghggcehloiemaa
namespace P
/-- An instruction. -/
structure I where
  op : Nat
  a : Nat
  b : Nat
  k : Nat
  deriving DecidableEq, Inhabited
def byteAt (l : List UInt8) (i : Nat) : Nat := (l[i]?.getD 0).toNat
def insAt (l : List UInt8) (n : Nat) : I := ⟨byteAt l (5 * n), byteAt l (5 * n + 1), byteAt l (5 * n + 2), byteAt l (5 * n + 3) + byteAt l (5 * n + 4) * 256⟩
theorem byteAt_lt (l : List UInt8) (i : Nat) : byteAt l i < 256 := UInt8.toNat_lt _
def OkI (count : Nat) (i : I) : Prop := i.op ≤ 14 ∧ i.a ≤ 15 ∧ i.b ≤ 15 ∧ (11 ≤ i.op → i.k < count) ∧ (i.op = 8 → i.k ≤ 31)
instance (count : Nat) (i : I) : Decidable (OkI count i) := by unfold OkI; infer_instance
def Ends (i : I) : Prop := i.op = 0 ∨ i.op = 11
instance (i : I) : Decidable (Ends i) := by unfold Ends; infer_instance
structure IsCode (l : List UInt8) : Prop where
  five : l.length = 5 * (l.length / 5)
  some : 1 ≤ l.length / 5
  few : l.length / 5 ≤ 800
  all : ∀ i, i < l.length / 5 → OkI (l.length / 5) (insAt l i)
  last : Ends (insAt l (l.length / 5 - 1))
theorem isCode_iff (l : List UInt8) : IsCode l ↔ (l.length = 5 * (l.length / 5) ∧ 1 ≤ l.length / 5 ∧ l.length / 5 ≤ 800 ∧ (∀ i, i < l.length / 5 → OkI (l.length / 5) (insAt l i)) ∧ Ends (insAt l (l.length / 5 - 1))) :=
  ⟨fun h => ⟨h.1, h.2, h.3, h.4, h.5⟩, fun h => ⟨h.1, h.2.1, h.2.2.1, h.2.2.2.1, h.2.2.2.2⟩⟩
instance (l : List UInt8) : Decidable (IsCode l) := decidable_of_iff' _ (isCode_iff l)
def codeOf (l : List UInt8) : List I := (List.range (l.length / 5)).map (insAt l)
theorem codeOf_length (l : List UInt8) : (codeOf l).length = l.length / 5 := by simp [codeOf]
theorem codeOf_get (l : List UInt8) (i : Nat) (h : i < l.length / 5) : (codeOf l)[i]? = some (insAt l i) := by simp [codeOf, h]
end P

def insV (i : P.I) : Value := .agg #[.int .i64 i.op, .int .i64 i.a, .int .i64 i.b, .int .i64 i.k]
def insCells (i : P.I) : List Value := [.int .i64 i.op, .int .i64 i.a, .int .i64 i.b, .int .i64 i.k]
def codeCells (l : List P.I) : List Value := l.flatMap insCells
theorem codeCells_append (a b : List P.I) : codeCells (a ++ b) = codeCells a ++ codeCells b := by simp [codeCells]
end Go.Proofs.Ytghggcehloiemaa
