import Derived.Test.YtghggcehloiemabNumber
import Derived.Laws.MathBits
import Derived.Test.YtghggcehloiemabTypesAll
import Derived.Deep.RegionHeld3
import Derived.Deep.DrawnRows
namespace Go.Proofs.Ytghggcehloiemab
open Go.RowKit
set_option linter.unusedVariables false
set_option maxRecDepth 16000

namespace P
def hexv (c : UInt8) : Option Nat := if 48 ≤ c.toNat ∧ c.toNat ≤ 57 then some (c.toNat - 48) else if 97 ≤ c.toNat ∧ c.toNat ≤ 102 then some (c.toNat - 87) else none
theorem hexv_lt {c : UInt8} {d : Nat} (h : hexv c = some d) : d ≤ 15 := by
  unfold hexv at h
  split at h
  · cases h; omega
  · split at h
    · cases h; omega
    · cases h
end P

/-- What a hexadecimal digit at place i is. -/
def hexAt (s : ByteArray) (i : Nat) : Option Nat := (s.data.toList[i]?).bind P.hexv

end Go.Proofs.Ytghggcehloiemab
namespace Go.Proofs.Ytghggcehloiemab
open Go.RowKit
set_option linter.unusedVariables false
set_option maxRecDepth 16000

namespace P
def put (bs : List UInt8) (p : Nat) (xs : List UInt8) : List UInt8 := bs.take p ++ xs ++ bs.drop (p + xs.length)
def le : Nat → Nat → List UInt8
  | 0, _ => []
  | k + 1, n => le k n ++ [UInt8.ofNat (n / 256 ^ k % 256)]
theorem le_length (k n : Nat) : (le k n).length = k := by
  induction k with
  | zero => rfl
  | succ k ih => simp [le, ih]
theorem put_nil (bs : List UInt8) (p : Nat) : put bs p [] = bs := by simp [put]
theorem put_length (bs : List UInt8) (p : Nat) (xs : List UInt8) (h : p + xs.length ≤ bs.length) : (put bs p xs).length = bs.length := by
  simp [put]; omega
theorem put_snoc (bs : List UInt8) (p : Nat) (xs : List UInt8) (y : UInt8) (h : p + xs.length < bs.length) : (put bs p xs).set (p + xs.length) y = put bs p (xs ++ [y]) := by
  unfold put
  have hl : (bs.take p ++ xs).length = p + xs.length := by simp; omega
  rw [List.set_append_right _ _ (by omega), hl, Nat.sub_self]
  rw [List.drop_eq_getElem_cons h]
  simp [Nat.add_assoc]
end P

def u8v (c : UInt8) : Value := .int .u8 (c.toNat : Int)

theorem and_low8 (a : Nat) (ha : a < 9223372036854775808) : bits .and .i64 (a : Int) 255 = (a : Int) % 256 := by
  have h1 : (BitVec.ofInt 64 (a : Int)).toNat = a := by
    rw [BitVec.ofInt_natCast, BitVec.toNat_ofNat]; exact Nat.mod_eq_of_lt (by omega)
  have h2 : (BitVec.ofInt 64 (255 : Int)).toNat = 255 := by decide
  show IntKind.i64.wrap ((BitVec.ofInt 64 (a : Int) &&& BitVec.ofInt 64 255).toNat : Int) = _
  rw [BitVec.toNat_and, h1, h2, show (255 : Nat) = 2 ^ 8 - 1 from rfl, Nat.and_two_pow_sub_one_eq_mod]
  simp only [IntKind.wrap, IntKind.signed, IntKind.bits]
  simp
  omega
theorem box_kept {M : Nat} {s : ByteArray} {i b : Nat} {v : Value} {T : TypeId} {w w1 : World} {e : Ending} {x y z u : Value} {Tp : TypeId} (h : NumPost M s i b v T ((w.alloc (.cells #[x, y, z, u] Tp)).drew) e w1) (hb : b < w.heap.size) : w1.cell? ⟨w.heap.size, 3, none⟩ = some u := by
  have hh : w1.heap[w.heap.size]? = some (.cells #[x, y, z, u] Tp (0, 0)) := by
    rw [h.2.block _ (by omega)]; exact heap_alloc_new w _
  rw [cell_of_row w1 _ 3 _ _ _ hh]; rfl

theorem cells4 {w : World} {B : Nat} {a b c d : Value} {T : TypeId} (h : w.heap[B]? = some (.cells #[a, b, c, d] T (0, 0))) :
    w.cell? ⟨B, 0, none⟩ = some a ∧ w.cell? ⟨B, 1, none⟩ = some b ∧ w.cell? ⟨B, 2, none⟩ = some c ∧ w.cell? ⟨B, 3, none⟩ = some d ∧ w.frozen? ⟨B, 0, none⟩ = false ∧ w.frozen? ⟨B, 1, none⟩ = false ∧ w.frozen? ⟨B, 2, none⟩ = false ∧ w.frozen? ⟨B, 3, none⟩ = false := by
  refine ⟨?_, ?_, ?_, ?_, by simp [World.frozen?, h], by simp [World.frozen?, h], by simp [World.frozen?, h], by simp [World.frozen?, h]⟩ <;> rw [cell_of_row w B _ _ _ _ h] <;> rfl

theorem num_shape {most : Nat} {s : ByteArray} {i b : Nat} {v : Value} {T : TypeId} {w w' : World} {e : Ending} (h : NumPost most s i b v T w e w') : ∃ (x : Nat) (z : Bool), e = .returned (.tuple #[.int .i64 x, .bool z]) ∧ x ≤ most ∧
    ((z = true ∧ ∃ k, P.rdnum most (s.data.toList.drop i) = some (x, k) ∧ i + k ≤ s.size ∧ Cur w' b s (i + k) v T) ∨ (z = false ∧ P.rdnum most (s.data.toList.drop i) = none)) := by
  obtain ⟨h1, _⟩ := h
  cases hr : P.rdnum most (s.data.toList.drop i) with
  | none => rw [hr] at h1; exact ⟨0, false, h1.1, by omega, Or.inr ⟨rfl, rfl⟩⟩
  | some y =>
    obtain ⟨n, k⟩ := y
    rw [hr] at h1
    exact ⟨n, true, h1.1, rdnum_le hr, Or.inl ⟨rfl, k, rfl, h1.2.1, h1.2.2⟩⟩

end Go.Proofs.Ytghggcehloiemab
namespace Go.Proofs.Ytghggcehloiemab
open Go.RowKit
set_option linter.unusedVariables false
set_option maxRecDepth 16000

namespace P
def rdhex : Nat → List UInt8 → Option (List UInt8)
  | 0, _ => some []
  | k + 1, l => match l with
    | a :: c :: r => match hexv a, hexv c with
      | some x, some y => (rdhex k r).map (UInt8.ofNat (x * 16 + y) :: ·)
      | _, _ => none
    | _ => none
theorem rdhex_length : ∀ (k : Nat) (l xs : List UInt8), rdhex k l = some xs → xs.length = k := by
  intro k
  induction k with
  | zero => intro l xs h; simp [rdhex] at h; subst h; rfl
  | succ k ih =>
    intro l xs h
    cases l with
    | nil => simp [rdhex] at h
    | cons a l =>
      cases l with
      | nil => simp [rdhex] at h
      | cons c r =>
        simp only [rdhex] at h
        split at h
        · cases hr : rdhex k r with
          | none => rw [hr] at h; cases h
          | some ys => rw [hr] at h; simp at h; subst h; simp [ih _ _ hr]
        · cases h
end P

theorem rdhex_step {s : ByteArray} {j x y k : Nat} (hx : hexAt s j = some x) (hy : hexAt s (j + 1) = some y) : P.rdhex (k + 1) (s.data.toList.drop j) = (P.rdhex k (s.data.toList.drop (j + 2))).map (UInt8.ofNat (x * 16 + y) :: ·) := by
  unfold hexAt at hx hy
  cases h1 : s.data.toList[j]? with
  | none => rw [h1] at hx; cases hx
  | some a =>
    cases h2 : s.data.toList[j + 1]? with
    | none => rw [h2] at hy; cases hy
    | some c =>
      rw [h1] at hx
      rw [h2] at hy
      simp at hx hy
      obtain ⟨hl1, he1⟩ := List.getElem?_eq_some_iff.1 h1
      obtain ⟨hl2, he2⟩ := List.getElem?_eq_some_iff.1 h2
      rw [List.drop_eq_getElem_cons hl1, List.drop_eq_getElem_cons hl2, he1, he2]
      simp [P.rdhex, hx, hy]
theorem rdhex_no {s : ByteArray} {j k : Nat} (h : hexAt s j = none ∨ hexAt s (j + 1) = none) : P.rdhex (k + 1) (s.data.toList.drop j) = none := by
  unfold hexAt at h
  cases hl : s.data.toList.drop j with
  | nil => rfl
  | cons a r =>
    cases r with
    | nil => rfl
    | cons c r =>
      have h1 : s.data.toList[j]? = some a := by
        have : (s.data.toList.drop j)[0]? = some a := by rw [hl]; rfl
        rwa [List.getElem?_drop, Nat.add_zero] at this
      have h2 : s.data.toList[j + 1]? = some c := by
        have : (s.data.toList.drop j)[1]? = some c := by rw [hl]; rfl
        rwa [List.getElem?_drop] at this
      rw [h1, h2] at h
      simp at h
      rw [P.rdhex]
      rcases h with h | h
      · rw [h]
      · rw [h]; cases P.hexv a <;> rfl

theorem hexAt_lt {s : ByteArray} {i x : Nat} (hx : hexAt s i = some x) : x ≤ 15 := by
  unfold hexAt at hx
  cases h : s.data.toList[i]? with
  | none => rw [h] at hx; cases hx
  | some c => rw [h] at hx; exact P.hexv_lt hx

end Go.Proofs.Ytghggcehloiemab
