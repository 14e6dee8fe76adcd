import Derived.Test.YtghggcehloiemabMcRAll
import Derived.Test.YtghggcehloiemabMcPAll
import Derived.Laws.IdiomStrings
namespace Go.Proofs.Ytghggcehloiemab
open Go.RowKit
set_option linter.unusedVariables false
set_option maxRecDepth 16000

theorem wrap_u32 (x : Int) : IntKind.u32.wrap x = x % 4294967296 := by
  simp only [IntKind.wrap, IntKind.signed, IntKind.bits]
  simp

theorem bits_and (x y : Nat) (hx : x < 4294967296) (hy : y < 4294967296) : bits .and .u32 (x : Int) (y : Int) = ((x &&& y : Nat) : Int) := by
  show IntKind.u32.wrap ((BitVec.ofInt 32 (x : Int) &&& BitVec.ofInt 32 (y : Int)).toNat : Int) = _
  rw [BitVec.toNat_and, wrap_u32]
  have h1 : (BitVec.ofInt 32 (x : Int)).toNat = x := by rw [BitVec.toNat_ofInt]; omega
  have h2 : (BitVec.ofInt 32 (y : Int)).toNat = y := by rw [BitVec.toNat_ofInt]; omega
  rw [h1, h2]
  have := Nat.lt_of_le_of_lt (Nat.and_le_left (n := x) (m := y)) hx
  omega
theorem bits_xor (x y : Nat) (hx : x < 4294967296) (hy : y < 4294967296) : bits .xor .u32 (x : Int) (y : Int) = ((x ^^^ y : Nat) : Int) := by
  show IntKind.u32.wrap ((BitVec.ofInt 32 (x : Int) ^^^ BitVec.ofInt 32 (y : Int)).toNat : Int) = _
  rw [BitVec.toNat_xor, wrap_u32]
  have h1 : (BitVec.ofInt 32 (x : Int)).toNat = x := by rw [BitVec.toNat_ofInt]; omega
  have h2 : (BitVec.ofInt 32 (y : Int)).toNat = y := by rw [BitVec.toNat_ofInt]; omega
  rw [h1, h2]
  have := Nat.xor_lt_two_pow (n := 32) hx hy
  omega

theorem reck_sub (a b k x y : Nat) : P.reck ⟨4, a, b, k⟩ x y = (x + P.W32 - y) % P.W32 := by simp [P.reck]
theorem reck_and (a b k x y : Nat) : P.reck ⟨6, a, b, k⟩ x y = x &&& y := by simp [P.reck]
theorem reck_xor (a b k x y : Nat) : P.reck ⟨7, a, b, k⟩ x y = x ^^^ y := by simp [P.reck]
theorem reck_shr (a b k x y : Nat) : P.reck ⟨8, a, b, k⟩ x y = y >>> k := by simp [P.reck]
theorem reck_add (a b k x y : Nat) : P.reck ⟨3, a, b, k⟩ x y = (x + y) % P.W32 := by simp [P.reck]
theorem reck_mul (a b k x y : Nat) : P.reck ⟨5, a, b, k⟩ x y = (x * y) % P.W32 := by simp [P.reck]
end Go.Proofs.Ytghggcehloiemab
namespace Go.Proofs.Ytghggcehloiemab
open Go.RowKit
set_option linter.unusedVariables false
set_option maxRecDepth 16000

/-- The memory's block: its bytes first. -/
def Mm (w : World) (mb : Nat) (mem : List UInt8) : Prop := ∃ (C : Array Value) (F : Nat), w.heap[mb]? = some (.cells C 5 (F, F + 1)) ∧ mem.length ≤ F ∧ ∀ (i : Nat) (b : UInt8), mem[i]? = some b → C[i]? = some (.int .u8 b.toNat)
theorem Mm.cell {w : World} {mb i : Nat} {mem : List UInt8} {b : UInt8} (h : Mm w mb mem) (hi : mem[i]? = some b) : w.cell? ⟨mb, i, none⟩ = some (.int .u8 b.toNat) := by
  obtain ⟨C, F, hb, _, hc⟩ := h
  simp only [World.cell?, hb]
  exact hc i b hi
theorem Mm.fz {w : World} {mb i : Nat} {mem : List UInt8} (h : Mm w mb mem) (hi : i < mem.length) : w.frozen? ⟨mb, i, none⟩ = false := by
  obtain ⟨C, F, hb, hl, _⟩ := h
  simp only [World.frozen?, hb]
  simp; omega
theorem Mm.set {w : World} {mb i : Nat} {mem : List UInt8} (h : Mm w mb mem) (hi : i < mem.length) (c : UInt8) : Mm (w.setCell ⟨mb, i, none⟩ (.int .u8 c.toNat)) mb (mem.set i c) := by
  obtain ⟨C, F, hb, hl, hc⟩ := h
  have hCi : i < C.size := by
    obtain ⟨b, hbi⟩ : ∃ b, mem[i]? = some b := ⟨_, List.getElem?_eq_getElem hi⟩
    have := hc i b hbi
    rcases Nat.lt_or_ge i C.size with h | h
    · exact h
    · rw [Array.getElem?_eq_none h] at this; cases this
  refine ⟨C.setIfInBounds i (.int .u8 c.toNat), F, ?_, by simpa using hl, ?_⟩
  · simp [World.setCell, Array.getElem?_modify, hb]
  · intro j b hj
    rw [List.getElem?_set] at hj
    rw [Array.getElem?_setIfInBounds]
    by_cases hij : i = j
    · subst hij
      simp [hi] at hj
      simp [hCi, hj]
    · simp [hij] at hj
      simp [hij]; exact hc j b hj
theorem Mm.of {w w' : World} {mb : Nat} {mem : List UInt8} (h : Mm w mb mem) (he : w'.heap[mb]? = w.heap[mb]?) : Mm w' mb mem := by
  obtain ⟨C, F, hb, hl, hc⟩ := h
  exact ⟨C, F, by rw [he]; exact hb, hl, hc⟩
theorem Mm.lt {w : World} {mb : Nat} {mem : List UInt8} (h : Mm w mb mem) : mb < w.heap.size := by
  obtain ⟨C, F, hb, _⟩ := h
  exact m_blk_lt hb
theorem Mm.new (w : World) (s : ByteArray) (c : Nat) : Mm (w.alloc (.cells (bytesRow s c) 5 ((bytesRow s c).size, (bytesRow s c).size + 1))) w.heap.size s.data.toList := by
  refine ⟨_, _, heap_alloc_new w _, by simp [bytesRow], ?_⟩
  intro i b hi
  have hlt : i < s.data.toList.length := (List.getElem?_eq_some_iff.1 hi).1
  have hlt' : i < s.data.size := by simpa using hlt
  unfold bytesRow
  rw [Array.getElem?_append_left (by simpa using hlt'), Array.getElem?_map]
  rw [Array.getElem?_toList] at hi
  rw [hi]; rfl

/-- The runner's block: sixteen registers, the memory, the next instruction. -/
def rnCells (m : P.M) (mv : Value) : Array Value := (m.reg.map (fun x : Nat => Value.int .u32 x) ++ [mv, .int .i64 m.pc]).toArray
end Go.Proofs.Ytghggcehloiemab
namespace Go.Proofs.Ytghggcehloiemab
open Go.RowKit
set_option linter.unusedVariables false
set_option maxRecDepth 16000

theorem set_other {w : World} {b o g : Nat} {u : Value} (h : g ≠ b) : (w.setCell ⟨b, o, none⟩ u).heap[g]? = w.heap[g]? := Below.heap_setCell _ _ _ _ (by simpa using h)
theorem alloc_old {w : World} {o : Obj} {g : Nat} (h : g < w.heap.size) : (w.alloc o).heap[g]? = w.heap[g]? := Below.heap_alloc _ _ _ h

theorem w64_id (x : Int) (h0 : -9223372036854775808 ≤ x) (h1 : x ≤ 9223372036854775807) : wrap64 x = x := by unfold wrap64; omega
theorem w64_nat (z : Nat) (h : z < 4294967296) : wrap64 (z : Int) = z := w64_id _ (by omega) (by omega)
theorem w64_sum (z k : Nat) (h : z < 4294967296) (hk : k < 65536) : wrap64 ((z : Int) + k) = (z : Int) + k := w64_id _ (by omega) (by omega)
theorem m_drewN {B : Nat} {w w1 : World} (h : Below B w w1) (n : Nat) : Below B w (w1.drewN n) := ⟨h.os, h.tape, h.output, h.size, h.block⟩
theorem heap_drewN (w : World) (n g : Nat) : (w.drewN n).heap[g]? = w.heap[g]? := by simp
theorem le_cast {z k l : Nat} (h : ¬ z + k < l) : (l : Int) ≤ (z : Int) + k := by omega
theorem lt_cast {z k l : Nat} (h : z + k < l) : (z : Int) + k < l := by omega
theorem nat_cast (z k : Nat) : ((z : Int) + k).toNat = z + k := by omega
theorem drew_below {B : Nat} {w w1 : World} (h : Below B w w1) : Below B w w1.drew := ⟨h.os, h.tape, h.output, h.size, h.block⟩
theorem byte_low (y : Nat) (h : y < 4294967296) : bits .and .u32 (y : Int) 255 = ((UInt8.ofNat y).toNat : Int) := by
  have := bits_and y 255 h (by decide)
  rw [show ((255 : Nat) : Int) = 255 from rfl] at this
  rw [this, show (255 : Nat) = 2 ^ 8 - 1 from rfl, Nat.and_two_pow_sub_one_eq_mod]
  simp
theorem nn_cast (z k : Nat) : (0 : Int) ≤ (z : Int) + k := by omega
end Go.Proofs.Ytghggcehloiemab
