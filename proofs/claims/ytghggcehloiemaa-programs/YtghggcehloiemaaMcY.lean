import Derived.Test.YtghggcehloiemaaMcX
import Derived.Laws.IdiomStrings
namespace Go.Proofs.Ytghggcehloiemaa
open Go.RowKit
set_option linter.unusedVariables false
set_option maxRecDepth 16000

/-- The memory's block: its bytes first. -/
def Mm (w : World) (mb : Nat) (mem : List UInt8) : Prop := ∃ (C : Array Value) (F : Nat), w.heap[mb]? = some (.cells C 5 (F, F + 1)) ∧ mem.length ≤ F ∧ ∀ (i : Nat) (b : UInt8), mem[i]? = some b → C[i]? = some (.int .u8 b.toNat)
theorem Mm.cell {w : World} {mb i : Nat} {mem : List UInt8} {b : UInt8} (h : Mm w mb mem) (hi : mem[i]? = some b) : w.cell? ⟨mb, i, none⟩ = some (.int .u8 b.toNat) := by
  obtain ⟨C, F, hb, _, hc⟩ := h
  simp only [World.cell?, hb]
  exact hc i b hi
theorem Mm.fz {w : World} {mb i : Nat} {mem : List UInt8} (h : Mm w mb mem) (hi : i < mem.length) : w.frozen? ⟨mb, i, none⟩ = false := by
  obtain ⟨C, F, hb, hl, _⟩ := h
  simp only [World.frozen?, hb]
  simp; omega
theorem Mm.set {w : World} {mb i : Nat} {mem : List UInt8} (h : Mm w mb mem) (hi : i < mem.length) (c : UInt8) : Mm (w.setCell ⟨mb, i, none⟩ (.int .u8 c.toNat)) mb (mem.set i c) := by
  obtain ⟨C, F, hb, hl, hc⟩ := h
  have hCi : i < C.size := by
    obtain ⟨b, hbi⟩ : ∃ b, mem[i]? = some b := ⟨_, List.getElem?_eq_getElem hi⟩
    have := hc i b hbi
    rcases Nat.lt_or_ge i C.size with h | h
    · exact h
    · rw [Array.getElem?_eq_none h] at this; cases this
  refine ⟨C.setIfInBounds i (.int .u8 c.toNat), F, ?_, by simpa using hl, ?_⟩
  · simp [World.setCell, Array.getElem?_modify, hb]
  · intro j b hj
    rw [List.getElem?_set] at hj
    rw [Array.getElem?_setIfInBounds]
    by_cases hij : i = j
    · subst hij
      simp [hi] at hj
      simp [hCi, hj]
    · simp [hij] at hj
      simp [hij]; exact hc j b hj
theorem Mm.of {w w' : World} {mb : Nat} {mem : List UInt8} (h : Mm w mb mem) (he : w'.heap[mb]? = w.heap[mb]?) : Mm w' mb mem := by
  obtain ⟨C, F, hb, hl, hc⟩ := h
  exact ⟨C, F, by rw [he]; exact hb, hl, hc⟩
theorem Mm.lt {w : World} {mb : Nat} {mem : List UInt8} (h : Mm w mb mem) : mb < w.heap.size := by
  obtain ⟨C, F, hb, _⟩ := h
  exact m_blk_lt hb
theorem Mm.new (w : World) (s : ByteArray) (c : Nat) : Mm (w.alloc (.cells (bytesRow s c) 5 ((bytesRow s c).size, (bytesRow s c).size + 1))) w.heap.size s.data.toList := by
  refine ⟨_, _, heap_alloc_new w _, by simp [bytesRow], ?_⟩
  intro i b hi
  have hlt : i < s.data.toList.length := (List.getElem?_eq_some_iff.1 hi).1
  have hlt' : i < s.data.size := by simpa using hlt
  unfold bytesRow
  rw [Array.getElem?_append_left (by simpa using hlt'), Array.getElem?_map]
  rw [Array.getElem?_toList] at hi
  rw [hi]; rfl

/-- The runner's block: sixteen registers, the memory, the next instruction. -/
def rnCells (m : P.M) (mv : Value) : Array Value := (m.reg.map (fun x : Nat => Value.int .u32 x) ++ [mv, .int .i64 m.pc]).toArray
def Rn (w : World) (rb : Nat) (mv : Value) (m : P.M) : Prop := w.heap[rb]? = some (.cells (rnCells m mv) 110 (0, 0))
theorem Rn.reg {w : World} {rb i n : Nat} {mv : Value} {m : P.M} (h : Rn w rb mv m) (hm : P.OkM n m) (hi : i < 16) : w.cell? ⟨rb, i, none⟩ = some (.int .u32 (P.rg m i)) := by
  rw [cell_of_row _ _ _ _ _ _ h]
  have hl := hm.sixteen
  have : (rnCells m mv)[i]? = (m.reg.map (fun x : Nat => Value.int .u32 x))[i]? := by
    unfold rnCells
    rw [List.getElem?_toArray, List.getElem?_append_left (by simp; omega)]
  rw [this, List.getElem?_map]
  unfold P.rg
  rw [List.getElem?_eq_getElem (by omega : i < m.reg.length)]
  rfl
theorem Rn.mem {w : World} {rb n : Nat} {mv : Value} {m : P.M} (h : Rn w rb mv m) (hm : P.OkM n m) : w.cell? ⟨rb, 16, none⟩ = some mv := by
  rw [cell_of_row _ _ _ _ _ _ h]
  have hl := hm.sixteen
  unfold rnCells
  rw [List.getElem?_toArray, List.getElem?_append_right (by simp; omega)]
  simp [hl]
theorem Rn.pc {w : World} {rb n : Nat} {mv : Value} {m : P.M} (h : Rn w rb mv m) (hm : P.OkM n m) : w.cell? ⟨rb, 17, none⟩ = some (.int .i64 m.pc) := by
  rw [cell_of_row _ _ _ _ _ _ h]
  have hl := hm.sixteen
  unfold rnCells
  rw [List.getElem?_toArray, List.getElem?_append_right (by simp; omega)]
  simp [hl]
theorem Rn.fz {w : World} {rb : Nat} {mv : Value} {m : P.M} (h : Rn w rb mv m) (o : Nat) : w.frozen? ⟨rb, o, none⟩ = false := by
  unfold Rn at h; simp [World.frozen?, h]
theorem Rn.setReg {w : World} {rb i : Nat} {mv : Value} {m : P.M} (h : Rn w rb mv m) (hl : m.reg.length = 16) (hi : i < 16) (v : Nat) : Rn (w.setCell ⟨rb, i, none⟩ (.int .u32 v)) rb mv { m with reg := m.reg.set i v } := by
  unfold Rn at *
  have e : (rnCells m mv).setIfInBounds i (.int .u32 v) = rnCells { m with reg := m.reg.set i v } mv := by
    unfold rnCells
    rw [← Array.toList_inj]
    simp only [Array.toList_setIfInBounds]
    rw [List.set_append_left _ _ (by simp; omega), List.map_set]
  simp [World.setCell, Array.getElem?_modify, h, e]
theorem Rn.setPc {w : World} {rb : Nat} {mv : Value} {m : P.M} (h : Rn w rb mv m) (hl : m.reg.length = 16) (v : Nat) : Rn (w.setCell ⟨rb, 17, none⟩ (.int .i64 v)) rb mv { m with pc := v } := by
  unfold Rn at *
  have e : (rnCells m mv).setIfInBounds 17 (.int .i64 v) = rnCells { m with pc := v } mv := by
    unfold rnCells
    rw [← Array.toList_inj]
    simp only [Array.toList_setIfInBounds]
    rw [List.set_append_right _ _ (by simp; omega)]
    simp [hl]
  simp [World.setCell, Array.getElem?_modify, h, e]
theorem Rn.of {w w' : World} {rb : Nat} {mv : Value} {m : P.M} (h : Rn w rb mv m) (he : w'.heap[rb]? = w.heap[rb]?) : Rn w' rb mv m := by
  unfold Rn at *; rw [he]; exact h
theorem Rn.lt {w : World} {rb : Nat} {mv : Value} {m : P.M} (h : Rn w rb mv m) : rb < w.heap.size := m_blk_lt h
theorem Rn.withMem {w : World} {rb : Nat} {mv : Value} {m : P.M} (h : Rn w rb mv m) (mem : List UInt8) : Rn w rb mv { m with mem := mem } := h
end Go.Proofs.Ytghggcehloiemaa
