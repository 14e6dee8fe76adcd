import Derived.Test.YtghggcehloiemabGreatDoorMcRAll
import Derived.Test.YtghggcehloiemabGreatDoorMcPAll
import Derived.Laws.IdiomStrings
namespace Go.Proofs.YtghggcehloiemabGreatDoor
open Go.RowKit
set_option linter.unusedVariables false
set_option maxRecDepth 16000

theorem wrap_u32 (x : Int) : IntKind.u32.wrap x = x % 4294967296 := by
  simp only [IntKind.wrap, IntKind.signed, IntKind.bits]
  simp

theorem bits_and (x y : Nat) (hx : x < 4294967296) (hy : y < 4294967296) : bits .and .u32 (x : Int) (y : Int) = ((x &&& y : Nat) : Int) := by
  show IntKind.u32.wrap ((BitVec.ofInt 32 (x : Int) &&& BitVec.ofInt 32 (y : Int)).toNat : Int) = _
  rw [BitVec.toNat_and, wrap_u32]
  have h1 : (BitVec.ofInt 32 (x : Int)).toNat = x := by rw [BitVec.toNat_ofInt]; omega
  have h2 : (BitVec.ofInt 32 (y : Int)).toNat = y := by rw [BitVec.toNat_ofInt]; omega
  rw [h1, h2]
  have := Nat.lt_of_le_of_lt (Nat.and_le_left (n := x) (m := y)) hx
  omega
theorem bits_xor (x y : Nat) (hx : x < 4294967296) (hy : y < 4294967296) : bits .xor .u32 (x : Int) (y : Int) = ((x ^^^ y : Nat) : Int) := by
  show IntKind.u32.wrap ((BitVec.ofInt 32 (x : Int) ^^^ BitVec.ofInt 32 (y : Int)).toNat : Int) = _
  rw [BitVec.toNat_xor, wrap_u32]
  have h1 : (BitVec.ofInt 32 (x : Int)).toNat = x := by rw [BitVec.toNat_ofInt]; omega
  have h2 : (BitVec.ofInt 32 (y : Int)).toNat = y := by rw [BitVec.toNat_ofInt]; omega
  rw [h1, h2]
  have := Nat.xor_lt_two_pow (n := 32) hx hy
  omega

theorem reck_sub (a b k x y : Nat) : P.reck ⟨4, a, b, k⟩ x y = (x + P.W32 - y) % P.W32 := by simp [P.reck]
theorem reck_and (a b k x y : Nat) : P.reck ⟨6, a, b, k⟩ x y = x &&& y := by simp [P.reck]
theorem reck_xor (a b k x y : Nat) : P.reck ⟨7, a, b, k⟩ x y = x ^^^ y := by simp [P.reck]
theorem reck_shr (a b k x y : Nat) : P.reck ⟨8, a, b, k⟩ x y = y >>> k := by simp [P.reck]
theorem reck_add (a b k x y : Nat) : P.reck ⟨3, a, b, k⟩ x y = (x + y) % P.W32 := by simp [P.reck]
theorem reck_mul (a b k x y : Nat) : P.reck ⟨5, a, b, k⟩ x y = (x * y) % P.W32 := by simp [P.reck]
set_option maxHeartbeats 1000000 in
theorem reckon_any (op a b k x y : Nat) (w : World) (hop : op = 1 ∨ op = 2 ∨ op = 3 ∨ op = 4 ∨ op = 5 ∨ op = 6 ∨ op = 7 ∨ op = 8) (hx : x < 4294967296) (hy : y < 4294967296) (hk : k < 65536) (hk8 : op = 8 → k ≤ 31) :
    Calls Tryz.prog 140 #[.agg #[.int .i64 op, .int .i64 a, .int .i64 b, .int .i64 k], .int .u32 x, .int .u32 y] w fun e w' => e = .returned (.int .u32 (P.reck ⟨op, a, b, k⟩ x y)) ∧ Below w.heap.size w w' := by
  have hb : Below w.heap.size w (w.alloc (.cells #[.int .i64 op, .int .i64 a, .int .i64 b, .int .i64 k] 112)) := (Below.refl _ _).alloc (Nat.le_refl _) _
  rcases hop with rfl | rfl | rfl | rfl | rfl | rfl | rfl | rfl
  all_goals
    go_enter Tryz.func140, Tryz.ntmps140
    go_wp2_with fail
    go_ret
    refine ⟨congrArg (fun z : Int => Ending.returned (.int .u32 z)) ?_, hb⟩
  · simp [P.reck]
  · simp [P.reck]
  · rw [reck_add, P.W32]
    omega
  · rw [reck_sub, P.W32]
    omega
  · rw [reck_mul, P.W32, Int.natCast_emod, Int.natCast_mul]
    rfl
  · rw [reck_and]; exact bits_and x y hx hy
  · rw [reck_xor]; exact bits_xor x y hx hy
  · rw [reck_shr, Nat.shiftRight_eq_div_pow]; simp

set_option maxHeartbeats 1000000 in
theorem goesOn_any (op x y : Nat) (w : World) (h1 : 11 ≤ op) (h2 : op ≤ 14) :
    Calls Tryz.prog 138 #[.int .i64 op, .int .u32 x, .int .u32 y] w fun e w' => e = .returned (.bool (P.goB op x y)) ∧ w' = w := by
  have hop : op = 11 ∨ op = 12 ∨ op = 13 ∨ op = 14 := by omega
  rcases hop with rfl | rfl | rfl | rfl
  all_goals
    go_enter Tryz.func138, Tryz.ntmps138
    go_wp2_with fail
    go_ret
    refine ⟨congrArg (fun z : Bool => Ending.returned (.bool z)) ?_, rfl⟩
  · rfl
  · show ((x : Int) == (y : Int)) = (x == y)
    rw [Bool.eq_iff_iff]; simp; omega
  · show ((x : Int) != (y : Int)) = (x != y)
    rw [Bool.eq_iff_iff]; simp; omega
  · rfl

set_option maxHeartbeats 1000000 in
theorem isWord_any (n : Int) (w : World) : Calls Tryz.prog 92 #[.int .i64 n] w fun e w' => e = .returned (.bool (decide (P.Word n))) ∧ w' = w := by
  by_cases h : 0 ≤ n
  · have HD : Hid (decide (P.Word n) = decide (n ≤ 4294967295)) := by unfold Hid; rw [decide_eq_decide]; unfold P.Word; omega
    go_enter Tryz.func92, Tryz.ntmps92
    go_wp2_with fail
    go_ret
    exact ⟨by rw [HD.out]; simp, rfl⟩
  · have HD : Hid (decide (P.Word n) = false) := by unfold Hid; rw [decide_eq_false_iff_not]; unfold P.Word; omega
    go_enter Tryz.func92, Tryz.ntmps92
    go_wp2_with fail
    go_ret
    exact ⟨by rw [HD.out]; simp, rfl⟩
end Go.Proofs.YtghggcehloiemabGreatDoor
namespace Go.Proofs.YtghggcehloiemabGreatDoor
open Go.RowKit
set_option linter.unusedVariables false
set_option maxRecDepth 16000

/-- The memory's block: its bytes first. -/
def Mm (w : World) (mb : Nat) (mem : List UInt8) : Prop := ∃ (C : Array Value) (F : Nat), w.heap[mb]? = some (.cells C 5 (F, F + 1)) ∧ mem.length ≤ F ∧ ∀ (i : Nat) (b : UInt8), mem[i]? = some b → C[i]? = some (.int .u8 b.toNat)
theorem Mm.cell {w : World} {mb i : Nat} {mem : List UInt8} {b : UInt8} (h : Mm w mb mem) (hi : mem[i]? = some b) : w.cell? ⟨mb, i, none⟩ = some (.int .u8 b.toNat) := by
  obtain ⟨C, F, hb, _, hc⟩ := h
  simp only [World.cell?, hb]
  exact hc i b hi
theorem Mm.fz {w : World} {mb i : Nat} {mem : List UInt8} (h : Mm w mb mem) (hi : i < mem.length) : w.frozen? ⟨mb, i, none⟩ = false := by
  obtain ⟨C, F, hb, hl, _⟩ := h
  simp only [World.frozen?, hb]
  simp; omega
theorem Mm.set {w : World} {mb i : Nat} {mem : List UInt8} (h : Mm w mb mem) (hi : i < mem.length) (c : UInt8) : Mm (w.setCell ⟨mb, i, none⟩ (.int .u8 c.toNat)) mb (mem.set i c) := by
  obtain ⟨C, F, hb, hl, hc⟩ := h
  have hCi : i < C.size := by
    obtain ⟨b, hbi⟩ : ∃ b, mem[i]? = some b := ⟨_, List.getElem?_eq_getElem hi⟩
    have := hc i b hbi
    rcases Nat.lt_or_ge i C.size with h | h
    · exact h
    · rw [Array.getElem?_eq_none h] at this; cases this
  refine ⟨C.setIfInBounds i (.int .u8 c.toNat), F, ?_, by simpa using hl, ?_⟩
  · simp [World.setCell, Array.getElem?_modify, hb]
  · intro j b hj
    rw [List.getElem?_set] at hj
    rw [Array.getElem?_setIfInBounds]
    by_cases hij : i = j
    · subst hij
      simp [hi] at hj
      simp [hCi, hj]
    · simp [hij] at hj
      simp [hij]; exact hc j b hj
theorem Mm.of {w w' : World} {mb : Nat} {mem : List UInt8} (h : Mm w mb mem) (he : w'.heap[mb]? = w.heap[mb]?) : Mm w' mb mem := by
  obtain ⟨C, F, hb, hl, hc⟩ := h
  exact ⟨C, F, by rw [he]; exact hb, hl, hc⟩
theorem Mm.lt {w : World} {mb : Nat} {mem : List UInt8} (h : Mm w mb mem) : mb < w.heap.size := by
  obtain ⟨C, F, hb, _⟩ := h
  exact m_blk_lt hb
theorem Mm.new (w : World) (s : ByteArray) (c : Nat) : Mm (w.alloc (.cells (bytesRow s c) 5 ((bytesRow s c).size, (bytesRow s c).size + 1))) w.heap.size s.data.toList := by
  refine ⟨_, _, heap_alloc_new w _, by simp [bytesRow], ?_⟩
  intro i b hi
  have hlt : i < s.data.toList.length := (List.getElem?_eq_some_iff.1 hi).1
  have hlt' : i < s.data.size := by simpa using hlt
  unfold bytesRow
  rw [Array.getElem?_append_left (by simpa using hlt'), Array.getElem?_map]
  rw [Array.getElem?_toList] at hi
  rw [hi]; rfl

/-- The runner's block: sixteen registers, the memory, the next instruction. -/
def rnCells (m : P.M) (mv : Value) : Array Value := (m.reg.map (fun x : Nat => Value.int .u32 x) ++ [mv, .int .i64 m.pc]).toArray
def Rn (w : World) (rb : Nat) (mv : Value) (m : P.M) : Prop := w.heap[rb]? = some (.cells (rnCells m mv) 152 (0, 0))
theorem Rn.reg {w : World} {rb i n : Nat} {mv : Value} {m : P.M} (h : Rn w rb mv m) (hm : P.OkM n m) (hi : i < 16) : w.cell? ⟨rb, i, none⟩ = some (.int .u32 (P.rg m i)) := by
  rw [cell_of_row _ _ _ _ _ _ h]
  have hl := hm.sixteen
  have : (rnCells m mv)[i]? = (m.reg.map (fun x : Nat => Value.int .u32 x))[i]? := by
    unfold rnCells
    rw [List.getElem?_toArray, List.getElem?_append_left (by simp; omega)]
  rw [this, List.getElem?_map]
  unfold P.rg
  rw [List.getElem?_eq_getElem (by omega : i < m.reg.length)]
  rfl
theorem Rn.mem {w : World} {rb n : Nat} {mv : Value} {m : P.M} (h : Rn w rb mv m) (hm : P.OkM n m) : w.cell? ⟨rb, 16, none⟩ = some mv := by
  rw [cell_of_row _ _ _ _ _ _ h]
  have hl := hm.sixteen
  unfold rnCells
  rw [List.getElem?_toArray, List.getElem?_append_right (by simp; omega)]
  simp [hl]
theorem Rn.pc {w : World} {rb n : Nat} {mv : Value} {m : P.M} (h : Rn w rb mv m) (hm : P.OkM n m) : w.cell? ⟨rb, 17, none⟩ = some (.int .i64 m.pc) := by
  rw [cell_of_row _ _ _ _ _ _ h]
  have hl := hm.sixteen
  unfold rnCells
  rw [List.getElem?_toArray, List.getElem?_append_right (by simp; omega)]
  simp [hl]
theorem Rn.fz {w : World} {rb : Nat} {mv : Value} {m : P.M} (h : Rn w rb mv m) (o : Nat) : w.frozen? ⟨rb, o, none⟩ = false := by
  unfold Rn at h; simp [World.frozen?, h]
theorem Rn.setReg {w : World} {rb i : Nat} {mv : Value} {m : P.M} (h : Rn w rb mv m) (hl : m.reg.length = 16) (hi : i < 16) (v : Nat) : Rn (w.setCell ⟨rb, i, none⟩ (.int .u32 v)) rb mv { m with reg := m.reg.set i v } := by
  unfold Rn at *
  have e : (rnCells m mv).setIfInBounds i (.int .u32 v) = rnCells { m with reg := m.reg.set i v } mv := by
    unfold rnCells
    rw [← Array.toList_inj]
    simp only [Array.toList_setIfInBounds]
    rw [List.set_append_left _ _ (by simp; omega), List.map_set]
  simp [World.setCell, Array.getElem?_modify, h, e]
theorem Rn.setPc {w : World} {rb : Nat} {mv : Value} {m : P.M} (h : Rn w rb mv m) (hl : m.reg.length = 16) (v : Nat) : Rn (w.setCell ⟨rb, 17, none⟩ (.int .i64 v)) rb mv { m with pc := v } := by
  unfold Rn at *
  have e : (rnCells m mv).setIfInBounds 17 (.int .i64 v) = rnCells { m with pc := v } mv := by
    unfold rnCells
    rw [← Array.toList_inj]
    simp only [Array.toList_setIfInBounds]
    rw [List.set_append_right _ _ (by simp; omega)]
    simp [hl]
  simp [World.setCell, Array.getElem?_modify, h, e]
theorem Rn.of {w w' : World} {rb : Nat} {mv : Value} {m : P.M} (h : Rn w rb mv m) (he : w'.heap[rb]? = w.heap[rb]?) : Rn w' rb mv m := by
  unfold Rn at *; rw [he]; exact h
theorem Rn.lt {w : World} {rb : Nat} {mv : Value} {m : P.M} (h : Rn w rb mv m) : rb < w.heap.size := m_blk_lt h
theorem Rn.withMem {w : World} {rb : Nat} {mv : Value} {m : P.M} (h : Rn w rb mv m) (mem : List UInt8) : Rn w rb mv { m with mem := mem } := h
end Go.Proofs.YtghggcehloiemabGreatDoor
namespace Go.Proofs.YtghggcehloiemabGreatDoor
open Go.RowKit
set_option linter.unusedVariables false
set_option maxRecDepth 16000

/-- What a step leaves. -/
def StepPost (x : P.I) (m : P.M) (rb mb cap B : Nat) (w : World) (e : Ending) (w' : World) : Prop :=
  (match P.step x m with
    | some m' => e = .returned (.bool true) ∧ Rn w' rb (.slice (some ⟨mb, 0, none⟩) m.mem.length cap) m' ∧ Mm w' mb m'.mem
    | none => e = .returned (.bool false)) ∧ Below B w w'
theorem StepPost.some {x : P.I} {m m' : P.M} {rb mb cap B : Nat} {w w' : World} {e : Ending} (h : P.step x m = some m') (he : e = .returned (.bool true)) (hr : Rn w' rb (.slice (some ⟨mb, 0, none⟩) m.mem.length cap) m') (hm : Mm w' mb m'.mem) (hb : Below B w w') : StepPost x m rb mb cap B w e w' := by
  unfold StepPost; rw [h]; exact ⟨⟨he, hr, hm⟩, hb⟩
theorem StepPost.none {x : P.I} {m : P.M} {rb mb cap B : Nat} {w w' : World} {e : Ending} (h : P.step x m = none) (he : e = .returned (.bool false)) (hb : Below B w w') : StepPost x m rb mb cap B w e w' := by
  unfold StepPost; rw [h]; exact ⟨he, hb⟩
theorem set_other {w : World} {b o g : Nat} {u : Value} (h : g ≠ b) : (w.setCell ⟨b, o, none⟩ u).heap[g]? = w.heap[g]? := Below.heap_setCell _ _ _ _ (by simpa using h)
theorem alloc_old {w : World} {o : Obj} {g : Nat} (h : g < w.heap.size) : (w.alloc o).heap[g]? = w.heap[g]? := Below.heap_alloc _ _ _ h

theorem w64_id (x : Int) (h0 : -9223372036854775808 ≤ x) (h1 : x ≤ 9223372036854775807) : wrap64 x = x := by unfold wrap64; omega
theorem w64_nat (z : Nat) (h : z < 4294967296) : wrap64 (z : Int) = z := w64_id _ (by omega) (by omega)
theorem w64_sum (z k : Nat) (h : z < 4294967296) (hk : k < 65536) : wrap64 ((z : Int) + k) = (z : Int) + k := w64_id _ (by omega) (by omega)
theorem m_drewN {B : Nat} {w w1 : World} (h : Below B w w1) (n : Nat) : Below B w (w1.drewN n) := ⟨h.os, h.tape, h.output, h.size, h.block⟩
theorem heap_drewN (w : World) (n g : Nat) : (w.drewN n).heap[g]? = w.heap[g]? := by simp
theorem le_cast {z k l : Nat} (h : ¬ z + k < l) : (l : Int) ≤ (z : Int) + k := by omega
theorem lt_cast {z k l : Nat} (h : z + k < l) : (z : Int) + k < l := by omega
theorem nat_cast (z k : Nat) : ((z : Int) + k).toNat = z + k := by omega
theorem drew_below {B : Nat} {w w1 : World} (h : Below B w w1) : Below B w w1.drew := ⟨h.os, h.tape, h.output, h.size, h.block⟩
theorem byte_low (y : Nat) (h : y < 4294967296) : bits .and .u32 (y : Int) 255 = ((UInt8.ofNat y).toNat : Int) := by
  have := bits_and y 255 h (by decide)
  rw [show ((255 : Nat) : Int) = 255 from rfl] at this
  rw [this, show (255 : Nat) = 2 ^ 8 - 1 from rfl, Nat.and_two_pow_sub_one_eq_mod]
  simp
theorem nn_cast (z k : Nat) : (0 : Int) ≤ (z : Int) + k := by omega
set_option maxHeartbeats 4000000 in
theorem reach_bad9 (a b k z y : Nat) (m : P.M) (rb mb cap B n : Nat) (w : World) (hz : P.rg m b = z) (hy : P.rg m a = y) (ha : a < 16) (hb : b < 16) (hk : k < 65536) (hm : P.OkM n m) (hne : rb ≠ mb) (hB1 : B ≤ rb) (hB2 : B ≤ mb)
    (hr : Rn w rb (.slice (some ⟨mb, 0, none⟩) m.mem.length cap) m) (hmm : Mm w mb m.mem) (hge : ¬ z + k < m.mem.length) :
    Calls Tryz.prog 139 #[.pointer (some ⟨rb, 0, none⟩), .agg #[.int .i64 9, .int .i64 a, .int .i64 b, .int .i64 k]] w fun e w' => e = .returned (.bool false) ∧ Below B w w' := by
  have hal : Below B w (w.alloc (.cells #[.int .i64 9, .int .i64 a, .int .i64 b, .int .i64 k] 112)) := (Below.refl _ _).alloc (by have := hr.lt; omega) _
  have hr' : Rn (w.alloc (.cells #[.int .i64 9, .int .i64 a, .int .i64 b, .int .i64 k] 112)) rb (.slice (some ⟨mb, 0, none⟩) m.mem.length cap) m := hr.of (alloc_old hr.lt)
  have hm' : Mm (w.alloc (.cells #[.int .i64 9, .int .i64 a, .int .i64 b, .int .i64 k] 112)) mb m.mem := hmm.of (alloc_old hmm.lt)
  have cb := hr'.reg hm hb
  have ca := hr'.reg hm ha
  have cm := hr'.mem hm
  have hgb := P.rg_lt hm b
  have hga := P.rg_lt hm a
  unfold P.W32 at hgb hga
  rw [hz] at cb hgb
  rw [hy] at ca hga
  have HR := hid_m hr'
  have HM := hid_m hm'
  have HAL := hid_m hal
  have HOK := hid_m hm
  have HHA := hid_m ha
  have b0 : (0 : Int) ≤ (b : Int) := Int.natCast_nonneg b
  have b1 : (b : Int) < 16 := by omega
  have a0 : (0 : Int) ≤ (a : Int) := Int.natCast_nonneg a
  have a1 : (a : Int) < 16 := by omega
  have h0 : (0 : Int) ≤ (z : Int) + k := nn_cast z k
  have HNE := hid_m hne
  have HHB1 := hid_m hB1
  have HHB2 := hid_m hB2
  have HHK := hid_m hk
  have wz := w64_nat z hgb
  have wzk := w64_sum z k hgb hk
  have HGA := hid_m hga
  have HY0 := hid_m hy
  clear hr hmm hr' hm' hal hm hz hy ha hb hgb hga hk hne hB1 hB2
  have hge' := le_cast hge
  clear hge
  go_enter Tryz.func139, Tryz.ntmps139
  go_wp2_with fail
  go_quiet (fail)
  go_wp2_with fail
  go_ret
  exact ⟨rfl, m_drewN HAL.out _⟩
set_option maxHeartbeats 4000000 in
theorem reach_bad10 (a b k z y : Nat) (m : P.M) (rb mb cap B n : Nat) (w : World) (hz : P.rg m b = z) (hy : P.rg m a = y) (ha : a < 16) (hb : b < 16) (hk : k < 65536) (hm : P.OkM n m) (hne : rb ≠ mb) (hB1 : B ≤ rb) (hB2 : B ≤ mb)
    (hr : Rn w rb (.slice (some ⟨mb, 0, none⟩) m.mem.length cap) m) (hmm : Mm w mb m.mem) (hge : ¬ z + k < m.mem.length) :
    Calls Tryz.prog 139 #[.pointer (some ⟨rb, 0, none⟩), .agg #[.int .i64 10, .int .i64 a, .int .i64 b, .int .i64 k]] w fun e w' => e = .returned (.bool false) ∧ Below B w w' := by
  have hal : Below B w (w.alloc (.cells #[.int .i64 10, .int .i64 a, .int .i64 b, .int .i64 k] 112)) := (Below.refl _ _).alloc (by have := hr.lt; omega) _
  have hr' : Rn (w.alloc (.cells #[.int .i64 10, .int .i64 a, .int .i64 b, .int .i64 k] 112)) rb (.slice (some ⟨mb, 0, none⟩) m.mem.length cap) m := hr.of (alloc_old hr.lt)
  have hm' : Mm (w.alloc (.cells #[.int .i64 10, .int .i64 a, .int .i64 b, .int .i64 k] 112)) mb m.mem := hmm.of (alloc_old hmm.lt)
  have cb := hr'.reg hm hb
  have ca := hr'.reg hm ha
  have cm := hr'.mem hm
  have hgb := P.rg_lt hm b
  have hga := P.rg_lt hm a
  unfold P.W32 at hgb hga
  rw [hz] at cb hgb
  rw [hy] at ca hga
  have HR := hid_m hr'
  have HM := hid_m hm'
  have HAL := hid_m hal
  have HOK := hid_m hm
  have HHA := hid_m ha
  have b0 : (0 : Int) ≤ (b : Int) := Int.natCast_nonneg b
  have b1 : (b : Int) < 16 := by omega
  have a0 : (0 : Int) ≤ (a : Int) := Int.natCast_nonneg a
  have a1 : (a : Int) < 16 := by omega
  have h0 : (0 : Int) ≤ (z : Int) + k := nn_cast z k
  have HNE := hid_m hne
  have HHB1 := hid_m hB1
  have HHB2 := hid_m hB2
  have HHK := hid_m hk
  have wz := w64_nat z hgb
  have wzk := w64_sum z k hgb hk
  have HGA := hid_m hga
  have HY0 := hid_m hy
  clear hr hmm hr' hm' hal hm hz hy ha hb hgb hga hk hne hB1 hB2
  have hge' := le_cast hge
  clear hge
  go_enter Tryz.func139, Tryz.ntmps139
  go_wp2_with fail
  go_quiet (fail)
  go_wp2_with fail
  go_ret
  exact ⟨rfl, m_drewN HAL.out _⟩
set_option maxHeartbeats 4000000 in
theorem reach_load (a b k z y : Nat) (m : P.M) (rb mb cap B n : Nat) (w : World) (hz : P.rg m b = z) (hy : P.rg m a = y) (ha : a < 16) (hb : b < 16) (hk : k < 65536) (hm : P.OkM n m) (hne : rb ≠ mb) (hB1 : B ≤ rb) (hB2 : B ≤ mb)
    (hr : Rn w rb (.slice (some ⟨mb, 0, none⟩) m.mem.length cap) m) (hmm : Mm w mb m.mem) (c : UInt8) (hc : m.mem[z + k]? = some c) :
    Calls Tryz.prog 139 #[.pointer (some ⟨rb, 0, none⟩), .agg #[.int .i64 9, .int .i64 a, .int .i64 b, .int .i64 k]] w fun e w' => e = .returned (.bool true) ∧ Rn w' rb (.slice (some ⟨mb, 0, none⟩) m.mem.length cap) { m with reg := m.reg.set a c.toNat } ∧ Mm w' mb m.mem ∧ Below B w w' := by
  have hal : Below B w (w.alloc (.cells #[.int .i64 9, .int .i64 a, .int .i64 b, .int .i64 k] 112)) := (Below.refl _ _).alloc (by have := hr.lt; omega) _
  have hr' : Rn (w.alloc (.cells #[.int .i64 9, .int .i64 a, .int .i64 b, .int .i64 k] 112)) rb (.slice (some ⟨mb, 0, none⟩) m.mem.length cap) m := hr.of (alloc_old hr.lt)
  have hm' : Mm (w.alloc (.cells #[.int .i64 9, .int .i64 a, .int .i64 b, .int .i64 k] 112)) mb m.mem := hmm.of (alloc_old hmm.lt)
  have cb := hr'.reg hm hb
  have ca := hr'.reg hm ha
  have cm := hr'.mem hm
  have hgb := P.rg_lt hm b
  have hga := P.rg_lt hm a
  unfold P.W32 at hgb hga
  rw [hz] at cb hgb
  rw [hy] at ca hga
  have HR := hid_m hr'
  have HM := hid_m hm'
  have HAL := hid_m hal
  have HOK := hid_m hm
  have HHA := hid_m ha
  have b0 : (0 : Int) ≤ (b : Int) := Int.natCast_nonneg b
  have b1 : (b : Int) < 16 := by omega
  have a0 : (0 : Int) ≤ (a : Int) := Int.natCast_nonneg a
  have a1 : (a : Int) < 16 := by omega
  have h0 : (0 : Int) ≤ (z : Int) + k := nn_cast z k
  have HNE := hid_m hne
  have HHB1 := hid_m hB1
  have HHB2 := hid_m hB2
  have HHK := hid_m hk
  have wz := w64_nat z hgb
  have wzk := w64_sum z k hgb hk
  have HGA := hid_m hga
  have HY0 := hid_m hy
  clear hr hmm hr' hm' hal hm hz hy ha hb hgb hga hk hne hB1 hB2
  have hlt : z + k < m.mem.length := (List.getElem?_eq_some_iff.1 hc).1
  have hlt' := lt_cast hlt
  have hzk := nat_cast z k
  have HC := hid_m hc
  clear hc hlt
  go_enter Tryz.func139, Tryz.ntmps139
  go_wp2_with fail
  go_quiet (fail)
  go_wp2_with fail
  obtain ⟨wq, hwq⟩ : ∃ wq, (w.alloc (.cells #[.int .i64 9, .int .i64 a, .int .i64 b, .int .i64 k] 112)).drewN nq = wq := ⟨_, rfl⟩
  have hr2 : Rn wq rb (.slice (some ⟨mb, 0, none⟩) m.mem.length cap) m := by rw [← hwq]; exact HR.out.of (heap_drewN _ _ _)
  have hm2 : Mm wq mb m.mem := by rw [← hwq]; exact HM.out.of (heap_drewN _ _ _)
  have hb2 : Below B w wq := by rw [← hwq]; exact m_drewN HAL.out _
  have hi2 : wq.heap[w.heap.size]? = some (.cells #[.int .i64 9, .int .i64 a, .int .i64 b, .int .i64 k] 112 (0, 0)) := by rw [← hwq, heap_drewN]; exact heap_alloc_new w _
  rw [hwq]
  clear hwq cb ca cm wz wzk
  have ca := hr2.reg HOK.out HHA.out
  rw [HY0.out] at ca
  have cm := hr2.mem HOK.out
  have n1 : wq.cell? ⟨w.heap.size, 1, none⟩ = some (.int .i64 a) := by rw [cell_of_row _ _ _ _ _ _ hi2]; rfl
  have HR2 := hid_m hr2
  have HM2 := hid_m hm2
  have HB2 := hid_m hb2
  have cc := hm2.cell HC.out
  have ff := hr2.fz a
  have wc : IntKind.u32.wrap (c.toNat : Int) = c.toNat := by rw [wrap_u32]; have := UInt8.toNat_lt c; omega
  clear hi2 hr2 hm2 hb2
  go_region
  go_wp2_with fail
  go_ret
  refine ⟨rfl, ?_, ?_, ?_⟩
  · exact (HR2.out.setReg HOK.out.sixteen HHA.out c.toNat).of rfl
  · exact (HM2.out.of (set_other (fun h => HNE.out h.symm))).of rfl
  · exact drew_below (HB2.out.setCell HHB1.out _)
set_option maxHeartbeats 4000000 in
theorem reach_store (a b k z y : Nat) (m : P.M) (rb mb cap B n : Nat) (w : World) (hz : P.rg m b = z) (hy : P.rg m a = y) (ha : a < 16) (hb : b < 16) (hk : k < 65536) (hm : P.OkM n m) (hne : rb ≠ mb) (hB1 : B ≤ rb) (hB2 : B ≤ mb)
    (hr : Rn w rb (.slice (some ⟨mb, 0, none⟩) m.mem.length cap) m) (hmm : Mm w mb m.mem) (hlt : z + k < m.mem.length) :
    Calls Tryz.prog 139 #[.pointer (some ⟨rb, 0, none⟩), .agg #[.int .i64 10, .int .i64 a, .int .i64 b, .int .i64 k]] w fun e w' => e = .returned (.bool true) ∧ Rn w' rb (.slice (some ⟨mb, 0, none⟩) m.mem.length cap) m ∧ Mm w' mb (m.mem.set (z + k) (UInt8.ofNat y)) ∧ Below B w w' := by
  have hal : Below B w (w.alloc (.cells #[.int .i64 10, .int .i64 a, .int .i64 b, .int .i64 k] 112)) := (Below.refl _ _).alloc (by have := hr.lt; omega) _
  have hr' : Rn (w.alloc (.cells #[.int .i64 10, .int .i64 a, .int .i64 b, .int .i64 k] 112)) rb (.slice (some ⟨mb, 0, none⟩) m.mem.length cap) m := hr.of (alloc_old hr.lt)
  have hm' : Mm (w.alloc (.cells #[.int .i64 10, .int .i64 a, .int .i64 b, .int .i64 k] 112)) mb m.mem := hmm.of (alloc_old hmm.lt)
  have cb := hr'.reg hm hb
  have ca := hr'.reg hm ha
  have cm := hr'.mem hm
  have hgb := P.rg_lt hm b
  have hga := P.rg_lt hm a
  unfold P.W32 at hgb hga
  rw [hz] at cb hgb
  rw [hy] at ca hga
  have HR := hid_m hr'
  have HM := hid_m hm'
  have HAL := hid_m hal
  have HOK := hid_m hm
  have HHA := hid_m ha
  have b0 : (0 : Int) ≤ (b : Int) := Int.natCast_nonneg b
  have b1 : (b : Int) < 16 := by omega
  have a0 : (0 : Int) ≤ (a : Int) := Int.natCast_nonneg a
  have a1 : (a : Int) < 16 := by omega
  have h0 : (0 : Int) ≤ (z : Int) + k := nn_cast z k
  have HNE := hid_m hne
  have HHB1 := hid_m hB1
  have HHB2 := hid_m hB2
  have HHK := hid_m hk
  have wz := w64_nat z hgb
  have wzk := w64_sum z k hgb hk
  have HGA := hid_m hga
  have HY0 := hid_m hy
  clear hr hmm hr' hm' hal hm hz hy ha hb hgb hga hk hne hB1 hB2
  have hlt' := lt_cast hlt
  have hzk := nat_cast z k
  have HLT := hid_m hlt
  clear hlt
  go_enter Tryz.func139, Tryz.ntmps139
  go_wp2_with fail
  go_quiet (fail)
  go_wp2_with fail
  obtain ⟨wq, hwq⟩ : ∃ wq, (w.alloc (.cells #[.int .i64 10, .int .i64 a, .int .i64 b, .int .i64 k] 112)).drewN nq = wq := ⟨_, rfl⟩
  have hr2 : Rn wq rb (.slice (some ⟨mb, 0, none⟩) m.mem.length cap) m := by rw [← hwq]; exact HR.out.of (heap_drewN _ _ _)
  have hm2 : Mm wq mb m.mem := by rw [← hwq]; exact HM.out.of (heap_drewN _ _ _)
  have hb2 : Below B w wq := by rw [← hwq]; exact m_drewN HAL.out _
  have hi2 : wq.heap[w.heap.size]? = some (.cells #[.int .i64 10, .int .i64 a, .int .i64 b, .int .i64 k] 112 (0, 0)) := by rw [← hwq, heap_drewN]; exact heap_alloc_new w _
  rw [hwq]
  clear hwq cb ca cm wz wzk
  have ca := hr2.reg HOK.out HHA.out
  rw [HY0.out] at ca
  have cm := hr2.mem HOK.out
  have n1 : wq.cell? ⟨w.heap.size, 1, none⟩ = some (.int .i64 a) := by rw [cell_of_row _ _ _ _ _ _ hi2]; rfl
  have HR2 := hid_m hr2
  have HM2 := hid_m hm2
  have HB2 := hid_m hb2
  obtain ⟨c, hc⟩ : ∃ c, m.mem[z + k]? = some c := ⟨_, List.getElem?_eq_getElem HLT.out⟩
  have cc := hm2.cell hc
  have ff := hm2.fz HLT.out
  have wb := byte_low y HGA.out
  clear hc
  clear hi2 hr2 hm2 hb2
  go_region
  go_wp2_with fail
  go_ret
  have hv : (y : Int) % 256 = ((UInt8.ofNat y).toNat : Int) := by simp
  refine ⟨rfl, ?_, ?_, ?_⟩
  · exact (HR2.out.of (set_other (fun h => HNE.out h))).of rfl
  · have := (HM2.out.set HLT.out (UInt8.ofNat y)).of (w' := (wq.setCell ⟨mb, z + k, none⟩ (.int .u8 (UInt8.ofNat y).toNat)).drew) rfl
    rw [← hv] at this
    exact this
  · exact drew_below (HB2.out.setCell HHB2.out _)
end Go.Proofs.YtghggcehloiemabGreatDoor
