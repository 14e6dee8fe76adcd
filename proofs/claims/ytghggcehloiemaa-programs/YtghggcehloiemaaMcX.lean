import Derived.Test.YtghggcehloiemaaMcV
import Derived.Test.YtghggcehloiemaaMcM
namespace Go.Proofs.Ytghggcehloiemaa
open Go.RowKit
set_option linter.unusedVariables false
set_option maxRecDepth 16000

theorem wrap_u32 (x : Int) : IntKind.u32.wrap x = x % 4294967296 := by
  simp only [IntKind.wrap, IntKind.signed, IntKind.bits]
  simp

theorem bits_and (x y : Nat) (hx : x < 4294967296) (hy : y < 4294967296) : bits .and .u32 (x : Int) (y : Int) = ((x &&& y : Nat) : Int) := by
  show IntKind.u32.wrap ((BitVec.ofInt 32 (x : Int) &&& BitVec.ofInt 32 (y : Int)).toNat : Int) = _
  rw [BitVec.toNat_and, wrap_u32]
  have h1 : (BitVec.ofInt 32 (x : Int)).toNat = x := by rw [BitVec.toNat_ofInt]; omega
  have h2 : (BitVec.ofInt 32 (y : Int)).toNat = y := by rw [BitVec.toNat_ofInt]; omega
  rw [h1, h2]
  have := Nat.lt_of_le_of_lt (Nat.and_le_left (n := x) (m := y)) hx
  omega
theorem bits_xor (x y : Nat) (hx : x < 4294967296) (hy : y < 4294967296) : bits .xor .u32 (x : Int) (y : Int) = ((x ^^^ y : Nat) : Int) := by
  show IntKind.u32.wrap ((BitVec.ofInt 32 (x : Int) ^^^ BitVec.ofInt 32 (y : Int)).toNat : Int) = _
  rw [BitVec.toNat_xor, wrap_u32]
  have h1 : (BitVec.ofInt 32 (x : Int)).toNat = x := by rw [BitVec.toNat_ofInt]; omega
  have h2 : (BitVec.ofInt 32 (y : Int)).toNat = y := by rw [BitVec.toNat_ofInt]; omega
  rw [h1, h2]
  have := Nat.xor_lt_two_pow (n := 32) hx hy
  omega

theorem reck_sub (a b k x y : Nat) : P.reck ⟨4, a, b, k⟩ x y = (x + P.W32 - y) % P.W32 := by simp [P.reck]
theorem reck_and (a b k x y : Nat) : P.reck ⟨6, a, b, k⟩ x y = x &&& y := by simp [P.reck]
theorem reck_xor (a b k x y : Nat) : P.reck ⟨7, a, b, k⟩ x y = x ^^^ y := by simp [P.reck]
theorem reck_shr (a b k x y : Nat) : P.reck ⟨8, a, b, k⟩ x y = y >>> k := by simp [P.reck]
theorem reck_add (a b k x y : Nat) : P.reck ⟨3, a, b, k⟩ x y = (x + y) % P.W32 := by simp [P.reck]
theorem reck_mul (a b k x y : Nat) : P.reck ⟨5, a, b, k⟩ x y = (x * y) % P.W32 := by simp [P.reck]
set_option maxHeartbeats 1000000 in
theorem reckon_any (op a b k x y : Nat) (w : World) (hop : op = 1 ∨ op = 2 ∨ op = 3 ∨ op = 4 ∨ op = 5 ∨ op = 6 ∨ op = 7 ∨ op = 8) (hx : x < 4294967296) (hy : y < 4294967296) (hk : k < 65536) (hk8 : op = 8 → k ≤ 31) :
    Calls Try.prog 83 #[.agg #[.int .i64 op, .int .i64 a, .int .i64 b, .int .i64 k], .int .u32 x, .int .u32 y] w fun e w' => e = .returned (.int .u32 (P.reck ⟨op, a, b, k⟩ x y)) ∧ Below w.heap.size w w' := by
  have hb : Below w.heap.size w (w.alloc (.cells #[.int .i64 op, .int .i64 a, .int .i64 b, .int .i64 k] 104)) := (Below.refl _ _).alloc (Nat.le_refl _) _
  rcases hop with rfl | rfl | rfl | rfl | rfl | rfl | rfl | rfl
  all_goals
    go_enter Try.func83, Try.ntmps83
    go_wp2_with fail
    go_ret
    refine ⟨congrArg (fun z : Int => Ending.returned (.int .u32 z)) ?_, hb⟩
  · simp [P.reck]
  · simp [P.reck]
  · rw [reck_add, P.W32]
    omega
  · rw [reck_sub, P.W32]
    omega
  · rw [reck_mul, P.W32, Int.natCast_emod, Int.natCast_mul]
    rfl
  · rw [reck_and]; exact bits_and x y hx hy
  · rw [reck_xor]; exact bits_xor x y hx hy
  · rw [reck_shr, Nat.shiftRight_eq_div_pow]; simp

set_option maxHeartbeats 1000000 in
theorem goesOn_any (op x y : Nat) (w : World) (h1 : 11 ≤ op) (h2 : op ≤ 14) :
    Calls Try.prog 81 #[.int .i64 op, .int .u32 x, .int .u32 y] w fun e w' => e = .returned (.bool (P.goB op x y)) ∧ w' = w := by
  have hop : op = 11 ∨ op = 12 ∨ op = 13 ∨ op = 14 := by omega
  rcases hop with rfl | rfl | rfl | rfl
  all_goals
    go_enter Try.func81, Try.ntmps81
    go_wp2_with fail
    go_ret
    refine ⟨congrArg (fun z : Bool => Ending.returned (.bool z)) ?_, rfl⟩
  · rfl
  · show ((x : Int) == (y : Int)) = (x == y)
    rw [Bool.eq_iff_iff]; simp; omega
  · show ((x : Int) != (y : Int)) = (x != y)
    rw [Bool.eq_iff_iff]; simp; omega
  · rfl

set_option maxHeartbeats 1000000 in
theorem isWord_any (n : Int) (w : World) : Calls Try.prog 58 #[.int .i64 n] w fun e w' => e = .returned (.bool (decide (P.Word n))) ∧ w' = w := by
  by_cases h : 0 ≤ n
  · have HD : Hid (decide (P.Word n) = decide (n ≤ 4294967295)) := by unfold Hid; rw [decide_eq_decide]; unfold P.Word; omega
    go_enter Try.func58, Try.ntmps58
    go_wp2_with fail
    go_ret
    exact ⟨by rw [HD.out]; simp, rfl⟩
  · have HD : Hid (decide (P.Word n) = false) := by unfold Hid; rw [decide_eq_false_iff_not]; unfold P.Word; omega
    go_enter Try.func58, Try.ntmps58
    go_wp2_with fail
    go_ret
    exact ⟨by rw [HD.out]; simp, rfl⟩
end Go.Proofs.Ytghggcehloiemaa
