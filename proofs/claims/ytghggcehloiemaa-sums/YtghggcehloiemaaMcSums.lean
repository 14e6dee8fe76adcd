import Derived.Test.YtghggcehloiemaaMcKeep
import Derived.Deep.OwnRows
namespace Go.Proofs.Ytghggcehloiemaa
open Go.RowKit
set_option linter.unusedVariables false
set_option maxRecDepth 16000

namespace P
def pickN (c : Int) (n : Nat) : Nat := (if c < 0 then -(c + 1) else c).toNat % n
theorem one_sum (op h a b : Nat) (h1 : 1 ≤ op) (h8 : op ≤ 8) (hh : h < 65536) (h31 : op = 8 → h ≤ 31) (ha : a < 4294967296) (hb : b < 4294967296) :
    runOf (text [⟨op, 0, 1, h⟩, ⟨0, 0, 0, 0⟩]) [109] a b 9 2 = ⟨[109], reck ⟨op, 0, 1, h⟩ a b, 0, 2, 0⟩ := by
  have hc : CodeL [⟨op, 0, 1, h⟩, ⟨0, 0, 0, 0⟩] := by
    refine ⟨by show 1 ≤ 2; decide, by show 2 ≤ 800; decide, ?_, ?_⟩
    · intro i x hx
      match i, hx with
      | 0, hx => cases hx; exact ⟨by show op ≤ 14; omega, by show 0 ≤ 15; omega, by show 1 ≤ 15; omega, fun h => absurd h (by show ¬ 11 ≤ op; omega), h31⟩
      | 1, hx => cases hx; exact ⟨by decide, by decide, by decide, fun h => absurd h (by decide), fun h => absurd h (by decide)⟩
      | n + 2, hx => cases hx
    · intro x hx
      cases hx; exact .inl rfl
  have hk : ∀ x ∈ [(⟨op, 0, 1, h⟩ : I), ⟨0, 0, 0, 0⟩], x.k < 65536 := by
    intro x hx
    simp only [List.mem_cons, List.not_mem_nil, or_false] at hx
    rcases hx with rfl | rfl
    · exact hh
    · decide
  have hs : ∀ x ∈ [(⟨op, 0, 1, h⟩ : I), ⟨0, 0, 0, 0⟩], Small x := by
    intro x hx
    obtain ⟨i, hi⟩ := List.getElem?_of_mem hx
    exact okI_small (hc.all i x hi) (hk x hx)
  have hcode := isCode_text hc hk
  have hw : Word (a : Int) ∧ Word (b : Int) ∧ Word 9 ∧ (0 : Int) ≤ 2 ∧ (2 : Int) ≤ 20000 := ⟨⟨by omega, by omega⟩, ⟨by omega, by omega⟩, ⟨by decide, by decide⟩, by decide, by decide⟩
  unfold runOf
  rw [if_neg (not_not_intro hcode), if_neg (by decide), if_neg (not_not_intro hw), codeOf_text hs, Int.toNat_natCast, Int.toNat_natCast]
  have hst : step ⟨op, 0, 1, h⟩ (start [109] a b 9) = some ⟨[reck ⟨op, 0, 1, h⟩ a b, b, 9, 0, 0, 0, 0, 0, 0, 0, 0, 0, 0, 0, 0, 0], [109], 1⟩ := by
    unfold step; rw [if_neg (by show ¬ 11 ≤ op; omega), if_neg (by show ¬ op = 9; omega), if_neg (by show ¬ op = 10; omega)]; rfl
  show go [⟨op, 0, 1, h⟩, ⟨0, 0, 0, 0⟩] 2 0 (start [109] a b 9) = _
  rw [go_step (x := ⟨op, 0, 1, h⟩) rfl (by show op ≠ 0; omega) hst]
  rfl
end P
set_option maxHeartbeats 1000000 in
theorem mpick_any (c : Int) (n : Nat) (w : World) (hn : 1 ≤ n) (hn2 : n ≤ 4294967296) (h0 : -9223372036854775808 ≤ c) (h1 : c ≤ 9223372036854775807) :
    Calls Try.prog 23 #[.int .i64 c, .int .i64 n] w fun e w' => e = .returned (.int .i64 (P.pickN c n)) ∧ w' = w := by
  have hnz : ((n : Int) == 0) = false := by rw [beq_eq_false_iff_ne]; omega
  by_cases h : c < 0
  · have HP : Hid (((P.pickN c n : Nat) : Int) = -((c + 1).tmod n)) := by
      unfold Hid P.pickN; rw [if_pos h, Int.natCast_emod, Int.toNat_of_nonneg (by omega), ← Int.tmod_eq_emod_of_nonneg (by omega), Int.neg_tmod]
    go_enter Try.func23, Try.ntmps23
    go_wp2_with fail
    go_ret
    exact ⟨by rw [HP.out]; rfl, rfl⟩
  · have HP : Hid (((P.pickN c n : Nat) : Int) = c % n) := by
      unfold Hid P.pickN; rw [if_neg h, Int.natCast_emod, Int.toNat_of_nonneg (by omega)]
    go_enter Try.func23, Try.ntmps23
    go_wp2_with fail
    go_ret
    exact ⟨by rw [HP.out]; rfl, rfl⟩
theorem mpick_lt (c : Int) (n : Nat) (hn : 1 ≤ n) : P.pickN c n < n := Nat.mod_lt _ (by omega)

theorem conv_row {w : World} {g cp : Nat} {l : List UInt8} {F : Nat × Nat} (h : w.heap[g]? = some (.cells (l.map byteV).toArray 5 F)) : (convert 75 9 (.slice (some ⟨g, 0, none⟩) l.length cp)).run Try.prog w = .ok (.string ⟨l.toArray⟩) w := by
  refine run_convert_bytes_back (P := Try.prog) w 75 9 5 ⟨g, 0, none⟩ cp l Try.underlying75 Try.underlying5 Try.underlying9 ?_
  intro j hj
  rw [show (⟨g, 0, none⟩ : Addr).add j = ⟨g, j, none⟩ from by simp [Addr.add]; intro e; rw [e]]
  rw [cell_of_row _ _ _ _ _ _ h]
  simp [List.getElem?_eq_getElem hj, byteV]
set_option maxHeartbeats 1000000 in
theorem kcode_any (op h : Nat) (w : World) (h1 : op ≤ 8) (hh : h < 65536) :
    Calls Try.prog 25 #[.int .i64 op, .int .i64 h] w fun e w' => e = .returned (.string ⟨(P.text [⟨op, 0, 1, h⟩, ⟨0, 0, 0, 0⟩]).toArray⟩) ∧ Below w.heap.size w w' := by
  have hrow : (#[.int .u8 op, .int .u8 0, .int .u8 1, .int .u8 ((h : Int) % 256), .int .u8 ((h : Int) / 256), .int .u8 0, .int .u8 0, .int .u8 0, .int .u8 0, .int .u8 0] : Array Value) = ((P.text [⟨op, 0, 1, h⟩, ⟨0, 0, 0, 0⟩]).map byteV).toArray := by
    have e0 : ((UInt8.ofNat op).toNat : Int) = op := by rw [P.ofNat_toNat' (by omega)]
    have e3 : ((UInt8.ofNat h).toNat : Int) = (h : Int) % 256 := by simp
    have e4 : ((UInt8.ofNat (h / 256)).toNat : Int) = (h : Int) / 256 := by rw [P.ofNat_toNat' (by omega)]; omega
    simp only [P.text, P.bytesI, byteV, List.flatMap_cons, List.flatMap_nil, List.cons_append, List.nil_append, List.map_cons, List.map_nil, List.append_nil, e0, e3, e4]
    rfl
  have hcv : (convert 75 9 (.slice (some ⟨w.heap.size, 0, none⟩) 10 10)).run Try.prog (w.alloc (.cells #[.int .u8 op, .int .u8 0, .int .u8 1, .int .u8 ((h : Int) % 256), .int .u8 ((h : Int) / 256), .int .u8 0, .int .u8 0, .int .u8 0, .int .u8 0, .int .u8 0] 5)) = .ok (.string ⟨(P.text [⟨op, 0, 1, h⟩, ⟨0, 0, 0, 0⟩]).toArray⟩) (w.alloc (.cells #[.int .u8 op, .int .u8 0, .int .u8 1, .int .u8 ((h : Int) % 256), .int .u8 ((h : Int) / 256), .int .u8 0, .int .u8 0, .int .u8 0, .int .u8 0, .int .u8 0] 5)) := by
    rw [hrow]
    exact conv_row (l := P.text [⟨op, 0, 1, h⟩, ⟨0, 0, 0, 0⟩]) (heap_alloc_new w _)
  have HB : Hid (Below w.heap.size w (w.alloc (.cells #[.int .u8 op, .int .u8 0, .int .u8 1, .int .u8 ((h : Int) % 256), .int .u8 ((h : Int) / 256), .int .u8 0, .int .u8 0, .int .u8 0, .int .u8 0, .int .u8 0] 5))) := (Below.refl _ _).alloc (Nat.le_refl _) _
  clear hrow
  go_enter Try.func25, Try.ntmps25
  go_wp2_with fail
  go_ret
  exact ⟨rfl, HB.out⟩
theorem sw1 (x y : Nat) (hx : x < 4294967296) (hy : y < 4294967296) : (wrap64 ((x : Int) + y)).tmod 4294967296 = (((x + y) % 4294967296 : Nat) : Int) := by
  rw [w64_id _ (by omega) (by omega), Int.tmod_eq_emod_of_nonneg (by omega)]; omega
theorem sw2 (x y : Nat) (hx : x < 4294967296) (hy : y < 4294967296) : (wrap64 (wrap64 ((x : Int) + 4294967296) - y)).tmod 4294967296 = (((x + 4294967296 - y) % 4294967296 : Nat) : Int) := by
  rw [w64_id ((x : Int) + 4294967296) (by omega) (by omega), w64_id _ (by omega) (by omega), Int.tmod_eq_emod_of_nonneg (by omega)]; omega
theorem mul_parts (x y : Nat) : ((x / 65536 * y) % 65536 * 65536 + x % 65536 * y) % 4294967296 = x * y % 4294967296 := by
  have h1 : x * y = (x / 65536 * y) * 65536 + x % 65536 * y := by
    have e1 : x * y = (65536 * (x / 65536) + x % 65536) * y := by rw [Nat.div_add_mod x 65536]
    have e2 : (65536 * (x / 65536) + x % 65536) * y = (x / 65536 * y) * 65536 + x % 65536 * y := by rw [Nat.add_mul, Nat.mul_comm 65536, Nat.mul_right_comm]
    exact e1.trans e2
  have h2 := Nat.div_add_mod (x / 65536 * y) 65536
  rw [h1]
  omega
theorem sw3 (x y : Nat) (hx : x < 4294967296) (hy : y < 4294967296) : (wrap64 (wrap64 ((wrap64 (wrap64 ((x : Int) / 65536) * y)).tmod 65536 * 65536) + wrap64 ((x : Int) % 65536 * y))).tmod 4294967296 = ((x * y % 4294967296 : Nat) : Int) := by
  have e1 : (x : Int) / 65536 = ((x / 65536 : Nat) : Int) := by omega
  have e2 : (x : Int) % 65536 = ((x % 65536 : Nat) : Int) := by omega
  have hq : x / 65536 ≤ 65535 := by omega
  have hr : x % 65536 ≤ 65535 := by omega
  have hm1 : x / 65536 * y ≤ 65535 * 4294967296 := Nat.mul_le_mul hq (by omega)
  have hm2 : x % 65536 * y ≤ 65535 * 4294967296 := Nat.mul_le_mul hr (by omega)
  have hp := mul_parts x y
  rw [e1, e2, w64_id ((x / 65536 : Nat) : Int) (by omega) (by omega), ← Int.natCast_mul, ← Int.natCast_mul]
  generalize x / 65536 * y = u at *
  generalize x % 65536 * y = v at *
  rw [w64_id (u : Int) (by omega) (by omega), Int.tmod_eq_emod_of_nonneg (a := (u : Int)) (by omega), w64_id (v : Int) (by omega) (by omega), w64_id ((u : Int) % 65536 * 65536) (by omega) (by omega), w64_id _ (by omega) (by omega), Int.tmod_eq_emod_of_nonneg (by omega), ← hp]
  omega
theorem bits64_and (x y : Nat) (hx : x < 4294967296) (hy : y < 4294967296) : bits .and .i64 (x : Int) (y : Int) = ((x &&& y : Nat) : Int) := by
  show IntKind.i64.wrap ((BitVec.ofInt 64 (x : Int) &&& BitVec.ofInt 64 (y : Int)).toNat : Int) = _
  have h1 : (BitVec.ofInt 64 (x : Int)).toNat = x := by rw [BitVec.toNat_ofInt]; omega
  have h2 : (BitVec.ofInt 64 (y : Int)).toNat = y := by rw [BitVec.toNat_ofInt]; omega
  have h3 : x &&& y < 4294967296 := Nat.lt_of_le_of_lt Nat.and_le_left hx
  rw [BitVec.toNat_and, h1, h2, wrap_id _ (by omega) (by omega)]
theorem bits64_xor (x y : Nat) (hx : x < 4294967296) (hy : y < 4294967296) : bits .xor .i64 (x : Int) (y : Int) = ((x ^^^ y : Nat) : Int) := by
  show IntKind.i64.wrap ((BitVec.ofInt 64 (x : Int) ^^^ BitVec.ofInt 64 (y : Int)).toNat : Int) = _
  have h1 : (BitVec.ofInt 64 (x : Int)).toNat = x := by rw [BitVec.toNat_ofInt]; omega
  have h2 : (BitVec.ofInt 64 (y : Int)).toNat = y := by rw [BitVec.toNat_ofInt]; omega
  have h3 : x ^^^ y < 4294967296 := Nat.xor_lt_two_pow (n := 32) hx hy
  rw [BitVec.toNat_xor, h1, h2, wrap_id _ (by omega) (by omega)]
theorem shr_int (y n : Nat) : (y : Int) / 2 ^ n = ((y >>> n : Nat) : Int) := by rw [Nat.shiftRight_eq_div_pow]; simp
/-- What is wanted of the instruction op. -/
def sumW (x y k op : Nat) : Nat := P.reck ⟨op, 0, 1, if op = 8 then k % 32 else k⟩ x y
theorem sums_row (x y k : Nat) (hx : x < 4294967296) (hy : y < 4294967296) :
    (#[.int .i64 0, .int .i64 k, .int .i64 y, .int .i64 ((wrap64 ((x : Int) + y)).tmod 4294967296), .int .i64 ((wrap64 (wrap64 ((x : Int) + 4294967296) - y)).tmod 4294967296),
      .int .i64 ((wrap64 (wrap64 ((wrap64 (wrap64 ((x : Int) / 65536) * y)).tmod 65536 * 65536) + wrap64 ((x : Int) % 65536 * y))).tmod 4294967296), .int .i64 (bits .and .i64 (x : Int) (y : Int)), .int .i64 (bits .xor .i64 (x : Int) (y : Int)), .int .i64 ((y : Int) / 2 ^ (k % 32))] : Array Value)
    = #[.int .i64 0, natV (sumW x y k 1), natV (sumW x y k 2), natV (sumW x y k 3), natV (sumW x y k 4), natV (sumW x y k 5), natV (sumW x y k 6), natV (sumW x y k 7), natV (sumW x y k 8)] := by
  rw [sw1 x y hx hy, sw2 x y hx hy, sw3 x y hx hy, bits64_and x y hx hy, bits64_xor x y hx hy, shr_int]
  simp only [sumW, reck_sub, reck_and, reck_xor, reck_shr, reck_add, reck_mul]
  rfl
theorem sums_cell {w : World} {g x y k q : Nat} (h : w.heap[g]? = some (.cells #[.int .i64 0, natV (sumW x y k 1), natV (sumW x y k 2), natV (sumW x y k 3), natV (sumW x y k 4), natV (sumW x y k 5), natV (sumW x y k 6), natV (sumW x y k 7), natV (sumW x y k 8)] 3 (0, 0))) (h1 : 1 ≤ q) (h8 : q ≤ 8) : w.cell? ⟨g, q, none⟩ = some (.int .i64 (sumW x y k q)) := by
  rw [cell_of_row _ _ _ _ _ _ h]
  have hq : q = 1 ∨ q = 2 ∨ q = 3 ∨ q = 4 ∨ q = 5 ∨ q = 6 ∨ q = 7 ∨ q = 8 := by omega
  rcases hq with rfl | rfl | rfl | rfl | rfl | rfl | rfl | rfl <;> rfl
end Go.Proofs.Ytghggcehloiemaa
