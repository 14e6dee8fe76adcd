import Derived.Test.YtghggcehloiemabGreatDoorMcVAll
namespace Go.Proofs.YtghggcehloiemabGreatDoor
open Go.RowKit
set_option linter.unusedVariables false
set_option maxRecDepth 16000

theorem hid_of' {p : Prop} (h : p) : Hid p := h
set_option maxHeartbeats 1000000 in
theorem rword_any (n : Int) (w : World) : Calls Tryz.prog 151 #[.int .i64 n] w fun e w' => e = .returned (.bool (decide (P.Word n))) ∧ w' = w := by
  by_cases h : 0 ≤ n
  · have HD : Hid (decide (P.Word n) = decide (n ≤ 4294967295)) := by unfold Hid; rw [decide_eq_decide]; unfold P.Word; omega
    go_enter Tryz.func151, Tryz.ntmps151
    go_wp2_with fail
    go_ret
    exact ⟨by rw [HD.out]; simp, rfl⟩
  · have HD : Hid (decide (P.Word n) = false) := by unfold Hid; rw [decide_eq_false_iff_not]; unfold P.Word; omega
    go_enter Tryz.func151, Tryz.ntmps151
    go_wp2_with fail
    go_ret
    exact ⟨by rw [HD.out]; simp, rfl⟩

theorem shr_half (x j : Nat) : (x / 2) >>> j = x >>> (j + 1) := by
  rw [Nat.shiftRight_eq_div_pow, Nat.shiftRight_eq_div_pow, Nat.div_div_eq_div_mul, Nat.pow_succ, Nat.mul_comm]
set_option maxHeartbeats 1000000 in
theorem rhalved_any (a k r : Nat) (w : World) (ha : a < 4294967296) (hk : k ≤ 31) (hr : a >>> k = r) :
    Calls Tryz.prog 173 #[.int .i64 a, .int .i64 k] w fun e w' => e = .returned (.int .i64 r) ∧ w' = w := by
  go_enter Tryz.func173, Tryz.ntmps173
  go_wp2_with fail
  go_loop [0, 1] (fun x j => ∃ x' j' : Nat, x = .int .i64 x' ∧ j = .int .i64 j' ∧ j' ≤ 31 ∧ x' < 4294967296 ∧ Hid (x' >>> j' = r)) (fun _ j => (intOf j).toNat)
  case atStart => exact ⟨a, k, rfl, rfl, hk, ha, hr⟩
  case round =>
    obtain ⟨x', j', rfl, rfl, hj, hx, HX⟩ := hrel
    by_cases h0 : 0 < j'
    · go_wp2_with fail
      refine ⟨⟨x' / 2, j' - 1, by go_num, by go_num, by omega, by omega, ?_⟩, by simp [intOf]; omega⟩
      unfold Hid; rw [← HX.out, shr_half, show j' - 1 + 1 = j' by omega]
    · have h00 : j' = 0 := by omega
      subst h00
      go_wp2_with fail
      go_ret
      exact ⟨by rw [← HX.out]; rfl, rfl⟩

theorem prod_odd (W n a c : Nat) : ((n + a) % W + (2 * a % W) * c) % W = (n + a * (2 * c + 1)) % W := by
  have e : n + a * (2 * c + 1) = (n + a) + (2 * a) * c := by rw [Nat.mul_add, Nat.mul_one, Nat.mul_comm 2 a, Nat.mul_assoc]; omega
  rw [e, Nat.add_mod, Nat.mod_mod, Nat.mul_mod, Nat.mod_mod, ← Nat.mul_mod, ← Nat.add_mod]
theorem prod_even (W n a c : Nat) : (n + (2 * a % W) * c) % W = (n + a * (2 * c)) % W := by
  have e : n + a * (2 * c) = n + (2 * a) * c := by rw [Nat.mul_comm 2 a, Nat.mul_assoc]
  rw [e, Nat.add_mod, Nat.mul_mod, Nat.mod_mod, ← Nat.mul_mod, ← Nat.add_mod]
set_option maxHeartbeats 1000000 in
theorem rproduct_any (a b r : Nat) (w : World) (ha : a < 4294967296) (hb : b < 4294967296) (hr : a * b % P.W32 = r) :
    Calls Tryz.prog 171 #[.int .i64 a, .int .i64 b] w fun e w' => e = .returned (.int .i64 r) ∧ w' = w := by
  have HAB : Hid ((0 + a * b) % 4294967296 = r) := by unfold Hid; rw [← hr, Nat.zero_add, P.W32]
  clear hr
  go_enter Tryz.func171, Tryz.ntmps171
  go_wp2_with fail
  go_loop [5, 0, 1] (fun n x y => ∃ n' x' y' : Nat, n = .int .i64 n' ∧ x = .int .i64 x' ∧ y = .int .i64 y' ∧ n' < 4294967296 ∧ x' < 4294967296 ∧ y' < 4294967296 ∧ Hid ((n' + x' * y') % 4294967296 = r)) (fun _ _ y => (intOf y).toNat)
  case atStart => exact ⟨0, a, b, rfl, rfl, rfl, by omega, ha, hb, HAB.out⟩
  case round =>
    obtain ⟨n', x', y', rfl, rfl, rfl, hn, hx, hy, HI⟩ := hrel
    by_cases h0 : 0 < y'
    · by_cases h1 : y' % 2 = 1
      · go_wp2_with fail
        refine ⟨⟨(n' + x') % 4294967296, 2 * x' % 4294967296, y' / 2, by go_num, by go_num, by go_num, by omega, by omega, by omega, ?_⟩, by simp [intOf]; omega⟩
        unfold Hid; rw [← HI.out, prod_odd, show 2 * (y' / 2) + 1 = y' by omega]
      · go_wp2_with fail
        refine ⟨⟨n', 2 * x' % 4294967296, y' / 2, by go_num, by go_num, by go_num, by omega, by omega, by omega, ?_⟩, by simp [intOf]; omega⟩
        unfold Hid; rw [← HI.out, prod_even, show 2 * (y' / 2) = y' by omega]
    · have h00 : y' = 0 := by omega
      subst h00
      go_wp2_with fail
      go_ret
      refine ⟨congrArg (fun z : Nat => Ending.returned (.int .i64 (z : Int))) ?_, rfl⟩
      rw [← HI.out, Nat.mul_zero, Nat.add_zero, Nat.mod_eq_of_lt hn]

theorem bit_step (f : Nat → Nat → Nat) (g : Bool → Bool → Bool) (hf : ∀ x y i, (f x y).testBit i = g (x.testBit i) (y.testBit i)) (a b i : Nat) :
    f a b % 2 ^ (i + 1) = f a b % 2 ^ i + (if g (decide (a / 2 ^ i % 2 = 1)) (decide (b / 2 ^ i % 2 = 1)) = true then 2 ^ i else 0) := by
  have h := hf a b i
  rw [Nat.testBit_eq_decide_div_mod_eq, Nat.testBit_eq_decide_div_mod_eq, Nat.testBit_eq_decide_div_mod_eq] at h
  rw [← h, Nat.pow_succ, Nat.mod_mul]
  have h2 : f a b / 2 ^ i % 2 < 2 := Nat.mod_lt _ (by decide)
  generalize f a b / 2 ^ i % 2 = t at *
  have ht : t = 0 ∨ t = 1 := by omega
  rcases ht with rfl | rfl <;> simp
theorem pow_le32 {i : Nat} (h : i ≤ 32) : 2 ^ i ≤ 4294967296 := Nat.pow_le_pow_right (by decide) h
set_option maxHeartbeats 2000000 in
theorem rbits_any (a b r : Nat) (both : Bool) (w : World) (ha : a < 4294967296) (hb : b < 4294967296) (hr : (if both then a &&& b else a ^^^ b) = r) :
    Calls Tryz.prog 172 #[.int .i64 a, .int .i64 b, .bool both] w fun e w' => e = .returned (.int .i64 r) ∧ w' = w := by
  have hr32 : r < 2 ^ 32 := by
    rw [← hr]
    cases both
    · exact Nat.xor_lt_two_pow ha hb
    · exact Nat.lt_of_le_of_lt Nat.and_le_left ha
  have hstep : ∀ i, r % 2 ^ (i + 1) = r % 2 ^ i + (if (both = true ∧ a / 2 ^ i % 2 = 1 ∧ b / 2 ^ i % 2 = 1) ∨ (both = false ∧ a / 2 ^ i % 2 ≠ b / 2 ^ i % 2) then 2 ^ i else 0) := by
    intro i
    rw [← hr]
    cases both
    · have := bit_step (fun x y => x ^^^ y) (fun x y => x ^^ y) (fun x y i => Nat.testBit_xor x y i) a b i
      simp only [Bool.false_eq_true, if_false] at this ⊢
      rw [this]
      congr 1
      have h1 : a / 2 ^ i % 2 < 2 := Nat.mod_lt _ (by decide)
      have h2 : b / 2 ^ i % 2 < 2 := Nat.mod_lt _ (by decide)
      generalize a / 2 ^ i % 2 = x at *
      generalize b / 2 ^ i % 2 = y at *
      have hx : x = 0 ∨ x = 1 := by omega
      have hy : y = 0 ∨ y = 1 := by omega
      rcases hx with rfl | rfl <;> rcases hy with rfl | rfl <;> simp
    · have := bit_step (fun x y => x &&& y) (fun x y => x && y) (fun x y i => Nat.testBit_and x y i) a b i
      simp only [if_true] at this ⊢
      rw [this]
      simp
  have HR := hid_of' hr32
  have HS := hid_of' hstep
  clear hr hr32 hstep
  go_enter Tryz.func172, Tryz.ntmps172
  go_wp2_with fail
  go_loop [7, 8, 0, 1, 9] (fun n by_ x y j => ∃ n' p x' y' i : Nat, n = .int .i64 n' ∧ by_ = .int .i64 p ∧ x = .int .i64 x' ∧ y = .int .i64 y' ∧ j = .int .i64 i ∧ i ≤ 32 ∧ n' ≤ 4294967296 ∧ p ≤ 4294967296 ∧ x' < 4294967296 ∧ y' < 4294967296 ∧ Hid (n' = r % 2 ^ i ∧ p = 2 ^ i ∧ x' = a / 2 ^ i ∧ y' = b / 2 ^ i)) (fun _ _ _ _ j => 32 - (intOf j).toNat)
  case atStart => exact ⟨0, 1, a, b, 0, rfl, rfl, rfl, rfl, rfl, by omega, by omega, by omega, ha, hb, by simp [Nat.mod_one], by simp, by simp, by simp⟩
  case round =>
    obtain ⟨n', p, x', y', i, rfl, rfl, rfl, rfl, rfl, hi, hn, hp, hx, hy, HI⟩ := hrel
    by_cases h0 : i < 32
    · have hnext : ∀ q : Nat, q = 2 ^ i ∨ q = 0 → (if (both = true ∧ x' % 2 = 1 ∧ y' % 2 = 1) ∨ (both = false ∧ x' % 2 ≠ y' % 2) then p else 0) = q → Hid (n' + q = r % 2 ^ (i + 1) ∧ 2 * p = 2 ^ (i + 1) ∧ x' / 2 = a / 2 ^ (i + 1) ∧ y' / 2 = b / 2 ^ (i + 1)) := by
        intro q _ hq
        obtain ⟨e1, e2, e3, e4⟩ := HI.out
        refine ⟨?_, ?_, ?_, ?_⟩
        · rw [HS.out, ← hq, ← e3, ← e4, ← e1, ← e2]
        · rw [e2, Nat.pow_succ, Nat.mul_comm]
        · rw [e3, Nat.div_div_eq_div_mul, Nat.pow_succ]
        · rw [e4, Nat.div_div_eq_div_mul, Nat.pow_succ]
      have hp2 : p = 2 ^ i := HI.out.2.1
      have hp31 : p ≤ 2147483648 := by rw [hp2]; exact Nat.pow_le_pow_right (by decide) (by omega : i ≤ 31)
      have hnn : n' ≤ 2147483648 := by
        rw [HI.out.1]
        exact Nat.le_trans (Nat.le_of_lt (Nat.mod_lt _ (Nat.pos_of_ne_zero (by simp)))) (Nat.pow_le_pow_right (n := 2) (by decide) (by omega : i ≤ 31))
      have HN := hid_of' hnext
      have HP2 := hid_of' hp2
      clear hnext hp2
      cases both
      · by_cases hxy : x' % 2 = y' % 2
        · have hxy' : (x' : Int) % 2 = (y' : Int) % 2 := by omega
          go_wp2_with fail
          refine ⟨⟨n', 2 * p, x' / 2, y' / 2, i + 1, by go_num, by go_num, by go_num, by go_num, by go_num, by omega, by omega, by omega, by omega, by omega, ?_⟩, by simp [intOf]; omega⟩
          exact HN.out 0 (Or.inr rfl) (if_neg (by simp [hxy]))
        · have hxy' : ¬ (x' : Int) % 2 = (y' : Int) % 2 := by omega
          go_wp2_with fail
          refine ⟨⟨n' + p, 2 * p, x' / 2, y' / 2, i + 1, by go_num, by go_num, by go_num, by go_num, by go_num, by omega, by omega, by omega, by omega, by omega, ?_⟩, by simp [intOf]; omega⟩
          exact HN.out p (Or.inl HP2.out) (if_pos (Or.inr ⟨rfl, hxy⟩))
      · by_cases hx1 : x' % 2 = 1
        · have hx1' : (x' : Int) % 2 = 1 := by omega
          by_cases hy1 : y' % 2 = 1
          · have hy1' : (y' : Int) % 2 = 1 := by omega
            go_wp2_with fail
            refine ⟨⟨n' + p, 2 * p, x' / 2, y' / 2, i + 1, by go_num, by go_num, by go_num, by go_num, by go_num, by omega, by omega, by omega, by omega, by omega, ?_⟩, by simp [intOf]; omega⟩
            exact HN.out p (Or.inl HP2.out) (if_pos (Or.inl ⟨rfl, hx1, hy1⟩))
          · have hy1' : ¬ (y' : Int) % 2 = 1 := by omega
            go_wp2_with fail
            refine ⟨⟨n', 2 * p, x' / 2, y' / 2, i + 1, by go_num, by go_num, by go_num, by go_num, by go_num, by omega, by omega, by omega, by omega, by omega, ?_⟩, by simp [intOf]; omega⟩
            exact HN.out 0 (Or.inr rfl) (if_neg (by simp [hy1]))
        · have hx1' : ¬ (x' : Int) % 2 = 1 := by omega
          go_wp2_with fail
          refine ⟨⟨n', 2 * p, x' / 2, y' / 2, i + 1, by go_num, by go_num, by go_num, by go_num, by go_num, by omega, by omega, by omega, by omega, by omega, ?_⟩, by simp [intOf]; omega⟩
          exact HN.out 0 (Or.inr rfl) (if_neg (by simp [hx1]))
    · have h32 : i = 32 := by omega
      have hfin : n' = r := by rw [HI.out.1, h32]; exact Nat.mod_eq_of_lt HR.out
      subst hfin
      subst h32
      go_wp2_with fail
      go_ret
      exact ⟨rfl, rfl⟩

set_option maxHeartbeats 2000000 in
theorem rmade_any (op a b k x y r : Nat) (w : World) (hop : op = 1 ∨ op = 2 ∨ op = 3 ∨ op = 4 ∨ op = 5 ∨ op = 6 ∨ op = 7 ∨ op = 8) (hx : x < 4294967296) (hy : y < 4294967296) (hk8 : op = 8 → k ≤ 31) (hr : P.reck ⟨op, a, b, k⟩ x y = r) :
    Calls Tryz.prog 155 #[.agg #[.int .i64 op, .int .i64 a, .int .i64 b, .int .i64 k], .int .i64 x, .int .i64 y] w fun e w' => e = .returned (.int .i64 r) ∧ Below w.heap.size w w' := by
  have hb : Below w.heap.size w (w.alloc (.cells #[.int .i64 op, .int .i64 a, .int .i64 b, .int .i64 k] 194)) := (Below.refl _ _).alloc (Nat.le_refl _) _
  have HPR := hid_of' (fun r w => rproduct_any x y r w hx hy)
  have HBI := hid_of' (fun r both w => rbits_any x y r both w hx hy)
  rcases hop with rfl | rfl | rfl | rfl | rfl | rfl | rfl | rfl
  · have hr' : k = r := by rw [← hr]; simp [P.reck]
    subst hr'
    clear hr
    go_enter Tryz.func155, Tryz.ntmps155
    go_wp2_with fail
    go_ret
    exact ⟨rfl, hb⟩
  · have hr' : y = r := by rw [← hr]; simp [P.reck]
    subst hr'
    clear hr
    go_enter Tryz.func155, Tryz.ntmps155
    go_wp2_with fail
    go_ret
    exact ⟨rfl, hb⟩
  · have HR' : Hid (((x : Int) + y) % 4294967296 = r) := by unfold Hid; rw [← hr, reck_add, P.W32]; omega
    clear hr
    go_enter Tryz.func155, Tryz.ntmps155
    go_wp2_with fail
    go_ret
    exact ⟨by rw [← HR'.out]; rfl, hb⟩
  · have HR' : Hid (((x : Int) + 4294967296 - y) % 4294967296 = r) := by unfold Hid; rw [← hr, reck_sub, P.W32]; omega
    clear hr
    go_enter Tryz.func155, Tryz.ntmps155
    go_wp2_with fail
    go_ret
    exact ⟨by rw [← HR'.out]; rfl, hb⟩
  · have hr' : x * y % P.W32 = r := by rw [← hr, reck_mul]
    have HC := hid_of' (fun w => HPR.out r w hr')
    clear hr hr'
    go_enter Tryz.func155, Tryz.ntmps155
    go_wp2_with fail
    refine (HC.out _).mono ?_
    rintro e w1 ⟨rfl, rfl⟩
    go_wp2_with fail
    go_ret
    exact ⟨rfl, hb⟩
  · have hr' : (if true then x &&& y else x ^^^ y) = r := by rw [← hr, reck_and]; rfl
    have HC := hid_of' (fun w => HBI.out r true w hr')
    clear hr hr'
    go_enter Tryz.func155, Tryz.ntmps155
    go_wp2_with fail
    refine (HC.out _).mono ?_
    rintro e w1 ⟨rfl, rfl⟩
    go_wp2_with fail
    go_ret
    exact ⟨rfl, hb⟩
  · have hr' : (if false then x &&& y else x ^^^ y) = r := by rw [← hr, reck_xor]; rfl
    have HC := hid_of' (fun w => HBI.out r false w hr')
    clear hr hr'
    go_enter Tryz.func155, Tryz.ntmps155
    go_wp2_with fail
    refine (HC.out _).mono ?_
    rintro e w1 ⟨rfl, rfl⟩
    go_wp2_with fail
    go_ret
    exact ⟨rfl, hb⟩
  · have hr' : y >>> k = r := by rw [← hr, reck_shr]
    have HC := hid_of' (fun w => rhalved_any y k r w hy (hk8 rfl) hr')
    clear hr hr' hk8
    go_enter Tryz.func155, Tryz.ntmps155
    go_wp2_with fail
    refine (HC.out _).mono ?_
    rintro e w1 ⟨rfl, rfl⟩
    go_wp2_with fail
    go_ret
    exact ⟨rfl, hb⟩

set_option maxHeartbeats 1000000 in
theorem rleaves_any (op a b k x y : Nat) (w : World) (h1 : 11 ≤ op) (h2 : op ≤ 14) :
    Calls Tryz.prog 154 #[.agg #[.int .i64 op, .int .i64 a, .int .i64 b, .int .i64 k], .int .i64 x, .int .i64 y] w fun e w' => e = .returned (.bool (P.goB op x y)) ∧ Below w.heap.size w w' := by
  have hb : Below w.heap.size w (w.alloc (.cells #[.int .i64 op, .int .i64 a, .int .i64 b, .int .i64 k] 194)) := (Below.refl _ _).alloc (Nat.le_refl _) _
  have hop : op = 11 ∨ op = 12 ∨ op = 13 ∨ op = 14 := by omega
  clear h1 h2
  rcases hop with rfl | rfl | rfl | rfl
  · go_enter Tryz.func154, Tryz.ntmps154
    go_wp2_with fail
    go_ret
    exact ⟨rfl, hb⟩
  · by_cases h : x = y
    · have h' : (x : Int) = (y : Int) := by omega
      have HG : Hid (P.goB 12 x y = true) := by unfold Hid; simp [P.goB, h]
      go_enter Tryz.func154, Tryz.ntmps154
      go_wp2_with fail
      go_ret
      exact ⟨by rw [HG.out]; first | rfl | (simp; omega), hb⟩
    · have h' : ¬ (x : Int) = (y : Int) := by omega
      have HG : Hid (P.goB 12 x y = false) := by unfold Hid; simp [P.goB, h]
      go_enter Tryz.func154, Tryz.ntmps154
      go_wp2_with fail
      go_ret
      exact ⟨by rw [HG.out]; first | rfl | (simp; omega), hb⟩
  · by_cases h : x = y
    · have h' : (x : Int) = (y : Int) := by omega
      have HG : Hid (P.goB 13 x y = false) := by unfold Hid; simp [P.goB, h]
      go_enter Tryz.func154, Tryz.ntmps154
      go_wp2_with fail
      go_ret
      exact ⟨by rw [HG.out]; first | rfl | (simp; omega), hb⟩
    · have h' : ¬ (x : Int) = (y : Int) := by omega
      have HG : Hid (P.goB 13 x y = true) := by unfold Hid; simp [P.goB, h]
      go_enter Tryz.func154, Tryz.ntmps154
      go_wp2_with fail
      go_ret
      exact ⟨by rw [HG.out]; first | rfl | (simp; omega), hb⟩
  · by_cases h : x < y
    · have h' : (x : Int) < (y : Int) := by omega
      have HG : Hid (P.goB 14 x y = true) := by unfold Hid; simp [P.goB, h]
      go_enter Tryz.func154, Tryz.ntmps154
      go_wp2_with fail
      go_ret
      exact ⟨by rw [HG.out]; first | rfl | (simp; omega), hb⟩
    · have h' : ¬ (x : Int) < (y : Int) := by omega
      have HG : Hid (P.goB 14 x y = false) := by unfold Hid; simp [P.goB, h]
      go_enter Tryz.func154, Tryz.ntmps154
      go_wp2_with fail
      go_ret
      exact ⟨by rw [HG.out]; first | rfl | (simp; omega), hb⟩
end Go.Proofs.YtghggcehloiemabGreatDoor
