import Derived.Test.YtghggcehloiemaaDoorTellW
namespace Go.Proofs.YtghggcehloiemaaDoor
open Go.RowKit
set_option linter.unusedVariables false
set_option maxRecDepth 16000

namespace P
def pickP (c : Int) (n : Nat) : Nat := (if c < 0 then -(c + 1) else c).toNat % n
def leafT (k : Nat) : List UInt8 := if k = 0 then [117, 49] else if k = 1 then [117, 50] else if k = 2 then [117, 52] else if k = 3 then [98, 49] else if k = 4 then [98, 50] else [98, 51]
/-- Hexadecimal digits, the lowest first. -/
def lowHex : Nat → Nat → List UInt8
  | 0, _ => []
  | k + 1, n => lowHex k n ++ [hx (n / 16 ^ k % 16)]
def oneP (k : Nat) (c : Int) : List UInt8 := if k = 0 then Lib.decDigits (pickP c 256) else if k = 1 then Lib.decDigits (pickP c 65536) else if k = 2 then Lib.decDigits (pickP c 4294967296) else lowHex (2 * (k - 2)) (pickP c 16777216)
def joinP (how : Nat) (a b c d : List UInt8) : List UInt8 :=
  if how = 0 then a else if how = 1 then [123] ++ a ++ [125] else if how = 2 then [123] ++ a ++ [44] ++ b ++ [125]
  else if how = 3 then [123] ++ a ++ [44] ++ b ++ [44] ++ c ++ [44] ++ d ++ [125]
  else if how = 4 then [123] ++ a ++ [44, 123] ++ b ++ [44] ++ c ++ [125, 44] ++ d ++ [125]
  else [123, 123, 123] ++ a ++ [44] ++ b ++ [125, 125, 44] ++ c ++ [125]
end P
def bytesOf (l : List UInt8) : ByteArray := ⟨l.toArray⟩

set_option maxHeartbeats 400000 in
theorem pick_any (c : Int) (n : Nat) (w : World) (hn : 1 ≤ n) (hn2 : n ≤ 4294967296) (h0 : -9223372036854775808 ≤ c) (h1 : c ≤ 9223372036854775807) :
    Calls Tryd.prog 12 #[.int .i64 c, .int .i64 n] w fun e w' => e = .returned (.int .i64 (P.pickP c n)) ∧ w' = w := by
  have hnz : ((n : Int) == 0) = false := by rw [beq_eq_false_iff_ne]; omega
  by_cases h : c < 0
  · have HP : Hid (((P.pickP c n : Nat) : Int) = -((c + 1).tmod n)) := by
      unfold Hid P.pickP; rw [if_pos h, Int.natCast_emod, Int.toNat_of_nonneg (by omega), ← Int.tmod_eq_emod_of_nonneg (by omega), Int.neg_tmod]
    go_enter Tryd.func12, Tryd.ntmps12
    go_wp2_with fail
    go_ret
    exact ⟨by rw [HP.out]; rfl, rfl⟩
  · have HP : Hid (((P.pickP c n : Nat) : Int) = c % n) := by
      unfold Hid P.pickP; rw [if_neg h, Int.natCast_emod, Int.toNat_of_nonneg (by omega)]
    go_enter Tryd.func12, Tryd.ntmps12
    go_wp2_with fail
    go_ret
    exact ⟨by rw [HP.out]; rfl, rfl⟩
theorem pick_lt (c : Int) (n : Nat) (hn : 1 ≤ n) : P.pickP c n < n := Nat.mod_lt _ (by omega)

set_option maxHeartbeats 1000000 in
theorem kleaf_any (k : Nat) (w : World) (hk : k ≤ 5) :
    Calls Tryd.prog 20 #[.int .i64 k] w fun e w' => e = .returned (.string (bytesOf (P.leafT k))) ∧ Below w.heap.size w w' := by
  have hc : k = 0 ∨ k = 1 ∨ k = 2 ∨ k = 3 ∨ k = 4 ∨ k = 5 := by omega
  rcases hc with rfl | rfl | rfl | rfl | rfl | rfl
  all_goals
    go_enter Tryd.func20, Tryd.ntmps20
    go_wp2_with fail
    go_ret
    exact ⟨rfl, (Below.refl _ _).alloc (Nat.le_refl _) _⟩

set_option maxHeartbeats 1000000 in
theorem one_num (k : Nat) (M : Nat) (c : Int) (w : World) (hk : (k = 0 ∧ M = 256) ∨ (k = 1 ∧ M = 65536) ∨ (k = 2 ∧ M = 4294967296)) (h0 : -9223372036854775808 ≤ c) (h1 : c ≤ 9223372036854775807) (htab : Lib.TabIs Tryd.prog w "internal/strconv.uint64pow10" .u64 Lib.pow10Tab) :
    Calls Tryd.prog 22 #[.int .i64 k, .int .i64 c] w fun e w' => e = .returned (.string (bytesOf (Lib.decDigits (P.pickP c M)))) ∧ Below w.heap.size w w' := by
  have HT : Hid (Lib.TabBelow Tryd.prog w.heap.size w "internal/strconv.uint64pow10" .u64 Lib.pow10Tab) := Lib.tabBelow_of_tabIs htab
  clear htab
  rcases hk with ⟨rfl, rfl⟩ | ⟨rfl, rfl⟩ | ⟨rfl, rfl⟩
  all_goals
    go_enter Tryd.func22, Tryd.ntmps22
    go_wp2_with fail
    refine Calls.mono (pick_any c _ _ (by decide) (by decide) h0 h1) ?_
    rintro e w1 ⟨rfl, hw1⟩
    have hb1 : Below w.heap.size w w1 := by rw [hw1]; exact (Below.refl _ _).alloc (Nat.le_refl _) _
    clear hw1
    go_wp2_with fail
    refine Calls.mono (Tryd.strconv_Itoa _ (by omega) (by have := pick_lt c 256 (by decide); have := pick_lt c 65536 (by decide); have := pick_lt c 4294967296 (by decide); omega) _ (HT.out.on hb1).here) ?_
    rintro e w2 ⟨rfl, kk, os, hw2⟩
    have hbe := grow_below hw2
    have hb2 : Below w.heap.size w w2 := hb1.trans (hbe.mono hb1.size)
    clear hw2
    go_wp2_with fail
    go_ret
    refine ⟨?_, hb2⟩
    rw [Lib.itoa_nonneg]
    rfl

theorem lowHex_len (k n : Nat) : (P.lowHex k n).length = k := by
  induction k with
  | zero => rfl
  | succ k ih => simp [P.lowHex, ih]
theorem hx_data' {d : Nat} (h : d < 16) : (ByteArray.extract ⟨#[48, 49, 50, 51, 52, 53, 54, 55, 56, 57, 97, 98, 99, 100, 101, 102]⟩ d (d + 1)).data.toList = [P.hx d] := by
  match d, h with
  | 0, _ | 1, _ | 2, _ | 3, _ | 4, _ | 5, _ | 6, _ | 7, _ | 8, _ | 9, _ | 10, _ | 11, _ | 12, _ | 13, _ | 14, _ | 15, _ => rfl
  | n + 16, h => exact absurd h (by omega)
theorem hx_size' {d : Nat} (h : d < 16) : (ByteArray.extract ⟨#[48, 49, 50, 51, 52, 53, 54, 55, 56, 57, 97, 98, 99, 100, 101, 102]⟩ d (d + 1)).size = 1 := by
  have := congrArg List.length (hx_data' h)
  simpa [ByteArray.size] using this

set_option maxHeartbeats 1000000 in
theorem one_hex (k : Nat) (c : Int) (w : World) (hk : 3 ≤ k) (hk5 : k ≤ 5) (h0 : -9223372036854775808 ≤ c) (h1 : c ≤ 9223372036854775807) :
    Calls Tryd.prog 22 #[.int .i64 k, .int .i64 c] w fun e w' => e = .returned (.string (bytesOf (P.lowHex (2 * (k - 2)) (P.pickP c 16777216)))) ∧ Below w.heap.size w w' := by
  go_enter Tryd.func22, Tryd.ntmps22
  go_wp2_with fail
  refine Calls.mono (pick_any c 16777216 _ (by decide) (by decide) h0 h1) ?_
  rintro e w1 ⟨rfl, hw1⟩
  have hb1 : Below w.heap.size w w1 := by rw [hw1]; exact (Below.refl _ _).alloc (Nat.le_refl _) _
  clear hw1
  have hN := pick_lt c 16777216 (by decide)
  obtain ⟨N, hNe⟩ : ∃ N, P.pickP c 16777216 = N := ⟨_, rfl⟩
  rw [hNe] at hN ⊢
  have HNE : Hid (P.pickP c 16777216 = N) := hNe
  clear hNe
  go_wp2_with fail
  go_loopw [6, 7, 8] (fun n o i wr => ∃ (q nn : Nat) (tb : ByteArray), q ≤ 2 * (k - 2) ∧ i = .int .i64 q ∧ n = .int .i64 nn ∧ nn < 16777216 ∧ o = .string tb ∧ tb.size = q ∧ Hid (nn = N / 16 ^ q ∧ tb.data.toList = P.lowHex q N) ∧ Below w.heap.size w wr) (fun _ _ i _ => 2 * (k - 2) - (intOf i).toNat)
  case atStart => exact ⟨0, N, ⟨#[]⟩, by omega, rfl, rfl, hN, rfl, rfl, ⟨by simp, rfl⟩, hb1⟩
  case round =>
    obtain ⟨q, nn, tb, hq, rfl, rfl, hnn, rfl, htb, HI, hbe⟩ := hrel
    by_cases hlt : q < 2 * (k - 2)
    · go_wp2_with fail
      refine ⟨⟨q + 1, nn / 16, _, by omega, by go_num, by go_num, by omega, rfl, ?_, ?_, hbe⟩, by simp [intOf]; omega⟩
      · rw [ByteArray.size_append, hx_size' (by omega)]
        omega
      · refine ⟨by rw [HI.out.1, Nat.div_div_eq_div_mul, Nat.pow_succ], ?_⟩
        rw [ByteArray.data_append, Array.toList_append, hx_data' (show nn % 16 < 16 by omega), P.lowHex, ← HI.out.1, HI.out.2]
    · have hqe : q = 2 * (k - 2) := by omega
      have HE : Hid (P.lowHex (2 * (k - 2)) N = tb.data.toList) := by have h := HI.out.2; rw [hqe] at h; exact h.symm
      clear HI hqe
      go_wp2_with fail
      go_ret
      refine ⟨?_, hbe⟩
      rw [HNE.out, HE.out]
      have e : tb = ⟨tb.data.toList.toArray⟩ := by cases tb; simp
      exact congrArg (fun z => Ending.returned (.string z)) e

theorem one_any (k : Nat) (c : Int) (w : World) (hk : k ≤ 5) (h0 : -9223372036854775808 ≤ c) (h1 : c ≤ 9223372036854775807) (htab : Lib.TabIs Tryd.prog w "internal/strconv.uint64pow10" .u64 Lib.pow10Tab) :
    Calls Tryd.prog 22 #[.int .i64 k, .int .i64 c] w fun e w' => e = .returned (.string (bytesOf (P.oneP k c))) ∧ Below w.heap.size w w' := by
  unfold P.oneP
  by_cases e0 : k = 0
  · rw [if_pos e0]; exact one_num k 256 c w (Or.inl ⟨e0, rfl⟩) h0 h1 htab
  · rw [if_neg e0]
    by_cases e1 : k = 1
    · rw [if_pos e1]; exact one_num k 65536 c w (Or.inr (Or.inl ⟨e1, rfl⟩)) h0 h1 htab
    · rw [if_neg e1]
      by_cases e2 : k = 2
      · rw [if_pos e2]; exact one_num k 4294967296 c w (Or.inr (Or.inr ⟨e2, rfl⟩)) h0 h1 htab
      · rw [if_neg e2]; exact one_hex k c w (by omega) hk h0 h1

set_option maxHeartbeats 1000000 in
theorem knumber_any (h l0 l1 l2 l3 : Int) (i : Nat) (w : World) (hi : i ≤ 3) (hl : ∀ x ∈ [l0, l1, l2, l3], -9223372036854775808 ≤ x ∧ x ≤ 9223372036854775807) :
    Calls Tryd.prog 21 #[.agg #[.int .i64 h, .int .i64 l0, .int .i64 l1, .int .i64 l2, .int .i64 l3], .int .i64 i] w fun e w' => e = .returned (.int .i64 (P.pickP ([l0, l1, l2, l3].getD i 0) 6)) ∧ Below w.heap.size w w' := by
  have hc : i = 0 ∨ i = 1 ∨ i = 2 ∨ i = 3 := by omega
  have HL : Hid (∀ x ∈ [l0, l1, l2, l3], -9223372036854775808 ≤ x ∧ x ≤ 9223372036854775807) := hl
  clear hl
  rcases hc with rfl | rfl | rfl | rfl
  all_goals
    go_enter Tryd.func21, Tryd.ntmps21
    go_wp2_with fail
    refine Calls.mono (pick_any _ 6 _ (by decide) (by decide) (HL.out _ (by simp)).1 (HL.out _ (by simp)).2) ?_
    rintro e w1 ⟨rfl, hw1⟩
    have hb1 : Below w.heap.size w w1 := by rw [hw1]; exact (Below.refl _ _).alloc (Nat.le_refl _) _
    clear hw1
    go_wp2_with fail
    go_ret
    exact ⟨rfl, hb1⟩

set_option maxHeartbeats 1000000 in
theorem join_any (h l0 l1 l2 l3 : Int) (a b c d : ByteArray) (w : World) (h0 : -9223372036854775808 ≤ h) (h1 : h ≤ 9223372036854775807) (ha : a.size ≤ 40) (hb : b.size ≤ 40) (hc : c.size ≤ 40) (hd : d.size ≤ 40) :
    Calls Tryd.prog 19 #[.agg #[.int .i64 h, .int .i64 l0, .int .i64 l1, .int .i64 l2, .int .i64 l3], .string a, .string b, .string c, .string d] w fun e w' => e = .returned (.string (bytesOf (P.joinP (P.pickP h 6) a.data.toList b.data.toList c.data.toList d.data.toList))) ∧ Below w.heap.size w w' := by
  have hlt := pick_lt h 6 (by decide)
  go_enter Tryd.func19, Tryd.ntmps19
  go_wp2_with fail
  refine Calls.mono (pick_any _ 6 _ (by decide) (by decide) h0 h1) ?_
  rintro e w1 ⟨rfl, hw1⟩
  have hb1 : Below w.heap.size w w1 := by rw [hw1]; exact (Below.refl _ _).alloc (Nat.le_refl _) _
  clear hw1
  obtain ⟨k, hk⟩ : ∃ k, P.pickP h 6 = k := ⟨_, rfl⟩
  rw [hk] at hlt ⊢
  have HK : Hid (P.pickP h 6 = k) := hk
  clear hk
  have hcs : k = 0 ∨ k = 1 ∨ k = 2 ∨ k = 3 ∨ k = 4 ∨ k = 5 := by omega
  rcases hcs with rfl | rfl | rfl | rfl | rfl | rfl
  all_goals
    go_wp2_with fail
    go_ret
    refine ⟨?_, hb1⟩
    rw [HK.out]
    refine congrArg (fun z => Ending.returned (Value.string z)) ?_
    apply ByteArray.ext
    apply Array.toList_inj.1
    simp [bytesOf, P.joinP]
end Go.Proofs.YtghggcehloiemaaDoor
