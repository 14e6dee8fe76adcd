import Derived.Test.YtghggcehloiemabGreatDoorRefEncAll
import Derived.Test.YtghggcehloiemabGreatDoorTypAtAll
import Derived.Test.YtghggcehloiemabGreatDoorEquiv2All
import Derived.Lib.ItoaLen
namespace Go.Proofs.YtghggcehloiemabGreatDoor.P
set_option linter.unusedVariables false

def valLeaf (l : Bool × Nat) (b : List UInt8) : List UInt8 := if l.1 = true then Lib.decDigits (leval b) else hexT b
/-- Fields' texts, a comma ahead of each but the first. -/
def commas : Bool → List (List UInt8) → List UInt8
  | _, [] => []
  | first, x :: r => (if first then [] else [44]) ++ x ++ commas false r
def valueP : (n : Nat) → Ty n → List UInt8 → List UInt8
  | 0, l, b => valLeaf l b
  | _ + 1, .inl l, b => valLeaf l b
  | n + 1, .inr ts, b => 123 :: commas true (List.zipWith (fun t p => valueP n t (sub b p (sz n t).1)) ts (places (0, 1) (ts.map (sz n)))) ++ [125]


theorem commas_snoc (x : List UInt8) : ∀ (l : List (List UInt8)) (f : Bool), commas f (l ++ [x]) = commas f l ++ (if f = true ∧ l = [] then [] else [44]) ++ x := by
  intro l
  induction l with
  | nil => intro f; cases f <;> simp [commas]
  | cons y l ih => intro f; simp [commas, ih]
theorem places_end : ∀ (xs : List (Nat × Nat)) (a : Nat × Nat), (∀ x ∈ xs, 1 ≤ x.2 ∧ x.2 ≤ 4) → 1 ≤ a.2 → a.2 ≤ 4 → ∀ (q : Nat) (x : Nat × Nat) (p : Nat), xs[q]? = some x → (places a xs)[q]? = some p → p + x.1 ≤ (xs.foldl lay1 a).1 := by
  intro xs
  induction xs with
  | nil => intro a _ _ _ q x p h; simp at h
  | cons y ys ih =>
    intro a h h1 h2 q x p hx hp
    have hy := h y (by simp)
    have hm : 1 ≤ (lay1 a y).2 ∧ (lay1 a y).2 ≤ 4 := by simp only [lay1]; omega
    have hmono := fold_step (l := ys) (fun z hz => h z (by simp [hz])) (lay1 a y) hm.1 hm.2
    rw [List.foldl_cons]
    cases q with
    | zero =>
      simp only [List.getElem?_cons_zero, Option.some.injEq, places] at hx hp
      subst hx; subst hp
      have : (lay1 a y).1 = up a.1 y.2 + y.1 := rfl
      omega
    | succ q =>
      simp only [List.getElem?_cons_succ, places] at hx hp
      exact ih _ (fun z hz => h z (by simp [hz])) hm.1 hm.2 q x p hx hp
end Go.Proofs.YtghggcehloiemabGreatDoor.P
namespace Go.Proofs.YtghggcehloiemabGreatDoor
open Go.RowKit
set_option linter.unusedVariables false
set_option maxRecDepth 16000

theorem one_str {w : World} (c : Int) (h0 : 0 ≤ c) (h1 : c ≤ 255) : (convert 38 9 (.slice (some ⟨w.heap.size, 0, none⟩) 1 1)).run Tryz.prog (w.alloc (.cells #[.int .u8 c] 5)) = .ok (.string ⟨[UInt8.ofNat c.toNat].toArray⟩) (w.alloc (.cells #[.int .u8 c] 5)) := by
  have := run_convert_bytes_arg (P := Tryz.prog) (w.alloc (.cells #[.int .u8 c] 5)) 38 5 Tryz.underlying38 Tryz.underlying5 w.heap.size 0 1 1 [c] (by simp) (by
    intro j hj
    obtain rfl : j = 0 := by omega
    simp) 9 Tryz.underlying9
  rw [this]
  congr 2

def DEC (n : Nat) : Prop := ∀ w : World, Calls Tryz.prog 170 #[.int .i64 n] w fun e w' => e = .returned (.string ⟨(Lib.decDigits n).toArray⟩) ∧ Below w.heap.size w w'

set_option maxHeartbeats 1000000 in
theorem decimal_step (n : Nat) (hn : n ≤ 4294967295) (ih : ¬ n < 10 → DEC (n / 10)) : DEC n := by
  intro w
  have hcv := one_str (w := w) (48 + (n : Int) % 10) (by omega) (by omega)
  have hb := (Below.refl w.heap.size w).alloc (Nat.le_refl _) (.cells #[.int .u8 (48 + (n : Int) % 10)] 5)
  obtain ⟨d, hd⟩ : ∃ d, UInt8.ofNat (48 + (n : Int) % 10).toNat = d := ⟨_, rfl⟩
  rw [hd] at hcv
  have HD : Hid (d = UInt8.ofNat (48 + n % 10)) := by unfold Hid; rw [← hd]; congr 1
  clear hd
  by_cases h : n < 10
  · have HDD : Hid (Lib.decDigits n = [d]) := by unfold Hid; rw [Lib.decDigits_one h, HD.out, Nat.mod_eq_of_lt h]
    clear ih HD
    go_enter Tryz.func170, Tryz.ntmps170
    go_wp2_with fail
    go_ret
    exact ⟨by rw [HDD.out]; rfl, hb⟩
  · have hlen := Lib.itoa_length_le ((n / 10 : Nat) : Int) (by omega) (by omega)
    rw [Lib.itoa_nonneg] at hlen
    have hrec : Lib.decDigits n = Lib.decDigits (n / 10) ++ [d] := by rw [Lib.decDigits, dif_neg h, HD.out]
    have HC : Hid (∀ w0 : World, Calls Tryz.prog 170 #[.int .i64 ((n : Int) / 10)] w0 fun e w' => e = .returned (.string ⟨(Lib.decDigits (n / 10)).toArray⟩) ∧ Below w0.heap.size w0 w') := fun w0 => ih h w0
    obtain ⟨r, hr⟩ : ∃ r, Lib.decDigits (n / 10) = r := ⟨_, rfl⟩
    rw [hr] at HC hrec hlen
    have HDD : Hid (Lib.decDigits n = r ++ [d]) := hrec
    clear ih HD hrec hr
    go_enter Tryz.func170, Tryz.ntmps170
    go_wp2_with fail
    refine Calls.mono (HC.out _) ?_
    rintro e w2 ⟨rfl, hb2⟩
    have hb3 : Below w.heap.size w w2 := hb.trans (hb2.mono (by simp))
    have hsl : (ByteArray.mk r.toArray).size ≤ 21 := by simpa [ByteArray.size] using hlen
    go_wp2_with fail
    go_ret
    refine ⟨?_, hb3⟩
    rw [HDD.out]
    have e : (ByteArray.mk (r ++ [d]).toArray) = ByteArray.mk r.toArray ++ ByteArray.mk [d].toArray := by
      apply ByteArray.ext; simp
    rw [e]; rfl
theorem decimal_all : ∀ (k n : Nat), n < 10 ^ (k + 1) → n ≤ 4294967295 → DEC n := by
  intro k
  induction k with
  | zero => intro n h hn; exact decimal_step n hn (fun h' => absurd (by simpa using h) h')
  | succ k ih =>
    intro n h hn
    refine decimal_step n hn (fun _ => ih (n / 10) ?_ (by omega))
    rw [Nat.pow_succ] at h
    omega
theorem decimal_any (n : Nat) (hn : n ≤ 4294967295) : DEC n := decimal_all 9 n (by omega) hn
end Go.Proofs.YtghggcehloiemabGreatDoor
namespace Go.Proofs.YtghggcehloiemabGreatDoor
open Go.RowKit
set_option linter.unusedVariables false
set_option maxRecDepth 16000

theorem leval_snoc (l : List UInt8) (c : UInt8) : P.leval (l ++ [c]) = P.leval l + 256 ^ l.length * c.toNat := by
  induction l with
  | nil => simp [P.leval]
  | cons d r ih =>
    rw [List.cons_append, P.leval, ih, P.leval, List.length_cons, Nat.pow_succ, Nat.add_mul, Nat.mul_right_comm]
    omega
theorem take_snoc {s : ByteArray} {q : Nat} (hq : q < s.size) : s.data.toList.take (q + 1) = s.data.toList.take q ++ [s[q]] := by
  rw [List.take_add_one, get_of hq]; rfl
theorem leval_32' (l : List UInt8) (h : l.length ≤ 4) : P.leval l ≤ 4294967295 := by
  have := P.leval_lt l
  have : 256 ^ l.length ≤ 256 ^ 4 := Nat.pow_le_pow_right (by omega) h
  omega
theorem hx_data {d : Nat} (h : d < 16) : (ByteArray.extract ⟨#[48, 49, 50, 51, 52, 53, 54, 55, 56, 57, 97, 98, 99, 100, 101, 102]⟩ d (d + 1)).data.toList = [P.hx d] := by
  match d, h with
  | 0, _ | 1, _ | 2, _ | 3, _ | 4, _ | 5, _ | 6, _ | 7, _ | 8, _ | 9, _ | 10, _ | 11, _ | 12, _ | 13, _ | 14, _ | 15, _ => rfl
  | n + 16, h => exact absurd h (by omega)
theorem hx_size {d : Nat} (h : d < 16) : (ByteArray.extract ⟨#[48, 49, 50, 51, 52, 53, 54, 55, 56, 57, 97, 98, 99, 100, 101, 102]⟩ d (d + 1)).size = 1 := by
  have := congrArg List.length (hx_data h)
  simpa [ByteArray.size] using this
theorem pow_256 {q : Nat} (h : q < 4) : 256 ^ q ≤ 16777216 := by
  have : 256 ^ q ≤ 256 ^ 3 := Nat.pow_le_pow_right (by omega) (by omega)
  omega

set_option maxHeartbeats 1000000 in
theorem value_num (k : Nat) (s : ByteArray) (w : World) (hk : s.size = k) (h4 : k ≤ 4) :
    Calls Tryz.prog 149 #[typV (true, k), .string s] w fun e w' => e = .returned (.string ⟨(P.valLeaf (true, k) s.data.toList).toArray⟩) ∧ Below w.heap.size w w' := by
  unfold typV
  simp only [P.lsz, if_true]
  go_enter Tryz.func149, Tryz.ntmps149
  go_wp2_with fail
  go_loopw [6, 7, 8] (fun n b i wr => ∃ q m bb : Nat, q ≤ s.size ∧ i = .int .i64 q ∧ n = .int .i64 m ∧ b = .int .i64 bb ∧ m ≤ 4294967295 ∧ bb ≤ 4294967296 ∧ Hid (m = P.leval (s.data.toList.take q) ∧ bb = 256 ^ q) ∧ Below w.heap.size w wr) (fun _ _ i _ => s.size - (intOf i).toNat)
  case atStart => exact ⟨0, 0, 1, by omega, rfl, rfl, rfl, by omega, by omega, ⟨by simp [P.leval], rfl⟩, (Below.refl _ _).alloc (Nat.le_refl _) _⟩
  case round =>
    obtain ⟨q, m, bb, hq, rfl, rfl, rfl, hm, hbb, HM, hbe⟩ := hrel
    by_cases hlt : q < s.size
    · have hnew : P.leval (s.data.toList.take (q + 1)) = m + bb * s[q].toNat := by
        rw [take_snoc hlt, leval_snoc, ← HM.out.1, HM.out.2, List.length_take, Nat.min_eq_left (by simp; omega)]
      have hle := leval_32' (s.data.toList.take (q + 1)) (by simp; omega)
      rw [hnew] at hle
      have hp : bb ≤ 16777216 := by rw [HM.out.2]; exact pow_256 (by omega)
      have HN : Hid (m + bb * s[q].toNat = P.leval (s.data.toList.take (q + 1)) ∧ bb * 256 = 256 ^ (q + 1)) := ⟨hnew.symm, by rw [Nat.pow_succ, HM.out.2]⟩
      have e : ((m + bb * s[q].toNat : Nat) : Int) = (m : Int) + (bb : Int) * (s[q].toNat : Int) := by rw [Int.natCast_add, Int.natCast_mul]
      have i1 : (m : Int) + (bb : Int) * (s[q].toNat : Int) ≤ 4294967295 := by
        rw [← e]
        clear hnew HN e
        generalize m + bb * s[q].toNat = X at hle ⊢
        omega
      have i0 : (0 : Int) ≤ (bb : Int) * (s[q].toNat : Int) := Int.mul_nonneg (by omega) (by omega)
      have hc := s[q].toNat_lt
      clear hnew HM
      go_wp2_with fail
      refine ⟨⟨q + 1, m + bb * s[q].toNat, bb * 256, by omega, by go_num, by go_num, by go_num, hle, by omega, HN, hbe⟩, by simp [intOf]; omega⟩
    · have hqe : s.data.toList.take q = s.data.toList := List.take_of_length_le (by simp; omega)
      have HE : Hid (P.leval s.data.toList = m) := by have h := HM.out.1; rw [hqe] at h; exact h.symm
      clear HM hqe
      go_wp2_with fail
      refine Calls.mono (decimal_any m hm _) ?_
      rintro e w2 ⟨rfl, hb2⟩
      have hb3 : Below w.heap.size w w2 := hbe.trans (hb2.mono hbe.size)
      clear hb2
      go_wp2_with fail
      go_ret
      refine ⟨?_, hb3⟩
      unfold P.valLeaf
      rw [if_pos rfl, HE.out]
      rfl
set_option maxHeartbeats 1000000 in
theorem value_bytes (k : Nat) (s : ByteArray) (w : World) (hk : s.size = k) (h4 : k ≤ 16) :
    Calls Tryz.prog 149 #[typV (false, k), .string s] w fun e w' => e = .returned (.string ⟨(P.valLeaf (false, k) s.data.toList).toArray⟩) ∧ Below w.heap.size w w' := by
  unfold typV
  simp only [P.lsz]
  go_enter Tryz.func149, Tryz.ntmps149
  go_wp2_with fail
  go_loopw [5, 9] (fun o i wr => ∃ (q : Nat) (tb : ByteArray), q ≤ s.size ∧ i = .int .i64 q ∧ o = .string tb ∧ tb.size = 2 * q ∧ Hid (tb.data.toList = P.hexT (s.data.toList.take q)) ∧ Below w.heap.size w wr) (fun _ i _ => s.size - (intOf i).toNat)
  case atStart => exact ⟨0, ⟨#[]⟩, by omega, rfl, rfl, rfl, by simp [Hid, P.hexT], (Below.refl _ _).alloc (Nat.le_refl _) _⟩
  case round =>
    obtain ⟨q, tb, hq, rfl, rfl, htb, HI, hbe⟩ := hrel
    by_cases hlt : q < s.size
    · have hc := s[q].toNat_lt
      have HTK : Hid (P.hexT (s.data.toList.take (q + 1)) = P.hexT (s.data.toList.take q) ++ [P.hx (s[q].toNat / 16), P.hx (s[q].toNat % 16)]) := by
        unfold Hid P.hexT; rw [take_snoc hlt]; simp
      go_wp2_with fail
      go_quiet (fail)
      go_wp2_with fail
      refine ⟨⟨q + 1, _, by omega, by go_num, rfl, ?_, ?_, below_drewN hbe nq⟩, by simp [intOf]; omega⟩
      · rw [ByteArray.size_append, ByteArray.size_append, hx_size (by omega), hx_size (by omega)]
        omega
      · unfold Hid
        rw [HTK.out, ← HI.out, ByteArray.data_append, ByteArray.data_append, Array.toList_append, Array.toList_append, hx_data (show s[q].toNat / 16 < 16 by omega), hx_data (show s[q].toNat % 16 < 16 by omega), List.append_assoc]
        rfl
    · have hqe : s.data.toList.take q = s.data.toList := List.take_of_length_le (by simp; omega)
      have HE : Hid (P.hexT s.data.toList = tb.data.toList) := by have h := HI.out; rw [hqe] at h; exact h.symm
      clear HI hqe
      go_wp2_with fail
      go_ret
      refine ⟨?_, hbe⟩
      unfold P.valLeaf
      rw [if_neg (by simp), HE.out]
      have e : tb = ⟨tb.data.toList.toArray⟩ := by cases tb; simp
      exact congrArg (fun z => Ending.returned (.string z)) e
end Go.Proofs.YtghggcehloiemabGreatDoor
