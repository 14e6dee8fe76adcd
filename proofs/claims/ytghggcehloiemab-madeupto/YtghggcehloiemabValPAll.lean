import Derived.Test.YtghggcehloiemabTellPAll
import Derived.Test.YtghggcehloiemabTypAtAll
import Derived.Test.YtghggcehloiemabEquivAll
import Derived.Lib.ItoaLen
namespace Go.Proofs.Ytghggcehloiemab.P
set_option linter.unusedVariables false

def valLeaf (l : Bool × Nat) (b : List UInt8) : List UInt8 := if l.1 = true then Lib.decDigits (leval b) else hexT b
/-- Fields' texts, a comma ahead of each but the first. -/
def commas : Bool → List (List UInt8) → List UInt8
  | _, [] => []
  | first, x :: r => (if first then [] else [44]) ++ x ++ commas false r
def valueP : (n : Nat) → Ty n → List UInt8 → List UInt8
  | 0, l, b => valLeaf l b
  | _ + 1, .inl l, b => valLeaf l b
  | n + 1, .inr ts, b => 123 :: commas true (List.zipWith (fun t p => valueP n t (sub b p (sz n t).1)) ts (places (0, 1) (ts.map (sz n)))) ++ [125]


theorem commas_snoc (x : List UInt8) : ∀ (l : List (List UInt8)) (f : Bool), commas f (l ++ [x]) = commas f l ++ (if f = true ∧ l = [] then [] else [44]) ++ x := by
  intro l
  induction l with
  | nil => intro f; cases f <;> simp [commas]
  | cons y l ih => intro f; simp [commas, ih]
theorem places_end : ∀ (xs : List (Nat × Nat)) (a : Nat × Nat), (∀ x ∈ xs, 1 ≤ x.2 ∧ x.2 ≤ 4) → 1 ≤ a.2 → a.2 ≤ 4 → ∀ (q : Nat) (x : Nat × Nat) (p : Nat), xs[q]? = some x → (places a xs)[q]? = some p → p + x.1 ≤ (xs.foldl lay1 a).1 := by
  intro xs
  induction xs with
  | nil => intro a _ _ _ q x p h; simp at h
  | cons y ys ih =>
    intro a h h1 h2 q x p hx hp
    have hy := h y (by simp)
    have hm : 1 ≤ (lay1 a y).2 ∧ (lay1 a y).2 ≤ 4 := by simp only [lay1]; omega
    have hmono := fold_step (l := ys) (fun z hz => h z (by simp [hz])) (lay1 a y) hm.1 hm.2
    rw [List.foldl_cons]
    cases q with
    | zero =>
      simp only [List.getElem?_cons_zero, Option.some.injEq, places] at hx hp
      subst hx; subst hp
      have : (lay1 a y).1 = up a.1 y.2 + y.1 := rfl
      omega
    | succ q =>
      simp only [List.getElem?_cons_succ, places] at hx hp
      exact ih _ (fun z hz => h z (by simp [hz])) hm.1 hm.2 q x p hx hp
end Go.Proofs.Ytghggcehloiemab.P
namespace Go.Proofs.Ytghggcehloiemab
open Go.RowKit
set_option linter.unusedVariables false
set_option maxRecDepth 16000

theorem one_str {w : World} (c : Int) (h0 : 0 ≤ c) (h1 : c ≤ 255) : (convert 45 9 (.slice (some ⟨w.heap.size, 0, none⟩) 1 1)).run Try.prog (w.alloc (.cells #[.int .u8 c] 5)) = .ok (.string ⟨[UInt8.ofNat c.toNat].toArray⟩) (w.alloc (.cells #[.int .u8 c] 5)) := by
  have := run_convert_bytes_arg (P := Try.prog) (w.alloc (.cells #[.int .u8 c] 5)) 45 5 Try.underlying45 Try.underlying5 w.heap.size 0 1 1 [c] (by simp) (by
    intro j hj
    obtain rfl : j = 0 := by omega
    simp) 9 Try.underlying9
  rw [this]
  congr 2

def DEC (n : Nat) : Prop := ∀ w : World, Calls Try.prog 33 #[.int .i64 n] w fun e w' => e = .returned (.string ⟨(Lib.decDigits n).toArray⟩) ∧ Below w.heap.size w w'

set_option maxHeartbeats 1000000 in
theorem decimal_step (n : Nat) (hn : n ≤ 4294967295) (ih : ¬ n < 10 → DEC (n / 10)) : DEC n := by
  intro w
  have hcv := one_str (w := w) (48 + (n : Int) % 10) (by omega) (by omega)
  have hb := (Below.refl w.heap.size w).alloc (Nat.le_refl _) (.cells #[.int .u8 (48 + (n : Int) % 10)] 5)
  obtain ⟨d, hd⟩ : ∃ d, UInt8.ofNat (48 + (n : Int) % 10).toNat = d := ⟨_, rfl⟩
  rw [hd] at hcv
  have HD : Hid (d = UInt8.ofNat (48 + n % 10)) := by unfold Hid; rw [← hd]; congr 1
  clear hd
  by_cases h : n < 10
  · have HDD : Hid (Lib.decDigits n = [d]) := by unfold Hid; rw [Lib.decDigits_one h, HD.out, Nat.mod_eq_of_lt h]
    clear ih HD
    go_enter Try.func33, Try.ntmps33
    go_wp2_with fail
    go_ret
    exact ⟨by rw [HDD.out]; rfl, hb⟩
  · have hlen := Lib.itoa_length_le ((n / 10 : Nat) : Int) (by omega) (by omega)
    rw [Lib.itoa_nonneg] at hlen
    have hrec : Lib.decDigits n = Lib.decDigits (n / 10) ++ [d] := by rw [Lib.decDigits, dif_neg h, HD.out]
    have HC : Hid (∀ w0 : World, Calls Try.prog 33 #[.int .i64 ((n : Int) / 10)] w0 fun e w' => e = .returned (.string ⟨(Lib.decDigits (n / 10)).toArray⟩) ∧ Below w0.heap.size w0 w') := fun w0 => ih h w0
    obtain ⟨r, hr⟩ : ∃ r, Lib.decDigits (n / 10) = r := ⟨_, rfl⟩
    rw [hr] at HC hrec hlen
    have HDD : Hid (Lib.decDigits n = r ++ [d]) := hrec
    clear ih HD hrec hr
    go_enter Try.func33, Try.ntmps33
    go_wp2_with fail
    refine Calls.mono (HC.out _) ?_
    rintro e w2 ⟨rfl, hb2⟩
    have hb3 : Below w.heap.size w w2 := hb.trans (hb2.mono (by simp))
    have hsl : (ByteArray.mk r.toArray).size ≤ 21 := by simpa [ByteArray.size] using hlen
    go_wp2_with fail
    go_ret
    refine ⟨?_, hb3⟩
    rw [HDD.out]
    have e : (ByteArray.mk (r ++ [d]).toArray) = ByteArray.mk r.toArray ++ ByteArray.mk [d].toArray := by
      apply ByteArray.ext; simp
    rw [e]; rfl
theorem decimal_all : ∀ (k n : Nat), n < 10 ^ (k + 1) → n ≤ 4294967295 → DEC n := by
  intro k
  induction k with
  | zero => intro n h hn; exact decimal_step n hn (fun h' => absurd (by simpa using h) h')
  | succ k ih =>
    intro n h hn
    refine decimal_step n hn (fun _ => ih (n / 10) ?_ (by omega))
    rw [Nat.pow_succ] at h
    omega
theorem decimal_any (n : Nat) (hn : n ≤ 4294967295) : DEC n := decimal_all 9 n (by omega) hn
end Go.Proofs.Ytghggcehloiemab
