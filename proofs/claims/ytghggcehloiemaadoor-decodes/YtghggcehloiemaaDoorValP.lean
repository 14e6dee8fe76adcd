import Derived.Test.YtghggcehloiemaaDoorTellP
import Derived.Test.YtghggcehloiemaaDoorTypAt
namespace Go.Proofs.YtghggcehloiemaaDoor.P
set_option linter.unusedVariables false

def valLeaf (l : Bool × Nat) (b : List UInt8) : List UInt8 := if l.1 = true then Lib.decDigits (leval b) else hexT b
/-- Fields' texts, a comma ahead of each but the first. -/
def commas : Bool → List (List UInt8) → List UInt8
  | _, [] => []
  | first, x :: r => (if first then [] else [44]) ++ x ++ commas false r
def valueP : (n : Nat) → Ty n → List UInt8 → List UInt8
  | 0, l, b => valLeaf l b
  | _ + 1, .inl l, b => valLeaf l b
  | n + 1, .inr ts, b => 123 :: commas true (List.zipWith (fun t p => valueP n t (sub b p (sz n t).1)) ts (places (0, 1) (ts.map (sz n)))) ++ [125]


theorem commas_snoc (x : List UInt8) : ∀ (l : List (List UInt8)) (f : Bool), commas f (l ++ [x]) = commas f l ++ (if f = true ∧ l = [] then [] else [44]) ++ x := by
  intro l
  induction l with
  | nil => intro f; cases f <;> simp [commas]
  | cons y l ih => intro f; simp [commas, ih]
theorem places_end : ∀ (xs : List (Nat × Nat)) (a : Nat × Nat), (∀ x ∈ xs, 1 ≤ x.2 ∧ x.2 ≤ 4) → 1 ≤ a.2 → a.2 ≤ 4 → ∀ (q : Nat) (x : Nat × Nat) (p : Nat), xs[q]? = some x → (places a xs)[q]? = some p → p + x.1 ≤ (xs.foldl lay1 a).1 := by
  intro xs
  induction xs with
  | nil => intro a _ _ _ q x p h; simp at h
  | cons y ys ih =>
    intro a h h1 h2 q x p hx hp
    have hy := h y (by simp)
    have hm : 1 ≤ (lay1 a y).2 ∧ (lay1 a y).2 ≤ 4 := by simp only [lay1]; omega
    have hmono := fold_step (l := ys) (fun z hz => h z (by simp [hz])) (lay1 a y) hm.1 hm.2
    rw [List.foldl_cons]
    cases q with
    | zero =>
      simp only [List.getElem?_cons_zero, Option.some.injEq, places] at hx hp
      subst hx; subst hp
      have : (lay1 a y).1 = up a.1 y.2 + y.1 := rfl
      omega
    | succ q =>
      simp only [List.getElem?_cons_succ, places] at hx hp
      exact ih _ (fun z hz => h z (by simp [hz])) hm.1 hm.2 q x p hx hp
end Go.Proofs.YtghggcehloiemaaDoor.P
