import Derived.Test.YtghggcehloiemaaDoorSkimP
namespace Go.Proofs.YtghggcehloiemaaDoor.P
set_option linter.unusedVariables false

instance (x y : Pt) : Decidable (Off x y) := inferInstanceAs (Decidable (_ ∨ _))
def offB : List Pt → Bool
  | [] => true
  | x :: xs => xs.all (fun y => decide (Off x y)) && offB xs
theorem offB_pairwise : ∀ l : List Pt, offB l = true → l.Pairwise Off := by
  intro l
  induction l with
  | nil => intro _; exact List.Pairwise.nil
  | cons x l ih =>
    intro h
    rw [offB, Bool.and_eq_true] at h
    refine List.Pairwise.cons (fun y hy => ?_) (ih h.2)
    exact of_decide_eq_true (List.all_eq_true.1 h.1 y hy)
/-- A way of brackets over four leaves is a type whose parts are as told and lie apart. -/
def okS (how k0 k1 k2 k3 : Nat) : Bool := match tyOf (joinP how (leafT k0) (leafT k1) (leafT k2) (leafT k3)) with
  | none => false
  | some t => decide ((parts 4 t).map key = keysOf how k0 k1 k2 k3) && offB (parts 4 t) && decide ((sz 4 t).1 % (sz 4 t).2 = 0)
def all6 (f : Nat → Bool) : Bool := f 0 && f 1 && f 2 && f 3 && f 4 && f 5
theorem all6_at {f : Nat → Bool} (h : all6 f = true) {k : Nat} (hk : k ≤ 5) : f k = true := by
  simp only [all6, Bool.and_eq_true] at h
  have : k = 0 ∨ k = 1 ∨ k = 2 ∨ k = 3 ∨ k = 4 ∨ k = 5 := by omega
  rcases this with rfl | rfl | rfl | rfl | rfl | rfl
  · exact h.1.1.1.1.1
  · exact h.1.1.1.1.2
  · exact h.1.1.1.2
  · exact h.1.1.2
  · exact h.1.2
  · exact h.2
set_option maxRecDepth 100000 in
theorem chk0 : all6 (fun a => okS 0 a 0 0 0) = true := by decide +kernel
set_option maxRecDepth 100000 in
theorem chk1 : all6 (fun a => okS 1 a 0 0 0) = true := by decide +kernel
set_option maxRecDepth 100000 in
theorem chk2 : all6 (fun a => all6 fun b => okS 2 a b 0 0) = true := by decide +kernel
set_option maxRecDepth 100000 in
theorem chk5 : all6 (fun a => all6 fun b => all6 fun c => okS 5 a b c 0) = true := by decide +kernel
set_option maxRecDepth 100000 in
theorem chk3 : all6 (fun a => all6 fun b => all6 fun c => all6 fun d => okS 3 a b c d) = true := by decide +kernel
set_option maxRecDepth 100000 in
theorem chk4 : all6 (fun a => all6 fun b => all6 fun c => all6 fun d => okS 4 a b c d) = true := by decide +kernel
theorem okS_all (how k0 k1 k2 k3 : Nat) (h : how ≤ 5) (h0 : k0 ≤ 5) (h1 : k1 ≤ 5) (h2 : k2 ≤ 5) (h3 : k3 ≤ 5) : okS how k0 k1 k2 k3 = true := by
  have : how = 0 ∨ how = 1 ∨ how = 2 ∨ how = 3 ∨ how = 4 ∨ how = 5 := by omega
  rcases this with rfl | rfl | rfl | rfl | rfl | rfl
  · exact all6_at chk0 h0
  · exact all6_at chk1 h0
  · exact all6_at (all6_at chk2 h0) h1
  · exact all6_at (all6_at (all6_at (all6_at chk3 h0) h1) h2) h3
  · exact all6_at (all6_at (all6_at (all6_at chk4 h0) h1) h2) h3
  · exact all6_at (all6_at (all6_at chk5 h0) h1) h2
end Go.Proofs.YtghggcehloiemaaDoor.P
