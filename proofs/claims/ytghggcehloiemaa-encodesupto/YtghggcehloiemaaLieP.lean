import Derived.Test.YtghggcehloiemaaRefLie
import Derived.Test.YtghggcehloiemaaSmP
import Derived.Test.YtghggcehloiemaaEquiv2
namespace Go.Proofs.Ytghggcehloiemaa.P
set_option linter.unusedVariables false

theorem padTo_length (L : List (Option UInt8)) (n : Nat) (h : L.length ≤ n) : (padTo L n).length = n := by
  simp [padTo]; omega
theorem lieLeaf_len {l : Bool × Nat} {s : List UInt8} {L : List (Option UInt8)} (h : lieLeaf l s = some L) : L.length = l.2 := by
  unfold lieLeaf at h
  split at h
  · split at h
    · cases h; simp [le_length]
    · cases h
  · split at h
    · cases hr : rdhex l.2 s with
      | none => rw [hr] at h; cases h
      | some xs => rw [hr] at h; simp at h; subst h; simp [rdhex_length _ _ _ hr]
    · cases h

theorem lieF_len : ∀ (xs : List (Nat × Nat)) (ys : List (Option (List (Option UInt8)))) (a : Nat × Nat) (L L' : List (Option UInt8)), ys.length = xs.length → (∀ (i : Nat) y z, ys[i]? = some (some y) → xs[i]? = some z → y.length = z.1) → (∀ x ∈ xs, 1 ≤ x.2 ∧ x.2 ≤ 4) → L.length = a.1 →
    lieF (List.zip ys (places a xs)) L = some L' → L'.length = (xs.foldl lay1 a).1 := by
  intro xs
  induction xs with
  | nil => intro ys a L L' hl _ _ hL h; simp [places, lieF] at h; subst h; simpa using hL
  | cons x xs ih =>
    intro ys a L L' hl hy hx hL h
    cases ys with
    | nil => simp at hl
    | cons y ys =>
      simp only [places, List.zip_cons_cons, lieF] at h
      cases y with
      | none => cases h
      | some y =>
        simp only at h
        have h1 := hx x (by simp)
        have h2 := lay1_le (a := a) h1.1 h1.2
        have hup := le_up a.1 x.2 h1.1
        have hyl : y.length = x.1 := hy 0 y x rfl rfl
        rw [List.foldl_cons]
        refine ih ys (lay1 a x) _ L' (by simpa using hl) (fun i y z h3 h4 => hy (i + 1) y z (by simpa using h3) (by simpa using h4)) (fun z hz => hx z (by simp [hz])) ?_ h
        rw [List.length_append, padTo_length _ _ (by omega), hyl]
        exact h2.2.2

theorem lie_len : ∀ (n : Nat) (t : Ty n) (s : List UInt8) (L : List (Option UInt8)), Sm n t → lieP n t s = some L → L.length = (sz n t).1 := by
  intro n
  induction n with
  | zero => intro t s L _ h; exact lieLeaf_len h
  | succ n ih =>
    intro t s L hs h
    cases t with
    | inl l => exact lieLeaf_len h
    | inr ts =>
      simp only [lieP] at h
      split at h
      · cases h
      · rename_i ps hc
        split at h
        · rename_i hl
          cases hf : lieF (List.zip (List.zipWith (lieP n) ts ps) (places (0, 1) (ts.map (sz n)))) [] with
          | none => rw [hf] at h; cases h
          | some L0 =>
            rw [hf] at h
            simp at h
            subst h
            obtain ⟨h1, h2, h3, h4⟩ := hs
            have hst : ∀ x ∈ ts.map (sz n), 1 ≤ x.2 ∧ x.2 ≤ 4 := by
              intro x hx
              obtain ⟨t, ht, rfl⟩ := List.mem_map.1 hx
              exact (h4 t ht).2
            have hlen := lieF_len (ts.map (sz n)) _ (0, 1) [] L0 (by simp; omega) (by
              intro i y z hy hz
              rw [List.getElem?_map] at hz
              cases ht : ts[i]? with
              | none => rw [ht] at hz; cases hz
              | some t =>
                rw [ht] at hz
                simp at hz
                subst hz
                rw [List.getElem?_zipWith, ht] at hy
                cases hp : ps[i]? with
                | none => rw [hp] at hy; cases hy
                | some p =>
                  rw [hp] at hy
                  simp at hy
                  exact ih t p y (h4 t (List.mem_of_getElem? ht)).1 hy) hst rfl hf
            obtain ⟨g1, _, _⟩ := fold_step hst (0, 1) (by simp) (by simp)
            have hup := le_up (fold (ts.map (sz n))).1 (fold (ts.map (sz n))).2 g1
            have e : (fold (ts.map (sz n))) = (ts.map (sz n)).foldl lay1 (0, 1) := rfl
            apply padTo_length
            simp only [sz, closed]
            rw [hlen]
            rw [e] at hup ⊢
            exact hup
        · cases h

end Go.Proofs.Ytghggcehloiemaa.P
