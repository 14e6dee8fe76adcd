import Derived.Test.YtghggcehloiemaaGood
import Derived.Test.YtghggcehloiemaaWriter3
namespace Go.Proofs.Ytghggcehloiemaa.P
set_option linter.unusedVariables false

theorem ptOk_sh {m n p : Nat} {x : Pt} (h : PtOk m x) (hn : m + p ≤ n) : PtOk n (x.sh p) := by
  rcases h with ⟨h1, h2, h3, h4, h5⟩ | ⟨h1, h2, h3, h4, h5⟩ | ⟨h1, h2⟩
  · exact Or.inl ⟨h1, h2, h3, h4, by simp only [Pt.sh]; omega⟩
  · exact Or.inr (Or.inl ⟨h1, h2, h3, h4, by simp only [Pt.sh]; omega⟩)
  · exact Or.inr (Or.inr ⟨h1, h2⟩)
theorem ptOk_mono {m n : Nat} {x : Pt} (h : PtOk m x) (hn : m ≤ n) : PtOk n x := by
  rcases h with ⟨h1, h2, h3, h4, h5⟩ | ⟨h1, h2, h3, h4, h5⟩ | ⟨h1, h2⟩
  · exact Or.inl ⟨h1, h2, h3, h4, by omega⟩
  · exact Or.inr (Or.inl ⟨h1, h2, h3, h4, by omega⟩)
  · exact Or.inr (Or.inr ⟨h1, h2⟩)
theorem ptOk_mark (n c : Nat) (h : c < 256) : PtOk n (markP c) := Or.inr (Or.inr ⟨rfl, h⟩)

theorem body_ok (xs : List (List Pt × (Nat × Nat))) : (∀ y ∈ xs, 1 ≤ y.2.2 ∧ y.2.2 ≤ 4 ∧ ∀ z ∈ y.1, PtOk y.2.1 z) → ∀ a : Nat × Nat, 1 ≤ a.2 → a.2 ≤ 4 → ∀ z ∈ body a xs, PtOk ((xs.map (·.2)).foldl lay1 a).1 z := by
  induction xs with
  | nil => intro _ a _ _ z hz; simp [body] at hz
  | cons x xs ih =>
    intro h a h1 h2 z hz
    have hx := h x (by simp)
    have hl := lay1_le (a := a) hx.1 hx.2.1
    have hm2 : 1 ≤ (lay1 a x.2).2 ∧ (lay1 a x.2).2 ≤ 4 := by simp only [lay1]; omega
    have hmono := fold_step (l := xs.map (·.2)) (by
      intro y hy
      obtain ⟨q, hq, rfl⟩ := List.mem_map.1 hy
      have := h q (by simp [hq]); exact ⟨this.1, this.2.1⟩) (lay1 a x.2) hm2.1 hm2.2
    simp only [List.map_cons, List.foldl_cons]
    rw [body, List.mem_append, List.mem_cons] at hz
    rcases hz with hz | rfl | hz
    · obtain ⟨q, hq, rfl⟩ := List.mem_map.1 hz
      exact ptOk_sh (hx.2.2 q hq) (by omega)
    · exact ptOk_mark _ _ (by omega)
    · exact ih (fun y hy => h y (by simp [hy])) _ hm2.1 hm2.2 z hz

def Fine (n : Nat) (t : Ty n) : Prop := Good n t ∧ 1 ≤ (sz n t).1 ∧ ∀ x ∈ parts n t, PtOk (sz n t).1 x

theorem fine_struct {n : Nat} {ts : List (Ty n)} (hne : ts ≠ []) (h : ∀ t ∈ ts, Fine n t) : Fine (n + 1) (.inr ts) := by
  have hg := good_struct (fun t ht => (h t ht).1)
  have hs : ∀ x ∈ ts.map (sz n), 1 ≤ x.2 ∧ x.2 ≤ 4 := by
    intro x hx
    obtain ⟨t, ht, rfl⟩ := List.mem_map.1 hx
    exact ⟨(h t ht).1.1, (h t ht).1.2.1⟩
  obtain ⟨h1, h2, _⟩ := fold_step hs (0, 1) (by simp) (by simp)
  have e : (ts.map (fun t => (parts n t, sz n t))).map (·.2) = ts.map (sz n) := by simp [Function.comp_def]
  have hup := le_up (fold (ts.map (sz n))).1 (fold (ts.map (sz n))).2 h1
  have hb : ∀ z ∈ body (0, 1) (ts.map fun t => (parts n t, sz n t)), PtOk (fold (ts.map (sz n))).1 z := by
    have := body_ok (ts.map fun t => (parts n t, sz n t)) (by
      intro y hy
      obtain ⟨t, ht, rfl⟩ := List.mem_map.1 hy
      exact ⟨(h t ht).1.1, (h t ht).1.2.1, (h t ht).2.2⟩) (0, 1) (by simp) (by simp)
    rw [e] at this; exact this
  refine ⟨hg, ?_, ?_⟩
  · cases ts with
    | nil => exact absurd rfl hne
    | cons t ts =>
      have ht := h t (by simp)
      have hl := lay1_le (a := (0, 1)) ht.1.1 ht.1.2.1
      have hm2 : 1 ≤ (lay1 (0, 1) (sz n t)).2 ∧ (lay1 (0, 1) (sz n t)).2 ≤ 4 := by have := ht.1.1; have := ht.1.2.1; simp only [lay1]; omega
      have hmono := fold_step (l := ts.map (sz n)) (fun x hx => hs x (by simp at hx ⊢; exact Or.inr hx)) (lay1 (0, 1) (sz n t)) hm2.1 hm2.2
      have e2 : fold ((t :: ts).map (sz n)) = (ts.map (sz n)).foldl lay1 (lay1 (0, 1) (sz n t)) := rfl
      simp only [sz, closed]
      have h1' := ht.2.1
      rw [e2] at hup ⊢
      omega
  · intro x hx
    simp only [parts, List.mem_cons, List.mem_append] at hx
    simp only [sz, closed]
    rcases hx with rfl | hx | hx
    · exact ptOk_mark _ _ (by omega)
    · exact ptOk_mono (hb x (List.dropLast_subset _ hx)) hup
    · simp at hx; subst hx; exact ptOk_mark _ _ (by omega)

theorem body_len (xs : List (List Pt × (Nat × Nat))) (x : List Pt × (Nat × Nat)) (a : Nat × Nat) : (body a (xs ++ [x])).length = (body a xs).length + x.1.length + 1 := by
  rw [body_snoc]; simp; omega

theorem rdF_fine {n : Nat} (ih : ∀ l t r, rd n l = some (t, r) → Fine n t ∧ (parts n t).length + r.length ≤ l.length) :
    ∀ (k : Nat) (acc : List (Ty n)) (s : List UInt8) (ts : List (Ty n)) (r : List UInt8) (M : Nat), rdF (rd n) k acc s = some (ts, r) → (∀ t ∈ acc, Fine n t) → (body (0, 1) (acc.map fun t => (parts n t, sz n t))).length + s.length ≤ M →
    (∀ t ∈ ts, Fine n t) ∧ ts ≠ [] ∧ (body (0, 1) (ts.map fun t => (parts n t, sz n t))).length + r.length ≤ M := by
  intro k
  induction k with
  | zero => intro acc s ts r M h; simp [rdF] at h
  | succ k ihk =>
    intro acc s ts r M h hacc hM
    rw [rdF] at h
    split at h
    · cases h
    · cases h
    · rename_i t c r' hf
      obtain ⟨hg, hle⟩ := ih _ _ _ hf
      have hgs : ∀ x ∈ acc ++ [t], Fine n x := by
        intro x hx
        rcases List.mem_append.1 hx with hx | hx
        · exact hacc x hx
        · simp at hx; subst hx; exact hg
      have hbl : (body (0, 1) ((acc ++ [t]).map fun t => (parts n t, sz n t))).length = (body (0, 1) (acc.map fun t => (parts n t, sz n t))).length + (parts n t).length + 1 := by
        rw [List.map_append, List.map_cons, List.map_nil, body_len]
      simp only [List.length_cons] at hle
      split at h
      · cases h
        exact ⟨hgs, by simp, by rw [hbl]; omega⟩
      · split at h
        · exact ihk _ _ _ _ M h hgs (by rw [hbl]; omega)
        · cases h

theorem rd_fine : ∀ (n : Nat) (l : List UInt8) (t : Ty n) (r : List UInt8), rd n l = some (t, r) → Fine n t ∧ (parts n t).length + r.length ≤ l.length := by
  intro n
  have leafcase : ∀ (n : Nat) (l : List UInt8) (t : Ty n) (r : List UInt8), rd n l = some (t, r) → (rdLeaf l).map (fun x => (lf n x.1, x.2)) = some (t, r) → Fine n t ∧ (parts n t).length + r.length ≤ l.length := by
    intro n l t r h0 h
    have hgood := (rd_good n l t r h0).1
    cases hx : rdLeaf l with
    | none => rw [hx] at h; cases h
    | some x =>
      rw [hx] at h
      simp at h
      obtain ⟨rfl, rfl⟩ := h
      have hg := rdLeaf_good hx
      refine ⟨⟨hgood, by rw [sz_lf]; exact hg.2.2.2.1, ?_⟩, by rw [parts_lf]; simp; omega⟩
      rw [parts_lf, sz_lf]
      intro y hy
      simp at hy; subst hy
      obtain ⟨⟨num, k⟩, r⟩ := x
      cases num with
      | true => exact Or.inl ⟨rfl, rfl, hg.2.2.2.1, hg.2.1, by simp [lpart, lsz]⟩
      | false => exact Or.inr (Or.inl ⟨rfl, rfl, hg.2.2.2.1, hg.2.2.1, by simp [lpart, lsz]⟩)
  induction n with
  | zero =>
    intro l t r h
    by_cases hl : leafy l = true
    · exact leafcase 0 l t r h (by rw [← rd_leafy _ _ hl]; exact h)
    · simp [rd, hl] at h
  | succ n ih =>
    intro l t r h
    by_cases hl : leafy l = true
    · exact leafcase _ l t r h (by rw [← rd_leafy _ _ hl]; exact h)
    · rw [rd_else _ _ (by simpa using hl)] at h
      cases l with
      | nil => simp [rdS] at h
      | cons c s =>
        simp only [rdS] at h
        split at h
        · cases hx : rdF (rd n) 8 [] s with
          | none => rw [hx] at h; cases h
          | some x =>
            obtain ⟨ts, r'⟩ := x
            rw [hx] at h
            simp at h
            obtain ⟨rfl, rfl⟩ := h
            obtain ⟨hg, hne, hle⟩ := rdF_fine ih 8 [] s ts _ s.length hx (by simp) (by simp [body])
            refine ⟨fine_struct hne hg, ?_⟩
            have hpos : 1 ≤ (body (0, 1) (ts.map fun t => (parts n t, sz n t))).length := by
              cases ts with
              | nil => exact absurd rfl hne
              | cons t ts => simp [body]; omega
            simp only [parts, List.length_cons, List.length_append, List.length_dropLast, List.length_nil]
            omega
        · cases h

end Go.Proofs.Ytghggcehloiemaa.P
