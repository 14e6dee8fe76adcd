import Derived.Test.YtghggcehloiemaaTypes
namespace Go.Proofs.Ytghggcehloiemaa.P

def Good (n : Nat) (t : Ty n) : Prop := 1 ≤ (sz n t).2 ∧ (sz n t).2 ≤ 4 ∧ ∀ x ∈ parts n t, x.place ≤ (sz n t).1

theorem rdnum_some {most : Nat} {l : List UInt8} {n k : Nat} (h : rdnum most l = some (n, k)) : n ≤ most ∧ 1 ≤ k ∧ k ≤ l.length := by
  unfold rdnum at h
  split at h
  · cases h
  · rename_i hn
    have hl : (digs l).length ≤ l.length := by
      unfold digs
      exact (List.takeWhile_sublist _).length_le
    simp at h
    have h1 : digs l ≠ [] := fun e => hn (Or.inl e)
    have h2 : 0 < (digs l).length := List.length_pos_iff.2 h1
    refine ⟨?_, by omega, by omega⟩
    rcases Nat.lt_or_ge most (val (digs l)) with h3 | h3
    · exact absurd (Or.inr (Or.inr h3)) hn
    · omega

theorem rdLeaf_good {l : List UInt8} {x : (Bool × Nat) × List UInt8} (h : rdLeaf l = some x) : 1 ≤ (lsz x.1).2 ∧ (lsz x.1).2 ≤ 4 ∧ (lsz x.1).1 ≤ 16 ∧ 1 ≤ (lsz x.1).1 ∧ x.2.length + 2 ≤ l.length := by
  unfold rdLeaf at h
  cases l with
  | nil => cases h
  | cons c r =>
    simp only at h
    split at h
    · cases hn : rdnum 4 r with
      | none => rw [hn] at h; cases h
      | some y =>
        obtain ⟨k, m⟩ := y
        obtain ⟨h1, h2, h3⟩ := rdnum_some hn
        rw [hn] at h
        simp only at h
        split at h
        · cases h
        · cases h; simp [lsz]; omega
    · cases hn : rdnum 16 r with
      | none => rw [hn] at h; cases h
      | some y =>
        obtain ⟨k, m⟩ := y
        obtain ⟨h1, h2, h3⟩ := rdnum_some hn
        rw [hn] at h
        simp only at h
        split at h
        · cases h
        · cases h; simp [lsz]; omega

theorem lay1_le {a b : Nat × Nat} (hb1 : 1 ≤ b.2) (hb4 : b.2 ≤ 4) : a.1 + b.1 ≤ (lay1 a b).1 ∧ (lay1 a b).1 ≤ a.1 + 3 + b.1 ∧ up a.1 b.2 + b.1 = (lay1 a b).1 := by
  have h1 := up_le a.1 b.2 hb1
  have h2 := le_up a.1 b.2 hb1
  simp only [lay1]; refine ⟨?_, ?_, trivial⟩ <;> omega

theorem fold_step {l : List (Nat × Nat)} : (∀ x ∈ l, 1 ≤ x.2 ∧ x.2 ≤ 4) → ∀ a : Nat × Nat, 1 ≤ a.2 → a.2 ≤ 4 → 1 ≤ (l.foldl lay1 a).2 ∧ (l.foldl lay1 a).2 ≤ 4 ∧ a.1 ≤ (l.foldl lay1 a).1 := by
  induction l with
  | nil => intro _ a h1 h2; exact ⟨h1, h2, Nat.le_refl _⟩
  | cons x l ih =>
    intro h a h1 h2
    have hx := h x (by simp)
    have hl := lay1_le (a := a) hx.1 hx.2
    have := ih (fun y hy => h y (by simp [hy])) (lay1 a x) (by simp [lay1]; omega) (by simp [lay1]; omega)
    rw [List.foldl_cons]
    omega

theorem body_le (xs : List (List Pt × (Nat × Nat))) : (∀ y ∈ xs, 1 ≤ y.2.2 ∧ y.2.2 ≤ 4 ∧ ∀ z ∈ y.1, z.place ≤ y.2.1) → ∀ a : Nat × Nat, 1 ≤ a.2 → a.2 ≤ 4 → ∀ z ∈ body a xs, z.place ≤ ((xs.map (·.2)).foldl lay1 a).1 := by
  induction xs with
  | nil => intro _ a _ _ z hz; simp [body] at hz
  | cons x xs ih =>
    intro h a h1 h2 z hz
    have hx := h x (by simp)
    have hl := lay1_le (a := a) hx.1 hx.2.1
    have hm2 : 1 ≤ (lay1 a x.2).2 ∧ (lay1 a x.2).2 ≤ 4 := by simp only [lay1]; omega
    have hmono := fold_step (l := xs.map (·.2)) (by
      intro y hy
      obtain ⟨q, hq, rfl⟩ := List.mem_map.1 hy
      have := h q (by simp [hq]); exact ⟨this.1, this.2.1⟩) (lay1 a x.2) hm2.1 hm2.2
    simp only [List.map_cons, List.foldl_cons]
    rw [body, List.mem_append, List.mem_cons] at hz
    rcases hz with hz | rfl | hz
    · obtain ⟨q, hq, rfl⟩ := List.mem_map.1 hz
      have := hx.2.2 q hq
      simp only [Pt.sh]
      omega
    · simp [markP]
    · exact ih (fun y hy => h y (by simp [hy])) _ hm2.1 hm2.2 z hz

theorem good_struct {n : Nat} {ts : List (Ty n)} (h : ∀ t ∈ ts, Good n t) : Good (n + 1) (.inr ts) := by
  have hs : ∀ x ∈ ts.map (sz n), 1 ≤ x.2 ∧ x.2 ≤ 4 := by
    intro x hx
    obtain ⟨t, ht, rfl⟩ := List.mem_map.1 hx
    exact ⟨(h t ht).1, (h t ht).2.1⟩
  obtain ⟨h1, h2, _⟩ := fold_step hs (0, 1) (by simp) (by simp)
  have e : (ts.map (fun t => (parts n t, sz n t))).map (·.2) = ts.map (sz n) := by simp [Function.comp_def]
  have hup := le_up (fold (ts.map (sz n))).1 (fold (ts.map (sz n))).2 h1
  refine ⟨h1, h2, ?_⟩
  intro x hx
  have hb : ∀ z ∈ body (0, 1) (ts.map fun t => (parts n t, sz n t)), z.place ≤ (fold (ts.map (sz n))).1 := by
    have := body_le (ts.map fun t => (parts n t, sz n t)) (by
      intro y hy
      obtain ⟨t, ht, rfl⟩ := List.mem_map.1 hy
      exact h t ht) (0, 1) (by simp) (by simp)
    rw [e] at this; exact this
  simp only [parts, List.mem_cons, List.mem_append] at hx
  simp only [sz, closed]
  rcases hx with rfl | hx | hx
  · simp [markP]
  · have := hb x (List.dropLast_subset _ hx); omega
  · simp at hx; subst hx; simp [markP]

theorem rdF_good {n : Nat} (ih : ∀ l t r, rd n l = some (t, r) → Good n t ∧ (sz n t).1 + 16 * r.length ≤ 16 * l.length) :
    ∀ (k : Nat) (acc : List (Ty n)) (s : List UInt8) (ts : List (Ty n)) (r : List UInt8) (M : Nat), rdF (rd n) k acc s = some (ts, r) → (∀ t ∈ acc, Good n t) → (fold (acc.map (sz n))).1 + 16 * s.length ≤ M →
    (∀ t ∈ ts, Good n t) ∧ (fold (ts.map (sz n))).1 + 3 + 16 * r.length ≤ M := by
  intro k
  induction k with
  | zero => intro acc s ts r M h; simp [rdF] at h
  | succ k ihk =>
    intro acc s ts r M h hacc hM
    rw [rdF] at h
    split at h
    · cases h
    · cases h
    · rename_i t c r' hf
      obtain ⟨hg, hle⟩ := ih _ _ _ hf
      have hgs : ∀ x ∈ acc ++ [t], Good n x := by
        intro x hx
        rcases List.mem_append.1 hx with hx | hx
        · exact hacc x hx
        · simp at hx; subst hx; exact hg
      have hl := lay1_le (a := fold (acc.map (sz n))) hg.1 hg.2.1
      have hfd : fold ((acc ++ [t]).map (sz n)) = lay1 (fold (acc.map (sz n))) (sz n t) := by rw [List.map_append, List.map_cons, List.map_nil, fold_snoc]
      simp only [List.length_cons] at hle
      split at h
      · cases h
        refine ⟨hgs, ?_⟩
        rw [hfd]; omega
      · split at h
        · exact ihk _ _ _ _ M h hgs (by rw [hfd]; omega)
        · cases h

theorem rd_good : ∀ (n : Nat) (l : List UInt8) (t : Ty n) (r : List UInt8), rd n l = some (t, r) → Good n t ∧ (sz n t).1 + 16 * r.length ≤ 16 * l.length := by
  intro n
  have leafcase : ∀ (n : Nat) (l : List UInt8) (t : Ty n) (r : List UInt8), (rdLeaf l).map (fun x => (lf n x.1, x.2)) = some (t, r) → Good n t ∧ (sz n t).1 + 16 * r.length ≤ 16 * l.length := by
    intro n l t r h
    cases hx : rdLeaf l with
    | none => rw [hx] at h; cases h
    | some x =>
      rw [hx] at h
      simp at h
      obtain ⟨rfl, rfl⟩ := h
      have hg := rdLeaf_good hx
      refine ⟨⟨by rw [sz_lf]; exact hg.1, by rw [sz_lf]; exact hg.2.1, ?_⟩, by rw [sz_lf]; omega⟩
      rw [parts_lf]
      intro y hy
      simp at hy; subst hy; simp [lpart]
  induction n with
  | zero =>
    intro l t r h
    by_cases hl : leafy l = true
    · rw [rd_leafy _ _ hl] at h; exact leafcase 0 l t r h
    · simp [rd, hl] at h
  | succ n ih =>
    intro l t r h
    by_cases hl : leafy l = true
    · rw [rd_leafy _ _ hl] at h; exact leafcase _ l t r h
    · rw [rd_else _ _ (by simpa using hl)] at h
      cases l with
      | nil => simp [rdS] at h
      | cons c s =>
        simp only [rdS] at h
        split at h
        · cases hx : rdF (rd n) 8 [] s with
          | none => rw [hx] at h; cases h
          | some x =>
            obtain ⟨ts, r'⟩ := x
            rw [hx] at h
            simp at h
            obtain ⟨rfl, rfl⟩ := h
            obtain ⟨hg, hle⟩ := rdF_good ih 8 [] s ts _ (16 * s.length) hx (by simp) (by simp [fold])
            have hgd := good_struct hg
            refine ⟨hgd, ?_⟩
            have h1 := hgd.1
            have h2 := hgd.2.1
            simp only [sz, closed] at h1 h2 ⊢
            have := up_le (fold (ts.map (sz n))).1 (fold (ts.map (sz n))).2 h1
            simp only [List.length_cons]
            omega
        · cases h

end Go.Proofs.Ytghggcehloiemaa.P
