import Derived.Test.YtehnlpcophlbpaaRefLie
import Derived.Test.YtehnlpcophlbpaaEquiv2
namespace Go.Proofs.Ytehnlpcophlbpaa.P
set_option linter.unusedVariables false

def Sm : (n : Nat) → Ty n → Prop
  | 0, l => 1 ≤ l.2 ∧ l.2 ≤ 16
  | _ + 1, .inl l => 1 ≤ l.2 ∧ l.2 ≤ 16
  | n + 1, .inr ts => (sz (n + 1) (.inr ts)).1 ≤ 32 ∧ ts.length ≤ 8 ∧ ts ≠ [] ∧ ∀ t ∈ ts, Sm n t ∧ 1 ≤ (sz n t).2 ∧ (sz n t).2 ≤ 4

theorem rleaf_sm {l : List UInt8} {x : Bool × Nat} (h : rleaf l = some x) : 1 ≤ x.2 ∧ x.2 ≤ 16 := by
  unfold rleaf at h
  cases l with
  | nil => cases h
  | cons c r =>
    simp only at h
    split at h
    · split at h
      · cases h; simp only; omega
      · cases h
    · split at h
      · split at h
        · cases h; simp only; omega
        · cases h
      · cases h
theorem sm_lf (n : Nat) (l : Bool × Nat) (h : 1 ≤ l.2 ∧ l.2 ≤ 16) : Sm n (lf n l) := by cases n <;> exact h

theorem cutGo_ne : ∀ (r : List UInt8) (d : Int) (cur : List UInt8) (ps : List (List UInt8)), cutGo d cur r = some ps → r ≠ [] → ps ≠ [] := by
  intro r
  induction r with
  | nil => intro d cur ps _ h; exact absurd rfl h
  | cons c r ih =>
    intro d cur ps h _
    rw [cutGo] at h
    split at h
    · cases h
    · split at h
      · split at h
        · cases h; simp
        · cases h
      · rename_i hr
        split at h
        · cases hx : cutGo 0 [] r with
          | none => rw [hx] at h; cases h
          | some qs => rw [hx] at h; simp at h; subst h; simp
        · exact ih _ _ ps h hr
theorem cut_ne {l : List UInt8} {ps : List (List UInt8)} (h : cut l = some ps) : ps ≠ [] := by
  unfold cut at h
  split at h
  · rename_i hc
    refine cutGo_ne _ _ _ _ h (fun e => ?_)
    have := congrArg List.length e
    simp only [List.length_drop, List.length_nil] at this
    omega
  · cases h
theorem allM_length {α β : Type} {f : α → Option β} : ∀ {l : List α} {ys : List β}, allM f l = some ys → ys.length = l.length := by
  intro l
  induction l with
  | nil => intro ys h; simp [allM] at h; subst h; rfl
  | cons a l ih =>
    intro ys h
    rw [allM] at h
    cases ha : f a with
    | none => rw [ha] at h; cases h
    | some b =>
      rw [ha] at h
      cases hl : allM f l with
      | none => rw [hl] at h; cases h
      | some bs => rw [hl] at h; simp at h; subst h; simp [ih hl]

theorem rp_sm : ∀ (n : Nat) (l : List UInt8) (t : Ty n), rp n l = some t → Sm n t := by
  intro n
  induction n with
  | zero =>
    intro l t h
    rw [rp] at h
    split at h
    · cases h
    · cases hx : rleaf l with
      | none => rw [hx] at h; cases h
      | some x => rw [hx] at h; simp at h; subst h; exact sm_lf 0 x (rleaf_sm hx)
  | succ n ih =>
    intro l t h
    have hg := rp_good _ _ _ h
    rw [rp] at h
    split at h
    · split at h
      · cases h
      · rename_i ps hcut
        split at h
        · cases h
        · rename_i h8
          split at h
          · cases h
          · rename_i ts hts
            split at h
            · rename_i hle
              cases h
              have hlen := allM_length hts
              refine ⟨hle, by omega, ?_, ?_⟩
              · intro e
                subst e
                have := cut_ne hcut
                apply this
                exact List.eq_nil_of_length_eq_zero (by simpa using hlen.symm)
              · intro t ht
                obtain ⟨y, _, hy⟩ := allM_mem hts t ht
                have h1 := rp_good _ _ _ hy
                exact ⟨ih _ _ hy, h1.1, h1.2.1⟩
            · cases h
    · cases hx : rleaf l with
      | none => rw [hx] at h; cases h
      | some x => rw [hx] at h; simp at h; subst h; exact sm_lf _ x (rleaf_sm hx)

theorem padTo_length (L : List (Option UInt8)) (n : Nat) (h : L.length ≤ n) : (padTo L n).length = n := by
  simp [padTo]; omega
theorem lieLeaf_len {l : Bool × Nat} {s : List UInt8} {L : List (Option UInt8)} (h : lieLeaf l s = some L) : L.length = l.2 := by
  unfold lieLeaf at h
  split at h
  · split at h
    · cases h; simp [le_length]
    · cases h
  · split at h
    · cases hr : rdhex l.2 s with
      | none => rw [hr] at h; cases h
      | some xs => rw [hr] at h; simp at h; subst h; simp [rdhex_length _ _ _ hr]
    · cases h

theorem lieF_len : ∀ (xs : List (Nat × Nat)) (ys : List (Option (List (Option UInt8)))) (a : Nat × Nat) (L L' : List (Option UInt8)), ys.length = xs.length → (∀ (i : Nat) y z, ys[i]? = some (some y) → xs[i]? = some z → y.length = z.1) → (∀ x ∈ xs, 1 ≤ x.2 ∧ x.2 ≤ 4) → L.length = a.1 →
    lieF (List.zip ys (places a xs)) L = some L' → L'.length = (xs.foldl lay1 a).1 := by
  intro xs
  induction xs with
  | nil => intro ys a L L' hl _ _ hL h; simp [places, lieF] at h; subst h; simpa using hL
  | cons x xs ih =>
    intro ys a L L' hl hy hx hL h
    cases ys with
    | nil => simp at hl
    | cons y ys =>
      simp only [places, List.zip_cons_cons, lieF] at h
      cases y with
      | none => cases h
      | some y =>
        simp only at h
        have h1 := hx x (by simp)
        have h2 := lay1_le (a := a) h1.1 h1.2
        have hup := le_up a.1 x.2 h1.1
        have hyl : y.length = x.1 := hy 0 y x rfl rfl
        rw [List.foldl_cons]
        refine ih ys (lay1 a x) _ L' (by simpa using hl) (fun i y z h3 h4 => hy (i + 1) y z (by simpa using h3) (by simpa using h4)) (fun z hz => hx z (by simp [hz])) ?_ h
        rw [List.length_append, padTo_length _ _ (by omega), hyl]
        exact h2.2.2

theorem lie_len : ∀ (n : Nat) (t : Ty n) (s : List UInt8) (L : List (Option UInt8)), Sm n t → lieP n t s = some L → L.length = (sz n t).1 := by
  intro n
  induction n with
  | zero => intro t s L _ h; exact lieLeaf_len h
  | succ n ih =>
    intro t s L hs h
    cases t with
    | inl l => exact lieLeaf_len h
    | inr ts =>
      simp only [lieP] at h
      split at h
      · cases h
      · rename_i ps hc
        split at h
        · rename_i hl
          cases hf : lieF (List.zip (List.zipWith (lieP n) ts ps) (places (0, 1) (ts.map (sz n)))) [] with
          | none => rw [hf] at h; cases h
          | some L0 =>
            rw [hf] at h
            simp at h
            subst h
            obtain ⟨h1, h2, h3, h4⟩ := hs
            have hst : ∀ x ∈ ts.map (sz n), 1 ≤ x.2 ∧ x.2 ≤ 4 := by
              intro x hx
              obtain ⟨t, ht, rfl⟩ := List.mem_map.1 hx
              exact (h4 t ht).2
            have hlen := lieF_len (ts.map (sz n)) _ (0, 1) [] L0 (by simp; omega) (by
              intro i y z hy hz
              rw [List.getElem?_map] at hz
              cases ht : ts[i]? with
              | none => rw [ht] at hz; cases hz
              | some t =>
                rw [ht] at hz
                simp at hz
                subst hz
                rw [List.getElem?_zipWith, ht] at hy
                cases hp : ps[i]? with
                | none => rw [hp] at hy; cases hy
                | some p =>
                  rw [hp] at hy
                  simp at hy
                  exact ih t p y (h4 t (List.mem_of_getElem? ht)).1 hy) hst rfl hf
            obtain ⟨g1, _, _⟩ := fold_step hst (0, 1) (by simp) (by simp)
            have hup := le_up (fold (ts.map (sz n))).1 (fold (ts.map (sz n))).2 g1
            have e : (fold (ts.map (sz n))) = (ts.map (sz n)).foldl lay1 (0, 1) := rfl
            apply padTo_length
            simp only [sz, closed]
            rw [hlen]
            rw [e] at hup ⊢
            exact hup
        · cases h

theorem sm_size : ∀ (n : Nat) (t : Ty n), Sm n t → 1 ≤ (sz n t).1 ∧ (sz n t).1 ≤ 32 := by
  intro n
  induction n with
  | zero => intro t h; have h' : 1 ≤ t.2 ∧ t.2 ≤ 16 := h; exact ⟨h'.1, by have := h'.2; show t.2 ≤ 32; omega⟩
  | succ n ih =>
    intro t h
    cases t with
    | inl l => have h' : 1 ≤ l.2 ∧ l.2 ≤ 16 := h; exact ⟨h'.1, by have := h'.2; show l.2 ≤ 32; omega⟩
    | inr ts =>
      obtain ⟨h1, h2, h3, h4⟩ := h
      refine ⟨?_, h1⟩
      have hst : ∀ x ∈ ts.map (sz n), 1 ≤ x.2 ∧ x.2 ≤ 4 := by
        intro x hx
        obtain ⟨t, ht, rfl⟩ := List.mem_map.1 hx
        exact (h4 t ht).2
      obtain ⟨g1, _, _⟩ := fold_step hst (0, 1) (by simp) (by simp)
      have hup := le_up (fold (ts.map (sz n))).1 (fold (ts.map (sz n))).2 g1
      cases ts with
      | nil => exact absurd rfl h3
      | cons t ts =>
        have hge := fold_ge hst (0, 1) (by simp) (by simp) (sz n t) (by simp)
        have := (ih t (h4 t (by simp)).1).1
        have e : (fold ((t :: ts).map (sz n))) = ((t :: ts).map (sz n)).foldl lay1 (0, 1) := rfl
        simp only [sz, closed]
        rw [e] at hup ⊢
        omega
theorem places_bd : ∀ (xs : List (Nat × Nat)) (a : Nat × Nat), (∀ x ∈ xs, 1 ≤ x.2 ∧ x.2 ≤ 4) → 1 ≤ a.2 → a.2 ≤ 4 → ∀ p ∈ places a xs, p ≤ (xs.foldl lay1 a).1 := by
  intro xs
  induction xs with
  | nil => intro a _ _ _ p hp; simp [places] at hp
  | cons x xs ih =>
    intro a h h1 h2 p hp
    have hx := h x (by simp)
    have hl := lay1_le (a := a) hx.1 hx.2
    have hm : 1 ≤ (lay1 a x).2 ∧ (lay1 a x).2 ≤ 4 := by simp only [lay1]; omega
    have hm2 := fold_step (l := xs) (fun z hz => h z (by simp [hz])) (lay1 a x) hm.1 hm.2
    rw [List.foldl_cons]
    simp only [places, List.mem_cons] at hp
    rcases hp with rfl | hp
    · omega
    · exact ih _ (fun z hz => h z (by simp [hz])) hm.1 hm.2 p hp
end Go.Proofs.Ytehnlpcophlbpaa.P
