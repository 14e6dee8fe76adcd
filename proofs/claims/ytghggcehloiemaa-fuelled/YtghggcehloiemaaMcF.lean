import Derived.Test.YtghggcehloiemaaMcT2
namespace Go.Proofs.Ytghggcehloiemaa
namespace P
theorem go_ok (c : List I) : ∀ (f n : Nat) (m : M), (go c f n m).err = 0 → n + 1 ≤ (go c f n m).steps ∧ (go c f n m).steps ≤ n + f ∧ go c ((go c f n m).steps - n) n m = go c f n m ∧ go c ((go c f n m).steps - n - 1) n m = ⟨[], 0, 0, 0, 8⟩ ∧ (go c f n m).mem.length = m.mem.length := by
  intro f
  induction f with
  | zero => intro n m h; exact absurd h (by show ¬ 8 = 0; decide)
  | succ f ih =>
    intro n m h
    cases hx : c[m.pc]? with
    | none => rw [go, hx] at h; exact absurd h (by show ¬ 8 = 0; decide)
    | some x =>
      by_cases h0 : x.op = 0
      · have e : ∀ f, go c (f + 1) n m = ⟨m.mem, rg m 0, x.k, n + 1, 0⟩ := fun f => by rw [go, hx]; simp only; rw [if_pos h0]
        rw [e]
        refine ⟨Nat.le_refl _, by show n + 1 ≤ n + (f + 1); omega, ?_, ?_, rfl⟩
        · show go c (n + 1 - n) n m = _
          rw [Nat.add_sub_cancel_left]; exact e 0
        · show go c (n + 1 - n - 1) n m = _
          rw [Nat.add_sub_cancel_left]; rfl
      · cases hs : step x m with
        | none =>
          rw [go, hx] at h; simp only at h; rw [if_neg h0, hs] at h
          exact absurd h (by show ¬ 7 = 0; decide)
        | some m' =>
          have e : ∀ f, go c (f + 1) n m = go c f (n + 1) m' := fun f => by rw [go, hx]; simp only; rw [if_neg h0, hs]
          rw [e] at h ⊢
          obtain ⟨i1, i2, i3, i4, i5⟩ := ih (n + 1) m' h
          refine ⟨by omega, by omega, ?_, ?_, by rw [i5]; exact step_mem hs⟩
          · rw [show (go c f (n + 1) m').steps - n = ((go c f (n + 1) m').steps - (n + 1)) + 1 by omega, e]; exact i3
          · rw [show (go c f (n + 1) m').steps - n - 1 = ((go c f (n + 1) m').steps - (n + 1) - 1) + 1 by omega, e]; exact i4
theorem go_err (c : List I) : ∀ (f n : Nat) (m : M), (go c f n m).err ≠ 0 → go c f n m = ⟨[], 0, 0, 0, (go c f n m).err⟩ := by
  intro f
  induction f with
  | zero => intro n m _; rfl
  | succ f ih =>
    intro n m h
    cases hx : c[m.pc]? with
    | none => rw [go, hx]
    | some x =>
      by_cases h0 : x.op = 0
      · have e : go c (f + 1) n m = ⟨m.mem, rg m 0, x.k, n + 1, 0⟩ := by rw [go, hx]; simp only; rw [if_pos h0]
        rw [e] at h; exact absurd rfl h
      · cases hs : step x m with
        | none =>
          have e : go c (f + 1) n m = ⟨[], 0, 0, 0, 7⟩ := by rw [go, hx]; simp only; rw [if_neg h0, hs]
          rw [e]
        | some m' =>
          have e : go c (f + 1) n m = go c f (n + 1) m' := by rw [go, hx]; simp only; rw [if_neg h0, hs]
          rw [e] at h ⊢
          exact ih _ _ h
theorem runOf_err (lc mem : List UInt8) (a b c fuel : Int) (h : (runOf lc mem a b c fuel).err ≠ 0) : runOf lc mem a b c fuel = ⟨[], 0, 0, 0, (runOf lc mem a b c fuel).err⟩ := by
  unfold runOf at *
  split
  · rfl
  · rename_i h1
    rw [if_neg h1] at h
    split
    · rfl
    · rename_i h2
      rw [if_neg h2] at h
      split
      · rfl
      · rename_i h3
        rw [if_neg h3] at h
        exact go_err _ _ _ _ h
theorem runOf_ok (lc mem : List UInt8) (a b c fuel : Int) (h : (runOf lc mem a b c fuel).err = 0) : 1 ≤ (runOf lc mem a b c fuel).steps ∧ ((runOf lc mem a b c fuel).steps : Int) ≤ fuel ∧ fuel ≤ 20000 ∧
    runOf lc mem a b c (runOf lc mem a b c fuel).steps = runOf lc mem a b c fuel ∧ runOf lc mem a b c ((runOf lc mem a b c fuel).steps - 1 : Nat) = ⟨[], 0, 0, 0, 8⟩ ∧ (runOf lc mem a b c fuel).mem.length = mem.length := by
  have hc : IsCode lc := by
    apply Classical.byContradiction; intro hn
    unfold runOf at h; rw [if_pos hn] at h; exact absurd h (by show ¬ 4 = 0; decide)
  have hm : ¬ 2048 < mem.length := by
    intro hn
    unfold runOf at h; rw [if_neg (not_not_intro hc), if_pos hn] at h; exact absurd h (by show ¬ 5 = 0; decide)
  have hw : Word a ∧ Word b ∧ Word c ∧ 0 ≤ fuel ∧ fuel ≤ 20000 := by
    apply Classical.byContradiction; intro hn
    unfold runOf at h; rw [if_neg (not_not_intro hc), if_neg hm, if_pos hn] at h; exact absurd h (by show ¬ 6 = 0; decide)
  obtain ⟨wa, wb, wc, hf0, hf1⟩ := hw
  have e : ∀ f : Int, 0 ≤ f → f ≤ 20000 → runOf lc mem a b c f = go (codeOf lc) f.toNat 0 (start mem a.toNat b.toNat c.toNat) := by
    intro f h0 h1
    unfold runOf; rw [if_neg (not_not_intro hc), if_neg hm, if_neg (not_not_intro ⟨wa, wb, wc, h0, h1⟩)]
  rw [e fuel hf0 hf1] at h ⊢
  obtain ⟨i1, i2, i3, i4, i5⟩ := go_ok _ _ _ _ h
  refine ⟨by omega, by omega, hf1, ?_, ?_, i5⟩
  · rw [e _ (by omega) (by omega), Int.toNat_natCast]; simpa using i3
  · rw [e _ (by omega) (by omega), Int.toNat_natCast]; simpa using i4
/-- What Trim answers of code. -/
def IsTrim (l r : List UInt8) : Prop := ∃ fl, Flags (codeOf l) fl ∧ r = text (trimList (codeOf l) fl)
theorem IsTrim.only {l r r' : List UInt8} (h : IsTrim l r) (h' : IsTrim l r') : r = r' := by
  obtain ⟨fl, hf, rfl⟩ := h
  obtain ⟨fl', hf', rfl⟩ := h'
  rw [hf.only hf']
theorem IsTrim.code {l r : List UInt8} (hc : IsCode l) (h : IsTrim l r) : IsCode r := by
  obtain ⟨fl, hf, rfl⟩ := h
  exact isCode_text (trim_code (codeL_of hc) hf) (trim_small hf (codeOf_small l))
theorem IsTrim.list {l : List UInt8} {fl : List Bool} (hc : IsCode l) (hf : Flags (codeOf l) fl) : codeOf (text (trimList (codeOf l) fl)) = trimList (codeOf l) fl := by
  have ht := trim_code (codeL_of hc) hf
  have hk := trim_small hf (codeOf_small l)
  refine codeOf_text fun x hx => ?_
  obtain ⟨i, hi⟩ := List.getElem?_of_mem hx
  exact okI_small (ht.all i x hi) (hk x hx)
theorem IsTrim.again {l r r' : List UInt8} (hc : IsCode l) (h : IsTrim l r) (h' : IsTrim r r') : r' = r := by
  obtain ⟨fl, hf, rfl⟩ := h
  obtain ⟨fl', hf', rfl⟩ := h'
  rw [IsTrim.list hc hf] at hf' ⊢
  rw [trim_again (codeL_of hc) hf hf']
theorem IsTrim.len {l r : List UInt8} (hc : IsCode l) (h : IsTrim l r) : r.length ≤ l.length ∧ 0 < r.length := by
  have h1 := (h.code hc).some
  obtain ⟨fl, hf, rfl⟩ := h
  have h2 := trim_length hf
  have h3 := cnt_le fl (codeOf l).length
  rw [codeOf_length] at h2 h3
  rw [text_length]
  rw [text_length] at h1
  omega
theorem IsTrim.run {l r : List UInt8} (hc : IsCode l) (h : IsTrim l r) (mem : List UInt8) (a b c fuel : Int) : runOf r mem a b c fuel = runOf l mem a b c fuel := by
  have hr := h.code hc
  unfold runOf
  rw [if_neg (not_not_intro hr), if_neg (not_not_intro hc)]
  obtain ⟨fl, hf, rfl⟩ := h
  rw [IsTrim.list hc hf]
  have := trim_go (codeL_of hc) hf fuel.toNat 0 (start mem a.toNat b.toNat c.toNat) Reach.zero
  have e : ({ start mem a.toNat b.toNat c.toNat with pc := cnt fl (start mem a.toNat b.toNat c.toNat).pc } : M) = start mem a.toNat b.toNat c.toNat := by
    show ({ start mem a.toNat b.toNat c.toNat with pc := cnt fl 0 } : M) = _
    rw [cnt_zero]; rfl
  rw [e] at this
  rw [this]
end P
end Go.Proofs.Ytghggcehloiemaa
