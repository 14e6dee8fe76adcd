import Derived.Test.YtghggcehloiemabGreatDoorMcPAll
import Derived.Test.YtghggcehloiemabGreatDoorMcTW3
namespace Go.Proofs.YtghggcehloiemabGreatDoor
namespace P
theorem go_ok (c : List I) : ∀ (f n : Nat) (m : M), (go c f n m).err = 0 → n + 1 ≤ (go c f n m).steps ∧ (go c f n m).steps ≤ n + f ∧ go c ((go c f n m).steps - n) n m = go c f n m ∧ go c ((go c f n m).steps - n - 1) n m = ⟨[], 0, 0, 0, 8⟩ ∧ (go c f n m).mem.length = m.mem.length := by
  intro f
  induction f with
  | zero => intro n m h; exact absurd h (by show ¬ 8 = 0; decide)
  | succ f ih =>
    intro n m h
    cases hx : c[m.pc]? with
    | none => rw [go, hx] at h; exact absurd h (by show ¬ 8 = 0; decide)
    | some x =>
      by_cases h0 : x.op = 0
      · have e : ∀ f, go c (f + 1) n m = ⟨m.mem, rg m 0, x.k, n + 1, 0⟩ := fun f => by rw [go, hx]; simp only; rw [if_pos h0]
        rw [e]
        refine ⟨Nat.le_refl _, by show n + 1 ≤ n + (f + 1); omega, ?_, ?_, rfl⟩
        · show go c (n + 1 - n) n m = _
          rw [Nat.add_sub_cancel_left]; exact e 0
        · show go c (n + 1 - n - 1) n m = _
          rw [Nat.add_sub_cancel_left]; rfl
      · cases hs : step x m with
        | none =>
          rw [go, hx] at h; simp only at h; rw [if_neg h0, hs] at h
          exact absurd h (by show ¬ 7 = 0; decide)
        | some m' =>
          have e : ∀ f, go c (f + 1) n m = go c f (n + 1) m' := fun f => by rw [go, hx]; simp only; rw [if_neg h0, hs]
          rw [e] at h ⊢
          obtain ⟨i1, i2, i3, i4, i5⟩ := ih (n + 1) m' h
          refine ⟨by omega, by omega, ?_, ?_, by rw [i5]; exact step_mem hs⟩
          · rw [show (go c f (n + 1) m').steps - n = ((go c f (n + 1) m').steps - (n + 1)) + 1 by omega, e]; exact i3
          · rw [show (go c f (n + 1) m').steps - n - 1 = ((go c f (n + 1) m').steps - (n + 1) - 1) + 1 by omega, e]; exact i4
theorem go_err (c : List I) : ∀ (f n : Nat) (m : M), (go c f n m).err ≠ 0 → go c f n m = ⟨[], 0, 0, 0, (go c f n m).err⟩ := by
  intro f
  induction f with
  | zero => intro n m _; rfl
  | succ f ih =>
    intro n m h
    cases hx : c[m.pc]? with
    | none => rw [go, hx]
    | some x =>
      by_cases h0 : x.op = 0
      · have e : go c (f + 1) n m = ⟨m.mem, rg m 0, x.k, n + 1, 0⟩ := by rw [go, hx]; simp only; rw [if_pos h0]
        rw [e] at h; exact absurd rfl h
      · cases hs : step x m with
        | none =>
          have e : go c (f + 1) n m = ⟨[], 0, 0, 0, 7⟩ := by rw [go, hx]; simp only; rw [if_neg h0, hs]
          rw [e]
        | some m' =>
          have e : go c (f + 1) n m = go c f (n + 1) m' := by rw [go, hx]; simp only; rw [if_neg h0, hs]
          rw [e] at h ⊢
          exact ih _ _ h
theorem runOf_err (lc mem : List UInt8) (a b c fuel : Int) (h : (runOf lc mem a b c fuel).err ≠ 0) : runOf lc mem a b c fuel = ⟨[], 0, 0, 0, (runOf lc mem a b c fuel).err⟩ := by
  unfold runOf at *
  split
  · rfl
  · rename_i h1
    rw [if_neg h1] at h
    split
    · rfl
    · rename_i h2
      rw [if_neg h2] at h
      split
      · rfl
      · rename_i h3
        rw [if_neg h3] at h
        exact go_err _ _ _ _ h
theorem runOf_ok (lc mem : List UInt8) (a b c fuel : Int) (h : (runOf lc mem a b c fuel).err = 0) : 1 ≤ (runOf lc mem a b c fuel).steps ∧ ((runOf lc mem a b c fuel).steps : Int) ≤ fuel ∧ fuel ≤ 20000 ∧
    runOf lc mem a b c (runOf lc mem a b c fuel).steps = runOf lc mem a b c fuel ∧ runOf lc mem a b c ((runOf lc mem a b c fuel).steps - 1 : Nat) = ⟨[], 0, 0, 0, 8⟩ ∧ (runOf lc mem a b c fuel).mem.length = mem.length := by
  have hc : IsCode lc := by
    apply Classical.byContradiction; intro hn
    unfold runOf at h; rw [if_pos hn] at h; exact absurd h (by show ¬ 4 = 0; decide)
  have hm : ¬ 2048 < mem.length := by
    intro hn
    unfold runOf at h; rw [if_neg (not_not_intro hc), if_pos hn] at h; exact absurd h (by show ¬ 5 = 0; decide)
  have hw : Word a ∧ Word b ∧ Word c ∧ 0 ≤ fuel ∧ fuel ≤ 20000 := by
    apply Classical.byContradiction; intro hn
    unfold runOf at h; rw [if_neg (not_not_intro hc), if_neg hm, if_pos hn] at h; exact absurd h (by show ¬ 6 = 0; decide)
  obtain ⟨wa, wb, wc, hf0, hf1⟩ := hw
  have e : ∀ f : Int, 0 ≤ f → f ≤ 20000 → runOf lc mem a b c f = go (codeOf lc) f.toNat 0 (start mem a.toNat b.toNat c.toNat) := by
    intro f h0 h1
    unfold runOf; rw [if_neg (not_not_intro hc), if_neg hm, if_neg (not_not_intro ⟨wa, wb, wc, h0, h1⟩)]
  rw [e fuel hf0 hf1] at h ⊢
  obtain ⟨i1, i2, i3, i4, i5⟩ := go_ok _ _ _ _ h
  refine ⟨by omega, by omega, hf1, ?_, ?_, i5⟩
  · rw [e _ (by omega) (by omega), Int.toNat_natCast]; simpa using i3
  · rw [e _ (by omega) (by omega), Int.toNat_natCast]; simpa using i4
/-- What Trim answers of code. -/
def IsTrim (l r : List UInt8) : Prop := ∃ fl, Flags (codeOf l) fl ∧ r = text (trimList (codeOf l) fl)
theorem IsTrim.only {l r r' : List UInt8} (h : IsTrim l r) (h' : IsTrim l r') : r = r' := by
  obtain ⟨fl, hf, rfl⟩ := h
  obtain ⟨fl', hf', rfl⟩ := h'
  rw [hf.only hf']
theorem IsTrim.code {l r : List UInt8} (hc : IsCode l) (h : IsTrim l r) : IsCode r := by
  obtain ⟨fl, hf, rfl⟩ := h
  exact isCode_text (trim_code (codeL_of hc) hf) (trim_small hf (codeOf_small l))
theorem IsTrim.list {l : List UInt8} {fl : List Bool} (hc : IsCode l) (hf : Flags (codeOf l) fl) : codeOf (text (trimList (codeOf l) fl)) = trimList (codeOf l) fl := by
  have ht := trim_code (codeL_of hc) hf
  have hk := trim_small hf (codeOf_small l)
  refine codeOf_text fun x hx => ?_
  obtain ⟨i, hi⟩ := List.getElem?_of_mem hx
  exact okI_small (ht.all i x hi) (hk x hx)
theorem IsTrim.again {l r r' : List UInt8} (hc : IsCode l) (h : IsTrim l r) (h' : IsTrim r r') : r' = r := by
  obtain ⟨fl, hf, rfl⟩ := h
  obtain ⟨fl', hf', rfl⟩ := h'
  rw [IsTrim.list hc hf] at hf' ⊢
  rw [trim_again (codeL_of hc) hf hf']
theorem IsTrim.len {l r : List UInt8} (hc : IsCode l) (h : IsTrim l r) : r.length ≤ l.length ∧ 0 < r.length := by
  have h1 := (h.code hc).some
  obtain ⟨fl, hf, rfl⟩ := h
  have h2 := trim_length hf
  have h3 := cnt_le fl (codeOf l).length
  rw [codeOf_length] at h2 h3
  rw [text_length]
  rw [text_length] at h1
  omega
theorem IsTrim.run {l r : List UInt8} (hc : IsCode l) (h : IsTrim l r) (mem : List UInt8) (a b c fuel : Int) : runOf r mem a b c fuel = runOf l mem a b c fuel := by
  have hr := h.code hc
  unfold runOf
  rw [if_neg (not_not_intro hr), if_neg (not_not_intro hc)]
  obtain ⟨fl, hf, rfl⟩ := h
  rw [IsTrim.list hc hf]
  have := trim_go (codeL_of hc) hf fuel.toNat 0 (start mem a.toNat b.toNat c.toNat) Reach.zero
  have e : ({ start mem a.toNat b.toNat c.toNat with pc := cnt fl (start mem a.toNat b.toNat c.toNat).pc } : M) = start mem a.toNat b.toNat c.toNat := by
    show ({ start mem a.toNat b.toNat c.toNat with pc := cnt fl 0 } : M) = _
    rw [cnt_zero]; rfl
  rw [e] at this
  rw [this]
end P
end Go.Proofs.YtghggcehloiemabGreatDoor
namespace Go.Proofs.YtghggcehloiemabGreatDoor
open Go.RowKit
set_option linter.unusedVariables false
set_option maxRecDepth 16000

/-- What Trim answers: the text and the error. -/
def TrimOf (l r : List UInt8) (er : Nat) : Prop := (P.IsCode l ∧ P.IsTrim l r ∧ er = 0) ∨ (¬ P.IsCode l ∧ r = [] ∧ er = 4)
theorem TrimOf.only {l r r' : List UInt8} {e e' : Nat} (h : TrimOf l r e) (h' : TrimOf l r' e') : r = r' ∧ e = e' := by
  rcases h with ⟨h1, h2, h3⟩ | ⟨h1, h2, h3⟩ <;> rcases h' with ⟨g1, g2, g3⟩ | ⟨g1, g2, g3⟩
  · exact ⟨h2.only g2, by rw [h3, g3]⟩
  · exact absurd h1 g1
  · exact absurd g1 h1
  · exact ⟨by rw [h2, g2], by rw [h3, g3]⟩

set_option maxHeartbeats 2000000 in
theorem trim_any (s : ByteArray) (w : World) (hs : s.size ≤ maxLen) :
    Calls Tryz.prog 25 #[.string s] w fun e w' => (∃ r er, TrimOf s.data.toList r er ∧ e = .returned (.tuple #[.string ⟨r.toArray⟩, .int .i64 er])) ∧ Below w.heap.size w w' := by
  have HS := hid_m hs
  clear hs
  go_enter Tryz.func25, Tryz.ntmps25
  go_wp2_with fail
  refine (mparse_any s _ HS.out).mono ?_
  rintro e w1 ⟨hpost, hb1⟩
  by_cases hc : P.IsCode s.data.toList
  · rw [if_pos hc] at hpost
    obtain ⟨v, rfl, hown⟩ := hpost
    obtain ⟨g, cap, hv, _, _⟩ := hown.form (by rw [P.codeOf_length]; exact hc.some)
    obtain ⟨N, hN⟩ : ∃ N, N = (P.codeOf s.data.toList).length := ⟨_, rfl⟩
    rw [← hN] at hv
    subst hv
    clear hN
    have HC := hid_m hc
    have hbA : Below w1.heap.size w1 (w1.alloc (.cells #[.slice (some ⟨g, 0, none⟩) N cap] 75)) := (Below.refl _ _).alloc (Nat.le_refl _) _
    have HBA := hid_m hbA
    have HOW := hid_m (owns_on hown hbA)
    have HB1 := hid_m hb1
    clear hc hown hb1 hbA
    go_wp2_with fail
    refine (mtrim_any (P.codeOf s.data.toList) (P.codeL_of HC.out) (P.codeOf_small _) g N cap _ _ HOW.out).mono ?_
    rintro e w2 ⟨⟨fl, v2, hfl, rfl, hown2⟩, hb2⟩
    have hcl := P.trim_code (P.codeL_of HC.out) hfl
    obtain ⟨g2, cap2, hv2, _, _⟩ := hown2.form hcl.one
    obtain ⟨N2, hN2⟩ : ∃ N, N = (P.trimList (P.codeOf s.data.toList) fl).length := ⟨_, rfl⟩
    rw [← hN2] at hv2
    subst hv2
    clear hN2
    have hbB : Below w2.heap.size w2 (w2.alloc (.cells #[.slice (some ⟨g2, 0, none⟩) N2 cap2] 75)) := (Below.refl _ _).alloc (Nat.le_refl _) _
    have HTX := hid_m (mtext_any (P.trimList (P.codeOf s.data.toList) fl) g2 N2 cap2 _ _ hcl.few hcl.one (fun x hx => by
      obtain ⟨i, hi⟩ := List.getElem?_of_mem hx
      exact P.okI_small (hcl.all i x hi) (P.trim_small hfl (P.codeOf_small _) x hx)) (owns_on hown2 hbB))
    have HT : Hid (TrimOf s.data.toList (P.text (P.trimList (P.codeOf s.data.toList) fl)) 0) := .inl ⟨HC.out, ⟨fl, hfl, rfl⟩, rfl⟩
    have hb2' : Below w.heap.size w w2 := HB1.out.trans ((HBA.out.trans (hb2.mono HBA.out.size)).mono HB1.out.size)
    have HB2 := hid_m hb2'
    have HBB := hid_m hbB
    clear hb2 hb2' hbB hown2 hcl hfl
    go_wp2_with fail
    refine HTX.out.mono ?_
    rintro e w3 ⟨rfl, hb3⟩
    go_wp2_with fail
    go_ret2
    exact ⟨⟨_, _, HT.out, rfl⟩, HB2.out.trans ((HBB.out.trans (hb3.mono HBB.out.size)).mono HB2.out.size)⟩
  · rw [if_neg hc] at hpost
    subst hpost
    have HT : Hid (TrimOf s.data.toList [] 4) := .inr ⟨hc, rfl, rfl⟩
    have HB1 := hid_m hb1
    clear hc hb1
    go_wp2_with fail
    go_ret2
    exact ⟨⟨_, _, HT.out, rfl⟩, HB1.out.alloc HB1.out.size _⟩
end Go.Proofs.YtghggcehloiemabGreatDoor
