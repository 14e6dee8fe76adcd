import Derived.Test.YtghggcehloiemaaTypAt
namespace Go.Proofs.Ytghggcehloiemaa.P

/-- The reference's reading without its bound on sizes. -/
def rq : (n : Nat) → List UInt8 → Option (Ty n)
  | 0, l => if l.head? = some 123 then none else (rleaf l).map (lf 0)
  | n + 1, l => if l.head? = some 123 then (match cut l with
      | none => none
      | some ps => if 8 < ps.length then none else (allM (rq n) ps).map Sum.inr) else (rleaf l).map (lf (n + 1))

def nodig (r : List UInt8) : Prop := ∀ c, r.head? = some c → isDig c = false

theorem val_ge {c : UInt8} {l : List UInt8} (hd : isDig c = true) (hc : c ≠ 48) : 10 ^ l.length ≤ val (c :: l) := by
  have key : ∀ (l : List UInt8) (a : Nat), a * 10 ^ l.length ≤ l.foldl (fun n c => n * 10 + (c.toNat - 48)) a := by
    intro l
    induction l with
    | nil => intro a; simp
    | cons x l ih =>
      intro a
      rw [List.foldl_cons, List.length_cons, Nat.pow_succ, Nat.mul_comm (10 ^ l.length) 10, ← Nat.mul_assoc]
      exact Nat.le_trans (Nat.mul_le_mul_right _ (by omega)) (ih _)
  have h1 : 1 ≤ c.toNat - 48 := by
    have := val_pos_of_head (l := []) hd hc
    simp [val] at this; omega
  have h2 := key l (c.toNat - 48)
  have h3 : val (c :: l) = l.foldl (fun n c => n * 10 + (c.toNat - 48)) (c.toNat - 48) := by simp [val]
  rw [h3]
  exact Nat.le_trans (by have := Nat.mul_le_mul_right (10 ^ l.length) h1; simpa using this) h2

theorem digs_of_all : ∀ (ds r : List UInt8), (∀ c ∈ ds, isDig c = true) → nodig r → digs (ds ++ r) = ds := by
  intro ds
  induction ds with
  | nil =>
    intro r _ hr
    cases r with
    | nil => rfl
    | cons c r => have := hr c rfl; simp [digs, this]
  | cons a ds ih =>
    intro r h hr
    have ha := h a (by simp)
    have := ih r (fun c hc => h c (by simp [hc])) hr
    simp only [digs] at this
    simp [digs, ha, this]

theorem rdnum_short {most : Nat} {l : List UInt8} {n k : Nat} (hm : most ≤ 99) (h : rdnum most l = some (n, k)) : k ≤ 2 ∧ k = (digs l).length ∧ n = val (digs l) ∧ 1 ≤ k ∧ ¬ (1 < (digs l).length ∧ (digs l).head? = some 48) ∧ n ≤ most := by
  have h' := h
  unfold rdnum at h
  split at h
  · cases h
  · rename_i hn
    simp at h
    obtain ⟨rfl, rfl⟩ := h
    have hne : digs l ≠ [] := fun e => hn (Or.inl e)
    have hle : val (digs l) ≤ most := by
      rcases Nat.lt_or_ge most (val (digs l)) with h3 | h3
      · exact absurd (Or.inr (Or.inr h3)) hn
      · exact h3
    have hlead : ¬ (1 < (digs l).length ∧ (digs l).head? = some 48) := fun e => hn (Or.inr (Or.inl e))
    refine ⟨?_, rfl, rfl, List.length_pos_iff.2 hne, hlead, hle⟩
    cases hd : digs l with
    | nil => exact absurd hd hne
    | cons c r =>
      rcases Nat.lt_or_ge r.length 2 with h2 | h2
      · simp; omega
      · exfalso
        have hc : c ≠ 48 := fun e => hlead ⟨by rw [hd]; simp; omega, by rw [hd, e]; rfl⟩
        have := val_ge (l := r) (digs_all l c (by rw [hd]; simp)) hc
        have h10 : 10 ^ 2 ≤ 10 ^ r.length := Nat.pow_le_pow_right (by omega) h2
        rw [hd] at hle
        omega

theorem rnum_of {ds : List UInt8} (hall : ∀ c ∈ ds, isDig c = true) (h1 : 1 ≤ ds.length) (h10 : ds.length ≤ 10) (hl : ¬ (1 < ds.length ∧ ds.head? = some 48)) : rnum ds = val ds := by
  unfold rnum
  rw [if_neg, if_pos (List.all_eq_true.2 hall)]
  rintro (h | h | h)
  · omega
  · omega
  · exact hl h
theorem rnum_pos {ds : List UInt8} (h : 0 ≤ rnum ds) : (∀ c ∈ ds, isDig c = true) ∧ 1 ≤ ds.length ∧ ds.length ≤ 10 ∧ ¬ (1 < ds.length ∧ ds.head? = some 48) ∧ rnum ds = val ds := by
  unfold rnum at h ⊢
  split at h
  · omega
  · rename_i hn
    split at h
    · rename_i ha
      refine ⟨List.all_eq_true.1 ha, ?_, ?_, fun e => hn (Or.inr (Or.inr e)), by rw [if_neg hn, if_pos ha]⟩
      · rcases Nat.lt_or_ge ds.length 1 with h | h
        · exact absurd (Or.inl h) hn
        · exact h
      · rcases Nat.lt_or_ge 10 ds.length with h | h
        · exact absurd (Or.inr (Or.inl h)) hn
        · exact h
    · omega

def Bal (p : List UInt8) : Prop := ∀ (d : Int) (cur rest : List UInt8), 0 ≤ d → rest ≠ [] → cutGo d cur (p ++ rest) = cutGo d (cur ++ p) rest

theorem bal_plain : ∀ (p : List UInt8), (∀ c ∈ p, c ≠ 123 ∧ c ≠ 125 ∧ c ≠ 44) → Bal p := by
  intro p
  induction p with
  | nil => intro _ d cur rest _ _; simp
  | cons c p ih =>
    intro h d cur rest hd hr
    have hc := h c (by simp)
    rw [List.cons_append, cutGo, if_neg (by omega), if_neg (by simp [hr]), if_neg (fun e => hc.2.2 e.2)]
    have hdl : dl c = 0 := by simp [dl, hc.1, hc.2.1]
    rw [hdl, Int.add_zero, ih (fun x hx => h x (by simp [hx])) d _ _ hd hr, List.append_assoc]; rfl

def join : List (List UInt8) → List UInt8
  | [] => []
  | p :: ps => match ps with
    | [] => p
    | _ :: _ => p ++ 44 :: join ps
theorem join_one (p : List UInt8) : join [p] = p := rfl
theorem join_cons (p : List UInt8) {ps : List (List UInt8)} (h : ps ≠ []) : join (p :: ps) = p ++ 44 :: join ps := by
  cases ps with
  | nil => exact absurd rfl h
  | cons q qs => rfl

theorem cut_join : ∀ (ps : List (List UInt8)), ps ≠ [] → (∀ p ∈ ps, Bal p) → cutGo 0 [] (join ps ++ [125]) = some ps := by
  intro ps
  induction ps with
  | nil => intro h; exact absurd rfl h
  | cons p ps ih =>
    intro _ hb
    have hp := hb p (by simp)
    by_cases he : ps = []
    · subst he
      rw [join_one, hp 0 [] [125] (by omega) (by simp)]
      simp [cutGo]
    · rw [join_cons p he, List.append_assoc, hp 0 [] _ (by omega) (by simp), List.cons_append, cutGo, if_neg (by omega), if_neg (by simp), if_pos ⟨rfl, rfl⟩, ih he (fun q hq => hb q (by simp [hq]))]
      simp
theorem bal_join : ∀ (ps : List (List UInt8)), ps ≠ [] → (∀ p ∈ ps, Bal p) → ∀ (d : Int) (cur rest : List UInt8), 0 < d → rest ≠ [] → cutGo d cur (join ps ++ rest) = cutGo d (cur ++ join ps) rest := by
  intro ps
  induction ps with
  | nil => intro h; exact absurd rfl h
  | cons p ps ih =>
    intro _ hb d cur rest hd hr
    have hp := hb p (by simp)
    by_cases he : ps = []
    · subst he
      rw [join_one, hp d cur rest (by omega) hr]
    · rw [join_cons p he, List.append_assoc, hp d cur _ (by omega) (by simp), List.cons_append, cutGo, if_neg (by omega), if_neg (by simp [hr]), if_neg (fun e => by omega)]
      have hdl : dl 44 = 0 := by simp [dl]
      rw [hdl, Int.add_zero, ih he (fun q hq => hb q (by simp [hq])) d _ rest hd hr]
      simp
theorem bal_struct (ps : List (List UInt8)) (hne : ps ≠ []) (hb : ∀ p ∈ ps, Bal p) : Bal (123 :: join ps ++ [125]) := by
  intro d cur rest hd hr
  rw [List.cons_append, List.cons_append, cutGo, if_neg (by omega), if_neg (by simp), if_neg (fun e => by have := e.2; cases this)]
  have hdl : dl 123 = 1 := by simp [dl]
  rw [hdl, List.append_assoc, bal_join ps hne hb (d + 1) _ _ (by omega) (by simp), List.cons_append, List.nil_append, cutGo, if_neg (by omega), if_neg hr, if_neg (fun e => by have := e.2; cases this)]
  have hdl2 : dl 125 = -1 := by simp [dl]
  rw [hdl2, show d + 1 + -1 = d by omega]
  simp

theorem cutGo_join : ∀ (r : List UInt8) (d : Int) (cur : List UInt8) (ps : List (List UInt8)), cutGo d cur r = some ps → r ≠ [] → r.getLast? = some 125 → ps ≠ [] ∧ cur ++ r = join ps ++ [125] := by
  intro r
  induction r with
  | nil => intro d cur ps _ h; exact absurd rfl h
  | cons c r ih =>
    intro d cur ps h _ hl
    rw [cutGo] at h
    split at h
    · cases h
    · split at h
      · rename_i hr
        subst hr
        split at h
        · cases h
          simp at hl
          subst hl
          exact ⟨by simp, rfl⟩
        · cases h
      · rename_i hr
        have hl' : r.getLast? = some 125 := by
          rw [List.getLast?_cons] at hl
          cases hx : r.getLast? with
          | none => rw [List.getLast?_eq_none_iff] at hx; exact absurd hx hr
          | some y => rw [hx] at hl; simpa using hl
        split at h
        · rename_i hc
          obtain ⟨_, rfl⟩ := hc
          cases hx : cutGo 0 [] r with
          | none => rw [hx] at h; cases h
          | some qs =>
            rw [hx] at h
            simp at h
            subst h
            obtain ⟨h1, h2⟩ := ih 0 [] qs hx hr hl'
            refine ⟨by simp, ?_⟩
            rw [join_cons cur h1]
            simp at h2
            simp [h2]
        · obtain ⟨h1, h2⟩ := ih _ _ ps h hr hl'
          refine ⟨h1, ?_⟩
          rw [← h2]; simp
end Go.Proofs.Ytghggcehloiemaa.P
