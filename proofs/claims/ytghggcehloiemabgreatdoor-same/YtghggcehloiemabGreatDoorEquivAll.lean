import Derived.Test.YtghggcehloiemabGreatDoorTypAtAll
import Derived.Test.YtghggcehloiemabGreatDoorPrNAll
import Derived.Test.YtghggcehloiemabGreatDoorRefTopAll
import Derived.Test.YtghggcehloiemabGreatDoorMcRAll
namespace Go.Proofs.YtghggcehloiemabGreatDoor.P

/-- The reference's reading without its bound on sizes. -/
def rq : (n : Nat) → List UInt8 → Option (Ty n)
  | 0, l => if l.head? = some 123 then none else (rleaf l).map (lf 0)
  | n + 1, l => if l.head? = some 123 then (match cut l with
      | none => none
      | some ps => if 8 < ps.length then none else (allM (rq n) ps).map Sum.inr) else (rleaf l).map (lf (n + 1))

def nodig (r : List UInt8) : Prop := ∀ c, r.head? = some c → isDig c = false

theorem val_ge {c : UInt8} {l : List UInt8} (hd : isDig c = true) (hc : c ≠ 48) : 10 ^ l.length ≤ val (c :: l) := by
  have key : ∀ (l : List UInt8) (a : Nat), a * 10 ^ l.length ≤ l.foldl (fun n c => n * 10 + (c.toNat - 48)) a := by
    intro l
    induction l with
    | nil => intro a; simp
    | cons x l ih =>
      intro a
      rw [List.foldl_cons, List.length_cons, Nat.pow_succ, Nat.mul_comm (10 ^ l.length) 10, ← Nat.mul_assoc]
      exact Nat.le_trans (Nat.mul_le_mul_right _ (by omega)) (ih _)
  have h1 : 1 ≤ c.toNat - 48 := by
    have := val_pos_of_head (l := []) hd hc
    simp [val] at this; omega
  have h2 := key l (c.toNat - 48)
  have h3 : val (c :: l) = l.foldl (fun n c => n * 10 + (c.toNat - 48)) (c.toNat - 48) := by simp [val]
  rw [h3]
  exact Nat.le_trans (by have := Nat.mul_le_mul_right (10 ^ l.length) h1; simpa using this) h2

theorem digs_of_all : ∀ (ds r : List UInt8), (∀ c ∈ ds, isDig c = true) → nodig r → digs (ds ++ r) = ds := by
  intro ds
  induction ds with
  | nil =>
    intro r _ hr
    cases r with
    | nil => rfl
    | cons c r => have := hr c rfl; simp [digs, this]
  | cons a ds ih =>
    intro r h hr
    have ha := h a (by simp)
    have := ih r (fun c hc => h c (by simp [hc])) hr
    simp only [digs] at this
    simp [digs, ha, this]

theorem rdnum_short {most : Nat} {l : List UInt8} {n k : Nat} (hm : most ≤ 99) (h : rdnum most l = some (n, k)) : k ≤ 2 ∧ k = (digs l).length ∧ n = val (digs l) ∧ 1 ≤ k ∧ ¬ (1 < (digs l).length ∧ (digs l).head? = some 48) ∧ n ≤ most := by
  have h' := h
  unfold rdnum at h
  split at h
  · cases h
  · rename_i hn
    simp at h
    obtain ⟨rfl, rfl⟩ := h
    have hne : digs l ≠ [] := fun e => hn (Or.inl e)
    have hle : val (digs l) ≤ most := by
      rcases Nat.lt_or_ge most (val (digs l)) with h3 | h3
      · exact absurd (Or.inr (Or.inr h3)) hn
      · exact h3
    have hlead : ¬ (1 < (digs l).length ∧ (digs l).head? = some 48) := fun e => hn (Or.inr (Or.inl e))
    refine ⟨?_, rfl, rfl, List.length_pos_iff.2 hne, hlead, hle⟩
    cases hd : digs l with
    | nil => exact absurd hd hne
    | cons c r =>
      rcases Nat.lt_or_ge r.length 2 with h2 | h2
      · simp; omega
      · exfalso
        have hc : c ≠ 48 := fun e => hlead ⟨by rw [hd]; simp; omega, by rw [hd, e]; rfl⟩
        have := val_ge (l := r) (digs_all l c (by rw [hd]; simp)) hc
        have h10 : 10 ^ 2 ≤ 10 ^ r.length := Nat.pow_le_pow_right (by omega) h2
        rw [hd] at hle
        omega

theorem rnum_of {ds : List UInt8} (hall : ∀ c ∈ ds, isDig c = true) (h1 : 1 ≤ ds.length) (h10 : ds.length ≤ 10) (hl : ¬ (1 < ds.length ∧ ds.head? = some 48)) : rnum ds = val ds := by
  unfold rnum
  rw [if_neg, if_pos (List.all_eq_true.2 hall)]
  rintro (h | h | h)
  · omega
  · omega
  · exact hl h
theorem rnum_pos {ds : List UInt8} (h : 0 ≤ rnum ds) : (∀ c ∈ ds, isDig c = true) ∧ 1 ≤ ds.length ∧ ds.length ≤ 10 ∧ ¬ (1 < ds.length ∧ ds.head? = some 48) ∧ rnum ds = val ds := by
  unfold rnum at h ⊢
  split at h
  · omega
  · rename_i hn
    split at h
    · rename_i ha
      refine ⟨List.all_eq_true.1 ha, ?_, ?_, fun e => hn (Or.inr (Or.inr e)), by rw [if_neg hn, if_pos ha]⟩
      · rcases Nat.lt_or_ge ds.length 1 with h | h
        · exact absurd (Or.inl h) hn
        · exact h
      · rcases Nat.lt_or_ge 10 ds.length with h | h
        · exact absurd (Or.inr (Or.inl h)) hn
        · exact h
    · omega

def Bal (p : List UInt8) : Prop := ∀ (d : Int) (cur rest : List UInt8), 0 ≤ d → rest ≠ [] → cutGo d cur (p ++ rest) = cutGo d (cur ++ p) rest

theorem bal_plain : ∀ (p : List UInt8), (∀ c ∈ p, c ≠ 123 ∧ c ≠ 125 ∧ c ≠ 44) → Bal p := by
  intro p
  induction p with
  | nil => intro _ d cur rest _ _; simp
  | cons c p ih =>
    intro h d cur rest hd hr
    have hc := h c (by simp)
    rw [List.cons_append, cutGo, if_neg (by omega), if_neg (by simp [hr]), if_neg (fun e => hc.2.2 e.2)]
    have hdl : dl c = 0 := by simp [dl, hc.1, hc.2.1]
    rw [hdl, Int.add_zero, ih (fun x hx => h x (by simp [hx])) d _ _ hd hr, List.append_assoc]; rfl

def join : List (List UInt8) → List UInt8
  | [] => []
  | p :: ps => match ps with
    | [] => p
    | _ :: _ => p ++ 44 :: join ps
theorem join_one (p : List UInt8) : join [p] = p := rfl
theorem join_cons (p : List UInt8) {ps : List (List UInt8)} (h : ps ≠ []) : join (p :: ps) = p ++ 44 :: join ps := by
  cases ps with
  | nil => exact absurd rfl h
  | cons q qs => rfl

theorem cut_join : ∀ (ps : List (List UInt8)), ps ≠ [] → (∀ p ∈ ps, Bal p) → cutGo 0 [] (join ps ++ [125]) = some ps := by
  intro ps
  induction ps with
  | nil => intro h; exact absurd rfl h
  | cons p ps ih =>
    intro _ hb
    have hp := hb p (by simp)
    by_cases he : ps = []
    · subst he
      rw [join_one, hp 0 [] [125] (by omega) (by simp)]
      simp [cutGo]
    · rw [join_cons p he, List.append_assoc, hp 0 [] _ (by omega) (by simp), List.cons_append, cutGo, if_neg (by omega), if_neg (by simp), if_pos ⟨rfl, rfl⟩, ih he (fun q hq => hb q (by simp [hq]))]
      simp
theorem bal_join : ∀ (ps : List (List UInt8)), ps ≠ [] → (∀ p ∈ ps, Bal p) → ∀ (d : Int) (cur rest : List UInt8), 0 < d → rest ≠ [] → cutGo d cur (join ps ++ rest) = cutGo d (cur ++ join ps) rest := by
  intro ps
  induction ps with
  | nil => intro h; exact absurd rfl h
  | cons p ps ih =>
    intro _ hb d cur rest hd hr
    have hp := hb p (by simp)
    by_cases he : ps = []
    · subst he
      rw [join_one, hp d cur rest (by omega) hr]
    · rw [join_cons p he, List.append_assoc, hp d cur _ (by omega) (by simp), List.cons_append, cutGo, if_neg (by omega), if_neg (by simp [hr]), if_neg (fun e => by omega)]
      have hdl : dl 44 = 0 := by simp [dl]
      rw [hdl, Int.add_zero, ih he (fun q hq => hb q (by simp [hq])) d _ rest hd hr]
      simp
theorem bal_struct (ps : List (List UInt8)) (hne : ps ≠ []) (hb : ∀ p ∈ ps, Bal p) : Bal (123 :: join ps ++ [125]) := by
  intro d cur rest hd hr
  rw [List.cons_append, List.cons_append, cutGo, if_neg (by omega), if_neg (by simp), if_neg (fun e => by have := e.2; cases this)]
  have hdl : dl 123 = 1 := by simp [dl]
  rw [hdl, List.append_assoc, bal_join ps hne hb (d + 1) _ _ (by omega) (by simp), List.cons_append, List.nil_append, cutGo, if_neg (by omega), if_neg hr, if_neg (fun e => by have := e.2; cases this)]
  have hdl2 : dl 125 = -1 := by simp [dl]
  rw [hdl2, show d + 1 + -1 = d by omega]
  simp

theorem cutGo_join : ∀ (r : List UInt8) (d : Int) (cur : List UInt8) (ps : List (List UInt8)), cutGo d cur r = some ps → r ≠ [] → r.getLast? = some 125 → ps ≠ [] ∧ cur ++ r = join ps ++ [125] := by
  intro r
  induction r with
  | nil => intro d cur ps _ h; exact absurd rfl h
  | cons c r ih =>
    intro d cur ps h _ hl
    rw [cutGo] at h
    split at h
    · cases h
    · split at h
      · rename_i hr
        subst hr
        split at h
        · cases h
          simp at hl
          subst hl
          exact ⟨by simp, rfl⟩
        · cases h
      · rename_i hr
        have hl' : r.getLast? = some 125 := by
          rw [List.getLast?_cons] at hl
          cases hx : r.getLast? with
          | none => rw [List.getLast?_eq_none_iff] at hx; exact absurd hx hr
          | some y => rw [hx] at hl; simpa using hl
        split at h
        · rename_i hc
          obtain ⟨_, rfl⟩ := hc
          cases hx : cutGo 0 [] r with
          | none => rw [hx] at h; cases h
          | some qs =>
            rw [hx] at h
            simp at h
            subst h
            obtain ⟨h1, h2⟩ := ih 0 [] qs hx hr hl'
            refine ⟨by simp, ?_⟩
            rw [join_cons cur h1]
            simp at h2
            simp [h2]
        · obtain ⟨h1, h2⟩ := ih _ _ ps h hr hl'
          refine ⟨h1, ?_⟩
          rw [← h2]; simp
end Go.Proofs.YtghggcehloiemabGreatDoor.P
namespace Go.Proofs.YtghggcehloiemabGreatDoor.P

theorem digs_split (s : List UInt8) : s = digs s ++ s.drop (digs s).length := by
  induction s with
  | nil => rfl
  | cons a s ih =>
    by_cases ha : isDig a = true
    · have e : digs (a :: s) = a :: digs s := by simp [digs, ha]
      rw [e, List.length_cons, List.drop_succ_cons, List.cons_append, ← ih]
    · have e : digs (a :: s) = [] := by simp [digs, ha]
      rw [e]; rfl
/-- (A) at a leaf. -/
theorem leafA {l : List UInt8} {x : Bool × Nat} {r : List UInt8} (hl : leafy l = true) (h : rdLeaf l = some (x, r)) : ∃ p, l = p ++ r ∧ Bal p ∧ rleaf p = some x ∧ p.head? ≠ some 123 := by
  cases l with
  | nil => simp [rdLeaf] at h
  | cons c s =>
    have hc : c = 117 ∨ c = 98 := by simpa [leafy] using hl
    have key : ∀ (most n k : Nat), most ≤ 99 → rdnum most s = some (n, k) → s = digs s ++ s.drop k ∧ Bal (c :: digs s) ∧ rnum (digs s) = n ∧ n ≤ most := by
      intro most n k hm hn
      obtain ⟨h1, h2, h3, h4, h5, h6⟩ := rdnum_short hm hn
      have hdl : (digs s).length ≤ 10 := by omega
      refine ⟨?_, ?_, ?_, h6⟩
      · rw [h2]; exact digs_split s
      · apply bal_plain
        intro y hy
        rcases List.mem_cons.1 hy with rfl | hy
        · rcases hc with rfl | rfl <;> decide
        · have := isDig_sub (digs_all s y hy)
          refine ⟨?_, ?_, ?_⟩ <;> (rintro rfl; simp at this)
      · rw [rnum_of (fun c hc => digs_all s c hc) (by omega) hdl h5, h3]
    unfold rdLeaf at h
    simp only at h
    split at h
    · rename_i hc117
      cases hn : rdnum 4 s with
      | none => rw [hn] at h; cases h
      | some y =>
        obtain ⟨n, k⟩ := y
        obtain ⟨e1, e2, e3, e4⟩ := key 4 n k (by omega) hn
        rw [hn] at h
        simp only at h
        split at h
        · cases h
        · rename_i hok
          cases h
          refine ⟨c :: digs s, by rw [List.cons_append, ← e1], e2, ?_, by simp [hc117]⟩
          simp only [rleaf, if_pos hc117, e3]
          rw [if_pos (by omega)]; simp
    · rename_i hc117
      have hc98 : c = 98 := by rcases hc with h' | h'
                               · exact absurd h' hc117
                               · exact h'
      cases hn : rdnum 16 s with
      | none => rw [hn] at h; cases h
      | some y =>
        obtain ⟨n, k⟩ := y
        obtain ⟨e1, e2, e3, e4⟩ := key 16 n k (by omega) hn
        rw [hn] at h
        simp only at h
        split at h
        · cases h
        · rename_i hok
          cases h
          refine ⟨c :: digs s, by rw [List.cons_append, ← e1], e2, ?_, by simp [hc98]⟩
          simp only [rleaf, if_neg hc117, if_pos hc98, e3]
          rw [if_pos (by omega)]; simp

/-- (B) at a leaf. -/
theorem leafB {p : List UInt8} {x : Bool × Nat} {r : List UInt8} (h : rleaf p = some x) (hr : nodig r) : leafy (p ++ r) = true ∧ rdLeaf (p ++ r) = some (x, r) := by
  cases p with
  | nil => simp [rleaf] at h
  | cons c ds =>
    have key : ∀ most : Nat, 0 ≤ rnum ds → rnum ds ≤ most → rdnum most (ds ++ r) = some ((rnum ds).toNat, ds.length) := by
      intro most h0 hm
      obtain ⟨h1, h2, h3, h4, h5⟩ := rnum_pos h0
      have hd := digs_of_all ds r h1 hr
      unfold rdnum
      rw [hd, h5, if_neg]
      · simp
      · rintro (h | h | h)
        · subst h; simp at h2
        · exact h4 h
        · omega
    unfold rleaf at h
    simp only at h
    split at h
    · rename_i hc
      split at h
      · rename_i hv
        cases h
        refine ⟨by simp [leafy, hc], ?_⟩
        simp only [rdLeaf, List.cons_append, if_pos hc]
        rw [key 4 (by omega) (by omega)]
        simp only
        rw [if_neg (by omega)]
        simp
      · cases h
    · rename_i hc
      split at h
      · rename_i hc2
        split at h
        · rename_i hv
          cases h
          refine ⟨by simp [leafy, hc2], ?_⟩
          simp only [rdLeaf, List.cons_append, if_neg hc]
          rw [key 16 (by omega) (by omega)]
          simp only
          rw [if_neg (by omega)]
          simp
        · cases h
      · cases h

theorem rq_leaf {n : Nat} {l : List UInt8} (h : l.head? ≠ some 123) : rq n l = (rleaf l).map (lf n) := by cases n <;> simp [rq, h]
theorem rq_struct {n : Nat} {l : List UInt8} (h : l.head? = some 123) : rq (n + 1) l = (cut l).bind (fun ps => if 8 < ps.length then none else (allM (rq n) ps).map Sum.inr) := by
  rw [rq, if_pos h]; cases cut l <;> rfl

theorem stepA {n : Nat} (ih : ∀ (l : List UInt8) (t : Ty n) (r : List UInt8), rd n l = some (t, r) → ∃ p, l = p ++ r ∧ Bal p ∧ rq n p = some t) :
    ∀ (k : Nat) (acc : List (Ty n)) (s : List UInt8) (ts : List (Ty n)) (r : List UInt8), rdF (rd n) k acc s = some (ts, r) →
      ∃ (ps : List (List UInt8)) (us : List (Ty n)), ts = acc ++ us ∧ allM (rq n) ps = some us ∧ ps ≠ [] ∧ ps.length ≤ k ∧ (∀ p ∈ ps, Bal p) ∧ s = join ps ++ 125 :: r := by
  intro k
  induction k with
  | zero => intro acc s ts r h; simp [rdF] at h
  | succ k ihk =>
    intro acc s ts r h
    rw [rdF] at h
    split at h
    · cases h
    · cases h
    · rename_i t c r' hf
      obtain ⟨p, hs, hb, hq⟩ := ih _ _ _ hf
      split at h
      · rename_i hc
        cases h
        subst hc
        exact ⟨[p], [t], rfl, by simp [allM, hq], by simp, by simp, by intro x hx; simp at hx; subst hx; exact hb, hs⟩
      · split at h
        · rename_i hc
          subst hc
          obtain ⟨ps, us, h1, h2, h3, h4, h5, h6⟩ := ihk _ _ _ _ h
          refine ⟨p :: ps, t :: us, by rw [h1]; simp, by simp [allM, hq, h2], by simp, by simp; omega, ?_, ?_⟩
          · intro x hx
            rcases List.mem_cons.1 hx with rfl | hx
            · exact hb
            · exact h5 x hx
          · rw [hs, join_cons p h3, h6]; simp
        · cases h

theorem rdA : ∀ (n : Nat) (l : List UInt8) (t : Ty n) (r : List UInt8), rd n l = some (t, r) → ∃ p, l = p ++ r ∧ Bal p ∧ rq n p = some t := by
  intro n
  have leafcase : ∀ (n : Nat) (l : List UInt8) (t : Ty n) (r : List UInt8), leafy l = true → rd n l = some (t, r) → ∃ p, l = p ++ r ∧ Bal p ∧ rq n p = some t := by
    intro n l t r hl h
    rw [rd_leafy _ _ hl] at h
    cases hx : rdLeaf l with
    | none => rw [hx] at h; cases h
    | some y =>
      obtain ⟨x, r'⟩ := y
      rw [hx] at h
      simp at h
      obtain ⟨rfl, rfl⟩ := h
      obtain ⟨p, h1, h2, h3, h4⟩ := leafA hl hx
      exact ⟨p, h1, h2, by rw [rq_leaf h4, h3]; rfl⟩
  induction n with
  | zero =>
    intro l t r h
    by_cases hl : leafy l = true
    · exact leafcase 0 l t r hl h
    · simp [rd, hl] at h
  | succ n ih =>
    intro l t r h
    by_cases hl : leafy l = true
    · exact leafcase _ l t r hl h
    · rw [rd_else _ _ (by simpa using hl)] at h
      cases l with
      | nil => simp [rdS] at h
      | cons c s =>
        simp only [rdS] at h
        split at h
        · rename_i hc
          subst hc
          cases hx : rdF (rd n) 8 [] s with
          | none => rw [hx] at h; cases h
          | some y =>
            obtain ⟨ts, r'⟩ := y
            rw [hx] at h
            simp at h
            obtain ⟨rfl, rfl⟩ := h
            obtain ⟨ps, us, h1, h2, h3, h4, h5, h6⟩ := stepA ih 8 [] s ts _ hx
            simp at h1
            subst h1
            refine ⟨123 :: join ps ++ [125], by rw [h6]; simp, bal_struct ps h3 h5, ?_⟩
            have hcut : cut (123 :: join ps ++ [125]) = some ps := by
              unfold cut
              rw [if_pos ⟨by simp, by simp, by simp [List.getLast?_cons]⟩]
              simpa using cut_join ps h3 h5
            rw [rq_struct (by simp), hcut]
            simp only [Option.bind_some]
            rw [if_neg (by omega), h2]; rfl
        · cases h

theorem stepB {n : Nat} (ih : ∀ (p : List UInt8) (t : Ty n) (r : List UInt8), rq n p = some t → nodig r → rd n (p ++ r) = some (t, r)) :
    ∀ (ps : List (List UInt8)) (k : Nat) (acc us : List (Ty n)) (r : List UInt8), ps ≠ [] → ps.length ≤ k → allM (rq n) ps = some us → rdF (rd n) k acc (join ps ++ 125 :: r) = some (acc ++ us, r) := by
  intro ps
  induction ps with
  | nil => intro k acc us r h; exact absurd rfl h
  | cons p ps ihp =>
    intro k acc us r _ hk h
    obtain ⟨k, rfl⟩ : ∃ k', k = k' + 1 := ⟨k - 1, by simp at hk; omega⟩
    rw [allM] at h
    cases hq : rq n p with
    | none => rw [hq] at h; cases h
    | some t =>
      rw [hq] at h
      cases hu : allM (rq n) ps with
      | none => rw [hu] at h; cases h
      | some vs =>
        rw [hu] at h
        simp at h
        subst h
        by_cases he : ps = []
        · subst he
          simp [allM] at hu
          subst hu
          rw [join_one, rdF, ih p t (125 :: r) hq (by intro c hc; simp at hc; subst hc; decide)]
          simp
        · rw [join_cons p he, List.append_assoc, rdF, ih p t _ hq (by intro c hc; simp at hc; subst hc; decide)]
          simp only [List.cons_append]
          rw [if_neg (by decide), if_pos trivial, ihp k (acc ++ [t]) vs r he (by simp at hk; omega) hu]
          simp

theorem rdB : ∀ (n : Nat) (p : List UInt8) (t : Ty n) (r : List UInt8), rq n p = some t → nodig r → rd n (p ++ r) = some (t, r) := by
  intro n
  have leafcase : ∀ (n : Nat) (p : List UInt8) (t : Ty n) (r : List UInt8), p.head? ≠ some 123 → rq n p = some t → nodig r → rd n (p ++ r) = some (t, r) := by
    intro n p t r hh h hr
    rw [rq_leaf hh] at h
    cases hx : rleaf p with
    | none => rw [hx] at h; cases h
    | some x =>
      rw [hx] at h
      simp at h
      subst h
      obtain ⟨h1, h2⟩ := leafB hx hr
      rw [rd_leafy _ _ h1, h2]; rfl
  induction n with
  | zero =>
    intro p t r h hr
    by_cases hh : p.head? = some 123
    · simp [rq, hh] at h
    · exact leafcase 0 p t r hh h hr
  | succ n ih =>
    intro p t r h hr
    by_cases hh : p.head? = some 123
    · rw [rq_struct hh] at h
      cases hc : cut p with
      | none => rw [hc] at h; cases h
      | some ps =>
        rw [hc] at h
        simp only [Option.bind_some] at h
        split at h
        · cases h
        · rename_i h8
          cases ha : allM (rq n) ps with
          | none => rw [ha] at h; cases h
          | some ts =>
            rw [ha] at h
            have h' := Option.some.inj h
            subst h'
            unfold cut at hc
            split at hc
            · rename_i hcond
              cases p with
              | nil => simp at hh
              | cons c s =>
                simp at hh
                subst hh
                simp at hc
                have hsne : s ≠ [] := by intro e; subst e; simp at hcond
                have hlast : s.getLast? = some 125 := by
                  have h3 := hcond.2.2
                  rw [List.getLast?_cons] at h3
                  cases hx : s.getLast? with
                  | none => rw [List.getLast?_eq_none_iff] at hx; exact absurd hx hsne
                  | some y => rw [hx] at h3; simpa using h3
                obtain ⟨h1, h2⟩ := cutGo_join s 0 [] ps hc hsne hlast
                simp at h2
                have hleaf : leafy ((123 : UInt8) :: s ++ r) = false := by simp [leafy]
                rw [rd_else _ _ hleaf]
                simp only [rdS, List.cons_append, if_pos]
                rw [h2, List.append_assoc, List.cons_append, List.nil_append, stepB ih ps 8 [] ts r h1 (by omega) ha]
                rfl
            · cases hc
    · exact leafcase _ p t r hh h hr

theorem fold_ge {l : List (Nat × Nat)} : (∀ x ∈ l, 1 ≤ x.2 ∧ x.2 ≤ 4) → ∀ a : Nat × Nat, 1 ≤ a.2 → a.2 ≤ 4 → ∀ x ∈ l, x.1 ≤ (l.foldl lay1 a).1 := by
  induction l with
  | nil => intro _ a _ _ x hx; simp at hx
  | cons y l ih =>
    intro h a h1 h2 x hx
    have hy := h y (by simp)
    have hl := lay1_le (a := a) hy.1 hy.2
    have hm : 1 ≤ (lay1 a y).2 ∧ (lay1 a y).2 ≤ 4 := by simp only [lay1]; omega
    rw [List.foldl_cons]
    rcases List.mem_cons.1 hx with rfl | hx
    · have := fold_step (l := l) (fun z hz => h z (by simp [hz])) (lay1 a x) hm.1 hm.2
      omega
    · exact ih (fun z hz => h z (by simp [hz])) _ hm.1 hm.2 x hx

theorem rq_good : ∀ (n : Nat) (l : List UInt8) (t : Ty n), rq n l = some t → 1 ≤ (sz n t).2 ∧ (sz n t).2 ≤ 4 := by
  intro n
  have leafcase : ∀ (n : Nat) (l : List UInt8) (t : Ty n), (rleaf l).map (lf n) = some t → 1 ≤ (sz n t).2 ∧ (sz n t).2 ≤ 4 := by
    intro n l t h
    cases hx : rleaf l with
    | none => rw [hx] at h; cases h
    | some x => rw [hx] at h; simp at h; subst h; rw [sz_lf]; have := rleaf_good hx; exact ⟨this.1, this.2.1⟩
  induction n with
  | zero =>
    intro l t h
    by_cases hh : l.head? = some 123
    · simp [rq, hh] at h
    · rw [rq_leaf hh] at h; exact leafcase 0 l t h
  | succ n ih =>
    intro l t h
    by_cases hh : l.head? = some 123
    · rw [rq_struct hh] at h
      cases hc : cut l with
      | none => rw [hc] at h; cases h
      | some ps =>
        rw [hc] at h
        simp only [Option.bind_some] at h
        split at h
        · cases h
        · cases ha : allM (rq n) ps with
          | none => rw [ha] at h; cases h
          | some ts =>
            rw [ha] at h
            have h' := Option.some.inj h
            subst h'
            obtain ⟨h1, h2, _⟩ := fold_step (l := ts.map (sz n)) (by
              intro x hx
              obtain ⟨t, ht, rfl⟩ := List.mem_map.1 hx
              obtain ⟨y, _, hy⟩ := allM_mem ha t ht
              exact ih _ _ hy) (0, 1) (by simp) (by simp)
            exact ⟨h1, h2⟩
    · rw [rq_leaf hh] at h; exact leafcase _ l t h

theorem allM_congr {α β : Type} {f g : α → Option β} : ∀ {l : List α} {ys : List β}, allM f l = some ys → (∀ x y, x ∈ l → y ∈ ys → f x = some y → g x = some y) → allM g l = some ys := by
  intro l
  induction l with
  | nil => intro ys h _; simpa [allM] using h
  | cons a l ih =>
    intro ys h hfg
    rw [allM] at h
    cases ha : f a with
    | none => rw [ha] at h; cases h
    | some b =>
      rw [ha] at h
      cases hl : allM f l with
      | none => rw [hl] at h; cases h
      | some bs =>
        rw [hl] at h
        simp at h
        subst h
        rw [allM, hfg a b (by simp) (by simp) ha, ih hl (fun x y hx hy => hfg x y (by simp [hx]) (by simp [hy]))]
        rfl

theorem rp_iff : ∀ (n : Nat) (l : List UInt8) (t : Ty n), rp n l = some t ↔ rq n l = some t ∧ (sz n t).1 ≤ 32 := by
  intro n
  have leafcase : ∀ (n : Nat) (l : List UInt8) (t : Ty n), (rleaf l).map (lf n) = some t → (sz n t).1 ≤ 32 := by
    intro n l t h
    cases hx : rleaf l with
    | none => rw [hx] at h; cases h
    | some x => rw [hx] at h; simp at h; subst h; rw [sz_lf]; exact (rleaf_good hx).2.2
  induction n with
  | zero =>
    intro l t
    have e : rp 0 l = rq 0 l := rfl
    rw [e]
    refine ⟨fun h => ⟨h, ?_⟩, fun h => h.1⟩
    by_cases hh : l.head? = some 123
    · simp [rq, hh] at h
    · rw [rq_leaf hh] at h; exact leafcase 0 l t h
  | succ n ih =>
    intro l t
    by_cases hh : l.head? = some 123
    · constructor
      · intro h
        refine ⟨?_, (rp_good _ _ _ h).2.2⟩
        rw [rp, if_pos hh] at h
        rw [rq_struct hh]
        cases hc : cut l with
        | none => rw [hc] at h; cases h
        | some ps =>
          rw [hc] at h
          simp only at h
          simp only [Option.bind_some]
          split at h
          · cases h
          · rename_i h8
            rw [if_neg h8]
            cases ha : allM (rp n) ps with
            | none => rw [ha] at h; cases h
            | some ts =>
              rw [ha] at h
              simp only at h
              split at h
              · cases h
                rw [allM_congr ha (fun x y _ _ hf => ((ih x y).1 hf).1)]; rfl
              · cases h
      · rintro ⟨h, hsz⟩
        rw [rp, if_pos hh]
        rw [rq_struct hh] at h
        cases hc : cut l with
        | none => rw [hc] at h; cases h
        | some ps =>
          rw [hc] at h
          simp only [Option.bind_some] at h
          simp only
          split at h
          · cases h
          · rename_i h8
            rw [if_neg h8]
            cases ha : allM (rq n) ps with
            | none => rw [ha] at h; cases h
            | some ts =>
              rw [ha] at h
              have h' := Option.some.inj h
              subst h'
              have hst : ∀ x ∈ ts.map (sz n), 1 ≤ x.2 ∧ x.2 ≤ 4 := by
                intro x hx
                obtain ⟨t, ht, rfl⟩ := List.mem_map.1 hx
                obtain ⟨y, _, hy⟩ := allM_mem ha t ht
                exact rq_good _ _ _ hy
              obtain ⟨h1, _, _⟩ := fold_step hst (0, 1) (by simp) (by simp)
              have hup := le_up (fold (ts.map (sz n))).1 (fold (ts.map (sz n))).2 h1
              have hall : allM (rp n) ps = some ts := allM_congr ha (fun x y _ hy hf => (ih x y).2 ⟨hf, by
                have := fold_ge hst (0, 1) (by simp) (by simp) (sz n y) (List.mem_map_of_mem hy)
                simp only [sz, closed] at hsz
                have e : (fold (ts.map (sz n))) = (ts.map (sz n)).foldl lay1 (0, 1) := rfl
                rw [e] at hup hsz
                omega⟩)
              rw [hall]
              simp only
              rw [if_pos hsz]
    · have e : rp (n + 1) l = rq (n + 1) l := by rw [rq_leaf hh]; simp [rp, hh]
      rw [e]
      refine ⟨fun h => ⟨h, ?_⟩, fun h => h.1⟩
      rw [rq_leaf hh] at h; exact leafcase _ l t h

theorem rd_rp (l : List UInt8) : (match rd 4 l with
    | some (t, []) => if (sz 4 t).1 ≤ 32 then some t else none
    | _ => none) = rp 4 l := by
  apply Option.ext
  intro t
  rw [rp_iff]
  constructor
  · intro h
    split at h
    · rename_i t' hr
      split at h
      · rename_i hle
        cases h
        obtain ⟨p, h1, _, h3⟩ := rdA 4 l t [] hr
        rw [List.append_nil] at h1
        subst h1
        exact ⟨h3, hle⟩
      · cases h
    · cases h
  · rintro ⟨h, hle⟩
    have := rdB 4 l t [] h (by intro c hc; cases hc)
    rw [List.append_nil] at this
    rw [this]
    simp only
    rw [if_pos hle]

end Go.Proofs.YtghggcehloiemabGreatDoor.P
namespace Go.Proofs.YtghggcehloiemabGreatDoor
open Go.RowKit
set_option linter.unusedVariables false
set_option maxRecDepth 16000
theorem p_ty_eq (l : List UInt8) : P.tyOf l = P.rtyOf l := by
  unfold P.tyOf P.rtyOf
  by_cases h : 80 < l.length
  · rw [if_pos h, if_pos h]
  · rw [if_neg h, if_neg h]; exact P.rd_rp l
set_option maxHeartbeats 1000000 in
theorem rRefused_any (sk sv : ByteArray) (slots : Int) (w : World) (hk : sk.size ≤ maxLen) (hv : sv.size ≤ maxLen) :
    Calls Tryz.prog 73 #[.string sk, .string sv, .int .i64 slots] w fun e w' => e = .returned (.int .i64 (P.errOf sk.data.toList sv.data.toList slots)) ∧ Below w.heap.size w w' := by
  have HE : Hid (P.errOf sk.data.toList sv.data.toList slots = match P.rtyOf sk.data.toList, P.rtyOf sv.data.toList with
    | some _, some _ => if 1 ≤ slots ∧ slots ≤ 16 then 0 else 6
    | _, _ => 1) := by
    unfold Hid P.errOf; rw [p_ty_eq, p_ty_eq]
    cases P.rtyOf sk.data.toList <;> cases P.rtyOf sv.data.toList <;> rfl
  have hp : ∀ (s : ByteArray) (w : World), s.size ≤ maxLen → Calls Tryz.prog 74 #[.string s] w fun e w' => ∃ a1 a2 a3 x n k y m j, e = .returned (.tuple #[.agg #[.int .u8 a1, .int .i64 a2, .int .i64 a3, .slice x n k, .slice y m j], .bool (P.rtyOf s.data.toList).isSome]) ∧ Below w.heap.size w w' := by
    intro s w hs
    refine (rParse_any s w hs).mono ?_
    rintro e w1 ⟨hpost, hbe⟩
    cases ht : P.rtyOf s.data.toList with
    | none =>
      rw [ht] at hpost
      obtain ⟨v, rfl, a1, a2, a3, x', n1, k1, y, m1, j1, rfl⟩ := hpost
      exact ⟨_, _, _, _, _, _, _, _, _, rfl, hbe⟩
    | some t =>
      rw [ht] at hpost
      obtain ⟨v, S, rfl, hT, hS⟩ := hpost
      obtain ⟨a1, x', n1, k1, y, m1, j1, rfl⟩ := hT.is
      exact ⟨_, _, _, _, _, _, _, _, _, rfl, hbe⟩
  have HP := hid_m hp
  clear hp
  go_enter Tryz.func73, Tryz.ntmps73
  go_wp2_with fail
  refine (HP.out sk _ hk).mono ?_
  rintro e w1 ⟨a1, a2, a3, x1, n1, k1, y1, m1, j1, rfl, hb1⟩
  obtain ⟨ok, hok⟩ : ∃ b, (P.rtyOf sk.data.toList).isSome = b := ⟨_, rfl⟩
  rw [hok]
  have HOK := hid_m hok
  have B1 := hid_m hb1
  clear hok hb1
  go_wp2_with fail
  refine (HP.out sv _ hv).mono ?_
  rintro e w2 ⟨b1, b2, b3, x2, n2, k2, y2, m2, j2, rfl, hb2⟩
  obtain ⟨ov, hov⟩ : ∃ b, (P.rtyOf sv.data.toList).isSome = b := ⟨_, rfl⟩
  rw [hov]
  have HOV := hid_m hov
  have B2 := hid_m (((B1.out.alloc B1.out.size _).trans (hb2.mono (by have := B1.out.size; simp; omega))).alloc (by have := B1.out.size; have := hb2.size; simp at this; omega) (.cells #[.int .u8 b1, .int .i64 b2, .int .i64 b3, .slice x2 n2 k2, .slice y2 m2 j2] 121))
  clear hov hb2
  cases ok with
  | false =>
    have HF : Hid (P.errOf sk.data.toList sv.data.toList slots = 1) := by
      unfold Hid; rw [HE.out]
      cases hk' : P.rtyOf sk.data.toList with
      | none => cases P.rtyOf sv.data.toList <;> rfl
      | some t => have := HOK.out; rw [hk'] at this; cases this
    go_wp2_with fail
    go_ret
    exact ⟨by rw [HF.out]; rfl, B2.out⟩
  | true =>
    obtain ⟨tk, htk⟩ := Option.isSome_iff_exists.1 HOK.out
    cases ov with
    | false =>
      have HF : Hid (P.errOf sk.data.toList sv.data.toList slots = 1) := by
        unfold Hid; rw [HE.out, htk]
        cases hv' : P.rtyOf sv.data.toList with
        | none => rfl
        | some t => have := HOV.out; rw [hv'] at this; cases this
      clear htk
      go_wp2_with fail
      go_ret
      exact ⟨by rw [HF.out]; rfl, B2.out⟩
    | true =>
      obtain ⟨tv, htv⟩ := Option.isSome_iff_exists.1 HOV.out
      have HF : Hid (P.errOf sk.data.toList sv.data.toList slots = if 1 ≤ slots ∧ slots ≤ 16 then 0 else 6) := by unfold Hid; rw [HE.out, htk, htv]
      clear htk htv
      by_cases h1 : slots < 1
      · have HG : Hid (P.errOf sk.data.toList sv.data.toList slots = 6) := by unfold Hid; rw [HF.out, if_neg (by omega)]
        go_wp2_with fail
        go_ret
        exact ⟨by rw [HG.out]; rfl, B2.out⟩
      · by_cases h2 : 16 < slots
        · have HG : Hid (P.errOf sk.data.toList sv.data.toList slots = 6) := by unfold Hid; rw [HF.out, if_neg (by omega)]
          go_wp2_with fail
          go_ret
          exact ⟨by rw [HG.out]; rfl, B2.out⟩
        · have HG : Hid (P.errOf sk.data.toList sv.data.toList slots = 0) := by unfold Hid; rw [HF.out, if_pos (by omega)]
          go_wp2_with fail
          go_ret
          exact ⟨by rw [HG.out]; rfl, B2.out⟩
set_option maxHeartbeats 400000 in
theorem p_num_any (n : Int) (w : World) : Calls Tryz.prog 42 #[.int .i64 n] w fun e w' => e = .returned (.int .i64 n) ∧ w' = w := by
  go_enter Tryz.func42, Tryz.ntmps42
  go_wp2
  go_ret
  exact ⟨by simp, rfl⟩
namespace P
theorem room_ok {lk lv : List UInt8} {slots : Int} (h : errOf lk lv slots = 0) : ∃ tk tv : Ty 4, tyOf lk = some tk ∧ tyOf lv = some tv ∧ 1 ≤ slots ∧ slots ≤ 16 ∧ (rsizeOf lk).1 = (sz 4 tk).1 ∧ (rsizeOf lv).1 = (sz 4 tv).1 ∧ roomOf lk lv slots = 1 + slots.toNat * ((cov (parts 4 tk)).length + (cov (parts 4 tv)).length) ∧ progOf lk lv slots = text (prog (cov (parts 4 tk)) (cov (parts 4 tv)) slots.toNat).resolve := by
  unfold errOf at h
  cases hk : tyOf lk with
  | none => rw [hk] at h; exfalso; cases hv : tyOf lv <;> (rw [hv] at h; cases h)
  | some tk =>
    cases hv : tyOf lv with
    | none => rw [hk, hv] at h; cases h
    | some tv =>
      rw [hk, hv] at h
      simp only at h
      by_cases hs : 1 ≤ slots ∧ slots ≤ 16
      · refine ⟨tk, tv, rfl, rfl, hs.1, hs.2, by unfold rsizeOf; rw [← p_ty_eq, hk], by unfold rsizeOf; rw [← p_ty_eq, hv], ?_, ?_⟩
        · unfold roomOf; rw [hk, hv]; simp only; rw [if_pos hs]
        · unfold progOf; rw [hk, hv]; simp only; rw [if_pos hs]
      · rw [if_neg hs] at h; cases h
theorem room_no {lk lv : List UInt8} {slots : Int} (h : errOf lk lv slots ≠ 0) : roomOf lk lv slots = 0 ∧ progOf lk lv slots = [] ∧ (errOf lk lv slots = 1 ∨ errOf lk lv slots = 6) := by
  unfold errOf at h ⊢
  unfold roomOf progOf
  cases hk : tyOf lk with
  | none => cases hv : tyOf lv <;> exact ⟨rfl, rfl, Or.inl rfl⟩
  | some tk =>
    cases hv : tyOf lv with
    | none => exact ⟨rfl, rfl, Or.inl rfl⟩
    | some tv =>
      rw [hk, hv] at h
      simp only at h ⊢
      by_cases hs : 1 ≤ slots ∧ slots ≤ 16
      · rw [if_pos hs] at h; exact absurd rfl h
      · rw [if_neg hs, if_neg hs, if_neg hs]; exact ⟨rfl, rfl, Or.inr rfl⟩
end P
theorem prog_code {lk lv : List UInt8} {slots : Int} (h : P.errOf lk lv slots = 0) : P.IsCode (P.progOf lk lv slots) := by
  obtain ⟨tk, tv, h1, h2, h3, h4, h5, h6, h7, h8⟩ := P.room_ok h
  have kk := known_of h1
  have kv := known_of h2
  rw [h8]
  have := kk.covl; have := kk.sz32; have := kv.covl; have := kv.sz32
  exact P.resolve_isCode kk.cov32 kv.cov32 (by omega) (by omega) (by omega)
theorem prog_len {lk lv : List UInt8} {slots : Int} (h : P.errOf lk lv slots = 0) : (P.progOf lk lv slots).length ≤ 4000 := by
  have := (prog_code h).few
  have := (prog_code h).five
  omega
theorem room_most {lk lv : List UInt8} {slots : Int} (h : P.errOf lk lv slots = 0) : 1 ≤ slots ∧ slots ≤ 16 ∧ (P.rsizeOf lk).1 ≤ 32 ∧ (P.rsizeOf lv).1 ≤ 32 ∧ (P.roomOf lk lv slots : Int) ≤ slots * ((P.rsizeOf lk).1 + (P.rsizeOf lv).1 + 4) := by
  obtain ⟨tk, tv, h1, h2, h3, h4, h5, h6, h7, h8⟩ := P.room_ok h
  have kk := known_of h1
  have kv := known_of h2
  have a1 := kk.covl; have a2 := kk.sz32; have a3 := kv.covl; have a4 := kv.sz32
  rw [h5, h6, h7]
  refine ⟨h3, h4, a2, a4, ?_⟩
  obtain ⟨sl, rfl⟩ : ∃ sl : Nat, slots = (sl : Int) := ⟨slots.toNat, by omega⟩
  rw [show (sl : Int).toNat = sl from rfl]
  have m1 : sl * ((P.cov (P.parts 4 tk)).length + (P.cov (P.parts 4 tv)).length) ≤ sl * ((P.sz 4 tk).1 + (P.sz 4 tv).1) := Nat.mul_le_mul_left _ (by omega)
  have m2 : sl * ((P.sz 4 tk).1 + (P.sz 4 tv).1 + 4) = sl * ((P.sz 4 tk).1 + (P.sz 4 tv).1) + sl * 4 := Nat.mul_add _ _ _
  have m3 : ((sl * ((P.sz 4 tk).1 + (P.sz 4 tv).1 + 4) : Nat) : Int) = (sl : Int) * (((P.sz 4 tk).1 : Int) + ((P.sz 4 tv).1 : Int) + 4) := by simp
  omega
end Go.Proofs.YtghggcehloiemabGreatDoor
