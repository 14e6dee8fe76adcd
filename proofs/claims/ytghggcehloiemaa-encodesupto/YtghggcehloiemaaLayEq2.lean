import Derived.Test.YtghggcehloiemaaLayEq
namespace Go.Proofs.Ytghggcehloiemaa.P
set_option linter.unusedVariables false

def fparts (a : Nat × Nat) : List (List Pt × (Nat × Nat)) → List Pt
  | [] => []
  | x :: xs => match xs with
    | [] => x.1.map (Pt.sh (up a.1 x.2.2)) ++ [markP 125]
    | _ :: _ => x.1.map (Pt.sh (up a.1 x.2.2)) ++ markP 44 :: fparts (lay1 a x.2) xs
theorem fparts_one (a : Nat × Nat) (x : List Pt × (Nat × Nat)) : fparts a [x] = x.1.map (Pt.sh (up a.1 x.2.2)) ++ [markP 125] := rfl
theorem fparts_cons (a : Nat × Nat) (x : List Pt × (Nat × Nat)) {xs : List (List Pt × (Nat × Nat))} (h : xs ≠ []) : fparts a (x :: xs) = x.1.map (Pt.sh (up a.1 x.2.2)) ++ markP 44 :: fparts (lay1 a x.2) xs := by
  cases xs with
  | nil => exact absurd rfl h
  | cons y ys => rfl
theorem body_ne (a : Nat × Nat) {xs : List (List Pt × (Nat × Nat))} (h : xs ≠ []) : body a xs ≠ [] := by
  cases xs with
  | nil => exact absurd rfl h
  | cons y ys => simp [body]
theorem body_fparts : ∀ (xs : List (List Pt × (Nat × Nat))) (a : Nat × Nat), xs ≠ [] → (body a xs).dropLast ++ [markP 125] = fparts a xs := by
  intro xs
  induction xs with
  | nil => intro a h; exact absurd rfl h
  | cons x xs ih =>
    intro a _
    by_cases he : xs = []
    · subst he
      rw [fparts_one]
      simp [body]
    · rw [fparts_cons a x he, ← ih _ he, body]
      have hb := body_ne (lay1 a x.2) he
      rw [List.dropLast_append_of_ne_nil (by simp)]
      cases hbb : body (lay1 a x.2) xs with
      | nil => exact absurd hbb hb
      | cons y ys => simp
theorem parts_eq {n : Nat} (ts : List (Ty n)) (h : ts ≠ []) : parts (n + 1) (.inr ts) = markP 123 :: fparts (0, 1) (ts.map fun t => (parts n t, sz n t)) := by
  simp only [parts]
  rw [body_fparts _ _ (by simpa using h)]

def LA (n : Nat) : Prop := ∀ (t : Ty n) (p : Nat) (l bs r bs' : List UInt8), Sm n t → Nm n t → p + (sz n t).1 ≤ bs.length → layAll ((parts n t).map (Pt.sh p)) l bs = some (r, bs') → ∃ v L, l = v ++ r ∧ Bal v ∧ lieP n t v = some L ∧ bs' = over bs p L
def LB (n : Nat) : Prop := ∀ (t : Ty n) (p : Nat) (v bs r : List UInt8) (L : List (Option UInt8)), Sm n t → Nm n t → p + (sz n t).1 ≤ bs.length → nodig r → lieP n t v = some L → layAll ((parts n t).map (Pt.sh p)) (v ++ r) bs = some (r, over bs p L)

def Kids (n : Nat) (ts : List (Ty n)) : Prop := ∀ t ∈ ts, Sm n t ∧ Nm n t ∧ 1 ≤ (sz n t).2 ∧ (sz n t).2 ≤ 4

theorem u8eq {d : UInt8} {k : UInt8} (h : d.toNat = k.toNat) : d = k := UInt8.toNat_inj.1 h

theorem fields_A {n : Nat} (ih : LA n) : ∀ (ts : List (Ty n)) (a : Nat × Nat) (p : Nat) (l bs r bs' : List UInt8), ts ≠ [] → Kids n ts → 1 ≤ a.2 → a.2 ≤ 4 → p + ((ts.map (sz n)).foldl lay1 a).1 ≤ bs.length →
    layAll ((fparts a (ts.map fun t => (parts n t, sz n t))).map (Pt.sh p)) l bs = some (r, bs') →
    ∃ vs : List (List UInt8), l = join vs ++ 125 :: r ∧ vs.length = ts.length ∧ (∀ v ∈ vs, Bal v) ∧ ∀ (bs0 : List UInt8) (L : List (Option UInt8)), L.length = a.1 → bs = over bs0 p L → ∃ L', lieF (List.zip (List.zipWith (lieP n) ts vs) (places a (ts.map (sz n)))) L = some L' ∧ bs' = over bs0 p L' := by
  intro ts
  induction ts with
  | nil => intro a p l bs r bs' h; exact absurd rfl h
  | cons t ts iht =>
    intro a p l bs r bs' _ hk h1 h2 hp h
    have ht := hk t (by simp)
    have hks : Kids n ts := fun x hx => hk x (by simp [hx])
    have hl1 := lay1_le (a := a) (b := sz n t) ht.2.2.1 ht.2.2.2
    have hm : 1 ≤ (lay1 a (sz n t)).2 ∧ (lay1 a (sz n t)).2 ≤ 4 := by have := ht.2.2; simp only [lay1]; omega
    have hst : ∀ x ∈ ts.map (sz n), 1 ≤ x.2 ∧ x.2 ≤ 4 := by
      intro x hx
      obtain ⟨t', ht', rfl⟩ := List.mem_map.1 hx
      exact (hks t' ht').2.2
    have hfs := (fold_step hst (lay1 a (sz n t)) hm.1 hm.2).2.2
    rw [List.map_cons, List.foldl_cons] at hp
    have hup := le_up a.1 (sz n t).2 ht.2.2.1
    have first : ∀ (B : List Pt), layAll (((parts n t).map (Pt.sh (up a.1 (sz n t).2)) ++ B).map (Pt.sh p)) l bs = some (r, bs') → ∃ v L1 l1, l = v ++ l1 ∧ Bal v ∧ lieP n t v = some L1 ∧ layAll (B.map (Pt.sh p)) l1 (over bs (p + up a.1 (sz n t).2) L1) = some (r, bs') := by
      intro B hB
      rw [List.map_append, sh_sh, layAll_append] at hB
      cases hA : layAll ((parts n t).map (Pt.sh (p + up a.1 (sz n t).2))) l bs with
      | none => rw [hA] at hB; cases hB
      | some y =>
        obtain ⟨l1, b1⟩ := y
        rw [hA] at hB
        simp only [Option.bind_some] at hB
        obtain ⟨v, L1, e1, e2, e3, e4⟩ := ih t _ l bs l1 b1 ht.1 ht.2.1 (by omega) hA
        subst e4
        exact ⟨v, L1, l1, e1, e2, e3, hB⟩
    by_cases he : ts = []
    · subst he
      rw [List.map_cons, List.map_nil, fparts_one] at h
      obtain ⟨v, L1, l1, e1, e2, e3, e4⟩ := first _ h
      rw [List.map_cons, List.map_nil] at e4
      obtain ⟨d, hd, e5, e6⟩ := layAll_mark e4
      have hd' : d = 125 := u8eq (by rw [hd]; rfl)
      subst hd'
      refine ⟨[v], by rw [join_one, e1, e5], rfl, by intro x hx; simp at hx; subst hx; exact e2, ?_⟩
      intro bs0 L hL hbs
      refine ⟨padTo L (up a.1 (sz n t).2) ++ L1, ?_, ?_⟩
      · simp [places, lieF, e3]
      · rw [e6, hbs, over_next _ _ _ _ _ (by omega)]
    · rw [List.map_cons, fparts_cons _ _ (by simpa using he)] at h
      obtain ⟨v, L1, l1, e1, e2, e3, e4⟩ := first _ h
      rw [List.map_cons, show ∀ (x : Pt) (xs : List Pt), x :: xs = [x] ++ xs from fun _ _ => rfl, layAll_append] at e4
      cases hA : layAll [(markP 44).sh p] l1 (over bs (p + up a.1 (sz n t).2) L1) with
      | none => rw [hA] at e4; cases e4
      | some y =>
        obtain ⟨l2, b2⟩ := y
        rw [hA] at e4
        simp only [Option.bind_some] at e4
        obtain ⟨d, hd, e5, e6⟩ := layAll_mark hA
        have hd' : d = 44 := u8eq (by rw [hd]; rfl)
        subst hd'
        subst e6
        obtain ⟨vs, g1, g2, g3, g4⟩ := iht (lay1 a (sz n t)) p l2 _ r bs' he hks hm.1 hm.2 (by rw [over_length]; omega) e4
        refine ⟨v :: vs, ?_, by simp [g2], ?_, ?_⟩
        · have hvne : vs ≠ [] := by
            intro e; subst e; simp at g2; exact he (List.eq_nil_of_length_eq_zero g2.symm)
          rw [join_cons v hvne, e1, e5, g1]; simp
        · intro x hx
          rcases List.mem_cons.1 hx with rfl | hx
          · exact e2
          · exact g3 x hx
        · intro bs0 L hL hbs
          have hlen := lie_len n t v L1 ht.1 e3
          obtain ⟨L', k1, k2⟩ := g4 bs0 (padTo L (up a.1 (sz n t).2) ++ L1) (by rw [List.length_append, padTo_length _ _ (by omega), hlen]; exact hl1.2.2) (by rw [hbs, over_next _ _ _ _ _ (by omega)])
          refine ⟨L', ?_, k2⟩
          simp only [List.zipWith_cons_cons, List.map_cons, places, List.zip_cons_cons, lieF, e3]
          exact k1

theorem fields_B {n : Nat} (ih : LB n) : ∀ (ts : List (Ty n)) (vs : List (List UInt8)) (a : Nat × Nat) (p : Nat) (r bs0 : List UInt8) (L L' : List (Option UInt8)), ts ≠ [] → vs.length = ts.length → Kids n ts → 1 ≤ a.2 → a.2 ≤ 4 → p + ((ts.map (sz n)).foldl lay1 a).1 ≤ bs0.length → L.length = a.1 →
    lieF (List.zip (List.zipWith (lieP n) ts vs) (places a (ts.map (sz n)))) L = some L' →
    layAll ((fparts a (ts.map fun t => (parts n t, sz n t))).map (Pt.sh p)) (join vs ++ 125 :: r) (over bs0 p L) = some (r, over bs0 p L') := by
  intro ts
  induction ts with
  | nil => intro vs a p r bs0 L L' h; exact absurd rfl h
  | cons t ts iht =>
    intro vs a p r bs0 L L' _ hvl hk h1 h2 hp hL h
    have ht := hk t (by simp)
    have hks : Kids n ts := fun x hx => hk x (by simp [hx])
    have hl1 := lay1_le (a := a) (b := sz n t) ht.2.2.1 ht.2.2.2
    have hm : 1 ≤ (lay1 a (sz n t)).2 ∧ (lay1 a (sz n t)).2 ≤ 4 := by have := ht.2.2; simp only [lay1]; omega
    have hst : ∀ x ∈ ts.map (sz n), 1 ≤ x.2 ∧ x.2 ≤ 4 := by
      intro x hx
      obtain ⟨t', ht', rfl⟩ := List.mem_map.1 hx
      exact (hks t' ht').2.2
    have hfs := (fold_step hst (lay1 a (sz n t)) hm.1 hm.2).2.2
    rw [List.map_cons, List.foldl_cons] at hp
    have hup := le_up a.1 (sz n t).2 ht.2.2.1
    cases vs with
    | nil => simp at hvl
    | cons v vs =>
      simp only [List.zipWith_cons_cons, List.map_cons, places, List.zip_cons_cons, lieF] at h
      cases hlv : lieP n t v with
      | none => rw [hlv] at h; cases h
      | some L1 =>
        rw [hlv] at h
        simp only at h
        have hlen := lie_len n t v L1 ht.1 hlv
        have hLn : (padTo L (up a.1 (sz n t).2) ++ L1).length = (lay1 a (sz n t)).1 := by
          rw [List.length_append, padTo_length _ _ (by omega), hlen]; exact hl1.2.2
        have first : ∀ (c : UInt8) (rest : List UInt8), isDig c = false → layAll ((parts n t).map (Pt.sh (p + up a.1 (sz n t).2))) (v ++ c :: rest) (over bs0 p L) = some (c :: rest, over bs0 p (padTo L (up a.1 (sz n t).2) ++ L1)) := by
          intro c rest hc
          rw [ih t (p + up a.1 (sz n t).2) v (over bs0 p L) (c :: rest) L1 ht.1 ht.2.1 (by rw [over_length]; omega) (by intro d hd; simp at hd; subst hd; exact hc) hlv, over_next _ _ _ _ _ (by omega)]
        by_cases he : ts = []
        · subst he
          simp at hvl
          subst hvl
          simp [places, lieF] at h
          subst h
          rw [List.map_cons, List.map_nil, fparts_one, join_one, List.map_append, sh_sh, layAll_append, first 125 r (by decide)]
          simp only [Option.bind_some, List.map_cons, List.map_nil]
          exact layAll_mark_of (c := 125) r _
        · have hvne : vs ≠ [] := by
            intro e; subst e; simp at hvl; exact he hvl
          rw [List.map_cons, fparts_cons _ _ (by simpa using he), join_cons v hvne, List.append_assoc, List.cons_append, List.map_append, sh_sh, layAll_append, first 44 _ (by decide)]
          simp only [Option.bind_some, List.map_cons]
          rw [show ∀ (x : Pt) (xs : List Pt), x :: xs = [x] ++ xs from fun _ _ => rfl, layAll_append, show layAll [(markP 44).sh p] (44 :: (join vs ++ 125 :: r)) (over bs0 p (padTo L (up a.1 (sz n t).2) ++ L1)) = _ from layAll_mark_of (c := 44) _ _]
          simp only [Option.bind_some]
          exact iht vs (lay1 a (sz n t)) p r bs0 _ L' he (by simpa using hvl) hks hm.1 hm.2 (by omega) hLn h

theorem parts_lfm (n : Nat) (l : Bool × Nat) (p : Nat) : (parts n (lf n l)).map (Pt.sh p) = [(lpart l).sh p] := by rw [parts_lf]; rfl

theorem struct_bd {n : Nat} {ts : List (Ty n)} (h : Sm (n + 1) (.inr ts)) (hn : Nm (n + 1) (.inr ts)) : Kids n ts ∧ ((ts.map (sz n)).foldl lay1 (0, 1)).1 ≤ (sz (n + 1) (.inr ts)).1 ∧ ts ≠ [] := by
  obtain ⟨h1, h2, h3, h4⟩ := h
  have hk : Kids n ts := fun t ht => ⟨(h4 t ht).1, hn t ht, (h4 t ht).2.1, (h4 t ht).2.2⟩
  have hst : ∀ x ∈ ts.map (sz n), 1 ≤ x.2 ∧ x.2 ≤ 4 := by
    intro x hx
    obtain ⟨t, ht, rfl⟩ := List.mem_map.1 hx
    exact (hk t ht).2.2
  obtain ⟨g1, _, _⟩ := fold_step hst (0, 1) (by simp) (by simp)
  exact ⟨hk, le_up (fold (ts.map (sz n))).1 (fold (ts.map (sz n))).2 g1, h3⟩

theorem la_all : ∀ n, LA n := by
  intro n
  induction n with
  | zero =>
    intro t p l bs r bs' hs hn hp h
    exact leaf_A hn hp h
  | succ n ih =>
    intro t p l bs r bs' hs hn hp h
    cases t with
    | inl x => exact leaf_A hn hp h
    | inr ts =>
      obtain ⟨hk, hfd, hne⟩ := struct_bd hs hn
      rw [parts_eq ts hne, List.map_cons, show ∀ (x : Pt) (xs : List Pt), x :: xs = [x] ++ xs from fun _ _ => rfl, layAll_append] at h
      cases hA : layAll [(markP 123).sh p] l bs with
      | none => rw [hA] at h; cases h
      | some y =>
        obtain ⟨l1, b1⟩ := y
        rw [hA] at h
        simp only [Option.bind_some] at h
        obtain ⟨d, hd, e5, e6⟩ := layAll_mark hA
        have hd' : d = 123 := u8eq (by rw [hd]; rfl)
        subst hd'
        subst e6
        obtain ⟨vs, g1, g2, g3, g4⟩ := fields_A ih ts (0, 1) p l1 _ r bs' hne hk (by simp) (by simp) (by omega) h
        have hvne : vs ≠ [] := by
          intro e; subst e; simp at g2; exact hne (List.eq_nil_of_length_eq_zero g2.symm)
        obtain ⟨L', k1, k2⟩ := g4 b1 [] rfl (by rw [over_nil])
        refine ⟨123 :: join vs ++ [125], padTo L' (sz (n + 1) (.inr ts)).1, by rw [e5, g1]; simp, bal_struct vs hvne g3, ?_, by rw [k2, over_pad]⟩
        have hcut : cut (123 :: join vs ++ [125]) = some vs := by
          unfold cut
          rw [if_pos ⟨by simp, by simp, by simp [List.getLast?_cons]⟩]
          simpa using cut_join vs hvne g3
        simp only [lieP, hcut]
        rw [if_pos g2, k1]; rfl

theorem lb_all : ∀ n, LB n := by
  intro n
  induction n with
  | zero =>
    intro t p v bs r L hs hn hp hr h
    exact leaf_B hn hp hr h
  | succ n ih =>
    intro t p v bs r L hs hn hp hr h
    cases t with
    | inl x => exact leaf_B hn hp hr h
    | inr ts =>
      obtain ⟨hk, hfd, hne⟩ := struct_bd hs hn
      simp only [lieP] at h
      cases hc : cut v with
      | none => rw [hc] at h; cases h
      | some ps =>
        rw [hc] at h
        simp only at h
        split at h
        · rename_i hl
          cases hf : lieF (List.zip (List.zipWith (lieP n) ts ps) (places (0, 1) (ts.map (sz n)))) [] with
          | none => rw [hf] at h; cases h
          | some L' =>
            rw [hf] at h
            simp only [Option.map_some] at h
            cases h
            unfold cut at hc
            split at hc
            · rename_i hcond
              cases v with
              | nil => simp at hcond
              | cons c s =>
                obtain ⟨hc1, hc2, hc3⟩ := hcond
                simp at hc2
                subst hc2
                simp at hc
                have hsne : s ≠ [] := by intro e; subst e; simp at hc1
                have hlast : s.getLast? = some 125 := by
                  rw [List.getLast?_cons] at hc3
                  cases hx : s.getLast? with
                  | none => rw [List.getLast?_eq_none_iff] at hx; exact absurd hx hsne
                  | some y => rw [hx] at hc3; simpa using hc3
                obtain ⟨_, h2⟩ := cutGo_join s 0 [] ps hc hsne hlast
                simp at h2
                rw [parts_eq ts hne, List.map_cons, show ∀ (x : Pt) (xs : List Pt), x :: xs = [x] ++ xs from fun _ _ => rfl, layAll_append, List.cons_append, show layAll [(markP 123).sh p] (123 :: (s ++ r)) bs = _ from layAll_mark_of (c := 123) _ _]
                simp only [Option.bind_some]
                have := fields_B ih ts ps (0, 1) p r bs [] L' hne hl hk (by simp) (by simp) (by omega) rfl hf
                rw [over_nil] at this
                rw [h2, List.append_assoc, List.cons_append, List.nil_append, this, over_pad]
            · cases hc
        · cases h

/-- The two ways agree. -/
theorem lay_lie {n : Nat} (t : Ty n) (v : List UInt8) (f : UInt8) (hs : Sm n t) (hn : Nm n t) :
    (match layAll (parts n t) v (List.replicate (sz n t).1 f) with
      | some ([], bs) => some bs
      | _ => none) = (lieP n t v).map fun L => L.map fun x => x.getD f := by
  have e0 : (parts n t).map (Pt.sh 0) = parts n t := by
    have : ∀ x : Pt, Pt.sh 0 x = x := fun x => by simp [Pt.sh]
    rw [show Pt.sh 0 = id from funext this]; simp
  apply Option.ext
  intro bs
  constructor
  · intro h
    split at h
    · rename_i bs0 hl
      cases h
      rw [← e0] at hl
      obtain ⟨v', L, e1, _, e3, e4⟩ := la_all n t 0 v _ [] bs hs hn (by simp) hl
      rw [List.append_nil] at e1
      subst e1
      rw [e3, e4]
      simp only [Option.map_some]
      rw [over_all _ _ _ (lie_len n t v L hs e3)]
    · cases h
  · intro h
    cases hl : lieP n t v with
    | none => rw [hl] at h; cases h
    | some L =>
      rw [hl] at h
      simp only [Option.map_some] at h
      cases h
      have := lb_all n t 0 v (List.replicate (sz n t).1 f) [] L hs hn (by simp) (by intro c hc; cases hc) hl
      rw [List.append_nil, e0] at this
      rw [this]
      simp only
      rw [over_all _ _ _ (lie_len n t v L hs hl)]
end Go.Proofs.Ytghggcehloiemaa.P
