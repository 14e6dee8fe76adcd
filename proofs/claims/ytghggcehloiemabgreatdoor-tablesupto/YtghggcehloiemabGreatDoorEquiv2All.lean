import Derived.Test.YtghggcehloiemabGreatDoorRefLie2All
import Derived.Test.YtghggcehloiemabGreatDoorRefStruct
import Derived.Test.YtghggcehloiemabGreatDoorHexAll
namespace Go.Proofs.YtghggcehloiemabGreatDoor.P

theorem digs_split (s : List UInt8) : s = digs s ++ s.drop (digs s).length := by
  induction s with
  | nil => rfl
  | cons a s ih =>
    by_cases ha : isDig a = true
    · have e : digs (a :: s) = a :: digs s := by simp [digs, ha]
      rw [e, List.length_cons, List.drop_succ_cons, List.cons_append, ← ih]
    · have e : digs (a :: s) = [] := by simp [digs, ha]
      rw [e]; rfl
/-- (A) at a leaf. -/
theorem leafA {l : List UInt8} {x : Bool × Nat} {r : List UInt8} (hl : leafy l = true) (h : rdLeaf l = some (x, r)) : ∃ p, l = p ++ r ∧ Bal p ∧ rleaf p = some x ∧ p.head? ≠ some 123 := by
  cases l with
  | nil => simp [rdLeaf] at h
  | cons c s =>
    have hc : c = 117 ∨ c = 98 := by simpa [leafy] using hl
    have key : ∀ (most n k : Nat), most ≤ 99 → rdnum most s = some (n, k) → s = digs s ++ s.drop k ∧ Bal (c :: digs s) ∧ rnum (digs s) = n ∧ n ≤ most := by
      intro most n k hm hn
      obtain ⟨h1, h2, h3, h4, h5, h6⟩ := rdnum_short hm hn
      have hdl : (digs s).length ≤ 10 := by omega
      refine ⟨?_, ?_, ?_, h6⟩
      · rw [h2]; exact digs_split s
      · apply bal_plain
        intro y hy
        rcases List.mem_cons.1 hy with rfl | hy
        · rcases hc with rfl | rfl <;> decide
        · have := isDig_sub (digs_all s y hy)
          refine ⟨?_, ?_, ?_⟩ <;> (rintro rfl; simp at this)
      · rw [rnum_of (fun c hc => digs_all s c hc) (by omega) hdl h5, h3]
    unfold rdLeaf at h
    simp only at h
    split at h
    · rename_i hc117
      cases hn : rdnum 4 s with
      | none => rw [hn] at h; cases h
      | some y =>
        obtain ⟨n, k⟩ := y
        obtain ⟨e1, e2, e3, e4⟩ := key 4 n k (by omega) hn
        rw [hn] at h
        simp only at h
        split at h
        · cases h
        · rename_i hok
          cases h
          refine ⟨c :: digs s, by rw [List.cons_append, ← e1], e2, ?_, by simp [hc117]⟩
          simp only [rleaf, if_pos hc117, e3]
          rw [if_pos (by omega)]; simp
    · rename_i hc117
      have hc98 : c = 98 := by rcases hc with h' | h'
                               · exact absurd h' hc117
                               · exact h'
      cases hn : rdnum 16 s with
      | none => rw [hn] at h; cases h
      | some y =>
        obtain ⟨n, k⟩ := y
        obtain ⟨e1, e2, e3, e4⟩ := key 16 n k (by omega) hn
        rw [hn] at h
        simp only at h
        split at h
        · cases h
        · rename_i hok
          cases h
          refine ⟨c :: digs s, by rw [List.cons_append, ← e1], e2, ?_, by simp [hc98]⟩
          simp only [rleaf, if_neg hc117, if_pos hc98, e3]
          rw [if_pos (by omega)]; simp

/-- (B) at a leaf. -/
theorem leafB {p : List UInt8} {x : Bool × Nat} {r : List UInt8} (h : rleaf p = some x) (hr : nodig r) : leafy (p ++ r) = true ∧ rdLeaf (p ++ r) = some (x, r) := by
  cases p with
  | nil => simp [rleaf] at h
  | cons c ds =>
    have key : ∀ most : Nat, 0 ≤ rnum ds → rnum ds ≤ most → rdnum most (ds ++ r) = some ((rnum ds).toNat, ds.length) := by
      intro most h0 hm
      obtain ⟨h1, h2, h3, h4, h5⟩ := rnum_pos h0
      have hd := digs_of_all ds r h1 hr
      unfold rdnum
      rw [hd, h5, if_neg]
      · simp
      · rintro (h | h | h)
        · subst h; simp at h2
        · exact h4 h
        · omega
    unfold rleaf at h
    simp only at h
    split at h
    · rename_i hc
      split at h
      · rename_i hv
        cases h
        refine ⟨by simp [leafy, hc], ?_⟩
        simp only [rdLeaf, List.cons_append, if_pos hc]
        rw [key 4 (by omega) (by omega)]
        simp only
        rw [if_neg (by omega)]
        simp
      · cases h
    · rename_i hc
      split at h
      · rename_i hc2
        split at h
        · rename_i hv
          cases h
          refine ⟨by simp [leafy, hc2], ?_⟩
          simp only [rdLeaf, List.cons_append, if_neg hc]
          rw [key 16 (by omega) (by omega)]
          simp only
          rw [if_neg (by omega)]
          simp
        · cases h
      · cases h

theorem rq_leaf {n : Nat} {l : List UInt8} (h : l.head? ≠ some 123) : rq n l = (rleaf l).map (lf n) := by cases n <;> simp [rq, h]
theorem rq_struct {n : Nat} {l : List UInt8} (h : l.head? = some 123) : rq (n + 1) l = (cut l).bind (fun ps => if 8 < ps.length then none else (allM (rq n) ps).map Sum.inr) := by
  rw [rq, if_pos h]; cases cut l <;> rfl

theorem stepA {n : Nat} (ih : ∀ (l : List UInt8) (t : Ty n) (r : List UInt8), rd n l = some (t, r) → ∃ p, l = p ++ r ∧ Bal p ∧ rq n p = some t) :
    ∀ (k : Nat) (acc : List (Ty n)) (s : List UInt8) (ts : List (Ty n)) (r : List UInt8), rdF (rd n) k acc s = some (ts, r) →
      ∃ (ps : List (List UInt8)) (us : List (Ty n)), ts = acc ++ us ∧ allM (rq n) ps = some us ∧ ps ≠ [] ∧ ps.length ≤ k ∧ (∀ p ∈ ps, Bal p) ∧ s = join ps ++ 125 :: r := by
  intro k
  induction k with
  | zero => intro acc s ts r h; simp [rdF] at h
  | succ k ihk =>
    intro acc s ts r h
    rw [rdF] at h
    split at h
    · cases h
    · cases h
    · rename_i t c r' hf
      obtain ⟨p, hs, hb, hq⟩ := ih _ _ _ hf
      split at h
      · rename_i hc
        cases h
        subst hc
        exact ⟨[p], [t], rfl, by simp [allM, hq], by simp, by simp, by intro x hx; simp at hx; subst hx; exact hb, hs⟩
      · split at h
        · rename_i hc
          subst hc
          obtain ⟨ps, us, h1, h2, h3, h4, h5, h6⟩ := ihk _ _ _ _ h
          refine ⟨p :: ps, t :: us, by rw [h1]; simp, by simp [allM, hq, h2], by simp, by simp; omega, ?_, ?_⟩
          · intro x hx
            rcases List.mem_cons.1 hx with rfl | hx
            · exact hb
            · exact h5 x hx
          · rw [hs, join_cons p h3, h6]; simp
        · cases h

theorem rdA : ∀ (n : Nat) (l : List UInt8) (t : Ty n) (r : List UInt8), rd n l = some (t, r) → ∃ p, l = p ++ r ∧ Bal p ∧ rq n p = some t := by
  intro n
  have leafcase : ∀ (n : Nat) (l : List UInt8) (t : Ty n) (r : List UInt8), leafy l = true → rd n l = some (t, r) → ∃ p, l = p ++ r ∧ Bal p ∧ rq n p = some t := by
    intro n l t r hl h
    rw [rd_leafy _ _ hl] at h
    cases hx : rdLeaf l with
    | none => rw [hx] at h; cases h
    | some y =>
      obtain ⟨x, r'⟩ := y
      rw [hx] at h
      simp at h
      obtain ⟨rfl, rfl⟩ := h
      obtain ⟨p, h1, h2, h3, h4⟩ := leafA hl hx
      exact ⟨p, h1, h2, by rw [rq_leaf h4, h3]; rfl⟩
  induction n with
  | zero =>
    intro l t r h
    by_cases hl : leafy l = true
    · exact leafcase 0 l t r hl h
    · simp [rd, hl] at h
  | succ n ih =>
    intro l t r h
    by_cases hl : leafy l = true
    · exact leafcase _ l t r hl h
    · rw [rd_else _ _ (by simpa using hl)] at h
      cases l with
      | nil => simp [rdS] at h
      | cons c s =>
        simp only [rdS] at h
        split at h
        · rename_i hc
          subst hc
          cases hx : rdF (rd n) 8 [] s with
          | none => rw [hx] at h; cases h
          | some y =>
            obtain ⟨ts, r'⟩ := y
            rw [hx] at h
            simp at h
            obtain ⟨rfl, rfl⟩ := h
            obtain ⟨ps, us, h1, h2, h3, h4, h5, h6⟩ := stepA ih 8 [] s ts _ hx
            simp at h1
            subst h1
            refine ⟨123 :: join ps ++ [125], by rw [h6]; simp, bal_struct ps h3 h5, ?_⟩
            have hcut : cut (123 :: join ps ++ [125]) = some ps := by
              unfold cut
              rw [if_pos ⟨by simp, by simp, by simp [List.getLast?_cons]⟩]
              simpa using cut_join ps h3 h5
            rw [rq_struct (by simp), hcut]
            simp only [Option.bind_some]
            rw [if_neg (by omega), h2]; rfl
        · cases h

theorem stepB {n : Nat} (ih : ∀ (p : List UInt8) (t : Ty n) (r : List UInt8), rq n p = some t → nodig r → rd n (p ++ r) = some (t, r)) :
    ∀ (ps : List (List UInt8)) (k : Nat) (acc us : List (Ty n)) (r : List UInt8), ps ≠ [] → ps.length ≤ k → allM (rq n) ps = some us → rdF (rd n) k acc (join ps ++ 125 :: r) = some (acc ++ us, r) := by
  intro ps
  induction ps with
  | nil => intro k acc us r h; exact absurd rfl h
  | cons p ps ihp =>
    intro k acc us r _ hk h
    obtain ⟨k, rfl⟩ : ∃ k', k = k' + 1 := ⟨k - 1, by simp at hk; omega⟩
    rw [allM] at h
    cases hq : rq n p with
    | none => rw [hq] at h; cases h
    | some t =>
      rw [hq] at h
      cases hu : allM (rq n) ps with
      | none => rw [hu] at h; cases h
      | some vs =>
        rw [hu] at h
        simp at h
        subst h
        by_cases he : ps = []
        · subst he
          simp [allM] at hu
          subst hu
          rw [join_one, rdF, ih p t (125 :: r) hq (by intro c hc; simp at hc; subst hc; decide)]
          simp
        · rw [join_cons p he, List.append_assoc, rdF, ih p t _ hq (by intro c hc; simp at hc; subst hc; decide)]
          simp only [List.cons_append]
          rw [if_neg (by decide), if_pos trivial, ihp k (acc ++ [t]) vs r he (by simp at hk; omega) hu]
          simp

theorem rdB : ∀ (n : Nat) (p : List UInt8) (t : Ty n) (r : List UInt8), rq n p = some t → nodig r → rd n (p ++ r) = some (t, r) := by
  intro n
  have leafcase : ∀ (n : Nat) (p : List UInt8) (t : Ty n) (r : List UInt8), p.head? ≠ some 123 → rq n p = some t → nodig r → rd n (p ++ r) = some (t, r) := by
    intro n p t r hh h hr
    rw [rq_leaf hh] at h
    cases hx : rleaf p with
    | none => rw [hx] at h; cases h
    | some x =>
      rw [hx] at h
      simp at h
      subst h
      obtain ⟨h1, h2⟩ := leafB hx hr
      rw [rd_leafy _ _ h1, h2]; rfl
  induction n with
  | zero =>
    intro p t r h hr
    by_cases hh : p.head? = some 123
    · simp [rq, hh] at h
    · exact leafcase 0 p t r hh h hr
  | succ n ih =>
    intro p t r h hr
    by_cases hh : p.head? = some 123
    · rw [rq_struct hh] at h
      cases hc : cut p with
      | none => rw [hc] at h; cases h
      | some ps =>
        rw [hc] at h
        simp only [Option.bind_some] at h
        split at h
        · cases h
        · rename_i h8
          cases ha : allM (rq n) ps with
          | none => rw [ha] at h; cases h
          | some ts =>
            rw [ha] at h
            have h' := Option.some.inj h
            subst h'
            unfold cut at hc
            split at hc
            · rename_i hcond
              cases p with
              | nil => simp at hh
              | cons c s =>
                simp at hh
                subst hh
                simp at hc
                have hsne : s ≠ [] := by intro e; subst e; simp at hcond
                have hlast : s.getLast? = some 125 := by
                  have h3 := hcond.2.2
                  rw [List.getLast?_cons] at h3
                  cases hx : s.getLast? with
                  | none => rw [List.getLast?_eq_none_iff] at hx; exact absurd hx hsne
                  | some y => rw [hx] at h3; simpa using h3
                obtain ⟨h1, h2⟩ := cutGo_join s 0 [] ps hc hsne hlast
                simp at h2
                have hleaf : leafy ((123 : UInt8) :: s ++ r) = false := by simp [leafy]
                rw [rd_else _ _ hleaf]
                simp only [rdS, List.cons_append, if_pos]
                rw [h2, List.append_assoc, List.cons_append, List.nil_append, stepB ih ps 8 [] ts r h1 (by omega) ha]
                rfl
            · cases hc
    · exact leafcase _ p t r hh h hr

theorem fold_ge {l : List (Nat × Nat)} : (∀ x ∈ l, 1 ≤ x.2 ∧ x.2 ≤ 4) → ∀ a : Nat × Nat, 1 ≤ a.2 → a.2 ≤ 4 → ∀ x ∈ l, x.1 ≤ (l.foldl lay1 a).1 := by
  induction l with
  | nil => intro _ a _ _ x hx; simp at hx
  | cons y l ih =>
    intro h a h1 h2 x hx
    have hy := h y (by simp)
    have hl := lay1_le (a := a) hy.1 hy.2
    have hm : 1 ≤ (lay1 a y).2 ∧ (lay1 a y).2 ≤ 4 := by simp only [lay1]; omega
    rw [List.foldl_cons]
    rcases List.mem_cons.1 hx with rfl | hx
    · have := fold_step (l := l) (fun z hz => h z (by simp [hz])) (lay1 a x) hm.1 hm.2
      omega
    · exact ih (fun z hz => h z (by simp [hz])) _ hm.1 hm.2 x hx

theorem rq_good : ∀ (n : Nat) (l : List UInt8) (t : Ty n), rq n l = some t → 1 ≤ (sz n t).2 ∧ (sz n t).2 ≤ 4 := by
  intro n
  have leafcase : ∀ (n : Nat) (l : List UInt8) (t : Ty n), (rleaf l).map (lf n) = some t → 1 ≤ (sz n t).2 ∧ (sz n t).2 ≤ 4 := by
    intro n l t h
    cases hx : rleaf l with
    | none => rw [hx] at h; cases h
    | some x => rw [hx] at h; simp at h; subst h; rw [sz_lf]; have := rleaf_good hx; exact ⟨this.1, this.2.1⟩
  induction n with
  | zero =>
    intro l t h
    by_cases hh : l.head? = some 123
    · simp [rq, hh] at h
    · rw [rq_leaf hh] at h; exact leafcase 0 l t h
  | succ n ih =>
    intro l t h
    by_cases hh : l.head? = some 123
    · rw [rq_struct hh] at h
      cases hc : cut l with
      | none => rw [hc] at h; cases h
      | some ps =>
        rw [hc] at h
        simp only [Option.bind_some] at h
        split at h
        · cases h
        · cases ha : allM (rq n) ps with
          | none => rw [ha] at h; cases h
          | some ts =>
            rw [ha] at h
            have h' := Option.some.inj h
            subst h'
            obtain ⟨h1, h2, _⟩ := fold_step (l := ts.map (sz n)) (by
              intro x hx
              obtain ⟨t, ht, rfl⟩ := List.mem_map.1 hx
              obtain ⟨y, _, hy⟩ := allM_mem ha t ht
              exact ih _ _ hy) (0, 1) (by simp) (by simp)
            exact ⟨h1, h2⟩
    · rw [rq_leaf hh] at h; exact leafcase _ l t h

theorem allM_congr {α β : Type} {f g : α → Option β} : ∀ {l : List α} {ys : List β}, allM f l = some ys → (∀ x y, x ∈ l → y ∈ ys → f x = some y → g x = some y) → allM g l = some ys := by
  intro l
  induction l with
  | nil => intro ys h _; simpa [allM] using h
  | cons a l ih =>
    intro ys h hfg
    rw [allM] at h
    cases ha : f a with
    | none => rw [ha] at h; cases h
    | some b =>
      rw [ha] at h
      cases hl : allM f l with
      | none => rw [hl] at h; cases h
      | some bs =>
        rw [hl] at h
        simp at h
        subst h
        rw [allM, hfg a b (by simp) (by simp) ha, ih hl (fun x y hx hy => hfg x y (by simp [hx]) (by simp [hy]))]
        rfl

theorem rp_iff : ∀ (n : Nat) (l : List UInt8) (t : Ty n), rp n l = some t ↔ rq n l = some t ∧ (sz n t).1 ≤ 32 := by
  intro n
  have leafcase : ∀ (n : Nat) (l : List UInt8) (t : Ty n), (rleaf l).map (lf n) = some t → (sz n t).1 ≤ 32 := by
    intro n l t h
    cases hx : rleaf l with
    | none => rw [hx] at h; cases h
    | some x => rw [hx] at h; simp at h; subst h; rw [sz_lf]; exact (rleaf_good hx).2.2
  induction n with
  | zero =>
    intro l t
    have e : rp 0 l = rq 0 l := rfl
    rw [e]
    refine ⟨fun h => ⟨h, ?_⟩, fun h => h.1⟩
    by_cases hh : l.head? = some 123
    · simp [rq, hh] at h
    · rw [rq_leaf hh] at h; exact leafcase 0 l t h
  | succ n ih =>
    intro l t
    by_cases hh : l.head? = some 123
    · constructor
      · intro h
        refine ⟨?_, (rp_good _ _ _ h).2.2⟩
        rw [rp, if_pos hh] at h
        rw [rq_struct hh]
        cases hc : cut l with
        | none => rw [hc] at h; cases h
        | some ps =>
          rw [hc] at h
          simp only at h
          simp only [Option.bind_some]
          split at h
          · cases h
          · rename_i h8
            rw [if_neg h8]
            cases ha : allM (rp n) ps with
            | none => rw [ha] at h; cases h
            | some ts =>
              rw [ha] at h
              simp only at h
              split at h
              · cases h
                rw [allM_congr ha (fun x y _ _ hf => ((ih x y).1 hf).1)]; rfl
              · cases h
      · rintro ⟨h, hsz⟩
        rw [rp, if_pos hh]
        rw [rq_struct hh] at h
        cases hc : cut l with
        | none => rw [hc] at h; cases h
        | some ps =>
          rw [hc] at h
          simp only [Option.bind_some] at h
          simp only
          split at h
          · cases h
          · rename_i h8
            rw [if_neg h8]
            cases ha : allM (rq n) ps with
            | none => rw [ha] at h; cases h
            | some ts =>
              rw [ha] at h
              have h' := Option.some.inj h
              subst h'
              have hst : ∀ x ∈ ts.map (sz n), 1 ≤ x.2 ∧ x.2 ≤ 4 := by
                intro x hx
                obtain ⟨t, ht, rfl⟩ := List.mem_map.1 hx
                obtain ⟨y, _, hy⟩ := allM_mem ha t ht
                exact rq_good _ _ _ hy
              obtain ⟨h1, _, _⟩ := fold_step hst (0, 1) (by simp) (by simp)
              have hup := le_up (fold (ts.map (sz n))).1 (fold (ts.map (sz n))).2 h1
              have hall : allM (rp n) ps = some ts := allM_congr ha (fun x y _ hy hf => (ih x y).2 ⟨hf, by
                have := fold_ge hst (0, 1) (by simp) (by simp) (sz n y) (List.mem_map_of_mem hy)
                simp only [sz, closed] at hsz
                have e : (fold (ts.map (sz n))) = (ts.map (sz n)).foldl lay1 (0, 1) := rfl
                rw [e] at hup hsz
                omega⟩)
              rw [hall]
              simp only
              rw [if_pos hsz]
    · have e : rp (n + 1) l = rq (n + 1) l := by rw [rq_leaf hh]; simp [rp, hh]
      rw [e]
      refine ⟨fun h => ⟨h, ?_⟩, fun h => h.1⟩
      rw [rq_leaf hh] at h; exact leafcase _ l t h

theorem rd_rp (l : List UInt8) : (match rd 4 l with
    | some (t, []) => if (sz 4 t).1 ≤ 32 then some t else none
    | _ => none) = rp 4 l := by
  apply Option.ext
  intro t
  rw [rp_iff]
  constructor
  · intro h
    split at h
    · rename_i t' hr
      split at h
      · rename_i hle
        cases h
        obtain ⟨p, h1, _, h3⟩ := rdA 4 l t [] hr
        rw [List.append_nil] at h1
        subst h1
        exact ⟨h3, hle⟩
      · cases h
    · cases h
  · rintro ⟨h, hle⟩
    have := rdB 4 l t [] h (by intro c hc; cases hc)
    rw [List.append_nil] at this
    rw [this]
    simp only
    rw [if_pos hle]

end Go.Proofs.YtghggcehloiemabGreatDoor.P
namespace Go.Proofs.YtghggcehloiemabGreatDoor
open Go.RowKit
set_option linter.unusedVariables false
set_option maxRecDepth 16000

namespace P
def Sm : (n : Nat) → Ty n → Prop
  | 0, l => 1 ≤ l.2 ∧ l.2 ≤ 16
  | _ + 1, .inl l => 1 ≤ l.2 ∧ l.2 ≤ 16
  | n + 1, .inr ts => (sz (n + 1) (.inr ts)).1 ≤ 32 ∧ ts.length ≤ 8 ∧ ts ≠ [] ∧ ∀ t ∈ ts, Sm n t ∧ 1 ≤ (sz n t).2 ∧ (sz n t).2 ≤ 4

theorem rleaf_sm {l : List UInt8} {x : Bool × Nat} (h : rleaf l = some x) : 1 ≤ x.2 ∧ x.2 ≤ 16 := by
  unfold rleaf at h
  cases l with
  | nil => cases h
  | cons c r =>
    simp only at h
    split at h
    · split at h
      · cases h; simp only; omega
      · cases h
    · split at h
      · split at h
        · cases h; simp only; omega
        · cases h
      · cases h
theorem sm_lf (n : Nat) (l : Bool × Nat) (h : 1 ≤ l.2 ∧ l.2 ≤ 16) : Sm n (lf n l) := by cases n <;> exact h

theorem cutGo_ne : ∀ (r : List UInt8) (d : Int) (cur : List UInt8) (ps : List (List UInt8)), cutGo d cur r = some ps → r ≠ [] → ps ≠ [] := by
  intro r
  induction r with
  | nil => intro d cur ps _ h; exact absurd rfl h
  | cons c r ih =>
    intro d cur ps h _
    rw [cutGo] at h
    split at h
    · cases h
    · split at h
      · split at h
        · cases h; simp
        · cases h
      · rename_i hr
        split at h
        · cases hx : cutGo 0 [] r with
          | none => rw [hx] at h; cases h
          | some qs => rw [hx] at h; simp at h; subst h; simp
        · exact ih _ _ ps h hr
theorem cut_ne {l : List UInt8} {ps : List (List UInt8)} (h : cut l = some ps) : ps ≠ [] := by
  unfold cut at h
  split at h
  · rename_i hc
    refine cutGo_ne _ _ _ _ h (fun e => ?_)
    have := congrArg List.length e
    simp only [List.length_drop, List.length_nil] at this
    omega
  · cases h
theorem allM_length {α β : Type} {f : α → Option β} : ∀ {l : List α} {ys : List β}, allM f l = some ys → ys.length = l.length := by
  intro l
  induction l with
  | nil => intro ys h; simp [allM] at h; subst h; rfl
  | cons a l ih =>
    intro ys h
    rw [allM] at h
    cases ha : f a with
    | none => rw [ha] at h; cases h
    | some b =>
      rw [ha] at h
      cases hl : allM f l with
      | none => rw [hl] at h; cases h
      | some bs => rw [hl] at h; simp at h; subst h; simp [ih hl]

theorem rp_sm : ∀ (n : Nat) (l : List UInt8) (t : Ty n), rp n l = some t → Sm n t := by
  intro n
  induction n with
  | zero =>
    intro l t h
    rw [rp] at h
    split at h
    · cases h
    · cases hx : rleaf l with
      | none => rw [hx] at h; cases h
      | some x => rw [hx] at h; simp at h; subst h; exact sm_lf 0 x (rleaf_sm hx)
  | succ n ih =>
    intro l t h
    have hg := rp_good _ _ _ h
    rw [rp] at h
    split at h
    · split at h
      · cases h
      · rename_i ps hcut
        split at h
        · cases h
        · rename_i h8
          split at h
          · cases h
          · rename_i ts hts
            split at h
            · rename_i hle
              cases h
              have hlen := allM_length hts
              refine ⟨hle, by omega, ?_, ?_⟩
              · intro e
                subst e
                have := cut_ne hcut
                apply this
                exact List.eq_nil_of_length_eq_zero (by simpa using hlen.symm)
              · intro t ht
                obtain ⟨y, _, hy⟩ := allM_mem hts t ht
                have h1 := rp_good _ _ _ hy
                exact ⟨ih _ _ hy, h1.1, h1.2.1⟩
            · cases h
    · cases hx : rleaf l with
      | none => rw [hx] at h; cases h
      | some x => rw [hx] at h; simp at h; subst h; exact sm_lf _ x (rleaf_sm hx)

theorem sm_size : ∀ (n : Nat) (t : Ty n), Sm n t → 1 ≤ (sz n t).1 ∧ (sz n t).1 ≤ 32 := by
  intro n
  induction n with
  | zero => intro t h; have h' : 1 ≤ t.2 ∧ t.2 ≤ 16 := h; exact ⟨h'.1, by have := h'.2; show t.2 ≤ 32; omega⟩
  | succ n ih =>
    intro t h
    cases t with
    | inl l => have h' : 1 ≤ l.2 ∧ l.2 ≤ 16 := h; exact ⟨h'.1, by have := h'.2; show l.2 ≤ 32; omega⟩
    | inr ts =>
      obtain ⟨h1, h2, h3, h4⟩ := h
      refine ⟨?_, h1⟩
      have hst : ∀ x ∈ ts.map (sz n), 1 ≤ x.2 ∧ x.2 ≤ 4 := by
        intro x hx
        obtain ⟨t, ht, rfl⟩ := List.mem_map.1 hx
        exact (h4 t ht).2
      obtain ⟨g1, _, _⟩ := fold_step hst (0, 1) (by simp) (by simp)
      have hup := le_up (fold (ts.map (sz n))).1 (fold (ts.map (sz n))).2 g1
      cases ts with
      | nil => exact absurd rfl h3
      | cons t ts =>
        have hge := fold_ge hst (0, 1) (by simp) (by simp) (sz n t) (by simp)
        have := (ih t (h4 t (by simp)).1).1
        have e : (fold ((t :: ts).map (sz n))) = ((t :: ts).map (sz n)).foldl lay1 (0, 1) := rfl
        simp only [sz, closed]
        rw [e] at hup ⊢
        omega
theorem places_bd : ∀ (xs : List (Nat × Nat)) (a : Nat × Nat), (∀ x ∈ xs, 1 ≤ x.2 ∧ x.2 ≤ 4) → 1 ≤ a.2 → a.2 ≤ 4 → ∀ p ∈ places a xs, p ≤ (xs.foldl lay1 a).1 := by
  intro xs
  induction xs with
  | nil => intro a _ _ _ p hp; simp [places] at hp
  | cons x xs ih =>
    intro a h h1 h2 p hp
    have hx := h x (by simp)
    have hl := lay1_le (a := a) hx.1 hx.2
    have hm : 1 ≤ (lay1 a x).2 ∧ (lay1 a x).2 ≤ 4 := by simp only [lay1]; omega
    have hm2 := fold_step (l := xs) (fun z hz => h z (by simp [hz])) (lay1 a x) hm.1 hm.2
    rw [List.foldl_cons]
    simp only [places, List.mem_cons] at hp
    rcases hp with rfl | hp
    · omega
    · exact ih _ (fun z hz => h z (by simp [hz])) hm.1 hm.2 p hp

def Nm : (n : Nat) → Ty n → Prop
  | 0, l => l.1 = true → l.2 ≤ 4
  | _ + 1, .inl l => l.1 = true → l.2 ≤ 4
  | n + 1, .inr ts => ∀ t ∈ ts, Nm n t
theorem rleaf_nm {l : List UInt8} {x : Bool × Nat} (h : rleaf l = some x) : x.1 = true → x.2 ≤ 4 := by
  unfold rleaf at h
  cases l with
  | nil => cases h
  | cons c r =>
    simp only at h
    split at h
    · split at h
      · cases h; intro _; simp only; omega
      · cases h
    · split at h
      · split at h
        · cases h; intro h; cases h
        · cases h
      · cases h
theorem nm_lf (n : Nat) (l : Bool × Nat) (h : l.1 = true → l.2 ≤ 4) : Nm n (lf n l) := by cases n <;> exact h
theorem rp_nm : ∀ (n : Nat) (l : List UInt8) (t : Ty n), rp n l = some t → Nm n t := by
  intro n
  induction n with
  | zero =>
    intro l t h
    rw [rp] at h
    split at h
    · cases h
    · cases hx : rleaf l with
      | none => rw [hx] at h; cases h
      | some x => rw [hx] at h; simp at h; subst h; exact nm_lf 0 x (rleaf_nm hx)
  | succ n ih =>
    intro l t h
    rw [rp] at h
    split at h
    · split at h
      · cases h
      · split at h
        · cases h
        · split at h
          · cases h
          · rename_i ts hts
            split at h
            · cases h
              intro t ht
              obtain ⟨y, _, hy⟩ := allM_mem hts t ht
              exact ih _ _ hy
            · cases h
    · cases hx : rleaf l with
      | none => rw [hx] at h; cases h
      | some x => rw [hx] at h; simp at h; subst h; exact nm_lf _ x (rleaf_nm hx)

end P

theorem int_cell {w : World} {base g N cap i : Nat} {xs : List Value} {x : Value} (h : w.ownsRow base 3 1 (.slice (some ⟨g, 0, none⟩) N cap) xs.length xs) (hx : xs[i]? = some x) : w.cell? ⟨g, i, none⟩ = some x ∧ N ≤ cap := by
  obtain ⟨h1, h2⟩ := h
  rcases h2 with ⟨h2, _⟩ | ⟨g', cap', cur, hv, hb, hg, hn, hm, hsz, htk⟩
  · cases h2
  · cases hv
    refine ⟨?_, hn⟩
    rw [cell_of_row w g _ _ _ _ hg]
    have hl : i < xs.length := (List.getElem?_eq_some_iff.1 hx).1
    rw [← htk, List.getElem?_take_of_lt (by omega)] at hx
    simpa using hx
theorem flat_get : ∀ (fs : List (Array Value)) (i k : Nat) (c : Array Value), (∀ x ∈ fs, x.size = 5) → fs[i]? = some c → k < 5 → (fs.flatMap Array.toList)[i * 5 + k]? = c.toList[k]? := by
  intro fs
  induction fs with
  | nil => intro i k c _ h; simp at h
  | cons y fs ih =>
    intro i k c hall h hk
    have hl : y.toList.length = 5 := by simpa using hall y (by simp)
    rw [List.flatMap_cons]
    cases i with
    | zero =>
      simp at h; subst h
      rw [List.getElem?_append_left (by omega)]; simp
    | succ i =>
      simp at h
      rw [List.getElem?_append_right (by omega), hl, show (i + 1) * 5 + k - 5 = i * 5 + k by omega]
      exact ih i k c (fun x hx => hall x (by simp [hx])) h hk
theorem typ_cell {w : World} {base g N cap i n : Nat} {fs : List (Array Value)} {a b c d e : Value} (h : w.ownsRow base 121 5 (.slice (some ⟨g, 0, none⟩) N cap) n (fs.flatMap Array.toList)) (hall : ∀ x ∈ fs, x.size = 5) (hn : fs.length = n) (hx : fs[i]? = some #[a, b, c, d, e]) :
    w.cell? ⟨g, i * 5, none⟩ = some a ∧ w.cell? ⟨g, i * 5 + 1, none⟩ = some b ∧ w.cell? ⟨g, i * 5 + 2, none⟩ = some c ∧ w.cell? ⟨g, i * 5 + 3, none⟩ = some d ∧ w.cell? ⟨g, i * 5 + 4, none⟩ = some e ∧ N ≤ cap := by
  obtain ⟨h1, h2⟩ := h
  rcases h2 with ⟨h2, _⟩ | ⟨g', cap', cur, hv, hb, hg, hnn, hm, hsz, htk⟩
  · cases h2
  · cases hv
    have hk : i < fs.length := (List.getElem?_eq_some_iff.1 hx).1
    have key : ∀ j, j < 5 → w.cell? ⟨g, i * 5 + j, none⟩ = [a, b, c, d, e][j]? := by
      intro j hj
      rw [cell_of_row w g _ _ _ _ hg]
      have hget := flat_get fs i j _ hall hx hj
      rw [← htk, List.getElem?_take_of_lt (by omega)] at hget
      simpa using hget
    exact ⟨key 0 (by omega), key 1 (by omega), key 2 (by omega), key 3 (by omega), key 4 (by omega), hnn⟩

end Go.Proofs.YtghggcehloiemabGreatDoor
namespace Go.Proofs.YtghggcehloiemabGreatDoor.P
set_option linter.unusedVariables false

theorem padTo_length (L : List (Option UInt8)) (n : Nat) (h : L.length ≤ n) : (padTo L n).length = n := by
  simp [padTo]; omega
theorem lieLeaf_len {l : Bool × Nat} {s : List UInt8} {L : List (Option UInt8)} (h : lieLeaf l s = some L) : L.length = l.2 := by
  unfold lieLeaf at h
  split at h
  · split at h
    · cases h; simp [le_length]
    · cases h
  · split at h
    · cases hr : rdhex l.2 s with
      | none => rw [hr] at h; cases h
      | some xs => rw [hr] at h; simp at h; subst h; simp [rdhex_length _ _ _ hr]
    · cases h

theorem lieF_len : ∀ (xs : List (Nat × Nat)) (ys : List (Option (List (Option UInt8)))) (a : Nat × Nat) (L L' : List (Option UInt8)), ys.length = xs.length → (∀ (i : Nat) y z, ys[i]? = some (some y) → xs[i]? = some z → y.length = z.1) → (∀ x ∈ xs, 1 ≤ x.2 ∧ x.2 ≤ 4) → L.length = a.1 →
    lieF (List.zip ys (places a xs)) L = some L' → L'.length = (xs.foldl lay1 a).1 := by
  intro xs
  induction xs with
  | nil => intro ys a L L' hl _ _ hL h; simp [places, lieF] at h; subst h; simpa using hL
  | cons x xs ih =>
    intro ys a L L' hl hy hx hL h
    cases ys with
    | nil => simp at hl
    | cons y ys =>
      simp only [places, List.zip_cons_cons, lieF] at h
      cases y with
      | none => cases h
      | some y =>
        simp only at h
        have h1 := hx x (by simp)
        have h2 := lay1_le (a := a) h1.1 h1.2
        have hup := le_up a.1 x.2 h1.1
        have hyl : y.length = x.1 := hy 0 y x rfl rfl
        rw [List.foldl_cons]
        refine ih ys (lay1 a x) _ L' (by simpa using hl) (fun i y z h3 h4 => hy (i + 1) y z (by simpa using h3) (by simpa using h4)) (fun z hz => hx z (by simp [hz])) ?_ h
        rw [List.length_append, padTo_length _ _ (by omega), hyl]
        exact h2.2.2

theorem lie_len : ∀ (n : Nat) (t : Ty n) (s : List UInt8) (L : List (Option UInt8)), Sm n t → lieP n t s = some L → L.length = (sz n t).1 := by
  intro n
  induction n with
  | zero => intro t s L _ h; exact lieLeaf_len h
  | succ n ih =>
    intro t s L hs h
    cases t with
    | inl l => exact lieLeaf_len h
    | inr ts =>
      simp only [lieP] at h
      split at h
      · cases h
      · rename_i ps hc
        split at h
        · rename_i hl
          cases hf : lieF (List.zip (List.zipWith (lieP n) ts ps) (places (0, 1) (ts.map (sz n)))) [] with
          | none => rw [hf] at h; cases h
          | some L0 =>
            rw [hf] at h
            simp at h
            subst h
            obtain ⟨h1, h2, h3, h4⟩ := hs
            have hst : ∀ x ∈ ts.map (sz n), 1 ≤ x.2 ∧ x.2 ≤ 4 := by
              intro x hx
              obtain ⟨t, ht, rfl⟩ := List.mem_map.1 hx
              exact (h4 t ht).2
            have hlen := lieF_len (ts.map (sz n)) _ (0, 1) [] L0 (by simp; omega) (by
              intro i y z hy hz
              rw [List.getElem?_map] at hz
              cases ht : ts[i]? with
              | none => rw [ht] at hz; cases hz
              | some t =>
                rw [ht] at hz
                simp at hz
                subst hz
                rw [List.getElem?_zipWith, ht] at hy
                cases hp : ps[i]? with
                | none => rw [hp] at hy; cases hy
                | some p =>
                  rw [hp] at hy
                  simp at hy
                  exact ih t p y (h4 t (List.mem_of_getElem? ht)).1 hy) hst rfl hf
            obtain ⟨g1, _, _⟩ := fold_step hst (0, 1) (by simp) (by simp)
            have hup := le_up (fold (ts.map (sz n))).1 (fold (ts.map (sz n))).2 g1
            have e : (fold (ts.map (sz n))) = (ts.map (sz n)).foldl lay1 (0, 1) := rfl
            apply padTo_length
            simp only [sz, closed]
            rw [hlen]
            rw [e] at hup ⊢
            exact hup
        · cases h

end Go.Proofs.YtghggcehloiemabGreatDoor.P
