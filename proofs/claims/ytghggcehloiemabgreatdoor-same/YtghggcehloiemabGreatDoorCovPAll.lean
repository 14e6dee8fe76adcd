import Derived.Test.YtghggcehloiemabGreatDoorRoundPAll
import Derived.Test.YtghggcehloiemabGreatDoorPrVAll
import Derived.Test.YtghggcehloiemabGreatDoorParseWAll
namespace Go.Proofs.YtghggcehloiemabGreatDoor.P
set_option linter.unusedVariables false

/-- The places where something lies. -/
def cov (ps : List Pt) : List Nat := ps.flatMap fun x => if x.kind = 0 then [] else List.range' x.place x.size
theorem cov_nil : cov [] = [] := rfl
theorem cov_cons (x : Pt) (ps : List Pt) : cov (x :: ps) = (if x.kind = 0 then [] else List.range' x.place x.size) ++ cov ps := by simp [cov]
theorem cov_append (A B : List Pt) : cov (A ++ B) = cov A ++ cov B := by simp [cov]
/-- The parts lie one behind the other. -/
def Inc : List Pt → Nat → Nat → Prop
  | [], lo, hi => lo ≤ hi
  | x :: ps, lo, hi => if x.kind = 0 then Inc ps lo hi else lo ≤ x.place ∧ Inc ps (x.place + x.size) hi
theorem Inc.le : ∀ {ps : List Pt} {lo hi : Nat}, Inc ps lo hi → lo ≤ hi
  | [], lo, hi, h => h
  | x :: ps, lo, hi, h => by
    unfold Inc at h
    split at h
    · exact Inc.le h
    · have := Inc.le h.2; omega
theorem Inc.low : ∀ {ps : List Pt} {lo lo' hi : Nat}, Inc ps lo hi → lo' ≤ lo → Inc ps lo' hi
  | [], lo, lo', hi, h, hl => Nat.le_trans hl h
  | x :: ps, lo, lo', hi, h, hl => by
    unfold Inc at h ⊢
    split
    · rename_i hk; rw [if_pos hk] at h; exact Inc.low h hl
    · rename_i hk; rw [if_neg hk] at h; exact ⟨by omega, h.2⟩
theorem Inc.high : ∀ {ps : List Pt} {lo hi hi' : Nat}, Inc ps lo hi → hi ≤ hi' → Inc ps lo hi'
  | [], lo, hi, hi', h, hl => Nat.le_trans h hl
  | x :: ps, lo, hi, hi', h, hl => by
    unfold Inc at h ⊢
    split
    · rename_i hk; rw [if_pos hk] at h; exact Inc.high h hl
    · rename_i hk; rw [if_neg hk] at h; exact ⟨h.1, Inc.high h.2 hl⟩
theorem Inc.app : ∀ {A B : List Pt} {lo mid hi : Nat}, Inc A lo mid → Inc B mid hi → Inc (A ++ B) lo hi
  | [], B, lo, mid, hi, h, hb => hb.low h
  | x :: A, B, lo, mid, hi, h, hb => by
    unfold Inc at h
    show Inc (x :: (A ++ B)) lo hi
    unfold Inc
    split
    · rename_i hk; rw [if_pos hk] at h; exact Inc.app h hb
    · rename_i hk; rw [if_neg hk] at h; exact ⟨h.1, Inc.app h.2 hb⟩
theorem Inc.left : ∀ {A B : List Pt} {lo hi : Nat}, Inc (A ++ B) lo hi → Inc A lo hi
  | [], B, lo, hi, h => h.le
  | x :: A, B, lo, hi, h => by
    have h : Inc (x :: (A ++ B)) lo hi := h
    unfold Inc at h ⊢
    split
    · rename_i hk; rw [if_pos hk] at h; exact Inc.left h
    · rename_i hk; rw [if_neg hk] at h; exact ⟨h.1, Inc.left h.2⟩
theorem Inc.shift : ∀ {A : List Pt} {lo hi : Nat} (p : Nat), Inc A lo hi → Inc (A.map (Pt.sh p)) (lo + p) (hi + p)
  | [], lo, hi, p, h => Nat.add_le_add_right h p
  | x :: A, lo, hi, p, h => by
    unfold Inc at h
    show Inc (x.sh p :: A.map (Pt.sh p)) _ _
    unfold Inc
    split
    · rename_i hk; rw [if_pos (show x.kind = 0 from hk)] at h; exact Inc.shift p h
    · rename_i hk
      rw [if_neg (show ¬ x.kind = 0 from hk)] at h
      refine ⟨Nat.add_le_add_right h.1 p, ?_⟩
      have := Inc.shift p h.2
      show Inc _ (x.place + p + x.size) _
      rw [show x.place + p + x.size = x.place + x.size + p by omega]; exact this
theorem inc_mark {c lo hi : Nat} {B : List Pt} : Inc (markP c :: B) lo hi ↔ Inc B lo hi := by
  constructor
  · intro h; unfold Inc at h; rw [if_pos (show (markP c).kind = 0 from rfl)] at h; exact h
  · intro h; unfold Inc; rw [if_pos (show (markP c).kind = 0 from rfl)]; exact h
theorem inc_dropLast {A : List Pt} {lo hi : Nat} (h : Inc A lo hi) : Inc A.dropLast lo hi := by
  by_cases he : A = []
  · subst he; exact h
  · rw [← List.dropLast_concat_getLast he] at h; exact h.left
theorem inc_body : ∀ (xs : List (List Pt × (Nat × Nat))) (a : Nat × Nat), (∀ y ∈ xs, 1 ≤ y.2.2 ∧ y.2.2 ≤ 4 ∧ Inc y.1 0 y.2.1) → Inc (body a xs) a.1 ((xs.map (·.2)).foldl lay1 a).1
  | [], a, _ => Nat.le_refl _
  | x :: xs, a, h => by
    have hx := h x (by simp)
    have ih := inc_body xs (lay1 a x.2) (fun y hy => h y (by simp [hy]))
    show Inc (x.1.map (Pt.sh (up a.1 x.2.2)) ++ markP 44 :: body (lay1 a x.2) xs) _ _
    have h1 := (hx.2.2).shift (up a.1 x.2.2)
    have h2 : x.2.1 + up a.1 x.2.2 = (lay1 a x.2).1 := by simp only [lay1]; omega
    rw [h2] at h1
    exact (h1.low (by have := le_up a.1 x.2.2 hx.1; omega)).app (inc_mark.2 ih)
/-- Structs have fields, leaves have bytes. -/
def Tr : (n : Nat) → Ty n → Prop
  | 0, l => 1 ≤ l.2
  | _ + 1, .inl l => 1 ≤ l.2
  | n + 1, .inr ts => ts ≠ [] ∧ ∀ t ∈ ts, Tr n t ∧ 1 ≤ (sz n t).2 ∧ (sz n t).2 ≤ 4
theorem tr_lf (n : Nat) (l : Bool × Nat) (h : 1 ≤ l.2) : Tr n (lf n l) := by cases n <;> exact h
theorem inc_leaf (l : Bool × Nat) : Inc [lpart l] 0 (lsz l).1 := by
  unfold Inc
  have : ¬ (lpart l).kind = 0 := by unfold lpart; cases l.1 <;> simp
  rw [if_neg this]
  refine ⟨Nat.zero_le _, ?_⟩
  show 0 + l.2 ≤ l.2
  omega
theorem inc_parts : ∀ (n : Nat) (t : Ty n), Tr n t → Inc (parts n t) 0 (sz n t).1
  | 0, l, h => inc_leaf l
  | n + 1, .inl l, h => inc_leaf l
  | n + 1, .inr ts, h => by
    have hb := inc_body (ts.map fun t => (parts n t, sz n t)) (0, 1) (fun y hy => by
      obtain ⟨t, ht, rfl⟩ := List.mem_map.1 hy
      exact ⟨(h.2 t ht).2.1, (h.2 t ht).2.2, inc_parts n t (h.2 t ht).1⟩)
    have e : (ts.map (fun t => (parts n t, sz n t))).map (·.2) = ts.map (sz n) := by simp [Function.comp_def]
    rw [e] at hb
    have hs := fold_step (l := ts.map (sz n)) (fun x hx => by
      obtain ⟨t, ht, rfl⟩ := List.mem_map.1 hx
      exact (h.2 t ht).2) (0, 1) (by simp) (by simp)
    show Inc (markP 123 :: ((body (0, 1) (ts.map fun t => (parts n t, sz n t))).dropLast ++ [markP 125])) 0 (closed (fold (ts.map (sz n)))).1
    refine inc_mark.2 (((inc_dropLast hb).high (Nat.le_refl _)).app (inc_mark.2 ?_))
    show (fold (ts.map (sz n))).1 ≤ _
    exact le_up _ _ hs.1
theorem cov_bounds : ∀ {ps : List Pt} {lo hi : Nat}, Inc ps lo hi → ∀ x ∈ cov ps, lo ≤ x ∧ x < hi
  | [], lo, hi, h, x, hx => by simp [cov] at hx
  | y :: ps, lo, hi, h, x, hx => by
    rw [cov_cons, List.mem_append] at hx
    unfold Inc at h
    split at h
    · rename_i hk
      rw [if_pos hk] at hx
      rcases hx with hx | hx
      · simp at hx
      · exact cov_bounds h x hx
    · rename_i hk
      rw [if_neg hk] at hx
      rcases hx with hx | hx
      · rw [List.mem_range'_1] at hx
        have := h.2.le; omega
      · have := cov_bounds h.2 x hx; omega
theorem cov_sorted : ∀ {ps : List Pt} {lo hi : Nat}, Inc ps lo hi → (cov ps).Pairwise (· < ·)
  | [], lo, hi, h => by simp [cov]
  | y :: ps, lo, hi, h => by
    rw [cov_cons]
    unfold Inc at h
    split at h
    · rename_i hk
      rw [if_pos hk]; exact cov_sorted h
    · rename_i hk
      rw [if_neg hk, List.pairwise_append]
      refine ⟨List.pairwise_lt_range', cov_sorted h.2, ?_⟩
      intro a ha b hb
      rw [List.mem_range'_1] at ha
      have := cov_bounds h.2 b hb
      omega
theorem cov_len : ∀ {ps : List Pt} {lo hi : Nat}, Inc ps lo hi → lo + (cov ps).length ≤ hi
  | [], lo, hi, h => h
  | y :: ps, lo, hi, h => by
    rw [cov_cons, List.length_append]
    unfold Inc at h
    split at h
    · rename_i hk
      rw [if_pos hk]; have := cov_len h; simpa using this
    · rename_i hk
      rw [if_neg hk, List.length_range']
      have := cov_len h.2; omega
theorem inc_off : ∀ {ps : List Pt} {lo hi : Nat}, Inc ps lo hi → ps.Pairwise Off ∧ ∀ x ∈ ps, x.kind = 0 ∨ lo ≤ x.place
  | [], lo, hi, h => ⟨List.Pairwise.nil, by simp⟩
  | y :: ps, lo, hi, h => by
    unfold Inc at h
    split at h
    · rename_i hk
      obtain ⟨h1, h2⟩ := inc_off h
      refine ⟨List.pairwise_cons.2 ⟨fun x _ => Or.inl hk, h1⟩, ?_⟩
      intro x hx
      rcases List.mem_cons.1 hx with rfl | hx
      · exact Or.inl hk
      · exact h2 x hx
    · rename_i hk
      obtain ⟨h1, h2⟩ := inc_off h.2
      refine ⟨List.pairwise_cons.2 ⟨fun x hx => ?_, h1⟩, ?_⟩
      · rcases h2 x hx with h3 | h3
        · exact Or.inr (Or.inl h3)
        · exact Or.inr (Or.inr (Or.inl h3))
      · intro x hx
        rcases List.mem_cons.1 hx with rfl | hx
        · exact Or.inr h.1
        · rcases h2 x hx with h3 | h3
          · exact Or.inl h3
          · exact Or.inr (by omega)
theorem cov_sh (p : Nat) : ∀ (A : List Pt), (cov (A.map (Pt.sh p))).length = (cov A).length
  | [] => rfl
  | x :: A => by
    rw [List.map_cons, cov_cons, cov_cons, List.length_append, List.length_append, cov_sh p A]
    show (if x.kind = 0 then [] else List.range' (x.place + p) x.size).length + _ = _
    split <;> simp
theorem cov_leaf (l : Bool × Nat) (h : 1 ≤ l.2) : 1 ≤ (cov [lpart l]).length := by
  have : ¬ (lpart l).kind = 0 := by unfold lpart; cases l.1 <;> simp
  rw [cov_cons, if_neg this, List.length_append, List.length_range']
  show 1 ≤ l.2 + _
  omega
theorem cov_pos : ∀ (n : Nat) (t : Ty n), Tr n t → 1 ≤ (cov (parts n t)).length
  | 0, l, h => cov_leaf l h
  | n + 1, .inl l, h => cov_leaf l h
  | n + 1, .inr [], h => absurd rfl h.1
  | n + 1, .inr (t :: ts), h => by
    have ih := cov_pos n t (h.2 t (by simp)).1
    show 1 ≤ (cov (markP 123 :: ((body (0, 1) ((t :: ts).map fun t => (parts n t, sz n t))).dropLast ++ [markP 125]))).length
    rw [cov_cons, cov_append, List.length_append, List.length_append]
    have e : (body (0, 1) ((t :: ts).map fun t => (parts n t, sz n t))) = (parts n t).map (Pt.sh (up 0 (sz n t).2)) ++ markP 44 :: body (lay1 (0, 1) (sz n t)) (ts.map fun t => (parts n t, sz n t)) := rfl
    rw [e, List.dropLast_append_of_ne_nil (by simp), cov_append, List.length_append, cov_sh]
    omega
theorem rdF_tr {n : Nat} (ih : ∀ l t r, rd n l = some (t, r) → Tr n t) : ∀ (k : Nat) (acc : List (Ty n)) (s : List UInt8) (ts : List (Ty n)) (r : List UInt8), rdF (rd n) k acc s = some (ts, r) → (∀ t ∈ acc, Tr n t ∧ 1 ≤ (sz n t).2 ∧ (sz n t).2 ≤ 4) → ts ≠ [] ∧ ∀ t ∈ ts, Tr n t ∧ 1 ≤ (sz n t).2 ∧ (sz n t).2 ≤ 4 := by
  intro k
  induction k with
  | zero => intro acc s ts r h; simp [rdF] at h
  | succ k ihk =>
    intro acc s ts r h hacc
    rw [rdF] at h
    split at h
    · cases h
    · cases h
    · rename_i t c r' hf
      have hg := ih _ _ _ hf
      have hgg := (rd_good n _ _ _ hf).1
      have hgs : ∀ x ∈ acc ++ [t], Tr n x ∧ 1 ≤ (sz n x).2 ∧ (sz n x).2 ≤ 4 := by
        intro x hx
        rcases List.mem_append.1 hx with hx | hx
        · exact hacc x hx
        · simp at hx; subst hx; exact ⟨hg, hgg.1, hgg.2.1⟩
      split at h
      · cases h
        exact ⟨by simp, hgs⟩
      · split at h
        · exact ihk _ _ _ _ h hgs
        · cases h
theorem rd_tr : ∀ (n : Nat) (l : List UInt8) (t : Ty n) (r : List UInt8), rd n l = some (t, r) → Tr n t := by
  intro n
  have leafcase : ∀ (n : Nat) (l : List UInt8) (t : Ty n) (r : List UInt8), (rdLeaf l).map (fun x => (lf n x.1, x.2)) = some (t, r) → Tr n t := by
    intro n l t r h
    cases hx : rdLeaf l with
    | none => rw [hx] at h; cases h
    | some x =>
      rw [hx] at h
      simp at h
      obtain ⟨rfl, rfl⟩ := h
      exact tr_lf n _ (rdLeaf_good hx).2.2.2.1
  induction n with
  | zero =>
    intro l t r h
    by_cases hl : leafy l = true
    · exact leafcase 0 l t r (by rw [← rd_leafy _ _ hl]; exact h)
    · simp [rd, hl] at h
  | succ n ih =>
    intro l t r h
    by_cases hl : leafy l = true
    · exact leafcase _ l t r (by rw [← rd_leafy _ _ hl]; exact h)
    · rw [rd_else _ _ (by simpa using hl)] at h
      cases l with
      | nil => simp [rdS] at h
      | cons c s =>
        simp only [rdS] at h
        split at h
        · cases hx : rdF (rd n) 8 [] s with
          | none => rw [hx] at h; cases h
          | some x =>
            obtain ⟨ts, r'⟩ := x
            rw [hx] at h
            simp at h
            obtain ⟨rfl, rfl⟩ := h
            exact rdF_tr ih 8 [] s ts _ hx (by simp)
        · cases h

theorem step_both {x : Pt} {l a a' : List UInt8} {k : Nat} (hok : PtOk a.length x) (h : stepP x l a = some (k, a')) : ∃ xs : List UInt8, (x.kind ≠ 0 → xs.length = x.size ∧ x.place + x.size ≤ a.length) ∧ a' = (if x.kind = 0 then a else put a x.place xs) ∧ ∀ b : List UInt8, stepP x l b = some (k, if x.kind = 0 then b else put b x.place xs) := by
  unfold stepP at *
  rcases hok with ⟨h1, _, _, h4, h5⟩ | ⟨h1, _, _, _, h5⟩ | ⟨h1, h2⟩
  · rw [if_pos h1] at h
    cases hr : rdnum (256 ^ x.size - 1) l with
    | none => rw [hr] at h; cases h
    | some z =>
      rw [hr] at h
      simp only [Option.map_some, Option.some.injEq, Prod.mk.injEq] at h
      obtain ⟨rfl, rfl⟩ := h
      refine ⟨le x.size z.1, fun _ => ⟨le_length _ _, h5⟩, by rw [if_neg (by omega)], fun b => ?_⟩
      rw [if_pos h1, if_neg (by omega)]; rfl
  · rw [if_neg (by omega), if_pos h1] at h
    cases hr : rdhex x.size l with
    | none => rw [hr] at h; cases h
    | some z =>
      rw [hr] at h
      simp only [Option.map_some, Option.some.injEq, Prod.mk.injEq] at h
      obtain ⟨rfl, rfl⟩ := h
      refine ⟨z, fun _ => ⟨rdhex_length _ _ _ hr, h5⟩, by rw [if_neg (by omega)], fun b => ?_⟩
      rw [if_neg (by omega), if_pos h1, if_neg (by omega)]; rfl
  · rw [if_neg (by omega), if_neg (by omega)] at h
    cases l with
    | nil => cases h
    | cons c r =>
      simp only at h
      split at h
      · rename_i hc
        cases h
        refine ⟨[], fun hh => absurd h1 hh, by rw [if_pos h1], fun b => ?_⟩
        rw [if_neg (by omega), if_neg (by omega), if_pos h1]
        simp only
        rw [if_pos hc]
      · cases h
/-- What is laid over other bytes is the same where something lies; the rest stays. -/
theorem lay_both : ∀ (ps : List Pt) (l a b r a' : List UInt8), (∀ y ∈ ps, PtOk a.length y) → a.length = b.length → layAll ps l a = some (r, a') → ∃ b', layAll ps l b = some (r, b') ∧ a'.length = a.length ∧ b'.length = b.length ∧ (∀ i, (i ∈ cov ps ∨ a[i]? = b[i]?) → a'[i]? = b'[i]?) ∧ ∀ i, i ∉ cov ps → b'[i]? = b[i]? := by
  intro ps
  induction ps with
  | nil =>
    intro l a b r a' _ hl h
    cases h
    exact ⟨b, rfl, rfl, rfl, fun i hi => hi.elim (fun hi => by simp [cov] at hi) id, fun i _ => rfl⟩
  | cons x ps ih =>
    intro l a b r a' hall hl h
    rw [layAll] at h
    split at h
    · cases h
    · rename_i k a1 hst
      have hx := hall x (by simp)
      have hlen := stepP_length hx hst
      obtain ⟨xs, h1, h2, h3⟩ := step_both hx hst
      have hb := h3 b
      have hlb := stepP_length (by rw [← hl]; exact hx) hb
      obtain ⟨b', g1, g2, g3, g4, g5⟩ := ih _ a1 (if x.kind = 0 then b else put b x.place xs) r a' (fun z hz => by rw [hlen]; exact hall z (by simp [hz])) (by rw [hlen, hlb]; exact hl) h
      refine ⟨b', by rw [layAll, hb]; exact g1, by rw [g2, hlen], by rw [g3, hlb], ?_, ?_⟩
      · intro i hi
        apply g4
        rw [cov_cons, List.mem_append] at hi
        by_cases hk : x.kind = 0
        · rw [if_pos hk] at hi h2 ⊢
          rw [h2]
          rcases hi with (hi | hi) | hi
          · simp at hi
          · exact Or.inl hi
          · exact Or.inr hi
        · rw [if_neg hk] at hi h2 ⊢
          obtain ⟨hxl, hin⟩ := h1 hk
          have e1 := put_get a x.place xs (by rw [hxl]; exact hin) i
          have e2 := put_get b x.place xs (by rw [hxl, ← hl]; exact hin) i
          rw [h2, e1, e2]
          rcases hi with (hi | hi) | hi
          · rw [List.mem_range'_1] at hi
            rw [if_pos (by rw [hxl]; exact hi), if_pos (by rw [hxl]; exact hi)]
            exact Or.inr rfl
          · exact Or.inl hi
          · refine Or.inr ?_
            split
            · rfl
            · exact hi
      · intro i hi
        rw [cov_cons, List.mem_append, not_or] at hi
        rw [g5 i hi.2]
        by_cases hk : x.kind = 0
        · rw [if_pos hk]
        · rw [if_neg hk] at hi ⊢
          obtain ⟨hxl, hin⟩ := h1 hk
          rw [put_get b x.place xs (by rw [hxl, ← hl]; exact hin) i, if_neg]
          intro hc
          exact hi.1 (by rw [List.mem_range'_1]; rw [hxl] at hc; exact hc)
theorem tell1_same {a b : List UInt8} {x : Pt} (hx : PtOk a.length x) (hl : a.length = b.length) (h : x.kind ≠ 0 → ∀ i, x.place ≤ i → i < x.place + x.size → a[i]? = b[i]?) : tell1 a x = tell1 b x := by
  by_cases hk : x.kind = 0
  · unfold tell1; rw [if_neg (by omega), if_neg (by omega), if_neg (by omega), if_neg (by omega)]
  · have key : sub a x.place x.size = sub b x.place x.size := by
      unfold sub
      apply List.ext_getElem?
      intro i
      rw [List.getElem?_take, List.getElem?_take, List.getElem?_drop, List.getElem?_drop]
      split
      · exact h hk _ (by omega) (by omega)
      · rfl
    unfold tell1
    rw [key]
theorem tell_same : ∀ (ps : List Pt) (a b : List UInt8), (∀ y ∈ ps, PtOk a.length y) → a.length = b.length → (∀ i ∈ cov ps, a[i]? = b[i]?) → tellAll ps a = tellAll ps b := by
  intro ps
  induction ps with
  | nil => intro a b _ _ _; rfl
  | cons x ps ih =>
    intro a b hall hl h
    have h1 := tell1_same (a := a) (b := b) (hall x (by simp)) hl (fun hk i h1 h2 => h i (by rw [cov_cons, List.mem_append, if_neg hk, List.mem_range'_1]; exact Or.inl ⟨h1, h2⟩))
    have h2 := ih a b (fun z hz => hall z (by simp [hz])) hl (fun i hi => h i (by rw [cov_cons, List.mem_append]; exact Or.inr hi))
    unfold tellAll at h2 ⊢
    rw [List.flatMap_cons, List.flatMap_cons, h1, h2]
/-- A value's text is told out of any bytes that are its own where something lies. -/
theorem lay_told {ps : List Pt} {v a a' c : List UInt8} {hi : Nat} (hok : ∀ y ∈ ps, PtOk a.length y) (hi' : Inc ps 0 hi) (h : layAll ps v a = some ([], a')) (hl : c.length = a.length) (hc : ∀ i ∈ cov ps, c[i]? = a'[i]?) : tellAll ps c = v := by
  have hlen := lay_length ps v a [] a' hok h
  have h1 := lay_tell ps v a [] a' hok (inc_off hi').1 h
  rw [List.append_nil] at h1
  rw [h1]
  exact tell_same ps c a' (fun y hy => by rw [hl]; exact hok y hy) (by rw [hl, hlen]) hc
end Go.Proofs.YtghggcehloiemabGreatDoor.P
namespace Go.Proofs.YtghggcehloiemabGreatDoor
open Go.RowKit
set_option linter.unusedVariables false
set_option maxRecDepth 16000
namespace P
theorem cov_take {ps : List Pt} {q : Nat} {x : Pt} (h : ps[q]? = some x) : cov (ps.take (q + 1)) = cov (ps.take q) ++ (if x.kind = 0 then [] else List.range' x.place x.size) := by
  rw [List.take_add_one, h, cov_append, Option.toList_some, cov_cons, cov_nil, List.append_nil]
theorem range_snoc (p k : Nat) : List.range' p (k + 1) = List.range' p k ++ [p + k] := by rw [List.range'_concat]; simp
theorem cov_take_len {ps : List Pt} {hi : Nat} (h : Inc ps 0 hi) (q : Nat) : (cov (ps.take q)).length ≤ hi := by
  have h2 : Inc (ps.take q) 0 hi := by rw [← List.take_append_drop q ps] at h; exact h.left
  have := cov_len h2; omega
end P
set_option maxHeartbeats 4000000 in
theorem covered_any (w : World) (sz st base : Nat) (vP : Value) (ps : List P.Pt) (hown : w.ownsRow base 145 4 vP ps.length (cellsOf ps)) (hsz : sz ≤ 32) (hps : ps.length ≤ 80) (hok : ∀ x ∈ ps, P.PtOk sz x) (hinc : P.Inc ps 0 sz) :
    Calls Tryz.prog 98 #[.agg #[.int .i64 sz, .int .i64 st, vP]] w fun e w' => ∃ v, e = .returned v ∧ w'.ownsRow w.heap.size 3 1 v (P.cov ps).length ((P.cov ps).map natV) ∧ Below w.heap.size w w' := by
  obtain ⟨i0, hi0, hz0, hz1, hz2⟩ := info_parts Tryz.infoMInt
  obtain ⟨a, N, cap, rfl⟩ := owns_slice hown
  have hNl : N = ps.length := by
    rcases hown.2 with ⟨h, h'⟩ | ⟨g, cap', cur, h, _⟩
    · cases h; omega
    · cases h; rfl
  have HNL := hid_m hNl
  have hN80 : N ≤ 80 := by omega
  have HOK := hid_m hok
  have HOWN := hid_m hown
  have HINC := hid_m hinc
  clear hok hown hNl hinc hps
  go_enter Tryz.func98, Tryz.ntmps98
  go_wp2_with fail
  go_loopw [3, 10] (fun l j wr => ∃ (q : Nat), q ≤ N ∧ j = .int .i64 q ∧ wr.ownsRow w.heap.size 3 1 l (P.cov (ps.take q)).length ((P.cov (ps.take q)).map natV) ∧ Below w.heap.size w wr) (fun _ j _ => N - (intOf j).toNat)
  case atStart => exact ⟨0, Nat.zero_le _, rfl, World.ownsRow_nil _ _ _ _, (Below.refl _ _).alloc (Nat.le_refl _) _⟩
  case round =>
    obtain ⟨q, hq, rfl, hl, hbq⟩ := hrel
    have hszq := hbq.size
    by_cases hqn : q < N
    · obtain ⟨x, hx⟩ : ∃ x, ps[q]? = some x := ⟨_, List.getElem?_eq_getElem (by have := HNL.out; omega)⟩
      obtain ⟨g, cap', hv, _, hgl⟩ := HOWN.out.form (by have := HNL.out; omega)
      have ha : a = some ⟨g, 0, none⟩ := by injection hv
      subst ha
      clear hv
      obtain ⟨d0, d1, d2, d3, hNe, hcp⟩ := part_cell HOWN.out hx
      clear hNe
      rw [← hbq.cell (p := ⟨g, q * 4, none⟩) hgl] at d0
      rw [← hbq.cell (p := ⟨g, q * 4 + 1, none⟩) hgl] at d1
      rw [← hbq.cell (p := ⟨g, q * 4 + 2, none⟩) hgl] at d2
      rw [← hbq.cell (p := ⟨g, q * 4 + 3, none⟩) hgl] at d3
      have HTK := hid_m (P.cov_take hx)
      have HLEN := hid_m (P.cov_take_len HINC.out q)
      have HOKX := hid_m (HOK.out x (List.mem_of_getElem? hx))
      have h0q : (0 : Int) ≤ (q : Int) := Int.natCast_nonneg q
      have hqN : (q : Int) < (N : Int) := by omega
      have HTN : Hid (q + 1 ≤ N) := hqn
      have HTW : Hid (wrap64 ((q : Int) + 1) = (q : Int) + 1) := w64_id _ (by omega) (by omega)
      obtain ⟨kd, mk, pl, si⟩ := x
      simp only at d0 d1 d2 d3
      clear hx hq hqn
      by_cases hk : kd = 0
      · subst hk
        have HTU : Hid (P.cov (ps.take (q + 1)) = P.cov (ps.take q)) := by unfold Hid; rw [HTK.out, if_pos rfl, List.append_nil]
        have hl2 := hl.alloc (.cells #[.int .i64 (0 : Nat), .int .u8 mk, .int .i64 pl, .int .i64 si] 145)
        have hb2 := hbq.alloc hszq (.cells #[.int .i64 (0 : Nat), .int .u8 mk, .int .i64 pl, .int .i64 si] 145)
        go_wp2_with fail
        refine ⟨⟨q + 1, HTN.out, by first | (rw [HTW.out]; exact next_t) | exact next_t, ?_, ?_⟩, by first | (rw [HTW.out]; exact less_t HTN.out) | exact less_t HTN.out⟩
        · rw [HTU.out]; exact hl2
        · exact hb2
      · have hk0 : ((kd : Int) == 0) = false := by simp only [beq_eq_false_iff_ne, ne_eq]; omega
        have hin : pl + si ≤ sz := by
          rcases HOKX.out with ⟨_, _, _, _, h⟩ | ⟨_, _, _, _, h⟩ | ⟨h, _⟩
          · exact h
          · exact h
          · exact absurd h hk
        have HTU : Hid (P.cov (ps.take (q + 1)) = P.cov (ps.take q) ++ List.range' pl si) := by unfold Hid; rw [HTK.out, if_neg hk]
        have HLN2 := hid_m (P.cov_take_len HINC.out (q + 1))
        have HIN := hid_m hin
        obtain ⟨ee, hee⟩ : ∃ ee, pl + si = ee := ⟨_, rfl⟩
        have HSUM : Hid (wrap64 ((pl : Int) + (si : Int)) = (ee : Int)) := by unfold Hid; rw [w64_id _ (by omega) (by omega)]; omega
        have HEE := hid_m hee
        clear hee
        have hl2 := hl.alloc (.cells #[.int .i64 kd, .int .u8 mk, .int .i64 pl, .int .i64 si] 145)
        have hb2 := hbq.alloc hszq (.cells #[.int .i64 kd, .int .u8 mk, .int .i64 pl, .int .i64 si] 145)
        have hn2 : (wr.alloc (.cells #[.int .i64 kd, .int .u8 mk, .int .i64 pl, .int .i64 si] 145)).heap[wr.heap.size]? = some (.cells #[.int .i64 kd, .int .u8 mk, .int .i64 pl, .int .i64 si] 145 (0, 0)) := heap_alloc_new _ _
        have HL2 := hid_m hl2
        have HB2 := hid_m hb2
        have HN2 := hid_m hn2
        have HNE : Hid (∀ g', u3.ownBlock = some g' → g' ≠ wr.heap.size) := fun g' hg' => by have := (hl.lt g' hg').2; omega
        clear hk hl2 hb2 hn2 hl HTK
        go_wp2_with fail
        obtain ⟨wa, hwa⟩ : ∃ wa, wr.alloc (.cells #[.int .i64 kd, .int .u8 mk, .int .i64 pl, .int .i64 si] 145) = wa := ⟨_, rfl⟩
        rw [hwa] at HL2 HB2 HN2 ⊢
        clear hwa
        obtain ⟨B, hB⟩ : ∃ B, wr.heap.size = B := ⟨_, rfl⟩
        rw [hB] at HNE HN2 ⊢
        obtain ⟨cv, hcv⟩ : ∃ cv, P.cov (ps.take q) = cv := ⟨_, rfl⟩
        rw [hcv] at HL2 HTU HLEN
        clear d0 d1 d2 d3 hB hbq hszq HOWN hcv
        go_loopw [3, 6] (fun l i wq => ∃ (m qq : Nat), m ≤ si ∧ Hid (qq = pl + m) ∧ i = .int .i64 qq ∧ Hid (wq.ownsRow w.heap.size 3 1 l (cv.length + m) ((cv ++ List.range' pl m).map natV)) ∧ Hid (Below w.heap.size w wq) ∧ Hid (wq.heap[B]? = some (.cells #[.int .i64 kd, .int .u8 mk, .int .i64 pl, .int .i64 si] 145 (0, 0))) ∧ Hid (∀ g', l.ownBlock = some g' → g' ≠ B)) (fun _ i _ => ee - (intOf i).toNat)
        case atStart => exact ⟨0, pl, Nat.zero_le _, rfl, rfl, by unfold Hid; simpa using HL2.out, HB2.out, HN2.out, HNE.out⟩
        case round =>
          clear HL2 HB2 HN2 HNE
          obtain ⟨m, qq, hm, HQ, rfl, hl, hb, hn, hne⟩ := hrel
          have m2 : wr.cell? ⟨B, 2, none⟩ = some (.int .i64 pl) := by rw [cell_of_row _ _ _ _ _ _ hn.out]; rfl
          have m3 : wr.cell? ⟨B, 3, none⟩ = some (.int .i64 si) := by rw [cell_of_row _ _ _ _ _ _ hn.out]; rfl
          have hbl := m_blk_lt hn.out
          have hws := hb.out.size
          have lz : cv.length ≤ 32 := by have := HLEN.out; omega
          by_cases hms : m < si
          · have HMS : Hid (m + 1 ≤ si) := hms
            have hq40 : qq < 40 := by have := HQ.out; omega
            have hqe : qq < ee := by have := HQ.out; have := HEE.out; omega
            have hlt : (qq : Int) < (ee : Int) := by omega
            have HPW : Hid (wrap64 ((qq : Int) + 1) = (qq : Int) + 1) := w64_id _ (by omega) (by omega)
            have hms' : m < 33 := by omega
            clear hm hin
            have hsum := HSUM.out
            have hcl : cv.length + m + 1 ≤ 1000 := by omega
            clear hws
            go_wp2_with (first
              | (at_builtin; refine wpList_append_lies _ rfl _ _ 63 rfl w.heap.size 3 i0 (.int .i64 0) 1 8 Tryz.underlying63 hi0 hz0 hz1 hz2 rfl (by decide) u3 (cv.length + m) ((cv ++ List.range' pl m).map natV) rfl (hl.out.alloc _) ⟨wr.heap.size, 0, none⟩ 1 1 [natV qq] rfl rfl (one_new _ _ _) (fun x hx => by simp at hx; subst hx; rfl) (by decide) (by unfold maxLen; have := hcl; clear hsum; omega) (by have := hcl; clear hsum; omega) (by have := hb.out.size; clear hsum; simp; omega) _ rfl ?_; intro g4 cap4 w4 hown' hgrow hat hlt4
                 have hbe4 := m_grown_below hb.out hl.out hgrow (Nat.le_refl _)
                 have hn4 : w4.heap[B]? = some (.cells #[.int .i64 kd, .int .u8 mk, .int .i64 pl, .int .i64 si] 145 (0, 0)) := by
                   rw [hgrow.block B (by clear hsum; simp; omega) (fun e => hne.out B e.symm rfl), Below.heap_alloc _ _ _ hbl]; exact hn.out))
            clear hsum
            refine ⟨⟨m + 1, qq + 1, HMS.out, by unfold Hid; have := HQ.out; omega, by first | (rw [HPW.out]; exact next_t) | exact next_t, ?_, hbe4, hn4, ?_⟩, ?_⟩
            · have e : (cv ++ List.range' pl (m + 1)).map natV = (cv ++ List.range' pl m).map natV ++ [natV qq] := by rw [P.range_snoc, ← List.append_assoc, List.map_append, HQ.out]; rfl
              unfold Hid
              rw [e]; exact hown'
            · intro g' hg'
              have : g' = g4 := by simpa [Value.ownBlock] using hg'.symm
              subst this
              rcases hat with h | h
              · exact hne.out _ h
              · simp at h; omega
            · first | (rw [HPW.out]; exact less_t hqe) | exact less_t hqe
          · have hme : m = si := by omega
            have hqe : qq = ee := by have := HQ.out; have := HEE.out; omega
            subst hqe
            subst hme
            have HL := hl
            clear hl hm hms hin
            have hsum := HSUM.out
            go_wp2_with fail
            refine ⟨⟨q + 1, HTN.out, by first | (rw [HTW.out]; exact next_t) | exact next_t, ?_, hb.out⟩, by first | (rw [HTW.out]; exact less_t HTN.out) | exact less_t HTN.out⟩
            rw [HTU.out, List.length_append, List.length_range']; exact HL.out
    · have hqe : q = N := by omega
      subst hqe
      have htk : ps.take q = ps := List.take_of_length_le (Nat.le_of_eq HNL.out.symm)
      rw [htk] at hl
      obtain ⟨a1, N1, c1, rfl⟩ := owns_slice hl
      have HL := hid_m hl
      clear hl htk hq hqn
      go_wp2_with fail
      go_ret
      exact ⟨_, rfl, HL.out, hbq⟩
end Go.Proofs.YtghggcehloiemabGreatDoor
