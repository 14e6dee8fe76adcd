import Derived.Test.YtghggcehloiemabGreatDoorEquiv2All
import Derived.Test.YtghggcehloiemabGreatDoorRefLieSAll
import Derived.Test.YtghggcehloiemabGreatDoorPrNAll
import Derived.Test.YtghggcehloiemabGreatDoorMcVAll
namespace Go.Proofs.YtghggcehloiemabGreatDoor.P
set_option linter.unusedVariables false

/-- Bytes with a value laid over them: its gaps leave them alone. -/
def over (bs : List UInt8) (p : Nat) (L : List (Option UInt8)) : List UInt8 := bs.mapIdx fun i b => if p ≤ i then ((L[i - p]?).getD none).getD b else b
theorem over_get (bs : List UInt8) (p : Nat) (L : List (Option UInt8)) (i : Nat) : (over bs p L)[i]? = (bs[i]?).map fun b => if p ≤ i then ((L[i - p]?).getD none).getD b else b := by
  unfold over; rw [List.getElem?_mapIdx]
theorem over_length (bs : List UInt8) (p : Nat) (L : List (Option UInt8)) : (over bs p L).length = bs.length := by simp [over]
theorem over_nil (bs : List UInt8) (p : Nat) : over bs p [] = bs := by
  apply List.ext_getElem?
  intro i
  rw [over_get]
  cases bs[i]? with
  | none => rfl
  | some b => simp
theorem put_over (bs : List UInt8) (p : Nat) (xs : List UInt8) (h : p + xs.length ≤ bs.length) : put bs p xs = over bs p (xs.map some) := by
  apply List.ext_getElem?
  intro i
  rw [over_get]
  unfold put
  rcases Nat.lt_or_ge i p with h1 | h1
  · rw [List.append_assoc, List.getElem?_append_left (by simp; omega), List.getElem?_take_of_lt h1]
    cases bs[i]? with
    | none => rfl
    | some b => simp only [Option.map_some]; rw [if_neg (by omega)]
  · rcases Nat.lt_or_ge i (p + xs.length) with h2 | h2
    · rw [List.getElem?_append_left (by simp; omega), List.getElem?_append_right (by simp; omega)]
      have hl : (bs.take p).length = p := by simp; omega
      rw [hl, List.getElem?_eq_getElem (show i < bs.length by omega), List.getElem?_eq_getElem (show i - p < xs.length by omega)]
      simp only [Option.map_some]
      rw [if_pos h1, List.getElem?_map, List.getElem?_eq_getElem (show i - p < xs.length by omega)]
      rfl
    · rw [List.getElem?_append_right (by simp; omega)]
      have hl : (bs.take p ++ xs).length = p + xs.length := by simp; omega
      rw [hl, List.getElem?_drop, show p + xs.length + (i - (p + xs.length)) = i by omega]
      cases bs[i]? with
      | none => rfl
      | some b =>
        simp only [Option.map_some]
        rw [if_pos h1, List.getElem?_eq_none (by simp; omega)]; rfl
theorem padTo_get (L : List (Option UInt8)) (k j : Nat) : ((padTo L k)[j]?).getD none = (L[j]?).getD none := by
  unfold padTo
  rcases Nat.lt_or_ge j L.length with h | h
  · rw [List.getElem?_append_left h]
  · rw [List.getElem?_append_right h, List.getElem?_eq_none h, List.getElem?_replicate]
    split <;> rfl
theorem over_pad (bs : List UInt8) (p : Nat) (L : List (Option UInt8)) (k : Nat) : over bs p (padTo L k) = over bs p L := by
  apply List.ext_getElem?
  intro i
  rw [over_get, over_get]
  cases bs[i]? with
  | none => rfl
  | some b => simp only [Option.map_some, padTo_get]
theorem over_next (bs : List UInt8) (p : Nat) (L y : List (Option UInt8)) (k : Nat) (hk : L.length ≤ k) : over (over bs p L) (p + k) y = over bs p (padTo L k ++ y) := by
  apply List.ext_getElem?
  intro i
  rw [over_get, over_get, over_get]
  cases bs[i]? with
  | none => rfl
  | some b =>
    simp only [Option.map_some]
    congr 1
    rcases Nat.lt_or_ge i p with h1 | h1
    · rw [if_neg (by omega), if_neg (by omega), if_neg (by omega)]
    · rw [if_pos h1, if_pos h1]
      rcases Nat.lt_or_ge i (p + k) with h2 | h2
      · rw [if_neg (by omega), List.getElem?_append_left (by rw [padTo_length _ _ hk]; omega), padTo_get]
      · rw [if_pos h2, List.getElem?_append_right (by rw [padTo_length _ _ hk]; omega), padTo_length _ _ hk, List.getElem?_eq_none (show L.length ≤ i - p by omega), show i - (p + k) = i - p - k by omega]
        rfl
theorem over_all (n : Nat) (f : UInt8) (L : List (Option UInt8)) (h : L.length = n) : over (List.replicate n f) 0 L = L.map fun x => x.getD f := by
  apply List.ext_getElem?
  intro i
  rw [over_get, List.getElem?_map, List.getElem?_replicate]
  rcases Nat.lt_or_ge i n with h1 | h1
  · rw [if_pos h1]
    simp [List.getElem?_eq_getElem (show i < L.length by omega)]
  · rw [if_neg (by omega)]
    simp [List.getElem?_eq_none (show L.length ≤ i by omega)]

theorem layAll_append : ∀ (A B : List Pt) (l bs : List UInt8), layAll (A ++ B) l bs = (layAll A l bs).bind fun y => layAll B y.1 y.2 := by
  intro A
  induction A with
  | nil => intro B l bs; rfl
  | cons x A ih =>
    intro B l bs
    simp only [List.cons_append, layAll]
    cases stepP x l bs with
    | none => rfl
    | some y => obtain ⟨k, bs'⟩ := y; exact ih B _ _

theorem sh_sh (p q : Nat) (xs : List Pt) : (xs.map (Pt.sh q)).map (Pt.sh p) = xs.map (Pt.sh (p + q)) := by
  rw [List.map_map]
  apply List.map_congr_left
  intro x _
  simp [Pt.sh]; omega

theorem layAll_mark {c p : Nat} {l bs r bs' : List UInt8} (h : layAll [(markP c).sh p] l bs = some (r, bs')) : ∃ d : UInt8, d.toNat = c ∧ l = d :: r ∧ bs' = bs := by
  simp only [layAll] at h
  cases hs : stepP ((markP c).sh p) l bs with
  | none => rw [hs] at h; cases h
  | some y =>
    obtain ⟨k, b'⟩ := y
    rw [hs] at h
    simp at h
    obtain ⟨rfl, rfl⟩ := h
    cases l with
    | nil => simp [stepP, markP, Pt.sh] at hs
    | cons d l =>
      simp [stepP, markP, Pt.sh] at hs
      obtain ⟨hd, rfl, rfl⟩ := hs
      exact ⟨d, hd, by simp, rfl⟩
theorem layAll_mark_of {c : UInt8} {p : Nat} (r bs : List UInt8) : layAll [(markP c.toNat).sh p] (c :: r) bs = some (r, bs) := by
  simp [layAll, stepP, markP, Pt.sh]

theorem rdhex_take : ∀ (k : Nat) (l xs : List UInt8), rdhex k l = some xs → 2 * k ≤ l.length ∧ rdhex k (l.take (2 * k)) = some xs ∧ ∀ c ∈ l.take (2 * k), c ≠ 123 ∧ c ≠ 125 ∧ c ≠ 44 := by
  intro k
  induction k with
  | zero => intro l xs h; exact ⟨by omega, by simpa [rdhex] using h, by simp⟩
  | succ k ih =>
    intro l xs h
    cases l with
    | nil => simp [rdhex] at h
    | cons a l =>
      cases l with
      | nil => simp [rdhex] at h
      | cons c r =>
        simp only [rdhex] at h
        split at h
        · rename_i x y hx hy
          cases hr : rdhex k r with
          | none => rw [hr] at h; cases h
          | some ys =>
            rw [hr] at h
            simp only [Option.map_some] at h
            cases h
            obtain ⟨h1, h2, h3⟩ := ih r ys hr
            have e : (a :: c :: r).take (2 * (k + 1)) = a :: c :: r.take (2 * k) := by rw [show 2 * (k + 1) = 2 * k + 1 + 1 by omega]; rfl
            have hne : ∀ (d : UInt8) (z : Nat), hexv d = some z → d ≠ 123 ∧ d ≠ 125 ∧ d ≠ 44 := by
              intro d z hd
              refine ⟨?_, ?_, ?_⟩ <;> (rintro rfl; simp [hexv] at hd)
            refine ⟨by simp; omega, by rw [e]; simp only [rdhex]; rw [hx, hy, h2]; rfl, ?_⟩
            rw [e]
            intro d hd
            simp only [List.mem_cons] at hd
            rcases hd with rfl | rfl | hd
            · exact hne _ _ hx
            · exact hne _ _ hy
            · exact h3 d hd
        · cases h
theorem rdhex_app : ∀ (k : Nat) (v r xs : List UInt8), v.length = 2 * k → rdhex k v = some xs → rdhex k (v ++ r) = some xs := by
  intro k
  induction k with
  | zero => intro v r xs _ h; simpa [rdhex] using h
  | succ k ih =>
    intro v r xs hl h
    cases v with
    | nil => simp at hl
    | cons a v =>
      cases v with
      | nil => simp at hl; omega
      | cons c v =>
        simp only [rdhex, List.cons_append] at h ⊢
        split at h
        · rename_i x y hx hy
          cases hr : rdhex k v with
          | none => rw [hr] at h; cases h
          | some ys =>
            rw [hr] at h
            rw [ih v r ys (by simp at hl; omega) hr]
            exact h
        · cases h

theorem rdnum_digs {most : Nat} {l : List UInt8} {n k : Nat} (hm : most < 10000000000) (h : rdnum most l = some (n, k)) : l = digs l ++ l.drop k ∧ rnum (digs l) = n ∧ n ≤ most ∧ Bal (digs l) := by
  unfold rdnum at h
  split at h
  · cases h
  · rename_i hn
    simp at h
    obtain ⟨rfl, rfl⟩ := h
    have hne : digs l ≠ [] := fun e => hn (Or.inl e)
    have hle : val (digs l) ≤ most := by
      rcases Nat.lt_or_ge most (val (digs l)) with h3 | h3
      · exact absurd (Or.inr (Or.inr h3)) hn
      · exact h3
    have hlead : ¬ (1 < (digs l).length ∧ (digs l).head? = some 48) := fun e => hn (Or.inr (Or.inl e))
    have h10 : (digs l).length ≤ 10 := by
      cases hd : digs l with
      | nil => simp
      | cons c r =>
        rcases Nat.lt_or_ge r.length 10 with h2 | h2
        · simp; omega
        · exfalso
          have hc : c ≠ 48 := fun e => hlead ⟨by rw [hd]; simp; omega, by rw [hd, e]; rfl⟩
          have := val_ge (l := r) (digs_all l c (by rw [hd]; simp)) hc
          have hp : 10 ^ 10 ≤ 10 ^ r.length := Nat.pow_le_pow_right (by omega) h2
          rw [hd] at hle
          omega
    refine ⟨digs_split l, rnum_of (fun c hc => digs_all l c hc) (List.length_pos_iff.2 hne) h10 hlead, hle, ?_⟩
    apply bal_plain
    intro y hy
    have := isDig_sub (digs_all l y hy)
    refine ⟨?_, ?_, ?_⟩ <;> (rintro rfl; simp at this)

theorem pow_bd {k : Nat} (h : k ≤ 4) : 256 ^ k - 1 < 10000000000 ∧ 1 ≤ 256 ^ k := by
  have h1 : 256 ^ k ≤ 256 ^ 4 := Nat.pow_le_pow_right (by omega) h
  have h2 : 0 < 256 ^ k := Nat.pos_of_ne_zero (by simp)
  omega

/-- A leaf, the program's way to the reference's. -/
theorem leaf_A {x : Bool × Nat} {p : Nat} {l bs r bs' : List UInt8} (h4 : x.1 = true → x.2 ≤ 4) (hp : p + x.2 ≤ bs.length) (h : layAll [(lpart x).sh p] l bs = some (r, bs')) : ∃ v L, l = v ++ r ∧ Bal v ∧ lieLeaf x v = some L ∧ bs' = over bs p L := by
  obtain ⟨num, k⟩ := x
  simp only [layAll] at h
  cases hs : stepP ((lpart (num, k)).sh p) l bs with
  | none => rw [hs] at h; cases h
  | some y =>
    obtain ⟨m, b'⟩ := y
    rw [hs] at h
    simp at h
    obtain ⟨rfl, rfl⟩ := h
    cases num with
    | true =>
      simp only [stepP, lpart, Pt.sh, if_true, Nat.zero_add] at hs
      obtain ⟨hb1, hb2⟩ := pow_bd (k := k) (h4 rfl)
      cases hn : rdnum (256 ^ k - 1) l with
      | none => rw [hn] at hs; cases hs
      | some z =>
        obtain ⟨n, kk⟩ := z
        rw [hn] at hs
        simp at hs
        obtain ⟨rfl, rfl⟩ := hs
        obtain ⟨e1, e2, e3, e4⟩ := rdnum_digs hb1 hn
        refine ⟨digs l, (le k n).map some, e1, e4, ?_, by rw [put_over _ _ _ (by rw [le_length]; simpa using hp)]⟩
        unfold lieLeaf
        rw [if_pos rfl, if_pos ⟨by rw [e2]; omega, by rw [e2]; simp only [Int.toNat_natCast]; exact Nat.div_eq_of_lt (by omega)⟩, e2]
        rfl
    | false =>
      simp only [stepP, lpart, Pt.sh, Bool.false_eq_true, if_false, Nat.zero_add] at hs
      rw [if_neg (by omega), if_pos trivial] at hs
      cases hn : rdhex k l with
      | none => rw [hn] at hs; cases hs
      | some xs =>
        rw [hn] at hs
        simp at hs
        obtain ⟨rfl, rfl⟩ := hs
        obtain ⟨h1, h2, h3⟩ := rdhex_take k l xs hn
        have hxl := rdhex_length k l xs hn
        refine ⟨l.take (2 * k), xs.map some, by rw [List.take_append_drop], bal_plain _ h3, ?_, by rw [put_over _ _ _ (by rw [hxl]; simpa using hp)]⟩
        unfold lieLeaf
        rw [if_neg (by simp), if_pos (by simp; omega), h2]; rfl

/-- A leaf, the reference's way to the program's. -/
theorem leaf_B {x : Bool × Nat} {p : Nat} {v bs r : List UInt8} {L : List (Option UInt8)} (h4 : x.1 = true → x.2 ≤ 4) (hp : p + x.2 ≤ bs.length) (hr : nodig r) (h : lieLeaf x v = some L) : layAll [(lpart x).sh p] (v ++ r) bs = some (r, over bs p L) := by
  obtain ⟨num, k⟩ := x
  unfold lieLeaf at h
  cases num with
  | true =>
    rw [if_pos rfl] at h
    split at h
    · rename_i hc
      cases h
      obtain ⟨h1, h2, h3, h5, h6⟩ := rnum_pos hc.1
      obtain ⟨hb1, hb2⟩ := pow_bd (k := k) (h4 rfl)
      have hd := digs_of_all v r h1 hr
      have hv : val v ≤ 256 ^ k - 1 := by
        have h7 := hc.2
        rw [h6] at h7
        simp only [Int.toNat_natCast] at h7
        have := Nat.lt_of_div_eq_zero (by omega) h7
        omega
      have hn : rdnum (256 ^ k - 1) (v ++ r) = some (val v, v.length) := by
        unfold rdnum
        rw [hd, if_neg]
        rintro (h | h | h)
        · subst h; simp at h2
        · exact h5 h
        · omega
      simp only [layAll, stepP, lpart, Pt.sh, if_true, Nat.zero_add, hn, Option.map_some]
      rw [List.drop_left, put_over _ _ _ (by rw [le_length]; simpa using hp), h6]
      rfl
    · cases h
  | false =>
    rw [if_neg (by simp)] at h
    split at h
    · rename_i hl
      simp only at hl
      cases hx : rdhex k v with
      | none => rw [hx] at h; cases h
      | some xs =>
        rw [hx] at h
        simp at h
        subst h
        have hxl := rdhex_length k v xs hx
        simp only [layAll, stepP, lpart, Pt.sh, Bool.false_eq_true, if_false, Nat.zero_add]
        rw [if_neg (by omega), if_pos trivial, rdhex_app k v r xs hl hx]
        simp only [Option.map_some]
        rw [← hl, List.drop_left, put_over _ _ _ (by rw [hxl]; simpa using hp)]
    · cases h
end Go.Proofs.YtghggcehloiemabGreatDoor.P
namespace Go.Proofs.YtghggcehloiemabGreatDoor.P
set_option linter.unusedVariables false

def fparts (a : Nat × Nat) : List (List Pt × (Nat × Nat)) → List Pt
  | [] => []
  | x :: xs => match xs with
    | [] => x.1.map (Pt.sh (up a.1 x.2.2)) ++ [markP 125]
    | _ :: _ => x.1.map (Pt.sh (up a.1 x.2.2)) ++ markP 44 :: fparts (lay1 a x.2) xs
theorem fparts_one (a : Nat × Nat) (x : List Pt × (Nat × Nat)) : fparts a [x] = x.1.map (Pt.sh (up a.1 x.2.2)) ++ [markP 125] := rfl
theorem fparts_cons (a : Nat × Nat) (x : List Pt × (Nat × Nat)) {xs : List (List Pt × (Nat × Nat))} (h : xs ≠ []) : fparts a (x :: xs) = x.1.map (Pt.sh (up a.1 x.2.2)) ++ markP 44 :: fparts (lay1 a x.2) xs := by
  cases xs with
  | nil => exact absurd rfl h
  | cons y ys => rfl
theorem body_ne (a : Nat × Nat) {xs : List (List Pt × (Nat × Nat))} (h : xs ≠ []) : body a xs ≠ [] := by
  cases xs with
  | nil => exact absurd rfl h
  | cons y ys => simp [body]
theorem body_fparts : ∀ (xs : List (List Pt × (Nat × Nat))) (a : Nat × Nat), xs ≠ [] → (body a xs).dropLast ++ [markP 125] = fparts a xs := by
  intro xs
  induction xs with
  | nil => intro a h; exact absurd rfl h
  | cons x xs ih =>
    intro a _
    by_cases he : xs = []
    · subst he
      rw [fparts_one]
      simp [body]
    · rw [fparts_cons a x he, ← ih _ he, body]
      have hb := body_ne (lay1 a x.2) he
      rw [List.dropLast_append_of_ne_nil (by simp)]
      cases hbb : body (lay1 a x.2) xs with
      | nil => exact absurd hbb hb
      | cons y ys => simp
theorem parts_eq {n : Nat} (ts : List (Ty n)) (h : ts ≠ []) : parts (n + 1) (.inr ts) = markP 123 :: fparts (0, 1) (ts.map fun t => (parts n t, sz n t)) := by
  simp only [parts]
  rw [body_fparts _ _ (by simpa using h)]

def LA (n : Nat) : Prop := ∀ (t : Ty n) (p : Nat) (l bs r bs' : List UInt8), Sm n t → Nm n t → p + (sz n t).1 ≤ bs.length → layAll ((parts n t).map (Pt.sh p)) l bs = some (r, bs') → ∃ v L, l = v ++ r ∧ Bal v ∧ lieP n t v = some L ∧ bs' = over bs p L
def LB (n : Nat) : Prop := ∀ (t : Ty n) (p : Nat) (v bs r : List UInt8) (L : List (Option UInt8)), Sm n t → Nm n t → p + (sz n t).1 ≤ bs.length → nodig r → lieP n t v = some L → layAll ((parts n t).map (Pt.sh p)) (v ++ r) bs = some (r, over bs p L)

def Kids (n : Nat) (ts : List (Ty n)) : Prop := ∀ t ∈ ts, Sm n t ∧ Nm n t ∧ 1 ≤ (sz n t).2 ∧ (sz n t).2 ≤ 4

theorem u8eq {d : UInt8} {k : UInt8} (h : d.toNat = k.toNat) : d = k := UInt8.toNat_inj.1 h

theorem fields_A {n : Nat} (ih : LA n) : ∀ (ts : List (Ty n)) (a : Nat × Nat) (p : Nat) (l bs r bs' : List UInt8), ts ≠ [] → Kids n ts → 1 ≤ a.2 → a.2 ≤ 4 → p + ((ts.map (sz n)).foldl lay1 a).1 ≤ bs.length →
    layAll ((fparts a (ts.map fun t => (parts n t, sz n t))).map (Pt.sh p)) l bs = some (r, bs') →
    ∃ vs : List (List UInt8), l = join vs ++ 125 :: r ∧ vs.length = ts.length ∧ (∀ v ∈ vs, Bal v) ∧ ∀ (bs0 : List UInt8) (L : List (Option UInt8)), L.length = a.1 → bs = over bs0 p L → ∃ L', lieF (List.zip (List.zipWith (lieP n) ts vs) (places a (ts.map (sz n)))) L = some L' ∧ bs' = over bs0 p L' := by
  intro ts
  induction ts with
  | nil => intro a p l bs r bs' h; exact absurd rfl h
  | cons t ts iht =>
    intro a p l bs r bs' _ hk h1 h2 hp h
    have ht := hk t (by simp)
    have hks : Kids n ts := fun x hx => hk x (by simp [hx])
    have hl1 := lay1_le (a := a) (b := sz n t) ht.2.2.1 ht.2.2.2
    have hm : 1 ≤ (lay1 a (sz n t)).2 ∧ (lay1 a (sz n t)).2 ≤ 4 := by have := ht.2.2; simp only [lay1]; omega
    have hst : ∀ x ∈ ts.map (sz n), 1 ≤ x.2 ∧ x.2 ≤ 4 := by
      intro x hx
      obtain ⟨t', ht', rfl⟩ := List.mem_map.1 hx
      exact (hks t' ht').2.2
    have hfs := (fold_step hst (lay1 a (sz n t)) hm.1 hm.2).2.2
    rw [List.map_cons, List.foldl_cons] at hp
    have hup := le_up a.1 (sz n t).2 ht.2.2.1
    have first : ∀ (B : List Pt), layAll (((parts n t).map (Pt.sh (up a.1 (sz n t).2)) ++ B).map (Pt.sh p)) l bs = some (r, bs') → ∃ v L1 l1, l = v ++ l1 ∧ Bal v ∧ lieP n t v = some L1 ∧ layAll (B.map (Pt.sh p)) l1 (over bs (p + up a.1 (sz n t).2) L1) = some (r, bs') := by
      intro B hB
      rw [List.map_append, sh_sh, layAll_append] at hB
      cases hA : layAll ((parts n t).map (Pt.sh (p + up a.1 (sz n t).2))) l bs with
      | none => rw [hA] at hB; cases hB
      | some y =>
        obtain ⟨l1, b1⟩ := y
        rw [hA] at hB
        simp only [Option.bind_some] at hB
        obtain ⟨v, L1, e1, e2, e3, e4⟩ := ih t _ l bs l1 b1 ht.1 ht.2.1 (by omega) hA
        subst e4
        exact ⟨v, L1, l1, e1, e2, e3, hB⟩
    by_cases he : ts = []
    · subst he
      rw [List.map_cons, List.map_nil, fparts_one] at h
      obtain ⟨v, L1, l1, e1, e2, e3, e4⟩ := first _ h
      rw [List.map_cons, List.map_nil] at e4
      obtain ⟨d, hd, e5, e6⟩ := layAll_mark e4
      have hd' : d = 125 := u8eq (by rw [hd]; rfl)
      subst hd'
      refine ⟨[v], by rw [join_one, e1, e5], rfl, by intro x hx; simp at hx; subst hx; exact e2, ?_⟩
      intro bs0 L hL hbs
      refine ⟨padTo L (up a.1 (sz n t).2) ++ L1, ?_, ?_⟩
      · simp [places, lieF, e3]
      · rw [e6, hbs, over_next _ _ _ _ _ (by omega)]
    · rw [List.map_cons, fparts_cons _ _ (by simpa using he)] at h
      obtain ⟨v, L1, l1, e1, e2, e3, e4⟩ := first _ h
      rw [List.map_cons, show ∀ (x : Pt) (xs : List Pt), x :: xs = [x] ++ xs from fun _ _ => rfl, layAll_append] at e4
      cases hA : layAll [(markP 44).sh p] l1 (over bs (p + up a.1 (sz n t).2) L1) with
      | none => rw [hA] at e4; cases e4
      | some y =>
        obtain ⟨l2, b2⟩ := y
        rw [hA] at e4
        simp only [Option.bind_some] at e4
        obtain ⟨d, hd, e5, e6⟩ := layAll_mark hA
        have hd' : d = 44 := u8eq (by rw [hd]; rfl)
        subst hd'
        subst e6
        obtain ⟨vs, g1, g2, g3, g4⟩ := iht (lay1 a (sz n t)) p l2 _ r bs' he hks hm.1 hm.2 (by rw [over_length]; omega) e4
        refine ⟨v :: vs, ?_, by simp [g2], ?_, ?_⟩
        · have hvne : vs ≠ [] := by
            intro e; subst e; simp at g2; exact he (List.eq_nil_of_length_eq_zero g2.symm)
          rw [join_cons v hvne, e1, e5, g1]; simp
        · intro x hx
          rcases List.mem_cons.1 hx with rfl | hx
          · exact e2
          · exact g3 x hx
        · intro bs0 L hL hbs
          have hlen := lie_len n t v L1 ht.1 e3
          obtain ⟨L', k1, k2⟩ := g4 bs0 (padTo L (up a.1 (sz n t).2) ++ L1) (by rw [List.length_append, padTo_length _ _ (by omega), hlen]; exact hl1.2.2) (by rw [hbs, over_next _ _ _ _ _ (by omega)])
          refine ⟨L', ?_, k2⟩
          simp only [List.zipWith_cons_cons, List.map_cons, places, List.zip_cons_cons, lieF, e3]
          exact k1

theorem fields_B {n : Nat} (ih : LB n) : ∀ (ts : List (Ty n)) (vs : List (List UInt8)) (a : Nat × Nat) (p : Nat) (r bs0 : List UInt8) (L L' : List (Option UInt8)), ts ≠ [] → vs.length = ts.length → Kids n ts → 1 ≤ a.2 → a.2 ≤ 4 → p + ((ts.map (sz n)).foldl lay1 a).1 ≤ bs0.length → L.length = a.1 →
    lieF (List.zip (List.zipWith (lieP n) ts vs) (places a (ts.map (sz n)))) L = some L' →
    layAll ((fparts a (ts.map fun t => (parts n t, sz n t))).map (Pt.sh p)) (join vs ++ 125 :: r) (over bs0 p L) = some (r, over bs0 p L') := by
  intro ts
  induction ts with
  | nil => intro vs a p r bs0 L L' h; exact absurd rfl h
  | cons t ts iht =>
    intro vs a p r bs0 L L' _ hvl hk h1 h2 hp hL h
    have ht := hk t (by simp)
    have hks : Kids n ts := fun x hx => hk x (by simp [hx])
    have hl1 := lay1_le (a := a) (b := sz n t) ht.2.2.1 ht.2.2.2
    have hm : 1 ≤ (lay1 a (sz n t)).2 ∧ (lay1 a (sz n t)).2 ≤ 4 := by have := ht.2.2; simp only [lay1]; omega
    have hst : ∀ x ∈ ts.map (sz n), 1 ≤ x.2 ∧ x.2 ≤ 4 := by
      intro x hx
      obtain ⟨t', ht', rfl⟩ := List.mem_map.1 hx
      exact (hks t' ht').2.2
    have hfs := (fold_step hst (lay1 a (sz n t)) hm.1 hm.2).2.2
    rw [List.map_cons, List.foldl_cons] at hp
    have hup := le_up a.1 (sz n t).2 ht.2.2.1
    cases vs with
    | nil => simp at hvl
    | cons v vs =>
      simp only [List.zipWith_cons_cons, List.map_cons, places, List.zip_cons_cons, lieF] at h
      cases hlv : lieP n t v with
      | none => rw [hlv] at h; cases h
      | some L1 =>
        rw [hlv] at h
        simp only at h
        have hlen := lie_len n t v L1 ht.1 hlv
        have hLn : (padTo L (up a.1 (sz n t).2) ++ L1).length = (lay1 a (sz n t)).1 := by
          rw [List.length_append, padTo_length _ _ (by omega), hlen]; exact hl1.2.2
        have first : ∀ (c : UInt8) (rest : List UInt8), isDig c = false → layAll ((parts n t).map (Pt.sh (p + up a.1 (sz n t).2))) (v ++ c :: rest) (over bs0 p L) = some (c :: rest, over bs0 p (padTo L (up a.1 (sz n t).2) ++ L1)) := by
          intro c rest hc
          rw [ih t (p + up a.1 (sz n t).2) v (over bs0 p L) (c :: rest) L1 ht.1 ht.2.1 (by rw [over_length]; omega) (by intro d hd; simp at hd; subst hd; exact hc) hlv, over_next _ _ _ _ _ (by omega)]
        by_cases he : ts = []
        · subst he
          simp at hvl
          subst hvl
          simp [places, lieF] at h
          subst h
          rw [List.map_cons, List.map_nil, fparts_one, join_one, List.map_append, sh_sh, layAll_append, first 125 r (by decide)]
          simp only [Option.bind_some, List.map_cons, List.map_nil]
          exact layAll_mark_of (c := 125) r _
        · have hvne : vs ≠ [] := by
            intro e; subst e; simp at hvl; exact he hvl
          rw [List.map_cons, fparts_cons _ _ (by simpa using he), join_cons v hvne, List.append_assoc, List.cons_append, List.map_append, sh_sh, layAll_append, first 44 _ (by decide)]
          simp only [Option.bind_some, List.map_cons]
          rw [show ∀ (x : Pt) (xs : List Pt), x :: xs = [x] ++ xs from fun _ _ => rfl, layAll_append, show layAll [(markP 44).sh p] (44 :: (join vs ++ 125 :: r)) (over bs0 p (padTo L (up a.1 (sz n t).2) ++ L1)) = _ from layAll_mark_of (c := 44) _ _]
          simp only [Option.bind_some]
          exact iht vs (lay1 a (sz n t)) p r bs0 _ L' he (by simpa using hvl) hks hm.1 hm.2 (by omega) hLn h

theorem parts_lfm (n : Nat) (l : Bool × Nat) (p : Nat) : (parts n (lf n l)).map (Pt.sh p) = [(lpart l).sh p] := by rw [parts_lf]; rfl

theorem struct_bd {n : Nat} {ts : List (Ty n)} (h : Sm (n + 1) (.inr ts)) (hn : Nm (n + 1) (.inr ts)) : Kids n ts ∧ ((ts.map (sz n)).foldl lay1 (0, 1)).1 ≤ (sz (n + 1) (.inr ts)).1 ∧ ts ≠ [] := by
  obtain ⟨h1, h2, h3, h4⟩ := h
  have hk : Kids n ts := fun t ht => ⟨(h4 t ht).1, hn t ht, (h4 t ht).2.1, (h4 t ht).2.2⟩
  have hst : ∀ x ∈ ts.map (sz n), 1 ≤ x.2 ∧ x.2 ≤ 4 := by
    intro x hx
    obtain ⟨t, ht, rfl⟩ := List.mem_map.1 hx
    exact (hk t ht).2.2
  obtain ⟨g1, _, _⟩ := fold_step hst (0, 1) (by simp) (by simp)
  exact ⟨hk, le_up (fold (ts.map (sz n))).1 (fold (ts.map (sz n))).2 g1, h3⟩

theorem la_all : ∀ n, LA n := by
  intro n
  induction n with
  | zero =>
    intro t p l bs r bs' hs hn hp h
    exact leaf_A hn hp h
  | succ n ih =>
    intro t p l bs r bs' hs hn hp h
    cases t with
    | inl x => exact leaf_A hn hp h
    | inr ts =>
      obtain ⟨hk, hfd, hne⟩ := struct_bd hs hn
      rw [parts_eq ts hne, List.map_cons, show ∀ (x : Pt) (xs : List Pt), x :: xs = [x] ++ xs from fun _ _ => rfl, layAll_append] at h
      cases hA : layAll [(markP 123).sh p] l bs with
      | none => rw [hA] at h; cases h
      | some y =>
        obtain ⟨l1, b1⟩ := y
        rw [hA] at h
        simp only [Option.bind_some] at h
        obtain ⟨d, hd, e5, e6⟩ := layAll_mark hA
        have hd' : d = 123 := u8eq (by rw [hd]; rfl)
        subst hd'
        subst e6
        obtain ⟨vs, g1, g2, g3, g4⟩ := fields_A ih ts (0, 1) p l1 _ r bs' hne hk (by simp) (by simp) (by omega) h
        have hvne : vs ≠ [] := by
          intro e; subst e; simp at g2; exact hne (List.eq_nil_of_length_eq_zero g2.symm)
        obtain ⟨L', k1, k2⟩ := g4 b1 [] rfl (by rw [over_nil])
        refine ⟨123 :: join vs ++ [125], padTo L' (sz (n + 1) (.inr ts)).1, by rw [e5, g1]; simp, bal_struct vs hvne g3, ?_, by rw [k2, over_pad]⟩
        have hcut : cut (123 :: join vs ++ [125]) = some vs := by
          unfold cut
          rw [if_pos ⟨by simp, by simp, by simp [List.getLast?_cons]⟩]
          simpa using cut_join vs hvne g3
        simp only [lieP, hcut]
        rw [if_pos g2, k1]; rfl

theorem lb_all : ∀ n, LB n := by
  intro n
  induction n with
  | zero =>
    intro t p v bs r L hs hn hp hr h
    exact leaf_B hn hp hr h
  | succ n ih =>
    intro t p v bs r L hs hn hp hr h
    cases t with
    | inl x => exact leaf_B hn hp hr h
    | inr ts =>
      obtain ⟨hk, hfd, hne⟩ := struct_bd hs hn
      simp only [lieP] at h
      cases hc : cut v with
      | none => rw [hc] at h; cases h
      | some ps =>
        rw [hc] at h
        simp only at h
        split at h
        · rename_i hl
          cases hf : lieF (List.zip (List.zipWith (lieP n) ts ps) (places (0, 1) (ts.map (sz n)))) [] with
          | none => rw [hf] at h; cases h
          | some L' =>
            rw [hf] at h
            simp only [Option.map_some] at h
            cases h
            unfold cut at hc
            split at hc
            · rename_i hcond
              cases v with
              | nil => simp at hcond
              | cons c s =>
                obtain ⟨hc1, hc2, hc3⟩ := hcond
                simp at hc2
                subst hc2
                simp at hc
                have hsne : s ≠ [] := by intro e; subst e; simp at hc1
                have hlast : s.getLast? = some 125 := by
                  rw [List.getLast?_cons] at hc3
                  cases hx : s.getLast? with
                  | none => rw [List.getLast?_eq_none_iff] at hx; exact absurd hx hsne
                  | some y => rw [hx] at hc3; simpa using hc3
                obtain ⟨_, h2⟩ := cutGo_join s 0 [] ps hc hsne hlast
                simp at h2
                rw [parts_eq ts hne, List.map_cons, show ∀ (x : Pt) (xs : List Pt), x :: xs = [x] ++ xs from fun _ _ => rfl, layAll_append, List.cons_append, show layAll [(markP 123).sh p] (123 :: (s ++ r)) bs = _ from layAll_mark_of (c := 123) _ _]
                simp only [Option.bind_some]
                have := fields_B ih ts ps (0, 1) p r bs [] L' hne hl hk (by simp) (by simp) (by omega) rfl hf
                rw [over_nil] at this
                rw [h2, List.append_assoc, List.cons_append, List.nil_append, this, over_pad]
            · cases hc
        · cases h

/-- The two ways agree. -/
theorem lay_lie {n : Nat} (t : Ty n) (v : List UInt8) (f : UInt8) (hs : Sm n t) (hn : Nm n t) :
    (match layAll (parts n t) v (List.replicate (sz n t).1 f) with
      | some ([], bs) => some bs
      | _ => none) = (lieP n t v).map fun L => L.map fun x => x.getD f := by
  have e0 : (parts n t).map (Pt.sh 0) = parts n t := by
    have : ∀ x : Pt, Pt.sh 0 x = x := fun x => by simp [Pt.sh]
    rw [show Pt.sh 0 = id from funext this]; simp
  apply Option.ext
  intro bs
  constructor
  · intro h
    split at h
    · rename_i bs0 hl
      cases h
      rw [← e0] at hl
      obtain ⟨v', L, e1, _, e3, e4⟩ := la_all n t 0 v _ [] bs hs hn (by simp) hl
      rw [List.append_nil] at e1
      subst e1
      rw [e3, e4]
      simp only [Option.map_some]
      rw [over_all _ _ _ (lie_len n t v L hs e3)]
    · cases h
  · intro h
    cases hl : lieP n t v with
    | none => rw [hl] at h; cases h
    | some L =>
      rw [hl] at h
      simp only [Option.map_some] at h
      cases h
      have := lb_all n t 0 v (List.replicate (sz n t).1 f) [] L hs hn (by simp) (by intro c hc; cases hc) hl
      rw [List.append_nil, e0] at this
      rw [this]
      simp only
      rw [over_all _ _ _ (lie_len n t v L hs hl)]
end Go.Proofs.YtghggcehloiemabGreatDoor.P
namespace Go.Proofs.YtghggcehloiemabGreatDoor
open Go.RowKit
set_option linter.unusedVariables false
set_option maxRecDepth 16000

namespace P
def rsizeOf (l : List UInt8) : Nat × Nat × Nat := match rtyOf l with
  | some t => ((sz 4 t).1, (sz 4 t).2, 0)
  | none => (0, 0, 1)
end P

set_option maxHeartbeats 1000000 in
theorem rSize_any (s : ByteArray) (w : World) (hs : s.size ≤ maxLen) :
    Calls Tryz.prog 119 #[.string s] w fun e w' => e = .returned (.tuple #[.int .i64 (P.rsizeOf s.data.toList).1, .int .i64 (P.rsizeOf s.data.toList).2.1, .int .i64 (P.rsizeOf s.data.toList).2.2]) ∧ Below w.heap.size w w' := by
  go_enter Tryz.func119, Tryz.ntmps119
  go_wp2_with fail
  refine (rParse_any s w hs).mono ?_
  rintro e w1 ⟨hpost, hbe⟩
  cases ht : P.rtyOf s.data.toList with
  | none =>
    rw [ht] at hpost
    obtain ⟨v, rfl, a1, a2, a3, x', n1, k1, y, m1, j1, rfl⟩ := hpost
    have HT : Hid (P.rsizeOf s.data.toList = (0, 0, 1)) := by unfold Hid P.rsizeOf; rw [ht]
    clear ht
    go_wp2_with fail
    go_ret3
    exact ⟨by rw [HT.out]; rfl, hbe.alloc hbe.size _⟩
  | some t =>
    rw [ht] at hpost
    obtain ⟨v, S, rfl, hT, hS⟩ := hpost
    obtain ⟨a1, x', n1, k1, y, m1, j1, rfl⟩ := hT.is
    obtain ⟨fs, hfs⟩ : ∃ fs, (P.sz 4 t).1 = fs := ⟨_, rfl⟩
    obtain ⟨fp, hfp⟩ : ∃ fp, (P.sz 4 t).2 = fp := ⟨_, rfl⟩
    have HT : Hid (P.rsizeOf s.data.toList = (fs, fp, 0)) := by unfold Hid P.rsizeOf; rw [ht, ← hfs, ← hfp]
    rw [hfs, hfp]
    clear ht hT hfs hfp hS
    go_wp2_with fail
    go_quiet (fail)
    go_wp2_with fail
    go_ret3
    exact ⟨by rw [HT.out]; rfl, below_drewN (hbe.alloc hbe.size _) _⟩
end Go.Proofs.YtghggcehloiemabGreatDoor
namespace Go.Proofs.YtghggcehloiemabGreatDoor
open Go.RowKit
set_option linter.unusedVariables false
set_option maxRecDepth 16000
theorem p_ty_eq (l : List UInt8) : P.tyOf l = P.rtyOf l := by
  unfold P.tyOf P.rtyOf
  by_cases h : 80 < l.length
  · rw [if_pos h, if_pos h]
  · rw [if_neg h, if_neg h]; exact P.rd_rp l
set_option maxHeartbeats 1000000 in
theorem rRefused_any (sk sv : ByteArray) (slots : Int) (w : World) (hk : sk.size ≤ maxLen) (hv : sv.size ≤ maxLen) :
    Calls Tryz.prog 73 #[.string sk, .string sv, .int .i64 slots] w fun e w' => e = .returned (.int .i64 (P.errOf sk.data.toList sv.data.toList slots)) ∧ Below w.heap.size w w' := by
  have HE : Hid (P.errOf sk.data.toList sv.data.toList slots = match P.rtyOf sk.data.toList, P.rtyOf sv.data.toList with
    | some _, some _ => if 1 ≤ slots ∧ slots ≤ 16 then 0 else 6
    | _, _ => 1) := by
    unfold Hid P.errOf; rw [p_ty_eq, p_ty_eq]
    cases P.rtyOf sk.data.toList <;> cases P.rtyOf sv.data.toList <;> rfl
  have hp : ∀ (s : ByteArray) (w : World), s.size ≤ maxLen → Calls Tryz.prog 74 #[.string s] w fun e w' => ∃ a1 a2 a3 x n k y m j, e = .returned (.tuple #[.agg #[.int .u8 a1, .int .i64 a2, .int .i64 a3, .slice x n k, .slice y m j], .bool (P.rtyOf s.data.toList).isSome]) ∧ Below w.heap.size w w' := by
    intro s w hs
    refine (rParse_any s w hs).mono ?_
    rintro e w1 ⟨hpost, hbe⟩
    cases ht : P.rtyOf s.data.toList with
    | none =>
      rw [ht] at hpost
      obtain ⟨v, rfl, a1, a2, a3, x', n1, k1, y, m1, j1, rfl⟩ := hpost
      exact ⟨_, _, _, _, _, _, _, _, _, rfl, hbe⟩
    | some t =>
      rw [ht] at hpost
      obtain ⟨v, S, rfl, hT, hS⟩ := hpost
      obtain ⟨a1, x', n1, k1, y, m1, j1, rfl⟩ := hT.is
      exact ⟨_, _, _, _, _, _, _, _, _, rfl, hbe⟩
  have HP := hid_m hp
  clear hp
  go_enter Tryz.func73, Tryz.ntmps73
  go_wp2_with fail
  refine (HP.out sk _ hk).mono ?_
  rintro e w1 ⟨a1, a2, a3, x1, n1, k1, y1, m1, j1, rfl, hb1⟩
  obtain ⟨ok, hok⟩ : ∃ b, (P.rtyOf sk.data.toList).isSome = b := ⟨_, rfl⟩
  rw [hok]
  have HOK := hid_m hok
  have B1 := hid_m hb1
  clear hok hb1
  go_wp2_with fail
  refine (HP.out sv _ hv).mono ?_
  rintro e w2 ⟨b1, b2, b3, x2, n2, k2, y2, m2, j2, rfl, hb2⟩
  obtain ⟨ov, hov⟩ : ∃ b, (P.rtyOf sv.data.toList).isSome = b := ⟨_, rfl⟩
  rw [hov]
  have HOV := hid_m hov
  have B2 := hid_m (((B1.out.alloc B1.out.size _).trans (hb2.mono (by have := B1.out.size; simp; omega))).alloc (by have := B1.out.size; have := hb2.size; simp at this; omega) (.cells #[.int .u8 b1, .int .i64 b2, .int .i64 b3, .slice x2 n2 k2, .slice y2 m2 j2] 121))
  clear hov hb2
  cases ok with
  | false =>
    have HF : Hid (P.errOf sk.data.toList sv.data.toList slots = 1) := by
      unfold Hid; rw [HE.out]
      cases hk' : P.rtyOf sk.data.toList with
      | none => cases P.rtyOf sv.data.toList <;> rfl
      | some t => have := HOK.out; rw [hk'] at this; cases this
    go_wp2_with fail
    go_ret
    exact ⟨by rw [HF.out]; rfl, B2.out⟩
  | true =>
    obtain ⟨tk, htk⟩ := Option.isSome_iff_exists.1 HOK.out
    cases ov with
    | false =>
      have HF : Hid (P.errOf sk.data.toList sv.data.toList slots = 1) := by
        unfold Hid; rw [HE.out, htk]
        cases hv' : P.rtyOf sv.data.toList with
        | none => rfl
        | some t => have := HOV.out; rw [hv'] at this; cases this
      clear htk
      go_wp2_with fail
      go_ret
      exact ⟨by rw [HF.out]; rfl, B2.out⟩
    | true =>
      obtain ⟨tv, htv⟩ := Option.isSome_iff_exists.1 HOV.out
      have HF : Hid (P.errOf sk.data.toList sv.data.toList slots = if 1 ≤ slots ∧ slots ≤ 16 then 0 else 6) := by unfold Hid; rw [HE.out, htk, htv]
      clear htk htv
      by_cases h1 : slots < 1
      · have HG : Hid (P.errOf sk.data.toList sv.data.toList slots = 6) := by unfold Hid; rw [HF.out, if_neg (by omega)]
        go_wp2_with fail
        go_ret
        exact ⟨by rw [HG.out]; rfl, B2.out⟩
      · by_cases h2 : 16 < slots
        · have HG : Hid (P.errOf sk.data.toList sv.data.toList slots = 6) := by unfold Hid; rw [HF.out, if_neg (by omega)]
          go_wp2_with fail
          go_ret
          exact ⟨by rw [HG.out]; rfl, B2.out⟩
        · have HG : Hid (P.errOf sk.data.toList sv.data.toList slots = 0) := by unfold Hid; rw [HF.out, if_pos (by omega)]
          go_wp2_with fail
          go_ret
          exact ⟨by rw [HG.out]; rfl, B2.out⟩
set_option maxHeartbeats 400000 in
theorem p_num_any (n : Int) (w : World) : Calls Tryz.prog 42 #[.int .i64 n] w fun e w' => e = .returned (.int .i64 n) ∧ w' = w := by
  go_enter Tryz.func42, Tryz.ntmps42
  go_wp2
  go_ret
  exact ⟨by simp, rfl⟩
namespace P
theorem room_ok {lk lv : List UInt8} {slots : Int} (h : errOf lk lv slots = 0) : ∃ tk tv : Ty 4, tyOf lk = some tk ∧ tyOf lv = some tv ∧ 1 ≤ slots ∧ slots ≤ 16 ∧ (rsizeOf lk).1 = (sz 4 tk).1 ∧ (rsizeOf lv).1 = (sz 4 tv).1 ∧ roomOf lk lv slots = 1 + slots.toNat * ((cov (parts 4 tk)).length + (cov (parts 4 tv)).length) ∧ progOf lk lv slots = text (prog (cov (parts 4 tk)) (cov (parts 4 tv)) slots.toNat).resolve := by
  unfold errOf at h
  cases hk : tyOf lk with
  | none => rw [hk] at h; exfalso; cases hv : tyOf lv <;> (rw [hv] at h; cases h)
  | some tk =>
    cases hv : tyOf lv with
    | none => rw [hk, hv] at h; cases h
    | some tv =>
      rw [hk, hv] at h
      simp only at h
      by_cases hs : 1 ≤ slots ∧ slots ≤ 16
      · refine ⟨tk, tv, rfl, rfl, hs.1, hs.2, by unfold rsizeOf; rw [← p_ty_eq, hk], by unfold rsizeOf; rw [← p_ty_eq, hv], ?_, ?_⟩
        · unfold roomOf; rw [hk, hv]; simp only; rw [if_pos hs]
        · unfold progOf; rw [hk, hv]; simp only; rw [if_pos hs]
      · rw [if_neg hs] at h; cases h
theorem room_no {lk lv : List UInt8} {slots : Int} (h : errOf lk lv slots ≠ 0) : roomOf lk lv slots = 0 ∧ progOf lk lv slots = [] ∧ (errOf lk lv slots = 1 ∨ errOf lk lv slots = 6) := by
  unfold errOf at h ⊢
  unfold roomOf progOf
  cases hk : tyOf lk with
  | none => cases hv : tyOf lv <;> exact ⟨rfl, rfl, Or.inl rfl⟩
  | some tk =>
    cases hv : tyOf lv with
    | none => exact ⟨rfl, rfl, Or.inl rfl⟩
    | some tv =>
      rw [hk, hv] at h
      simp only at h ⊢
      by_cases hs : 1 ≤ slots ∧ slots ≤ 16
      · rw [if_pos hs] at h; exact absurd rfl h
      · rw [if_neg hs, if_neg hs, if_neg hs]; exact ⟨rfl, rfl, Or.inr rfl⟩
end P
theorem prog_code {lk lv : List UInt8} {slots : Int} (h : P.errOf lk lv slots = 0) : P.IsCode (P.progOf lk lv slots) := by
  obtain ⟨tk, tv, h1, h2, h3, h4, h5, h6, h7, h8⟩ := P.room_ok h
  have kk := known_of h1
  have kv := known_of h2
  rw [h8]
  have := kk.covl; have := kk.sz32; have := kv.covl; have := kv.sz32
  exact P.resolve_isCode kk.cov32 kv.cov32 (by omega) (by omega) (by omega)
theorem prog_len {lk lv : List UInt8} {slots : Int} (h : P.errOf lk lv slots = 0) : (P.progOf lk lv slots).length ≤ 4000 := by
  have := (prog_code h).few
  have := (prog_code h).five
  omega
theorem room_most {lk lv : List UInt8} {slots : Int} (h : P.errOf lk lv slots = 0) : 1 ≤ slots ∧ slots ≤ 16 ∧ (P.rsizeOf lk).1 ≤ 32 ∧ (P.rsizeOf lv).1 ≤ 32 ∧ (P.roomOf lk lv slots : Int) ≤ slots * ((P.rsizeOf lk).1 + (P.rsizeOf lv).1 + 4) := by
  obtain ⟨tk, tv, h1, h2, h3, h4, h5, h6, h7, h8⟩ := P.room_ok h
  have kk := known_of h1
  have kv := known_of h2
  have a1 := kk.covl; have a2 := kk.sz32; have a3 := kv.covl; have a4 := kv.sz32
  rw [h5, h6, h7]
  refine ⟨h3, h4, a2, a4, ?_⟩
  obtain ⟨sl, rfl⟩ : ∃ sl : Nat, slots = (sl : Int) := ⟨slots.toNat, by omega⟩
  rw [show (sl : Int).toNat = sl from rfl]
  have m1 : sl * ((P.cov (P.parts 4 tk)).length + (P.cov (P.parts 4 tv)).length) ≤ sl * ((P.sz 4 tk).1 + (P.sz 4 tv).1) := Nat.mul_le_mul_left _ (by omega)
  have m2 : sl * ((P.sz 4 tk).1 + (P.sz 4 tv).1 + 4) = sl * ((P.sz 4 tk).1 + (P.sz 4 tv).1) + sl * 4 := Nat.mul_add _ _ _
  have m3 : ((sl * ((P.sz 4 tk).1 + (P.sz 4 tv).1 + 4) : Nat) : Int) = (sl : Int) * (((P.sz 4 tk).1 : Int) + ((P.sz 4 tv).1 : Int) + 4) := by simp
  omega
end Go.Proofs.YtghggcehloiemabGreatDoor
namespace Go.Proofs.YtghggcehloiemabGreatDoor
open Go.RowKit
set_option linter.unusedVariables false
set_option maxRecDepth 16000
theorem tw_lie_val {t : P.Ty 4} (hs : P.Sm 4 t) (hn : P.Nm 4 t) (s : List UInt8) : (P.lieP 4 t s).isSome = true ↔ P.IsVal t s := by
  have key := P.lay_lie t s 0 hs hn
  constructor
  · intro h
    obtain ⟨L, hL⟩ := Option.isSome_iff_exists.1 h
    rw [hL] at key
    unfold P.IsVal
    cases hl : P.layAll (P.parts 4 t) s (List.replicate (P.sz 4 t).1 0) with
    | none => rw [hl] at key; cases key
    | some y =>
      obtain ⟨l', bs⟩ := y
      cases l' with
      | nil => exact ⟨bs, rfl⟩
      | cons c r => rw [hl] at key; cases key
  · rintro ⟨bs, hb⟩
    rw [hb] at key
    cases hq : P.lieP 4 t s with
    | none => rw [hq] at key; cases key
    | some L => rfl
theorem tw_known_r {l : List UInt8} {t : P.Ty 4} (h : P.rtyOf l = some t) : Known t ∧ P.Sm 4 t ∧ P.Nm 4 t := by
  have hrp : P.rp 4 l = some t := by
    unfold P.rtyOf at h
    split at h
    · cases h
    · exact h
  exact ⟨known_of (by rw [p_ty_eq]; exact h), P.rp_sm 4 _ t hrp, P.rp_nm 4 _ t hrp⟩
end Go.Proofs.YtghggcehloiemabGreatDoor
