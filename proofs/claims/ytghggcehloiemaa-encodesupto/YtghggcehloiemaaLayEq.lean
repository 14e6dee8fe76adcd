import Derived.Test.YtghggcehloiemaaLieP
import Derived.Test.YtghggcehloiemaaWriter3
namespace Go.Proofs.Ytghggcehloiemaa.P
set_option linter.unusedVariables false

/-- Bytes with a value laid over them: its gaps leave them alone. -/
def over (bs : List UInt8) (p : Nat) (L : List (Option UInt8)) : List UInt8 := bs.mapIdx fun i b => if p ≤ i then ((L[i - p]?).getD none).getD b else b
theorem over_get (bs : List UInt8) (p : Nat) (L : List (Option UInt8)) (i : Nat) : (over bs p L)[i]? = (bs[i]?).map fun b => if p ≤ i then ((L[i - p]?).getD none).getD b else b := by
  unfold over; rw [List.getElem?_mapIdx]
theorem over_length (bs : List UInt8) (p : Nat) (L : List (Option UInt8)) : (over bs p L).length = bs.length := by simp [over]
theorem over_nil (bs : List UInt8) (p : Nat) : over bs p [] = bs := by
  apply List.ext_getElem?
  intro i
  rw [over_get]
  cases bs[i]? with
  | none => rfl
  | some b => simp
theorem put_over (bs : List UInt8) (p : Nat) (xs : List UInt8) (h : p + xs.length ≤ bs.length) : put bs p xs = over bs p (xs.map some) := by
  apply List.ext_getElem?
  intro i
  rw [over_get]
  unfold put
  rcases Nat.lt_or_ge i p with h1 | h1
  · rw [List.append_assoc, List.getElem?_append_left (by simp; omega), List.getElem?_take_of_lt h1]
    cases bs[i]? with
    | none => rfl
    | some b => simp only [Option.map_some]; rw [if_neg (by omega)]
  · rcases Nat.lt_or_ge i (p + xs.length) with h2 | h2
    · rw [List.getElem?_append_left (by simp; omega), List.getElem?_append_right (by simp; omega)]
      have hl : (bs.take p).length = p := by simp; omega
      rw [hl, List.getElem?_eq_getElem (show i < bs.length by omega), List.getElem?_eq_getElem (show i - p < xs.length by omega)]
      simp only [Option.map_some]
      rw [if_pos h1, List.getElem?_map, List.getElem?_eq_getElem (show i - p < xs.length by omega)]
      rfl
    · rw [List.getElem?_append_right (by simp; omega)]
      have hl : (bs.take p ++ xs).length = p + xs.length := by simp; omega
      rw [hl, List.getElem?_drop, show p + xs.length + (i - (p + xs.length)) = i by omega]
      cases bs[i]? with
      | none => rfl
      | some b =>
        simp only [Option.map_some]
        rw [if_pos h1, List.getElem?_eq_none (by simp; omega)]; rfl
theorem padTo_get (L : List (Option UInt8)) (k j : Nat) : ((padTo L k)[j]?).getD none = (L[j]?).getD none := by
  unfold padTo
  rcases Nat.lt_or_ge j L.length with h | h
  · rw [List.getElem?_append_left h]
  · rw [List.getElem?_append_right h, List.getElem?_eq_none h, List.getElem?_replicate]
    split <;> rfl
theorem over_pad (bs : List UInt8) (p : Nat) (L : List (Option UInt8)) (k : Nat) : over bs p (padTo L k) = over bs p L := by
  apply List.ext_getElem?
  intro i
  rw [over_get, over_get]
  cases bs[i]? with
  | none => rfl
  | some b => simp only [Option.map_some, padTo_get]
theorem over_next (bs : List UInt8) (p : Nat) (L y : List (Option UInt8)) (k : Nat) (hk : L.length ≤ k) : over (over bs p L) (p + k) y = over bs p (padTo L k ++ y) := by
  apply List.ext_getElem?
  intro i
  rw [over_get, over_get, over_get]
  cases bs[i]? with
  | none => rfl
  | some b =>
    simp only [Option.map_some]
    congr 1
    rcases Nat.lt_or_ge i p with h1 | h1
    · rw [if_neg (by omega), if_neg (by omega), if_neg (by omega)]
    · rw [if_pos h1, if_pos h1]
      rcases Nat.lt_or_ge i (p + k) with h2 | h2
      · rw [if_neg (by omega), List.getElem?_append_left (by rw [padTo_length _ _ hk]; omega), padTo_get]
      · rw [if_pos h2, List.getElem?_append_right (by rw [padTo_length _ _ hk]; omega), padTo_length _ _ hk, List.getElem?_eq_none (show L.length ≤ i - p by omega), show i - (p + k) = i - p - k by omega]
        rfl
theorem over_all (n : Nat) (f : UInt8) (L : List (Option UInt8)) (h : L.length = n) : over (List.replicate n f) 0 L = L.map fun x => x.getD f := by
  apply List.ext_getElem?
  intro i
  rw [over_get, List.getElem?_map, List.getElem?_replicate]
  rcases Nat.lt_or_ge i n with h1 | h1
  · rw [if_pos h1]
    simp [List.getElem?_eq_getElem (show i < L.length by omega)]
  · rw [if_neg (by omega)]
    simp [List.getElem?_eq_none (show L.length ≤ i by omega)]

theorem layAll_append : ∀ (A B : List Pt) (l bs : List UInt8), layAll (A ++ B) l bs = (layAll A l bs).bind fun y => layAll B y.1 y.2 := by
  intro A
  induction A with
  | nil => intro B l bs; rfl
  | cons x A ih =>
    intro B l bs
    simp only [List.cons_append, layAll]
    cases stepP x l bs with
    | none => rfl
    | some y => obtain ⟨k, bs'⟩ := y; exact ih B _ _

theorem sh_sh (p q : Nat) (xs : List Pt) : (xs.map (Pt.sh q)).map (Pt.sh p) = xs.map (Pt.sh (p + q)) := by
  rw [List.map_map]
  apply List.map_congr_left
  intro x _
  simp [Pt.sh]; omega

theorem layAll_mark {c p : Nat} {l bs r bs' : List UInt8} (h : layAll [(markP c).sh p] l bs = some (r, bs')) : ∃ d : UInt8, d.toNat = c ∧ l = d :: r ∧ bs' = bs := by
  simp only [layAll] at h
  cases hs : stepP ((markP c).sh p) l bs with
  | none => rw [hs] at h; cases h
  | some y =>
    obtain ⟨k, b'⟩ := y
    rw [hs] at h
    simp at h
    obtain ⟨rfl, rfl⟩ := h
    cases l with
    | nil => simp [stepP, markP, Pt.sh] at hs
    | cons d l =>
      simp [stepP, markP, Pt.sh] at hs
      obtain ⟨hd, rfl, rfl⟩ := hs
      exact ⟨d, hd, by simp, rfl⟩
theorem layAll_mark_of {c : UInt8} {p : Nat} (r bs : List UInt8) : layAll [(markP c.toNat).sh p] (c :: r) bs = some (r, bs) := by
  simp [layAll, stepP, markP, Pt.sh]

theorem rdhex_take : ∀ (k : Nat) (l xs : List UInt8), rdhex k l = some xs → 2 * k ≤ l.length ∧ rdhex k (l.take (2 * k)) = some xs ∧ ∀ c ∈ l.take (2 * k), c ≠ 123 ∧ c ≠ 125 ∧ c ≠ 44 := by
  intro k
  induction k with
  | zero => intro l xs h; exact ⟨by omega, by simpa [rdhex] using h, by simp⟩
  | succ k ih =>
    intro l xs h
    cases l with
    | nil => simp [rdhex] at h
    | cons a l =>
      cases l with
      | nil => simp [rdhex] at h
      | cons c r =>
        simp only [rdhex] at h
        split at h
        · rename_i x y hx hy
          cases hr : rdhex k r with
          | none => rw [hr] at h; cases h
          | some ys =>
            rw [hr] at h
            simp only [Option.map_some] at h
            cases h
            obtain ⟨h1, h2, h3⟩ := ih r ys hr
            have e : (a :: c :: r).take (2 * (k + 1)) = a :: c :: r.take (2 * k) := by rw [show 2 * (k + 1) = 2 * k + 1 + 1 by omega]; rfl
            have hne : ∀ (d : UInt8) (z : Nat), hexv d = some z → d ≠ 123 ∧ d ≠ 125 ∧ d ≠ 44 := by
              intro d z hd
              refine ⟨?_, ?_, ?_⟩ <;> (rintro rfl; simp [hexv] at hd)
            refine ⟨by simp; omega, by rw [e]; simp only [rdhex]; rw [hx, hy, h2]; rfl, ?_⟩
            rw [e]
            intro d hd
            simp only [List.mem_cons] at hd
            rcases hd with rfl | rfl | hd
            · exact hne _ _ hx
            · exact hne _ _ hy
            · exact h3 d hd
        · cases h
theorem rdhex_app : ∀ (k : Nat) (v r xs : List UInt8), v.length = 2 * k → rdhex k v = some xs → rdhex k (v ++ r) = some xs := by
  intro k
  induction k with
  | zero => intro v r xs _ h; simpa [rdhex] using h
  | succ k ih =>
    intro v r xs hl h
    cases v with
    | nil => simp at hl
    | cons a v =>
      cases v with
      | nil => simp at hl; omega
      | cons c v =>
        simp only [rdhex, List.cons_append] at h ⊢
        split at h
        · rename_i x y hx hy
          cases hr : rdhex k v with
          | none => rw [hr] at h; cases h
          | some ys =>
            rw [hr] at h
            rw [ih v r ys (by simp at hl; omega) hr]
            exact h
        · cases h

theorem rdnum_digs {most : Nat} {l : List UInt8} {n k : Nat} (hm : most < 10000000000) (h : rdnum most l = some (n, k)) : l = digs l ++ l.drop k ∧ rnum (digs l) = n ∧ n ≤ most ∧ Bal (digs l) := by
  unfold rdnum at h
  split at h
  · cases h
  · rename_i hn
    simp at h
    obtain ⟨rfl, rfl⟩ := h
    have hne : digs l ≠ [] := fun e => hn (Or.inl e)
    have hle : val (digs l) ≤ most := by
      rcases Nat.lt_or_ge most (val (digs l)) with h3 | h3
      · exact absurd (Or.inr (Or.inr h3)) hn
      · exact h3
    have hlead : ¬ (1 < (digs l).length ∧ (digs l).head? = some 48) := fun e => hn (Or.inr (Or.inl e))
    have h10 : (digs l).length ≤ 10 := by
      cases hd : digs l with
      | nil => simp
      | cons c r =>
        rcases Nat.lt_or_ge r.length 10 with h2 | h2
        · simp; omega
        · exfalso
          have hc : c ≠ 48 := fun e => hlead ⟨by rw [hd]; simp; omega, by rw [hd, e]; rfl⟩
          have := val_ge (l := r) (digs_all l c (by rw [hd]; simp)) hc
          have hp : 10 ^ 10 ≤ 10 ^ r.length := Nat.pow_le_pow_right (by omega) h2
          rw [hd] at hle
          omega
    refine ⟨digs_split l, rnum_of (fun c hc => digs_all l c hc) (List.length_pos_iff.2 hne) h10 hlead, hle, ?_⟩
    apply bal_plain
    intro y hy
    have := isDig_sub (digs_all l y hy)
    refine ⟨?_, ?_, ?_⟩ <;> (rintro rfl; simp at this)

theorem pow_bd {k : Nat} (h : k ≤ 4) : 256 ^ k - 1 < 10000000000 ∧ 1 ≤ 256 ^ k := by
  have h1 : 256 ^ k ≤ 256 ^ 4 := Nat.pow_le_pow_right (by omega) h
  have h2 : 0 < 256 ^ k := Nat.pos_of_ne_zero (by simp)
  omega

/-- A leaf, the program's way to the reference's. -/
theorem leaf_A {x : Bool × Nat} {p : Nat} {l bs r bs' : List UInt8} (h4 : x.1 = true → x.2 ≤ 4) (hp : p + x.2 ≤ bs.length) (h : layAll [(lpart x).sh p] l bs = some (r, bs')) : ∃ v L, l = v ++ r ∧ Bal v ∧ lieLeaf x v = some L ∧ bs' = over bs p L := by
  obtain ⟨num, k⟩ := x
  simp only [layAll] at h
  cases hs : stepP ((lpart (num, k)).sh p) l bs with
  | none => rw [hs] at h; cases h
  | some y =>
    obtain ⟨m, b'⟩ := y
    rw [hs] at h
    simp at h
    obtain ⟨rfl, rfl⟩ := h
    cases num with
    | true =>
      simp only [stepP, lpart, Pt.sh, if_true, Nat.zero_add] at hs
      obtain ⟨hb1, hb2⟩ := pow_bd (k := k) (h4 rfl)
      cases hn : rdnum (256 ^ k - 1) l with
      | none => rw [hn] at hs; cases hs
      | some z =>
        obtain ⟨n, kk⟩ := z
        rw [hn] at hs
        simp at hs
        obtain ⟨rfl, rfl⟩ := hs
        obtain ⟨e1, e2, e3, e4⟩ := rdnum_digs hb1 hn
        refine ⟨digs l, (le k n).map some, e1, e4, ?_, by rw [put_over _ _ _ (by rw [le_length]; simpa using hp)]⟩
        unfold lieLeaf
        rw [if_pos rfl, if_pos ⟨by rw [e2]; omega, by rw [e2]; simp only [Int.toNat_natCast]; exact Nat.div_eq_of_lt (by omega)⟩, e2]
        rfl
    | false =>
      simp only [stepP, lpart, Pt.sh, Bool.false_eq_true, if_false, Nat.zero_add] at hs
      rw [if_neg (by omega), if_pos trivial] at hs
      cases hn : rdhex k l with
      | none => rw [hn] at hs; cases hs
      | some xs =>
        rw [hn] at hs
        simp at hs
        obtain ⟨rfl, rfl⟩ := hs
        obtain ⟨h1, h2, h3⟩ := rdhex_take k l xs hn
        have hxl := rdhex_length k l xs hn
        refine ⟨l.take (2 * k), xs.map some, by rw [List.take_append_drop], bal_plain _ h3, ?_, by rw [put_over _ _ _ (by rw [hxl]; simpa using hp)]⟩
        unfold lieLeaf
        rw [if_neg (by simp), if_pos (by simp; omega), h2]; rfl

/-- A leaf, the reference's way to the program's. -/
theorem leaf_B {x : Bool × Nat} {p : Nat} {v bs r : List UInt8} {L : List (Option UInt8)} (h4 : x.1 = true → x.2 ≤ 4) (hp : p + x.2 ≤ bs.length) (hr : nodig r) (h : lieLeaf x v = some L) : layAll [(lpart x).sh p] (v ++ r) bs = some (r, over bs p L) := by
  obtain ⟨num, k⟩ := x
  unfold lieLeaf at h
  cases num with
  | true =>
    rw [if_pos rfl] at h
    split at h
    · rename_i hc
      cases h
      obtain ⟨h1, h2, h3, h5, h6⟩ := rnum_pos hc.1
      obtain ⟨hb1, hb2⟩ := pow_bd (k := k) (h4 rfl)
      have hd := digs_of_all v r h1 hr
      have hv : val v ≤ 256 ^ k - 1 := by
        have h7 := hc.2
        rw [h6] at h7
        simp only [Int.toNat_natCast] at h7
        have := Nat.lt_of_div_eq_zero (by omega) h7
        omega
      have hn : rdnum (256 ^ k - 1) (v ++ r) = some (val v, v.length) := by
        unfold rdnum
        rw [hd, if_neg]
        rintro (h | h | h)
        · subst h; simp at h2
        · exact h5 h
        · omega
      simp only [layAll, stepP, lpart, Pt.sh, if_true, Nat.zero_add, hn, Option.map_some]
      rw [List.drop_left, put_over _ _ _ (by rw [le_length]; simpa using hp), h6]
      rfl
    · cases h
  | false =>
    rw [if_neg (by simp)] at h
    split at h
    · rename_i hl
      simp only at hl
      cases hx : rdhex k v with
      | none => rw [hx] at h; cases h
      | some xs =>
        rw [hx] at h
        simp at h
        subst h
        have hxl := rdhex_length k v xs hx
        simp only [layAll, stepP, lpart, Pt.sh, Bool.false_eq_true, if_false, Nat.zero_add]
        rw [if_neg (by omega), if_pos trivial, rdhex_app k v r xs hl hx]
        simp only [Option.map_some]
        rw [← hl, List.drop_left, put_over _ _ _ (by rw [hxl]; simpa using hp)]
    · cases h
end Go.Proofs.Ytghggcehloiemaa.P
