import Derived.Test.YtghggcehloiemaaDoorTellP
namespace Go.Proofs.YtghggcehloiemaaDoor.P
set_option linter.unusedVariables false

theorem leval_snoc' (l : List UInt8) (c : UInt8) : leval (l ++ [c]) = leval l + 256 ^ l.length * c.toNat := by
  induction l with
  | nil => simp [leval]
  | cons d r ih =>
    rw [List.cons_append, leval, ih, leval, List.length_cons, Nat.pow_succ, Nat.add_mul, Nat.mul_right_comm]
    omega
theorem digs_split' (s : List UInt8) : s = digs s ++ s.drop (digs s).length := by
  induction s with
  | nil => rfl
  | cons a s ih =>
    by_cases ha : isDig a = true
    · have e : digs (a :: s) = a :: digs s := by simp [digs, ha]
      rw [e, List.length_cons, List.drop_succ_cons, List.cons_append, ← ih]
    · have e : digs (a :: s) = [] := by simp [digs, ha]
      rw [e]; rfl
theorem put_sub (bs : List UInt8) (p : Nat) (xs : List UInt8) (h : p + xs.length ≤ bs.length) : sub (put bs p xs) p xs.length = xs := by
  unfold sub put
  have hl : (bs.take p).length = p := by simp; omega
  rw [List.append_assoc, List.drop_append_of_le_length (by omega), List.drop_of_length_le (by omega), List.nil_append]
  simp
theorem put_off (bs : List UInt8) (p : Nat) (xs : List UInt8) (q k : Nat) (h : p + xs.length ≤ bs.length) (ho : q + k ≤ p ∨ p + xs.length ≤ q) : sub (put bs p xs) q k = sub bs q k := by
  apply List.ext_getElem?
  intro i
  unfold sub put
  have hl : (bs.take p).length = p := by simp; omega
  rw [List.getElem?_take, List.getElem?_take, List.getElem?_drop, List.getElem?_drop]
  by_cases hi : i < k
  · rw [if_pos hi, if_pos hi, List.append_assoc]
    by_cases h1 : q + i < p
    · rw [List.getElem?_append_left (by omega), List.getElem?_take, if_pos h1]
    · rw [List.getElem?_append_right (by omega), hl]
      rw [List.getElem?_append_right (by omega), List.getElem?_drop]
      congr 1
      omega
  · rw [if_neg hi, if_neg hi]

theorem leval_le (k n : Nat) : leval (le k n) = n % 256 ^ k := by
  induction k with
  | zero => simp [le, leval, Nat.mod_one]
  | succ k ih =>
    rw [le, leval_snoc', ih, le_length, Nat.mod_pow_succ]
    congr 2
    simp

theorem val_pos {d : List UInt8} (hne : d ≠ []) (hd : ∀ c ∈ d, isDig c = true) (h0 : d.head? ≠ some 48) : 1 ≤ val d := by
  cases d with
  | nil => exact absurd rfl hne
  | cons c r =>
    have h1 := val_le_append [c] r
    have hc := hd c (by simp)
    have h2 : val [c] = c.toNat - 48 := by simp [val]
    have h3 : c ≠ 48 := fun e => h0 (by rw [e]; rfl)
    have h4 : 48 ≤ c.toNat ∧ c.toNat ≤ 57 := by unfold isDig at hc; simpa using hc
    have h5 : c.toNat ≠ 48 := fun e => h3 (UInt8.toNat_inj.1 (by simpa using e))
    have e : val (c :: r) = val ([c] ++ r) := rfl
    omega
theorem dec_val : ∀ (k : Nat) (d : List UInt8), d.length = k + 1 → (∀ c ∈ d, isDig c = true) → (1 < d.length → d.head? ≠ some 48) → Lib.decDigits (val d) = d := by
  intro k
  induction k with
  | zero =>
    intro d hl hd _
    obtain ⟨c, rfl⟩ : ∃ c, d = [c] := List.length_eq_one_iff.1 hl
    have hc := hd c (by simp)
    have h4 : 48 ≤ c.toNat ∧ c.toNat ≤ 57 := by unfold isDig at hc; simpa using hc
    have h2 : val [c] = c.toNat - 48 := by simp [val]
    rw [h2, Lib.decDigits_one (by omega)]
    congr 1
    apply UInt8.toNat_inj.1
    simp
    omega
  | succ k ih =>
    intro d hl hd h0
    obtain ⟨e, c, rfl⟩ : ∃ e c, d = e ++ [c] := by
      have hne : d ≠ [] := by intro h; rw [h] at hl; simp at hl
      exact ⟨d.dropLast, d.getLast hne, (List.dropLast_concat_getLast hne).symm⟩
    have hle : e.length = k + 1 := by simpa using hl
    have hne : e ≠ [] := by intro h; rw [h] at hle; simp at hle
    have hde : ∀ x ∈ e, isDig x = true := fun x hx => hd x (by simp [hx])
    have hh : (e ++ [c]).head? = e.head? := by cases e with
      | nil => exact absurd rfl hne
      | cons => rfl
    have h0e : e.head? ≠ some 48 := by rw [← hh]; exact h0 (by omega)
    have hrec := ih e hle hde (fun _ => h0e)
    have hp := val_pos hne hde h0e
    have hc := hd c (by simp)
    have h4 : 48 ≤ c.toNat ∧ c.toNat ≤ 57 := by unfold isDig at hc; simpa using hc
    rw [val_snoc, Lib.decDigits, dif_neg (by omega), show (val e * 10 + (c.toNat - 48)) / 10 = val e by omega, show (val e * 10 + (c.toNat - 48)) % 10 = c.toNat - 48 by omega, hrec]
    congr 2
    apply UInt8.toNat_inj.1
    simp
    omega
theorem digs_dig (l : List UInt8) : ∀ c ∈ digs l, isDig c = true := by
  intro c hc
  have h : (digs l).all isDig = true := List.all_takeWhile
  exact List.all_eq_true.1 h c hc
theorem rdnum_dec {most : Nat} {l : List UInt8} {n k : Nat} (h : rdnum most l = some (n, k)) : l = Lib.decDigits n ++ l.drop k ∧ n ≤ most := by
  unfold rdnum at h
  split at h
  · cases h
  · rename_i hn
    simp only [not_or] at hn
    obtain ⟨h1, h2, h3⟩ := hn
    cases h
    obtain ⟨j, hj⟩ : ∃ j, (digs l).length = j + 1 := ⟨(digs l).length - 1, by have := List.length_pos_iff.2 h1; omega⟩
    rw [dec_val j (digs l) hj (digs_dig l) (fun hl he => h2 ⟨hl, he⟩)]
    exact ⟨digs_split' l, by omega⟩
theorem hx_hexv {c : UInt8} {d : Nat} (h : hexv c = some d) : hx d = c := by
  unfold hexv at h
  split at h
  · rename_i h1
    cases h
    unfold hx
    rw [if_pos (by omega)]
    apply UInt8.toNat_inj.1
    simp
    omega
  · split at h
    · rename_i h1 h2
      cases h
      unfold hx
      rw [if_neg (by omega)]
      apply UInt8.toNat_inj.1
      simp
      omega
    · cases h
theorem rdhex_hexT : ∀ (k : Nat) (l xs : List UInt8), rdhex k l = some xs → l = hexT xs ++ l.drop (2 * k) := by
  intro k
  induction k with
  | zero => intro l xs h; simp [rdhex] at h; subst h; simp [hexT]
  | succ k ih =>
    intro l xs h
    cases l with
    | nil => simp [rdhex] at h
    | cons a l =>
      cases l with
      | nil => simp [rdhex] at h
      | cons c r =>
        rw [rdhex] at h
        cases hx' : hexv a with
        | none => simp [hx'] at h
        | some x =>
          cases hy' : hexv c with
          | none => simp [hx', hy'] at h
          | some y =>
            simp only [hx', hy'] at h
            cases hr : rdhex k r with
            | none => rw [hr] at h; cases h
            | some ys =>
              rw [hr] at h
              simp only [Option.map_some, Option.some.injEq] at h
              subst h
              have hrec := ih r ys hr
              have hx15 := hexv_lt hx'
              have hy15 := hexv_lt hy'
              have e : (UInt8.ofNat (x * 16 + y)).toNat = x * 16 + y := by simp; omega
              have e1 : hexT (UInt8.ofNat (x * 16 + y) :: ys) = a :: c :: hexT ys := by
                unfold hexT
                rw [List.flatMap_cons, e, show (x * 16 + y) / 16 = x by omega, show (x * 16 + y) % 16 = y by omega, hx_hexv hx', hx_hexv hy']
                rfl
              have e2 : List.drop (2 * (k + 1)) (a :: c :: r) = r.drop (2 * k) := by
                rw [show 2 * (k + 1) = 2 * k + 1 + 1 by omega]; rfl
              rw [e1, e2, List.cons_append, List.cons_append, ← hrec]

/-- Two parts lie apart. -/
def Off (x y : Pt) : Prop := x.kind = 0 ∨ y.kind = 0 ∨ x.place + x.size ≤ y.place ∨ y.place + y.size ≤ x.place

theorem step_tell {x : Pt} {l bs bs' : List UInt8} {k : Nat} (hok : PtOk bs.length x) (h : stepP x l bs = some (k, bs')) : l = tell1 bs' x ++ l.drop k := by
  unfold stepP at h
  unfold tell1
  rcases hok with ⟨h1, _, _, h4, h5⟩ | ⟨h1, _, _, _, h5⟩ | ⟨h1, h2⟩
  · rw [if_pos h1] at h ⊢
    cases hr : rdnum (256 ^ x.size - 1) l with
    | none => rw [hr] at h; cases h
    | some y =>
      obtain ⟨n, j⟩ := y
      rw [hr] at h
      simp at h
      obtain ⟨rfl, rfl⟩ := h
      obtain ⟨hl, hle⟩ := rdnum_dec hr
      have hp : 0 < 256 ^ x.size := Nat.pow_pos (by omega)
      have hs := put_sub bs x.place (le x.size n) (by rw [le_length]; exact h5)
      rw [le_length] at hs
      rw [hs, leval_le, Nat.mod_eq_of_lt (by omega)]
      exact hl
  · rw [if_neg (by omega), if_pos h1] at h ⊢
    cases hr : rdhex x.size l with
    | none => rw [hr] at h; cases h
    | some y =>
      rw [hr] at h
      simp at h
      obtain ⟨rfl, rfl⟩ := h
      have hy := rdhex_length _ _ _ hr
      have hs := put_sub bs x.place y (by rw [hy]; exact h5)
      rw [hy] at hs
      rw [hs]
      exact rdhex_hexT _ _ _ hr
  · rw [if_neg (by omega), if_neg (by omega)] at h ⊢
    cases l with
    | nil => cases h
    | cons c r =>
      simp only at h
      split at h
      · rename_i hc
        cases h
        rw [← hc]
        simp
      · cases h
theorem step_keeps {x y : Pt} {l bs bs' : List UInt8} {k : Nat} (hok : PtOk bs.length y) (h : stepP y l bs = some (k, bs')) (ho : Off x y) : tell1 bs' x = tell1 bs x := by
  by_cases hx0 : x.kind = 0
  · unfold tell1; rw [if_neg (by omega), if_neg (by omega), if_neg (by omega), if_neg (by omega)]
  · have key : sub bs' x.place x.size = sub bs x.place x.size := by
      unfold stepP at h
      rcases hok with ⟨h1, _, _, h4, h5⟩ | ⟨h1, _, _, _, h5⟩ | ⟨h1, h2⟩
      · rw [if_pos h1] at h
        cases hr : rdnum (256 ^ y.size - 1) l with
        | none => rw [hr] at h; cases h
        | some z =>
          rw [hr] at h
          simp at h
          obtain ⟨rfl, rfl⟩ := h
          rcases ho with ho | ho | ho
          · exact absurd ho hx0
          · omega
          · exact put_off _ _ _ _ _ (by rw [le_length]; exact h5) (by rw [le_length]; exact ho)
      · rw [if_neg (by omega), if_pos h1] at h
        cases hr : rdhex y.size l with
        | none => rw [hr] at h; cases h
        | some z =>
          rw [hr] at h
          simp at h
          obtain ⟨rfl, rfl⟩ := h
          have hz := rdhex_length _ _ _ hr
          rcases ho with ho | ho | ho
          · exact absurd ho hx0
          · omega
          · exact put_off _ _ _ _ _ (by rw [hz]; exact h5) (by rw [hz]; exact ho)
      · rw [if_neg (by omega), if_neg (by omega)] at h
        cases l with
        | nil => cases h
        | cons c r =>
          simp only at h
          split at h
          · cases h; rfl
          · cases h
    unfold tell1
    rw [key]
theorem lay_keeps {x : Pt} : ∀ (ps : List Pt) (l bs r bs' : List UInt8), (∀ y ∈ ps, PtOk bs.length y ∧ Off x y) → layAll ps l bs = some (r, bs') → tell1 bs' x = tell1 bs x := by
  intro ps
  induction ps with
  | nil => intro l bs r bs' _ h; cases h; rfl
  | cons y ps ih =>
    intro l bs r bs' hall h
    rw [layAll] at h
    split at h
    · cases h
    · rename_i k b1 hst
      have hy := hall y (by simp)
      have hlen := stepP_length hy.1 hst
      rw [ih _ _ _ _ (fun z hz => by rw [hlen]; exact hall z (by simp [hz])) h, step_keeps hy.1 hst hy.2]
/-- What is laid is told again. -/
theorem lay_tell : ∀ (ps : List Pt) (l bs r bs' : List UInt8), (∀ y ∈ ps, PtOk bs.length y) → ps.Pairwise Off → layAll ps l bs = some (r, bs') → l = tellAll ps bs' ++ r := by
  intro ps
  induction ps with
  | nil => intro l bs r bs' _ _ h; cases h; simp [tellAll]
  | cons x ps ih =>
    intro l bs r bs' hall hoff h
    rw [layAll] at h
    split at h
    · cases h
    · rename_i k b1 hst
      have hx := hall x (by simp)
      have hlen := stepP_length hx hst
      rw [List.pairwise_cons] at hoff
      have hok' : ∀ z ∈ ps, PtOk b1.length z := fun z hz => by rw [hlen]; exact hall z (by simp [hz])
      have h1 := ih _ _ _ _ hok' hoff.2 h
      have h2 := lay_keeps ps _ _ _ _ (fun z hz => ⟨hok' z hz, hoff.1 z hz⟩) h
      have h3 := step_tell hx hst
      unfold tellAll at h1 ⊢
      rw [List.flatMap_cons, h2, List.append_assoc, ← h1]
      exact h3

/-- Bytes that differ at most where the fills lie. -/
def Like (f g : UInt8) (a b : List UInt8) : Prop := a.length = b.length ∧ ∀ (i : Nat) (x y : UInt8), a[i]? = some x → b[i]? = some y → x = y ∨ (x = f ∧ y = g)
theorem put_get (bs : List UInt8) (p : Nat) (xs : List UInt8) (h : p + xs.length ≤ bs.length) (i : Nat) : (put bs p xs)[i]? = if p ≤ i ∧ i < p + xs.length then xs[i - p]? else bs[i]? := by
  unfold put
  have hl : (bs.take p).length = p := by simp; omega
  rw [List.append_assoc]
  by_cases h1 : i < p
  · rw [if_neg (by omega), List.getElem?_append_left (by omega), List.getElem?_take, if_pos h1]
  · rw [List.getElem?_append_right (by omega), hl]
    by_cases h2 : i < p + xs.length
    · rw [if_pos (by omega), List.getElem?_append_left (by omega)]
    · rw [if_neg (by omega), List.getElem?_append_right (by omega), List.getElem?_drop]
      congr 1
      omega
theorem like_put {f g : UInt8} {a b : List UInt8} (h : Like f g a b) (p : Nat) (xs : List UInt8) (hp : p + xs.length ≤ a.length) : Like f g (put a p xs) (put b p xs) := by
  refine ⟨by rw [put_length _ _ _ hp, put_length _ _ _ (by rw [← h.1]; exact hp)]; exact h.1, ?_⟩
  intro i x y hx hy
  rw [put_get _ _ _ hp] at hx
  rw [put_get _ _ _ (by rw [← h.1]; exact hp)] at hy
  split at hx
  · rename_i hc
    rw [if_pos hc, hx] at hy
    cases hy
    exact Or.inl rfl
  · rename_i hc
    rw [if_neg hc] at hy
    exact h.2 i x y hx hy
theorem step_like {f g : UInt8} {x : Pt} {l a b a' : List UInt8} {k : Nat} (hok : PtOk a.length x) (h : Like f g a b) (hs : stepP x l a = some (k, a')) : ∃ b', stepP x l b = some (k, b') ∧ Like f g a' b' := by
  unfold stepP at *
  rcases hok with ⟨h1, _, _, h4, h5⟩ | ⟨h1, _, _, _, h5⟩ | ⟨h1, h2⟩
  · rw [if_pos h1] at hs ⊢
    cases hr : rdnum (256 ^ x.size - 1) l with
    | none => rw [hr] at hs; cases hs
    | some z =>
      rw [hr] at hs
      simp only [Option.map_some, Option.some.injEq, Prod.mk.injEq] at hs
      obtain ⟨rfl, rfl⟩ := hs
      exact ⟨_, rfl, like_put h _ _ (by rw [le_length]; exact h5)⟩
  · rw [if_neg (by omega), if_pos h1] at hs ⊢
    cases hr : rdhex x.size l with
    | none => rw [hr] at hs; cases hs
    | some z =>
      rw [hr] at hs
      simp only [Option.map_some, Option.some.injEq, Prod.mk.injEq] at hs
      obtain ⟨rfl, rfl⟩ := hs
      exact ⟨_, rfl, like_put h _ _ (by rw [rdhex_length _ _ _ hr]; exact h5)⟩
  · rw [if_neg (by omega), if_neg (by omega)] at hs ⊢
    cases l with
    | nil => cases hs
    | cons c r =>
      simp only at hs ⊢
      split at hs
      · rename_i hc
        cases hs
        exact ⟨b, by rw [if_pos hc], h⟩
      · cases hs
theorem lay_like {f g : UInt8} : ∀ (ps : List Pt) (l a b r a' : List UInt8), (∀ y ∈ ps, PtOk a.length y) → Like f g a b → layAll ps l a = some (r, a') → ∃ b', layAll ps l b = some (r, b') ∧ Like f g a' b' := by
  intro ps
  induction ps with
  | nil => intro l a b r a' _ h hs; cases hs; exact ⟨b, rfl, h⟩
  | cons x ps ih =>
    intro l a b r a' hall h hs
    rw [layAll] at hs
    split at hs
    · cases hs
    · rename_i k a1 hst
      have hx := hall x (by simp)
      obtain ⟨b1, hb1, hl1⟩ := step_like hx h hst
      have hlen := stepP_length hx hst
      obtain ⟨b', hb', hl'⟩ := ih _ _ b1 _ _ (fun z hz => by rw [hlen]; exact hall z (by simp [hz])) hl1 hs
      exact ⟨b', by rw [layAll, hb1]; exact hb', hl'⟩
theorem like_fill (f g : UInt8) (n : Nat) : Like f g (List.replicate n f) (List.replicate n g) := by
  refine ⟨by simp, ?_⟩
  intro i x y hx hy
  rw [List.getElem?_replicate] at hx hy
  split at hx
  · rename_i h
    rw [if_pos h] at hy
    cases hx; cases hy
    exact Or.inr ⟨rfl, rfl⟩
  · cases hx
theorem lay_length : ∀ (ps : List Pt) (l a r a' : List UInt8), (∀ y ∈ ps, PtOk a.length y) → layAll ps l a = some (r, a') → a'.length = a.length := by
  intro ps
  induction ps with
  | nil => intro l a r a' _ hs; cases hs; rfl
  | cons x ps ih =>
    intro l a r a' hall hs
    rw [layAll] at hs
    split at hs
    · cases hs
    · rename_i k a1 hst
      have hlen := stepP_length (hall x (by simp)) hst
      rw [ih _ _ _ _ (fun z hz => by rw [hlen]; exact hall z (by simp [hz])) hs, hlen]
end Go.Proofs.YtghggcehloiemaaDoor.P
