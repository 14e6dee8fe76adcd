import Derived.Test.YtghggcehloiemabGreatDoorRefEncAll
namespace Go.Proofs.YtghggcehloiemabGreatDoor.P
set_option linter.unusedVariables false

theorem leval_snoc' (l : List UInt8) (c : UInt8) : leval (l ++ [c]) = leval l + 256 ^ l.length * c.toNat := by
  induction l with
  | nil => simp [leval]
  | cons d r ih =>
    rw [List.cons_append, leval, ih, leval, List.length_cons, Nat.pow_succ, Nat.add_mul, Nat.mul_right_comm]
    omega
theorem digs_split' (s : List UInt8) : s = digs s ++ s.drop (digs s).length := by
  induction s with
  | nil => rfl
  | cons a s ih =>
    by_cases ha : isDig a = true
    · have e : digs (a :: s) = a :: digs s := by simp [digs, ha]
      rw [e, List.length_cons, List.drop_succ_cons, List.cons_append, ← ih]
    · have e : digs (a :: s) = [] := by simp [digs, ha]
      rw [e]; rfl
theorem put_sub (bs : List UInt8) (p : Nat) (xs : List UInt8) (h : p + xs.length ≤ bs.length) : sub (put bs p xs) p xs.length = xs := by
  unfold sub put
  have hl : (bs.take p).length = p := by simp; omega
  rw [List.append_assoc, List.drop_append_of_le_length (by omega), List.drop_of_length_le (by omega), List.nil_append]
  simp
theorem put_off (bs : List UInt8) (p : Nat) (xs : List UInt8) (q k : Nat) (h : p + xs.length ≤ bs.length) (ho : q + k ≤ p ∨ p + xs.length ≤ q) : sub (put bs p xs) q k = sub bs q k := by
  apply List.ext_getElem?
  intro i
  unfold sub put
  have hl : (bs.take p).length = p := by simp; omega
  rw [List.getElem?_take, List.getElem?_take, List.getElem?_drop, List.getElem?_drop]
  by_cases hi : i < k
  · rw [if_pos hi, if_pos hi, List.append_assoc]
    by_cases h1 : q + i < p
    · rw [List.getElem?_append_left (by omega), List.getElem?_take, if_pos h1]
    · rw [List.getElem?_append_right (by omega), hl]
      rw [List.getElem?_append_right (by omega), List.getElem?_drop]
      congr 1
      omega
  · rw [if_neg hi, if_neg hi]

theorem leval_le (k n : Nat) : leval (le k n) = n % 256 ^ k := by
  induction k with
  | zero => simp [le, leval, Nat.mod_one]
  | succ k ih =>
    rw [le, leval_snoc', ih, le_length, Nat.mod_pow_succ]
    congr 2
    simp

theorem val_pos {d : List UInt8} (hne : d ≠ []) (hd : ∀ c ∈ d, isDig c = true) (h0 : d.head? ≠ some 48) : 1 ≤ val d := by
  cases d with
  | nil => exact absurd rfl hne
  | cons c r =>
    have h1 := val_le_append [c] r
    have hc := hd c (by simp)
    have h2 : val [c] = c.toNat - 48 := by simp [val]
    have h3 : c ≠ 48 := fun e => h0 (by rw [e]; rfl)
    have h4 : 48 ≤ c.toNat ∧ c.toNat ≤ 57 := by unfold isDig at hc; simpa using hc
    have h5 : c.toNat ≠ 48 := fun e => h3 (UInt8.toNat_inj.1 (by simpa using e))
    have e : val (c :: r) = val ([c] ++ r) := rfl
    omega
theorem dec_val : ∀ (k : Nat) (d : List UInt8), d.length = k + 1 → (∀ c ∈ d, isDig c = true) → (1 < d.length → d.head? ≠ some 48) → Lib.decDigits (val d) = d := by
  intro k
  induction k with
  | zero =>
    intro d hl hd _
    obtain ⟨c, rfl⟩ : ∃ c, d = [c] := List.length_eq_one_iff.1 hl
    have hc := hd c (by simp)
    have h4 : 48 ≤ c.toNat ∧ c.toNat ≤ 57 := by unfold isDig at hc; simpa using hc
    have h2 : val [c] = c.toNat - 48 := by simp [val]
    rw [h2, Lib.decDigits_one (by omega)]
    congr 1
    apply UInt8.toNat_inj.1
    simp
    omega
  | succ k ih =>
    intro d hl hd h0
    obtain ⟨e, c, rfl⟩ : ∃ e c, d = e ++ [c] := by
      have hne : d ≠ [] := by intro h; rw [h] at hl; simp at hl
      exact ⟨d.dropLast, d.getLast hne, (List.dropLast_concat_getLast hne).symm⟩
    have hle : e.length = k + 1 := by simpa using hl
    have hne : e ≠ [] := by intro h; rw [h] at hle; simp at hle
    have hde : ∀ x ∈ e, isDig x = true := fun x hx => hd x (by simp [hx])
    have hh : (e ++ [c]).head? = e.head? := by cases e with
      | nil => exact absurd rfl hne
      | cons => rfl
    have h0e : e.head? ≠ some 48 := by rw [← hh]; exact h0 (by omega)
    have hrec := ih e hle hde (fun _ => h0e)
    have hp := val_pos hne hde h0e
    have hc := hd c (by simp)
    have h4 : 48 ≤ c.toNat ∧ c.toNat ≤ 57 := by unfold isDig at hc; simpa using hc
    rw [val_snoc, Lib.decDigits, dif_neg (by omega), show (val e * 10 + (c.toNat - 48)) / 10 = val e by omega, show (val e * 10 + (c.toNat - 48)) % 10 = c.toNat - 48 by omega, hrec]
    congr 2
    apply UInt8.toNat_inj.1
    simp
    omega
theorem digs_dig (l : List UInt8) : ∀ c ∈ digs l, isDig c = true := by
  intro c hc
  have h : (digs l).all isDig = true := List.all_takeWhile
  exact List.all_eq_true.1 h c hc
theorem rdnum_dec {most : Nat} {l : List UInt8} {n k : Nat} (h : rdnum most l = some (n, k)) : l = Lib.decDigits n ++ l.drop k ∧ n ≤ most := by
  unfold rdnum at h
  split at h
  · cases h
  · rename_i hn
    simp only [not_or] at hn
    obtain ⟨h1, h2, h3⟩ := hn
    cases h
    obtain ⟨j, hj⟩ : ∃ j, (digs l).length = j + 1 := ⟨(digs l).length - 1, by have := List.length_pos_iff.2 h1; omega⟩
    rw [dec_val j (digs l) hj (digs_dig l) (fun hl he => h2 ⟨hl, he⟩)]
    exact ⟨digs_split' l, by omega⟩
theorem hx_hexv {c : UInt8} {d : Nat} (h : hexv c = some d) : hx d = c := by
  unfold hexv at h
  split at h
  · rename_i h1
    cases h
    unfold hx
    rw [if_pos (by omega)]
    apply UInt8.toNat_inj.1
    simp
    omega
  · split at h
    · rename_i h1 h2
      cases h
      unfold hx
      rw [if_neg (by omega)]
      apply UInt8.toNat_inj.1
      simp
      omega
    · cases h
theorem rdhex_hexT : ∀ (k : Nat) (l xs : List UInt8), rdhex k l = some xs → l = hexT xs ++ l.drop (2 * k) := by
  intro k
  induction k with
  | zero => intro l xs h; simp [rdhex] at h; subst h; simp [hexT]
  | succ k ih =>
    intro l xs h
    cases l with
    | nil => simp [rdhex] at h
    | cons a l =>
      cases l with
      | nil => simp [rdhex] at h
      | cons c r =>
        rw [rdhex] at h
        cases hx' : hexv a with
        | none => simp [hx'] at h
        | some x =>
          cases hy' : hexv c with
          | none => simp [hx', hy'] at h
          | some y =>
            simp only [hx', hy'] at h
            cases hr : rdhex k r with
            | none => rw [hr] at h; cases h
            | some ys =>
              rw [hr] at h
              simp only [Option.map_some, Option.some.injEq] at h
              subst h
              have hrec := ih r ys hr
              have hx15 := hexv_lt hx'
              have hy15 := hexv_lt hy'
              have e : (UInt8.ofNat (x * 16 + y)).toNat = x * 16 + y := by simp; omega
              have e1 : hexT (UInt8.ofNat (x * 16 + y) :: ys) = a :: c :: hexT ys := by
                unfold hexT
                rw [List.flatMap_cons, e, show (x * 16 + y) / 16 = x by omega, show (x * 16 + y) % 16 = y by omega, hx_hexv hx', hx_hexv hy']
                rfl
              have e2 : List.drop (2 * (k + 1)) (a :: c :: r) = r.drop (2 * k) := by
                rw [show 2 * (k + 1) = 2 * k + 1 + 1 by omega]; rfl
              rw [e1, e2, List.cons_append, List.cons_append, ← hrec]

/-- Two parts lie apart. -/
def Off (x y : Pt) : Prop := x.kind = 0 ∨ y.kind = 0 ∨ x.place + x.size ≤ y.place ∨ y.place + y.size ≤ x.place

theorem step_tell {x : Pt} {l bs bs' : List UInt8} {k : Nat} (hok : PtOk bs.length x) (h : stepP x l bs = some (k, bs')) : l = tell1 bs' x ++ l.drop k := by
  unfold stepP at h
  unfold tell1
  rcases hok with ⟨h1, _, _, h4, h5⟩ | ⟨h1, _, _, _, h5⟩ | ⟨h1, h2⟩
  · rw [if_pos h1] at h ⊢
    cases hr : rdnum (256 ^ x.size - 1) l with
    | none => rw [hr] at h; cases h
    | some y =>
      obtain ⟨n, j⟩ := y
      rw [hr] at h
      simp at h
      obtain ⟨rfl, rfl⟩ := h
      obtain ⟨hl, hle⟩ := rdnum_dec hr
      have hp : 0 < 256 ^ x.size := Nat.pow_pos (by omega)
      have hs := put_sub bs x.place (le x.size n) (by rw [le_length]; exact h5)
      rw [le_length] at hs
      rw [hs, leval_le, Nat.mod_eq_of_lt (by omega)]
      exact hl
  · rw [if_neg (by omega), if_pos h1] at h ⊢
    cases hr : rdhex x.size l with
    | none => rw [hr] at h; cases h
    | some y =>
      rw [hr] at h
      simp at h
      obtain ⟨rfl, rfl⟩ := h
      have hy := rdhex_length _ _ _ hr
      have hs := put_sub bs x.place y (by rw [hy]; exact h5)
      rw [hy] at hs
      rw [hs]
      exact rdhex_hexT _ _ _ hr
  · rw [if_neg (by omega), if_neg (by omega)] at h ⊢
    cases l with
    | nil => cases h
    | cons c r =>
      simp only at h
      split at h
      · rename_i hc
        cases h
        rw [← hc]
        simp
      · cases h
theorem step_keeps {x y : Pt} {l bs bs' : List UInt8} {k : Nat} (hok : PtOk bs.length y) (h : stepP y l bs = some (k, bs')) (ho : Off x y) : tell1 bs' x = tell1 bs x := by
  by_cases hx0 : x.kind = 0
  · unfold tell1; rw [if_neg (by omega), if_neg (by omega), if_neg (by omega), if_neg (by omega)]
  · have key : sub bs' x.place x.size = sub bs x.place x.size := by
      unfold stepP at h
      rcases hok with ⟨h1, _, _, h4, h5⟩ | ⟨h1, _, _, _, h5⟩ | ⟨h1, h2⟩
      · rw [if_pos h1] at h
        cases hr : rdnum (256 ^ y.size - 1) l with
        | none => rw [hr] at h; cases h
        | some z =>
          rw [hr] at h
          simp at h
          obtain ⟨rfl, rfl⟩ := h
          rcases ho with ho | ho | ho
          · exact absurd ho hx0
          · omega
          · exact put_off _ _ _ _ _ (by rw [le_length]; exact h5) (by rw [le_length]; exact ho)
      · rw [if_neg (by omega), if_pos h1] at h
        cases hr : rdhex y.size l with
        | none => rw [hr] at h; cases h
        | some z =>
          rw [hr] at h
          simp at h
          obtain ⟨rfl, rfl⟩ := h
          have hz := rdhex_length _ _ _ hr
          rcases ho with ho | ho | ho
          · exact absurd ho hx0
          · omega
          · exact put_off _ _ _ _ _ (by rw [hz]; exact h5) (by rw [hz]; exact ho)
      · rw [if_neg (by omega), if_neg (by omega)] at h
        cases l with
        | nil => cases h
        | cons c r =>
          simp only at h
          split at h
          · cases h; rfl
          · cases h
    unfold tell1
    rw [key]
theorem lay_keeps {x : Pt} : ∀ (ps : List Pt) (l bs r bs' : List UInt8), (∀ y ∈ ps, PtOk bs.length y ∧ Off x y) → layAll ps l bs = some (r, bs') → tell1 bs' x = tell1 bs x := by
  intro ps
  induction ps with
  | nil => intro l bs r bs' _ h; cases h; rfl
  | cons y ps ih =>
    intro l bs r bs' hall h
    rw [layAll] at h
    split at h
    · cases h
    · rename_i k b1 hst
      have hy := hall y (by simp)
      have hlen := stepP_length hy.1 hst
      rw [ih _ _ _ _ (fun z hz => by rw [hlen]; exact hall z (by simp [hz])) h, step_keeps hy.1 hst hy.2]
/-- What is laid is told again. -/
theorem lay_tell : ∀ (ps : List Pt) (l bs r bs' : List UInt8), (∀ y ∈ ps, PtOk bs.length y) → ps.Pairwise Off → layAll ps l bs = some (r, bs') → l = tellAll ps bs' ++ r := by
  intro ps
  induction ps with
  | nil => intro l bs r bs' _ _ h; cases h; simp [tellAll]
  | cons x ps ih =>
    intro l bs r bs' hall hoff h
    rw [layAll] at h
    split at h
    · cases h
    · rename_i k b1 hst
      have hx := hall x (by simp)
      have hlen := stepP_length hx hst
      rw [List.pairwise_cons] at hoff
      have hok' : ∀ z ∈ ps, PtOk b1.length z := fun z hz => by rw [hlen]; exact hall z (by simp [hz])
      have h1 := ih _ _ _ _ hok' hoff.2 h
      have h2 := lay_keeps ps _ _ _ _ (fun z hz => ⟨hok' z hz, hoff.1 z hz⟩) h
      have h3 := step_tell hx hst
      unfold tellAll at h1 ⊢
      rw [List.flatMap_cons, h2, List.append_assoc, ← h1]
      exact h3

/-- Bytes that differ at most where the fills lie. -/
def Like (f g : UInt8) (a b : List UInt8) : Prop := a.length = b.length ∧ ∀ (i : Nat) (x y : UInt8), a[i]? = some x → b[i]? = some y → x = y ∨ (x = f ∧ y = g)
theorem put_get (bs : List UInt8) (p : Nat) (xs : List UInt8) (h : p + xs.length ≤ bs.length) (i : Nat) : (put bs p xs)[i]? = if p ≤ i ∧ i < p + xs.length then xs[i - p]? else bs[i]? := by
  unfold put
  have hl : (bs.take p).length = p := by simp; omega
  rw [List.append_assoc]
  by_cases h1 : i < p
  · rw [if_neg (by omega), List.getElem?_append_left (by omega), List.getElem?_take, if_pos h1]
  · rw [List.getElem?_append_right (by omega), hl]
    by_cases h2 : i < p + xs.length
    · rw [if_pos (by omega), List.getElem?_append_left (by omega)]
    · rw [if_neg (by omega), List.getElem?_append_right (by omega), List.getElem?_drop]
      congr 1
      omega
theorem like_put {f g : UInt8} {a b : List UInt8} (h : Like f g a b) (p : Nat) (xs : List UInt8) (hp : p + xs.length ≤ a.length) : Like f g (put a p xs) (put b p xs) := by
  refine ⟨by rw [put_length _ _ _ hp, put_length _ _ _ (by rw [← h.1]; exact hp)]; exact h.1, ?_⟩
  intro i x y hx hy
  rw [put_get _ _ _ hp] at hx
  rw [put_get _ _ _ (by rw [← h.1]; exact hp)] at hy
  split at hx
  · rename_i hc
    rw [if_pos hc, hx] at hy
    cases hy
    exact Or.inl rfl
  · rename_i hc
    rw [if_neg hc] at hy
    exact h.2 i x y hx hy
theorem step_like {f g : UInt8} {x : Pt} {l a b a' : List UInt8} {k : Nat} (hok : PtOk a.length x) (h : Like f g a b) (hs : stepP x l a = some (k, a')) : ∃ b', stepP x l b = some (k, b') ∧ Like f g a' b' := by
  unfold stepP at *
  rcases hok with ⟨h1, _, _, h4, h5⟩ | ⟨h1, _, _, _, h5⟩ | ⟨h1, h2⟩
  · rw [if_pos h1] at hs ⊢
    cases hr : rdnum (256 ^ x.size - 1) l with
    | none => rw [hr] at hs; cases hs
    | some z =>
      rw [hr] at hs
      simp only [Option.map_some, Option.some.injEq, Prod.mk.injEq] at hs
      obtain ⟨rfl, rfl⟩ := hs
      exact ⟨_, rfl, like_put h _ _ (by rw [le_length]; exact h5)⟩
  · rw [if_neg (by omega), if_pos h1] at hs ⊢
    cases hr : rdhex x.size l with
    | none => rw [hr] at hs; cases hs
    | some z =>
      rw [hr] at hs
      simp only [Option.map_some, Option.some.injEq, Prod.mk.injEq] at hs
      obtain ⟨rfl, rfl⟩ := hs
      exact ⟨_, rfl, like_put h _ _ (by rw [rdhex_length _ _ _ hr]; exact h5)⟩
  · rw [if_neg (by omega), if_neg (by omega)] at hs ⊢
    cases l with
    | nil => cases hs
    | cons c r =>
      simp only at hs ⊢
      split at hs
      · rename_i hc
        cases hs
        exact ⟨b, by rw [if_pos hc], h⟩
      · cases hs
theorem lay_like {f g : UInt8} : ∀ (ps : List Pt) (l a b r a' : List UInt8), (∀ y ∈ ps, PtOk a.length y) → Like f g a b → layAll ps l a = some (r, a') → ∃ b', layAll ps l b = some (r, b') ∧ Like f g a' b' := by
  intro ps
  induction ps with
  | nil => intro l a b r a' _ h hs; cases hs; exact ⟨b, rfl, h⟩
  | cons x ps ih =>
    intro l a b r a' hall h hs
    rw [layAll] at hs
    split at hs
    · cases hs
    · rename_i k a1 hst
      have hx := hall x (by simp)
      obtain ⟨b1, hb1, hl1⟩ := step_like hx h hst
      have hlen := stepP_length hx hst
      obtain ⟨b', hb', hl'⟩ := ih _ _ b1 _ _ (fun z hz => by rw [hlen]; exact hall z (by simp [hz])) hl1 hs
      exact ⟨b', by rw [layAll, hb1]; exact hb', hl'⟩
theorem like_fill (f g : UInt8) (n : Nat) : Like f g (List.replicate n f) (List.replicate n g) := by
  refine ⟨by simp, ?_⟩
  intro i x y hx hy
  rw [List.getElem?_replicate] at hx hy
  split at hx
  · rename_i h
    rw [if_pos h] at hy
    cases hx; cases hy
    exact Or.inr ⟨rfl, rfl⟩
  · cases hx
theorem lay_length : ∀ (ps : List Pt) (l a r a' : List UInt8), (∀ y ∈ ps, PtOk a.length y) → layAll ps l a = some (r, a') → a'.length = a.length := by
  intro ps
  induction ps with
  | nil => intro l a r a' _ hs; cases hs; rfl
  | cons x ps ih =>
    intro l a r a' hall hs
    rw [layAll] at hs
    split at hs
    · cases hs
    · rename_i k a1 hst
      have hlen := stepP_length (hall x (by simp)) hst
      rw [ih _ _ _ _ (fun z hz => by rw [hlen]; exact hall z (by simp [hz])) hs, hlen]
end Go.Proofs.YtghggcehloiemabGreatDoor.P
namespace Go.Proofs.YtghggcehloiemabGreatDoor.P
set_option linter.unusedVariables false

/-- The places where something lies. -/
def cov (ps : List Pt) : List Nat := ps.flatMap fun x => if x.kind = 0 then [] else List.range' x.place x.size
theorem cov_nil : cov [] = [] := rfl
theorem cov_cons (x : Pt) (ps : List Pt) : cov (x :: ps) = (if x.kind = 0 then [] else List.range' x.place x.size) ++ cov ps := by simp [cov]
theorem cov_append (A B : List Pt) : cov (A ++ B) = cov A ++ cov B := by simp [cov]
/-- The parts lie one behind the other. -/
def Inc : List Pt → Nat → Nat → Prop
  | [], lo, hi => lo ≤ hi
  | x :: ps, lo, hi => if x.kind = 0 then Inc ps lo hi else lo ≤ x.place ∧ Inc ps (x.place + x.size) hi
theorem Inc.le : ∀ {ps : List Pt} {lo hi : Nat}, Inc ps lo hi → lo ≤ hi
  | [], lo, hi, h => h
  | x :: ps, lo, hi, h => by
    unfold Inc at h
    split at h
    · exact Inc.le h
    · have := Inc.le h.2; omega
theorem Inc.low : ∀ {ps : List Pt} {lo lo' hi : Nat}, Inc ps lo hi → lo' ≤ lo → Inc ps lo' hi
  | [], lo, lo', hi, h, hl => Nat.le_trans hl h
  | x :: ps, lo, lo', hi, h, hl => by
    unfold Inc at h ⊢
    split
    · rename_i hk; rw [if_pos hk] at h; exact Inc.low h hl
    · rename_i hk; rw [if_neg hk] at h; exact ⟨by omega, h.2⟩
theorem Inc.high : ∀ {ps : List Pt} {lo hi hi' : Nat}, Inc ps lo hi → hi ≤ hi' → Inc ps lo hi'
  | [], lo, hi, hi', h, hl => Nat.le_trans h hl
  | x :: ps, lo, hi, hi', h, hl => by
    unfold Inc at h ⊢
    split
    · rename_i hk; rw [if_pos hk] at h; exact Inc.high h hl
    · rename_i hk; rw [if_neg hk] at h; exact ⟨h.1, Inc.high h.2 hl⟩
theorem Inc.app : ∀ {A B : List Pt} {lo mid hi : Nat}, Inc A lo mid → Inc B mid hi → Inc (A ++ B) lo hi
  | [], B, lo, mid, hi, h, hb => hb.low h
  | x :: A, B, lo, mid, hi, h, hb => by
    unfold Inc at h
    show Inc (x :: (A ++ B)) lo hi
    unfold Inc
    split
    · rename_i hk; rw [if_pos hk] at h; exact Inc.app h hb
    · rename_i hk; rw [if_neg hk] at h; exact ⟨h.1, Inc.app h.2 hb⟩
theorem Inc.left : ∀ {A B : List Pt} {lo hi : Nat}, Inc (A ++ B) lo hi → Inc A lo hi
  | [], B, lo, hi, h => h.le
  | x :: A, B, lo, hi, h => by
    have h : Inc (x :: (A ++ B)) lo hi := h
    unfold Inc at h ⊢
    split
    · rename_i hk; rw [if_pos hk] at h; exact Inc.left h
    · rename_i hk; rw [if_neg hk] at h; exact ⟨h.1, Inc.left h.2⟩
theorem Inc.shift : ∀ {A : List Pt} {lo hi : Nat} (p : Nat), Inc A lo hi → Inc (A.map (Pt.sh p)) (lo + p) (hi + p)
  | [], lo, hi, p, h => Nat.add_le_add_right h p
  | x :: A, lo, hi, p, h => by
    unfold Inc at h
    show Inc (x.sh p :: A.map (Pt.sh p)) _ _
    unfold Inc
    split
    · rename_i hk; rw [if_pos (show x.kind = 0 from hk)] at h; exact Inc.shift p h
    · rename_i hk
      rw [if_neg (show ¬ x.kind = 0 from hk)] at h
      refine ⟨Nat.add_le_add_right h.1 p, ?_⟩
      have := Inc.shift p h.2
      show Inc _ (x.place + p + x.size) _
      rw [show x.place + p + x.size = x.place + x.size + p by omega]; exact this
theorem inc_mark {c lo hi : Nat} {B : List Pt} : Inc (markP c :: B) lo hi ↔ Inc B lo hi := by
  constructor
  · intro h; unfold Inc at h; rw [if_pos (show (markP c).kind = 0 from rfl)] at h; exact h
  · intro h; unfold Inc; rw [if_pos (show (markP c).kind = 0 from rfl)]; exact h
theorem inc_dropLast {A : List Pt} {lo hi : Nat} (h : Inc A lo hi) : Inc A.dropLast lo hi := by
  by_cases he : A = []
  · subst he; exact h
  · rw [← List.dropLast_concat_getLast he] at h; exact h.left
theorem inc_body : ∀ (xs : List (List Pt × (Nat × Nat))) (a : Nat × Nat), (∀ y ∈ xs, 1 ≤ y.2.2 ∧ y.2.2 ≤ 4 ∧ Inc y.1 0 y.2.1) → Inc (body a xs) a.1 ((xs.map (·.2)).foldl lay1 a).1
  | [], a, _ => Nat.le_refl _
  | x :: xs, a, h => by
    have hx := h x (by simp)
    have ih := inc_body xs (lay1 a x.2) (fun y hy => h y (by simp [hy]))
    show Inc (x.1.map (Pt.sh (up a.1 x.2.2)) ++ markP 44 :: body (lay1 a x.2) xs) _ _
    have h1 := (hx.2.2).shift (up a.1 x.2.2)
    have h2 : x.2.1 + up a.1 x.2.2 = (lay1 a x.2).1 := by simp only [lay1]; omega
    rw [h2] at h1
    exact (h1.low (by have := le_up a.1 x.2.2 hx.1; omega)).app (inc_mark.2 ih)
/-- Structs have fields, leaves have bytes. -/
def Tr : (n : Nat) → Ty n → Prop
  | 0, l => 1 ≤ l.2
  | _ + 1, .inl l => 1 ≤ l.2
  | n + 1, .inr ts => ts ≠ [] ∧ ∀ t ∈ ts, Tr n t ∧ 1 ≤ (sz n t).2 ∧ (sz n t).2 ≤ 4
theorem tr_lf (n : Nat) (l : Bool × Nat) (h : 1 ≤ l.2) : Tr n (lf n l) := by cases n <;> exact h
theorem inc_leaf (l : Bool × Nat) : Inc [lpart l] 0 (lsz l).1 := by
  unfold Inc
  have : ¬ (lpart l).kind = 0 := by unfold lpart; cases l.1 <;> simp
  rw [if_neg this]
  refine ⟨Nat.zero_le _, ?_⟩
  show 0 + l.2 ≤ l.2
  omega
theorem inc_parts : ∀ (n : Nat) (t : Ty n), Tr n t → Inc (parts n t) 0 (sz n t).1
  | 0, l, h => inc_leaf l
  | n + 1, .inl l, h => inc_leaf l
  | n + 1, .inr ts, h => by
    have hb := inc_body (ts.map fun t => (parts n t, sz n t)) (0, 1) (fun y hy => by
      obtain ⟨t, ht, rfl⟩ := List.mem_map.1 hy
      exact ⟨(h.2 t ht).2.1, (h.2 t ht).2.2, inc_parts n t (h.2 t ht).1⟩)
    have e : (ts.map (fun t => (parts n t, sz n t))).map (·.2) = ts.map (sz n) := by simp [Function.comp_def]
    rw [e] at hb
    have hs := fold_step (l := ts.map (sz n)) (fun x hx => by
      obtain ⟨t, ht, rfl⟩ := List.mem_map.1 hx
      exact (h.2 t ht).2) (0, 1) (by simp) (by simp)
    show Inc (markP 123 :: ((body (0, 1) (ts.map fun t => (parts n t, sz n t))).dropLast ++ [markP 125])) 0 (closed (fold (ts.map (sz n)))).1
    refine inc_mark.2 (((inc_dropLast hb).high (Nat.le_refl _)).app (inc_mark.2 ?_))
    show (fold (ts.map (sz n))).1 ≤ _
    exact le_up _ _ hs.1
theorem cov_bounds : ∀ {ps : List Pt} {lo hi : Nat}, Inc ps lo hi → ∀ x ∈ cov ps, lo ≤ x ∧ x < hi
  | [], lo, hi, h, x, hx => by simp [cov] at hx
  | y :: ps, lo, hi, h, x, hx => by
    rw [cov_cons, List.mem_append] at hx
    unfold Inc at h
    split at h
    · rename_i hk
      rw [if_pos hk] at hx
      rcases hx with hx | hx
      · simp at hx
      · exact cov_bounds h x hx
    · rename_i hk
      rw [if_neg hk] at hx
      rcases hx with hx | hx
      · rw [List.mem_range'_1] at hx
        have := h.2.le; omega
      · have := cov_bounds h.2 x hx; omega
theorem cov_sorted : ∀ {ps : List Pt} {lo hi : Nat}, Inc ps lo hi → (cov ps).Pairwise (· < ·)
  | [], lo, hi, h => by simp [cov]
  | y :: ps, lo, hi, h => by
    rw [cov_cons]
    unfold Inc at h
    split at h
    · rename_i hk
      rw [if_pos hk]; exact cov_sorted h
    · rename_i hk
      rw [if_neg hk, List.pairwise_append]
      refine ⟨List.pairwise_lt_range', cov_sorted h.2, ?_⟩
      intro a ha b hb
      rw [List.mem_range'_1] at ha
      have := cov_bounds h.2 b hb
      omega
theorem cov_len : ∀ {ps : List Pt} {lo hi : Nat}, Inc ps lo hi → lo + (cov ps).length ≤ hi
  | [], lo, hi, h => h
  | y :: ps, lo, hi, h => by
    rw [cov_cons, List.length_append]
    unfold Inc at h
    split at h
    · rename_i hk
      rw [if_pos hk]; have := cov_len h; simpa using this
    · rename_i hk
      rw [if_neg hk, List.length_range']
      have := cov_len h.2; omega
theorem inc_off : ∀ {ps : List Pt} {lo hi : Nat}, Inc ps lo hi → ps.Pairwise Off ∧ ∀ x ∈ ps, x.kind = 0 ∨ lo ≤ x.place
  | [], lo, hi, h => ⟨List.Pairwise.nil, by simp⟩
  | y :: ps, lo, hi, h => by
    unfold Inc at h
    split at h
    · rename_i hk
      obtain ⟨h1, h2⟩ := inc_off h
      refine ⟨List.pairwise_cons.2 ⟨fun x _ => Or.inl hk, h1⟩, ?_⟩
      intro x hx
      rcases List.mem_cons.1 hx with rfl | hx
      · exact Or.inl hk
      · exact h2 x hx
    · rename_i hk
      obtain ⟨h1, h2⟩ := inc_off h.2
      refine ⟨List.pairwise_cons.2 ⟨fun x hx => ?_, h1⟩, ?_⟩
      · rcases h2 x hx with h3 | h3
        · exact Or.inr (Or.inl h3)
        · exact Or.inr (Or.inr (Or.inl h3))
      · intro x hx
        rcases List.mem_cons.1 hx with rfl | hx
        · exact Or.inr h.1
        · rcases h2 x hx with h3 | h3
          · exact Or.inl h3
          · exact Or.inr (by omega)
theorem cov_sh (p : Nat) : ∀ (A : List Pt), (cov (A.map (Pt.sh p))).length = (cov A).length
  | [] => rfl
  | x :: A => by
    rw [List.map_cons, cov_cons, cov_cons, List.length_append, List.length_append, cov_sh p A]
    show (if x.kind = 0 then [] else List.range' (x.place + p) x.size).length + _ = _
    split <;> simp
theorem cov_leaf (l : Bool × Nat) (h : 1 ≤ l.2) : 1 ≤ (cov [lpart l]).length := by
  have : ¬ (lpart l).kind = 0 := by unfold lpart; cases l.1 <;> simp
  rw [cov_cons, if_neg this, List.length_append, List.length_range']
  show 1 ≤ l.2 + _
  omega
theorem cov_pos : ∀ (n : Nat) (t : Ty n), Tr n t → 1 ≤ (cov (parts n t)).length
  | 0, l, h => cov_leaf l h
  | n + 1, .inl l, h => cov_leaf l h
  | n + 1, .inr [], h => absurd rfl h.1
  | n + 1, .inr (t :: ts), h => by
    have ih := cov_pos n t (h.2 t (by simp)).1
    show 1 ≤ (cov (markP 123 :: ((body (0, 1) ((t :: ts).map fun t => (parts n t, sz n t))).dropLast ++ [markP 125]))).length
    rw [cov_cons, cov_append, List.length_append, List.length_append]
    have e : (body (0, 1) ((t :: ts).map fun t => (parts n t, sz n t))) = (parts n t).map (Pt.sh (up 0 (sz n t).2)) ++ markP 44 :: body (lay1 (0, 1) (sz n t)) (ts.map fun t => (parts n t, sz n t)) := rfl
    rw [e, List.dropLast_append_of_ne_nil (by simp), cov_append, List.length_append, cov_sh]
    omega
theorem rdF_tr {n : Nat} (ih : ∀ l t r, rd n l = some (t, r) → Tr n t) : ∀ (k : Nat) (acc : List (Ty n)) (s : List UInt8) (ts : List (Ty n)) (r : List UInt8), rdF (rd n) k acc s = some (ts, r) → (∀ t ∈ acc, Tr n t ∧ 1 ≤ (sz n t).2 ∧ (sz n t).2 ≤ 4) → ts ≠ [] ∧ ∀ t ∈ ts, Tr n t ∧ 1 ≤ (sz n t).2 ∧ (sz n t).2 ≤ 4 := by
  intro k
  induction k with
  | zero => intro acc s ts r h; simp [rdF] at h
  | succ k ihk =>
    intro acc s ts r h hacc
    rw [rdF] at h
    split at h
    · cases h
    · cases h
    · rename_i t c r' hf
      have hg := ih _ _ _ hf
      have hgg := (rd_good n _ _ _ hf).1
      have hgs : ∀ x ∈ acc ++ [t], Tr n x ∧ 1 ≤ (sz n x).2 ∧ (sz n x).2 ≤ 4 := by
        intro x hx
        rcases List.mem_append.1 hx with hx | hx
        · exact hacc x hx
        · simp at hx; subst hx; exact ⟨hg, hgg.1, hgg.2.1⟩
      split at h
      · cases h
        exact ⟨by simp, hgs⟩
      · split at h
        · exact ihk _ _ _ _ h hgs
        · cases h
theorem rd_tr : ∀ (n : Nat) (l : List UInt8) (t : Ty n) (r : List UInt8), rd n l = some (t, r) → Tr n t := by
  intro n
  have leafcase : ∀ (n : Nat) (l : List UInt8) (t : Ty n) (r : List UInt8), (rdLeaf l).map (fun x => (lf n x.1, x.2)) = some (t, r) → Tr n t := by
    intro n l t r h
    cases hx : rdLeaf l with
    | none => rw [hx] at h; cases h
    | some x =>
      rw [hx] at h
      simp at h
      obtain ⟨rfl, rfl⟩ := h
      exact tr_lf n _ (rdLeaf_good hx).2.2.2.1
  induction n with
  | zero =>
    intro l t r h
    by_cases hl : leafy l = true
    · exact leafcase 0 l t r (by rw [← rd_leafy _ _ hl]; exact h)
    · simp [rd, hl] at h
  | succ n ih =>
    intro l t r h
    by_cases hl : leafy l = true
    · exact leafcase _ l t r (by rw [← rd_leafy _ _ hl]; exact h)
    · rw [rd_else _ _ (by simpa using hl)] at h
      cases l with
      | nil => simp [rdS] at h
      | cons c s =>
        simp only [rdS] at h
        split at h
        · cases hx : rdF (rd n) 8 [] s with
          | none => rw [hx] at h; cases h
          | some x =>
            obtain ⟨ts, r'⟩ := x
            rw [hx] at h
            simp at h
            obtain ⟨rfl, rfl⟩ := h
            exact rdF_tr ih 8 [] s ts _ hx (by simp)
        · cases h

theorem step_both {x : Pt} {l a a' : List UInt8} {k : Nat} (hok : PtOk a.length x) (h : stepP x l a = some (k, a')) : ∃ xs : List UInt8, (x.kind ≠ 0 → xs.length = x.size ∧ x.place + x.size ≤ a.length) ∧ a' = (if x.kind = 0 then a else put a x.place xs) ∧ ∀ b : List UInt8, stepP x l b = some (k, if x.kind = 0 then b else put b x.place xs) := by
  unfold stepP at *
  rcases hok with ⟨h1, _, _, h4, h5⟩ | ⟨h1, _, _, _, h5⟩ | ⟨h1, h2⟩
  · rw [if_pos h1] at h
    cases hr : rdnum (256 ^ x.size - 1) l with
    | none => rw [hr] at h; cases h
    | some z =>
      rw [hr] at h
      simp only [Option.map_some, Option.some.injEq, Prod.mk.injEq] at h
      obtain ⟨rfl, rfl⟩ := h
      refine ⟨le x.size z.1, fun _ => ⟨le_length _ _, h5⟩, by rw [if_neg (by omega)], fun b => ?_⟩
      rw [if_pos h1, if_neg (by omega)]; rfl
  · rw [if_neg (by omega), if_pos h1] at h
    cases hr : rdhex x.size l with
    | none => rw [hr] at h; cases h
    | some z =>
      rw [hr] at h
      simp only [Option.map_some, Option.some.injEq, Prod.mk.injEq] at h
      obtain ⟨rfl, rfl⟩ := h
      refine ⟨z, fun _ => ⟨rdhex_length _ _ _ hr, h5⟩, by rw [if_neg (by omega)], fun b => ?_⟩
      rw [if_neg (by omega), if_pos h1, if_neg (by omega)]; rfl
  · rw [if_neg (by omega), if_neg (by omega)] at h
    cases l with
    | nil => cases h
    | cons c r =>
      simp only at h
      split at h
      · rename_i hc
        cases h
        refine ⟨[], fun hh => absurd h1 hh, by rw [if_pos h1], fun b => ?_⟩
        rw [if_neg (by omega), if_neg (by omega), if_pos h1]
        simp only
        rw [if_pos hc]
      · cases h
/-- What is laid over other bytes is the same where something lies; the rest stays. -/
theorem lay_both : ∀ (ps : List Pt) (l a b r a' : List UInt8), (∀ y ∈ ps, PtOk a.length y) → a.length = b.length → layAll ps l a = some (r, a') → ∃ b', layAll ps l b = some (r, b') ∧ a'.length = a.length ∧ b'.length = b.length ∧ (∀ i, (i ∈ cov ps ∨ a[i]? = b[i]?) → a'[i]? = b'[i]?) ∧ ∀ i, i ∉ cov ps → b'[i]? = b[i]? := by
  intro ps
  induction ps with
  | nil =>
    intro l a b r a' _ hl h
    cases h
    exact ⟨b, rfl, rfl, rfl, fun i hi => hi.elim (fun hi => by simp [cov] at hi) id, fun i _ => rfl⟩
  | cons x ps ih =>
    intro l a b r a' hall hl h
    rw [layAll] at h
    split at h
    · cases h
    · rename_i k a1 hst
      have hx := hall x (by simp)
      have hlen := stepP_length hx hst
      obtain ⟨xs, h1, h2, h3⟩ := step_both hx hst
      have hb := h3 b
      have hlb := stepP_length (by rw [← hl]; exact hx) hb
      obtain ⟨b', g1, g2, g3, g4, g5⟩ := ih _ a1 (if x.kind = 0 then b else put b x.place xs) r a' (fun z hz => by rw [hlen]; exact hall z (by simp [hz])) (by rw [hlen, hlb]; exact hl) h
      refine ⟨b', by rw [layAll, hb]; exact g1, by rw [g2, hlen], by rw [g3, hlb], ?_, ?_⟩
      · intro i hi
        apply g4
        rw [cov_cons, List.mem_append] at hi
        by_cases hk : x.kind = 0
        · rw [if_pos hk] at hi h2 ⊢
          rw [h2]
          rcases hi with (hi | hi) | hi
          · simp at hi
          · exact Or.inl hi
          · exact Or.inr hi
        · rw [if_neg hk] at hi h2 ⊢
          obtain ⟨hxl, hin⟩ := h1 hk
          have e1 := put_get a x.place xs (by rw [hxl]; exact hin) i
          have e2 := put_get b x.place xs (by rw [hxl, ← hl]; exact hin) i
          rw [h2, e1, e2]
          rcases hi with (hi | hi) | hi
          · rw [List.mem_range'_1] at hi
            rw [if_pos (by rw [hxl]; exact hi), if_pos (by rw [hxl]; exact hi)]
            exact Or.inr rfl
          · exact Or.inl hi
          · refine Or.inr ?_
            split
            · rfl
            · exact hi
      · intro i hi
        rw [cov_cons, List.mem_append, not_or] at hi
        rw [g5 i hi.2]
        by_cases hk : x.kind = 0
        · rw [if_pos hk]
        · rw [if_neg hk] at hi ⊢
          obtain ⟨hxl, hin⟩ := h1 hk
          rw [put_get b x.place xs (by rw [hxl, ← hl]; exact hin) i, if_neg]
          intro hc
          exact hi.1 (by rw [List.mem_range'_1]; rw [hxl] at hc; exact hc)
theorem tell1_same {a b : List UInt8} {x : Pt} (hx : PtOk a.length x) (hl : a.length = b.length) (h : x.kind ≠ 0 → ∀ i, x.place ≤ i → i < x.place + x.size → a[i]? = b[i]?) : tell1 a x = tell1 b x := by
  by_cases hk : x.kind = 0
  · unfold tell1; rw [if_neg (by omega), if_neg (by omega), if_neg (by omega), if_neg (by omega)]
  · have key : sub a x.place x.size = sub b x.place x.size := by
      unfold sub
      apply List.ext_getElem?
      intro i
      rw [List.getElem?_take, List.getElem?_take, List.getElem?_drop, List.getElem?_drop]
      split
      · exact h hk _ (by omega) (by omega)
      · rfl
    unfold tell1
    rw [key]
theorem tell_same : ∀ (ps : List Pt) (a b : List UInt8), (∀ y ∈ ps, PtOk a.length y) → a.length = b.length → (∀ i ∈ cov ps, a[i]? = b[i]?) → tellAll ps a = tellAll ps b := by
  intro ps
  induction ps with
  | nil => intro a b _ _ _; rfl
  | cons x ps ih =>
    intro a b hall hl h
    have h1 := tell1_same (a := a) (b := b) (hall x (by simp)) hl (fun hk i h1 h2 => h i (by rw [cov_cons, List.mem_append, if_neg hk, List.mem_range'_1]; exact Or.inl ⟨h1, h2⟩))
    have h2 := ih a b (fun z hz => hall z (by simp [hz])) hl (fun i hi => h i (by rw [cov_cons, List.mem_append]; exact Or.inr hi))
    unfold tellAll at h2 ⊢
    rw [List.flatMap_cons, List.flatMap_cons, h1, h2]
/-- A value's text is told out of any bytes that are its own where something lies. -/
theorem lay_told {ps : List Pt} {v a a' c : List UInt8} {hi : Nat} (hok : ∀ y ∈ ps, PtOk a.length y) (hi' : Inc ps 0 hi) (h : layAll ps v a = some ([], a')) (hl : c.length = a.length) (hc : ∀ i ∈ cov ps, c[i]? = a'[i]?) : tellAll ps c = v := by
  have hlen := lay_length ps v a [] a' hok h
  have h1 := lay_tell ps v a [] a' hok (inc_off hi').1 h
  rw [List.append_nil] at h1
  rw [h1]
  exact tell_same ps c a' (fun y hy => by rw [hl]; exact hok y hy) (by rw [hl, hlen]) hc
end Go.Proofs.YtghggcehloiemabGreatDoor.P
