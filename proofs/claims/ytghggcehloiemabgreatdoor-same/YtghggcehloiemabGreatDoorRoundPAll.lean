import Derived.Test.YtghggcehloiemabGreatDoorTellP
import Derived.Test.YtghggcehloiemabGreatDoorTellWAll
import Derived.Deep.RegionHeld3
import Derived.Deep.DrawnRows
namespace Go.Proofs.YtghggcehloiemabGreatDoor.P
set_option linter.unusedVariables false

theorem leval_snoc' (l : List UInt8) (c : UInt8) : leval (l ++ [c]) = leval l + 256 ^ l.length * c.toNat := by
  induction l with
  | nil => simp [leval]
  | cons d r ih =>
    rw [List.cons_append, leval, ih, leval, List.length_cons, Nat.pow_succ, Nat.add_mul, Nat.mul_right_comm]
    omega
theorem digs_split' (s : List UInt8) : s = digs s ++ s.drop (digs s).length := by
  induction s with
  | nil => rfl
  | cons a s ih =>
    by_cases ha : isDig a = true
    · have e : digs (a :: s) = a :: digs s := by simp [digs, ha]
      rw [e, List.length_cons, List.drop_succ_cons, List.cons_append, ← ih]
    · have e : digs (a :: s) = [] := by simp [digs, ha]
      rw [e]; rfl
theorem put_sub (bs : List UInt8) (p : Nat) (xs : List UInt8) (h : p + xs.length ≤ bs.length) : sub (put bs p xs) p xs.length = xs := by
  unfold sub put
  have hl : (bs.take p).length = p := by simp; omega
  rw [List.append_assoc, List.drop_append_of_le_length (by omega), List.drop_of_length_le (by omega), List.nil_append]
  simp
theorem put_off (bs : List UInt8) (p : Nat) (xs : List UInt8) (q k : Nat) (h : p + xs.length ≤ bs.length) (ho : q + k ≤ p ∨ p + xs.length ≤ q) : sub (put bs p xs) q k = sub bs q k := by
  apply List.ext_getElem?
  intro i
  unfold sub put
  have hl : (bs.take p).length = p := by simp; omega
  rw [List.getElem?_take, List.getElem?_take, List.getElem?_drop, List.getElem?_drop]
  by_cases hi : i < k
  · rw [if_pos hi, if_pos hi, List.append_assoc]
    by_cases h1 : q + i < p
    · rw [List.getElem?_append_left (by omega), List.getElem?_take, if_pos h1]
    · rw [List.getElem?_append_right (by omega), hl]
      rw [List.getElem?_append_right (by omega), List.getElem?_drop]
      congr 1
      omega
  · rw [if_neg hi, if_neg hi]

theorem leval_le (k n : Nat) : leval (le k n) = n % 256 ^ k := by
  induction k with
  | zero => simp [le, leval, Nat.mod_one]
  | succ k ih =>
    rw [le, leval_snoc', ih, le_length, Nat.mod_pow_succ]
    congr 2
    simp

theorem val_pos {d : List UInt8} (hne : d ≠ []) (hd : ∀ c ∈ d, isDig c = true) (h0 : d.head? ≠ some 48) : 1 ≤ val d := by
  cases d with
  | nil => exact absurd rfl hne
  | cons c r =>
    have h1 := val_le_append [c] r
    have hc := hd c (by simp)
    have h2 : val [c] = c.toNat - 48 := by simp [val]
    have h3 : c ≠ 48 := fun e => h0 (by rw [e]; rfl)
    have h4 : 48 ≤ c.toNat ∧ c.toNat ≤ 57 := by unfold isDig at hc; simpa using hc
    have h5 : c.toNat ≠ 48 := fun e => h3 (UInt8.toNat_inj.1 (by simpa using e))
    have e : val (c :: r) = val ([c] ++ r) := rfl
    omega
theorem dec_val : ∀ (k : Nat) (d : List UInt8), d.length = k + 1 → (∀ c ∈ d, isDig c = true) → (1 < d.length → d.head? ≠ some 48) → Lib.decDigits (val d) = d := by
  intro k
  induction k with
  | zero =>
    intro d hl hd _
    obtain ⟨c, rfl⟩ : ∃ c, d = [c] := List.length_eq_one_iff.1 hl
    have hc := hd c (by simp)
    have h4 : 48 ≤ c.toNat ∧ c.toNat ≤ 57 := by unfold isDig at hc; simpa using hc
    have h2 : val [c] = c.toNat - 48 := by simp [val]
    rw [h2, Lib.decDigits_one (by omega)]
    congr 1
    apply UInt8.toNat_inj.1
    simp
    omega
  | succ k ih =>
    intro d hl hd h0
    obtain ⟨e, c, rfl⟩ : ∃ e c, d = e ++ [c] := by
      have hne : d ≠ [] := by intro h; rw [h] at hl; simp at hl
      exact ⟨d.dropLast, d.getLast hne, (List.dropLast_concat_getLast hne).symm⟩
    have hle : e.length = k + 1 := by simpa using hl
    have hne : e ≠ [] := by intro h; rw [h] at hle; simp at hle
    have hde : ∀ x ∈ e, isDig x = true := fun x hx => hd x (by simp [hx])
    have hh : (e ++ [c]).head? = e.head? := by cases e with
      | nil => exact absurd rfl hne
      | cons => rfl
    have h0e : e.head? ≠ some 48 := by rw [← hh]; exact h0 (by omega)
    have hrec := ih e hle hde (fun _ => h0e)
    have hp := val_pos hne hde h0e
    have hc := hd c (by simp)
    have h4 : 48 ≤ c.toNat ∧ c.toNat ≤ 57 := by unfold isDig at hc; simpa using hc
    rw [val_snoc, Lib.decDigits, dif_neg (by omega), show (val e * 10 + (c.toNat - 48)) / 10 = val e by omega, show (val e * 10 + (c.toNat - 48)) % 10 = c.toNat - 48 by omega, hrec]
    congr 2
    apply UInt8.toNat_inj.1
    simp
    omega
theorem digs_dig (l : List UInt8) : ∀ c ∈ digs l, isDig c = true := by
  intro c hc
  have h : (digs l).all isDig = true := List.all_takeWhile
  exact List.all_eq_true.1 h c hc
theorem rdnum_dec {most : Nat} {l : List UInt8} {n k : Nat} (h : rdnum most l = some (n, k)) : l = Lib.decDigits n ++ l.drop k ∧ n ≤ most := by
  unfold rdnum at h
  split at h
  · cases h
  · rename_i hn
    simp only [not_or] at hn
    obtain ⟨h1, h2, h3⟩ := hn
    cases h
    obtain ⟨j, hj⟩ : ∃ j, (digs l).length = j + 1 := ⟨(digs l).length - 1, by have := List.length_pos_iff.2 h1; omega⟩
    rw [dec_val j (digs l) hj (digs_dig l) (fun hl he => h2 ⟨hl, he⟩)]
    exact ⟨digs_split' l, by omega⟩
theorem hx_hexv {c : UInt8} {d : Nat} (h : hexv c = some d) : hx d = c := by
  unfold hexv at h
  split at h
  · rename_i h1
    cases h
    unfold hx
    rw [if_pos (by omega)]
    apply UInt8.toNat_inj.1
    simp
    omega
  · split at h
    · rename_i h1 h2
      cases h
      unfold hx
      rw [if_neg (by omega)]
      apply UInt8.toNat_inj.1
      simp
      omega
    · cases h
theorem rdhex_hexT : ∀ (k : Nat) (l xs : List UInt8), rdhex k l = some xs → l = hexT xs ++ l.drop (2 * k) := by
  intro k
  induction k with
  | zero => intro l xs h; simp [rdhex] at h; subst h; simp [hexT]
  | succ k ih =>
    intro l xs h
    cases l with
    | nil => simp [rdhex] at h
    | cons a l =>
      cases l with
      | nil => simp [rdhex] at h
      | cons c r =>
        rw [rdhex] at h
        cases hx' : hexv a with
        | none => simp [hx'] at h
        | some x =>
          cases hy' : hexv c with
          | none => simp [hx', hy'] at h
          | some y =>
            simp only [hx', hy'] at h
            cases hr : rdhex k r with
            | none => rw [hr] at h; cases h
            | some ys =>
              rw [hr] at h
              simp only [Option.map_some, Option.some.injEq] at h
              subst h
              have hrec := ih r ys hr
              have hx15 := hexv_lt hx'
              have hy15 := hexv_lt hy'
              have e : (UInt8.ofNat (x * 16 + y)).toNat = x * 16 + y := by simp; omega
              have e1 : hexT (UInt8.ofNat (x * 16 + y) :: ys) = a :: c :: hexT ys := by
                unfold hexT
                rw [List.flatMap_cons, e, show (x * 16 + y) / 16 = x by omega, show (x * 16 + y) % 16 = y by omega, hx_hexv hx', hx_hexv hy']
                rfl
              have e2 : List.drop (2 * (k + 1)) (a :: c :: r) = r.drop (2 * k) := by
                rw [show 2 * (k + 1) = 2 * k + 1 + 1 by omega]; rfl
              rw [e1, e2, List.cons_append, List.cons_append, ← hrec]

/-- Two parts lie apart. -/
def Off (x y : Pt) : Prop := x.kind = 0 ∨ y.kind = 0 ∨ x.place + x.size ≤ y.place ∨ y.place + y.size ≤ x.place

theorem step_tell {x : Pt} {l bs bs' : List UInt8} {k : Nat} (hok : PtOk bs.length x) (h : stepP x l bs = some (k, bs')) : l = tell1 bs' x ++ l.drop k := by
  unfold stepP at h
  unfold tell1
  rcases hok with ⟨h1, _, _, h4, h5⟩ | ⟨h1, _, _, _, h5⟩ | ⟨h1, h2⟩
  · rw [if_pos h1] at h ⊢
    cases hr : rdnum (256 ^ x.size - 1) l with
    | none => rw [hr] at h; cases h
    | some y =>
      obtain ⟨n, j⟩ := y
      rw [hr] at h
      simp at h
      obtain ⟨rfl, rfl⟩ := h
      obtain ⟨hl, hle⟩ := rdnum_dec hr
      have hp : 0 < 256 ^ x.size := Nat.pow_pos (by omega)
      have hs := put_sub bs x.place (le x.size n) (by rw [le_length]; exact h5)
      rw [le_length] at hs
      rw [hs, leval_le, Nat.mod_eq_of_lt (by omega)]
      exact hl
  · rw [if_neg (by omega), if_pos h1] at h ⊢
    cases hr : rdhex x.size l with
    | none => rw [hr] at h; cases h
    | some y =>
      rw [hr] at h
      simp at h
      obtain ⟨rfl, rfl⟩ := h
      have hy := rdhex_length _ _ _ hr
      have hs := put_sub bs x.place y (by rw [hy]; exact h5)
      rw [hy] at hs
      rw [hs]
      exact rdhex_hexT _ _ _ hr
  · rw [if_neg (by omega), if_neg (by omega)] at h ⊢
    cases l with
    | nil => cases h
    | cons c r =>
      simp only at h
      split at h
      · rename_i hc
        cases h
        rw [← hc]
        simp
      · cases h
theorem step_keeps {x y : Pt} {l bs bs' : List UInt8} {k : Nat} (hok : PtOk bs.length y) (h : stepP y l bs = some (k, bs')) (ho : Off x y) : tell1 bs' x = tell1 bs x := by
  by_cases hx0 : x.kind = 0
  · unfold tell1; rw [if_neg (by omega), if_neg (by omega), if_neg (by omega), if_neg (by omega)]
  · have key : sub bs' x.place x.size = sub bs x.place x.size := by
      unfold stepP at h
      rcases hok with ⟨h1, _, _, h4, h5⟩ | ⟨h1, _, _, _, h5⟩ | ⟨h1, h2⟩
      · rw [if_pos h1] at h
        cases hr : rdnum (256 ^ y.size - 1) l with
        | none => rw [hr] at h; cases h
        | some z =>
          rw [hr] at h
          simp at h
          obtain ⟨rfl, rfl⟩ := h
          rcases ho with ho | ho | ho
          · exact absurd ho hx0
          · omega
          · exact put_off _ _ _ _ _ (by rw [le_length]; exact h5) (by rw [le_length]; exact ho)
      · rw [if_neg (by omega), if_pos h1] at h
        cases hr : rdhex y.size l with
        | none => rw [hr] at h; cases h
        | some z =>
          rw [hr] at h
          simp at h
          obtain ⟨rfl, rfl⟩ := h
          have hz := rdhex_length _ _ _ hr
          rcases ho with ho | ho | ho
          · exact absurd ho hx0
          · omega
          · exact put_off _ _ _ _ _ (by rw [hz]; exact h5) (by rw [hz]; exact ho)
      · rw [if_neg (by omega), if_neg (by omega)] at h
        cases l with
        | nil => cases h
        | cons c r =>
          simp only at h
          split at h
          · cases h; rfl
          · cases h
    unfold tell1
    rw [key]
theorem lay_keeps {x : Pt} : ∀ (ps : List Pt) (l bs r bs' : List UInt8), (∀ y ∈ ps, PtOk bs.length y ∧ Off x y) → layAll ps l bs = some (r, bs') → tell1 bs' x = tell1 bs x := by
  intro ps
  induction ps with
  | nil => intro l bs r bs' _ h; cases h; rfl
  | cons y ps ih =>
    intro l bs r bs' hall h
    rw [layAll] at h
    split at h
    · cases h
    · rename_i k b1 hst
      have hy := hall y (by simp)
      have hlen := stepP_length hy.1 hst
      rw [ih _ _ _ _ (fun z hz => by rw [hlen]; exact hall z (by simp [hz])) h, step_keeps hy.1 hst hy.2]
/-- What is laid is told again. -/
theorem lay_tell : ∀ (ps : List Pt) (l bs r bs' : List UInt8), (∀ y ∈ ps, PtOk bs.length y) → ps.Pairwise Off → layAll ps l bs = some (r, bs') → l = tellAll ps bs' ++ r := by
  intro ps
  induction ps with
  | nil => intro l bs r bs' _ _ h; cases h; simp [tellAll]
  | cons x ps ih =>
    intro l bs r bs' hall hoff h
    rw [layAll] at h
    split at h
    · cases h
    · rename_i k b1 hst
      have hx := hall x (by simp)
      have hlen := stepP_length hx hst
      rw [List.pairwise_cons] at hoff
      have hok' : ∀ z ∈ ps, PtOk b1.length z := fun z hz => by rw [hlen]; exact hall z (by simp [hz])
      have h1 := ih _ _ _ _ hok' hoff.2 h
      have h2 := lay_keeps ps _ _ _ _ (fun z hz => ⟨hok' z hz, hoff.1 z hz⟩) h
      have h3 := step_tell hx hst
      unfold tellAll at h1 ⊢
      rw [List.flatMap_cons, h2, List.append_assoc, ← h1]
      exact h3

/-- Bytes that differ at most where the fills lie. -/
def Like (f g : UInt8) (a b : List UInt8) : Prop := a.length = b.length ∧ ∀ (i : Nat) (x y : UInt8), a[i]? = some x → b[i]? = some y → x = y ∨ (x = f ∧ y = g)
theorem put_get (bs : List UInt8) (p : Nat) (xs : List UInt8) (h : p + xs.length ≤ bs.length) (i : Nat) : (put bs p xs)[i]? = if p ≤ i ∧ i < p + xs.length then xs[i - p]? else bs[i]? := by
  unfold put
  have hl : (bs.take p).length = p := by simp; omega
  rw [List.append_assoc]
  by_cases h1 : i < p
  · rw [if_neg (by omega), List.getElem?_append_left (by omega), List.getElem?_take, if_pos h1]
  · rw [List.getElem?_append_right (by omega), hl]
    by_cases h2 : i < p + xs.length
    · rw [if_pos (by omega), List.getElem?_append_left (by omega)]
    · rw [if_neg (by omega), List.getElem?_append_right (by omega), List.getElem?_drop]
      congr 1
      omega
theorem like_put {f g : UInt8} {a b : List UInt8} (h : Like f g a b) (p : Nat) (xs : List UInt8) (hp : p + xs.length ≤ a.length) : Like f g (put a p xs) (put b p xs) := by
  refine ⟨by rw [put_length _ _ _ hp, put_length _ _ _ (by rw [← h.1]; exact hp)]; exact h.1, ?_⟩
  intro i x y hx hy
  rw [put_get _ _ _ hp] at hx
  rw [put_get _ _ _ (by rw [← h.1]; exact hp)] at hy
  split at hx
  · rename_i hc
    rw [if_pos hc, hx] at hy
    cases hy
    exact Or.inl rfl
  · rename_i hc
    rw [if_neg hc] at hy
    exact h.2 i x y hx hy
theorem step_like {f g : UInt8} {x : Pt} {l a b a' : List UInt8} {k : Nat} (hok : PtOk a.length x) (h : Like f g a b) (hs : stepP x l a = some (k, a')) : ∃ b', stepP x l b = some (k, b') ∧ Like f g a' b' := by
  unfold stepP at *
  rcases hok with ⟨h1, _, _, h4, h5⟩ | ⟨h1, _, _, _, h5⟩ | ⟨h1, h2⟩
  · rw [if_pos h1] at hs ⊢
    cases hr : rdnum (256 ^ x.size - 1) l with
    | none => rw [hr] at hs; cases hs
    | some z =>
      rw [hr] at hs
      simp only [Option.map_some, Option.some.injEq, Prod.mk.injEq] at hs
      obtain ⟨rfl, rfl⟩ := hs
      exact ⟨_, rfl, like_put h _ _ (by rw [le_length]; exact h5)⟩
  · rw [if_neg (by omega), if_pos h1] at hs ⊢
    cases hr : rdhex x.size l with
    | none => rw [hr] at hs; cases hs
    | some z =>
      rw [hr] at hs
      simp only [Option.map_some, Option.some.injEq, Prod.mk.injEq] at hs
      obtain ⟨rfl, rfl⟩ := hs
      exact ⟨_, rfl, like_put h _ _ (by rw [rdhex_length _ _ _ hr]; exact h5)⟩
  · rw [if_neg (by omega), if_neg (by omega)] at hs ⊢
    cases l with
    | nil => cases hs
    | cons c r =>
      simp only at hs ⊢
      split at hs
      · rename_i hc
        cases hs
        exact ⟨b, by rw [if_pos hc], h⟩
      · cases hs
theorem lay_like {f g : UInt8} : ∀ (ps : List Pt) (l a b r a' : List UInt8), (∀ y ∈ ps, PtOk a.length y) → Like f g a b → layAll ps l a = some (r, a') → ∃ b', layAll ps l b = some (r, b') ∧ Like f g a' b' := by
  intro ps
  induction ps with
  | nil => intro l a b r a' _ h hs; cases hs; exact ⟨b, rfl, h⟩
  | cons x ps ih =>
    intro l a b r a' hall h hs
    rw [layAll] at hs
    split at hs
    · cases hs
    · rename_i k a1 hst
      have hx := hall x (by simp)
      obtain ⟨b1, hb1, hl1⟩ := step_like hx h hst
      have hlen := stepP_length hx hst
      obtain ⟨b', hb', hl'⟩ := ih _ _ b1 _ _ (fun z hz => by rw [hlen]; exact hall z (by simp [hz])) hl1 hs
      exact ⟨b', by rw [layAll, hb1]; exact hb', hl'⟩
theorem like_fill (f g : UInt8) (n : Nat) : Like f g (List.replicate n f) (List.replicate n g) := by
  refine ⟨by simp, ?_⟩
  intro i x y hx hy
  rw [List.getElem?_replicate] at hx hy
  split at hx
  · rename_i h
    rw [if_pos h] at hy
    cases hx; cases hy
    exact Or.inr ⟨rfl, rfl⟩
  · cases hx
theorem lay_length : ∀ (ps : List Pt) (l a r a' : List UInt8), (∀ y ∈ ps, PtOk a.length y) → layAll ps l a = some (r, a') → a'.length = a.length := by
  intro ps
  induction ps with
  | nil => intro l a r a' _ hs; cases hs; rfl
  | cons x ps ih =>
    intro l a r a' hall hs
    rw [layAll] at hs
    split at hs
    · cases hs
    · rename_i k a1 hst
      have hlen := stepP_length (hall x (by simp)) hst
      rw [ih _ _ _ _ (fun z hz => by rw [hlen]; exact hall z (by simp [hz])) hs, hlen]
end Go.Proofs.YtghggcehloiemabGreatDoor.P
namespace Go.Proofs.YtghggcehloiemabGreatDoor
open Go.RowKit
set_option linter.unusedVariables false
set_option maxRecDepth 16000

namespace P
def pickP (c : Int) (n : Nat) : Nat := (if c < 0 then -(c + 1) else c).toNat % n
def leafT (k : Nat) : List UInt8 := if k = 0 then [117, 49] else if k = 1 then [117, 50] else if k = 2 then [117, 52] else if k = 3 then [98, 49] else if k = 4 then [98, 50] else [98, 51]
/-- Hexadecimal digits, the lowest first. -/
def lowHex : Nat → Nat → List UInt8
  | 0, _ => []
  | k + 1, n => lowHex k n ++ [hx (n / 16 ^ k % 16)]
def oneP (k : Nat) (c : Int) : List UInt8 := if k = 0 then Lib.decDigits (pickP c 256) else if k = 1 then Lib.decDigits (pickP c 65536) else if k = 2 then Lib.decDigits (pickP c 4294967296) else lowHex (2 * (k - 2)) (pickP c 16777216)
def joinP (how : Nat) (a b c d : List UInt8) : List UInt8 :=
  if how = 0 then a else if how = 1 then [123] ++ a ++ [125] else if how = 2 then [123] ++ a ++ [44] ++ b ++ [125]
  else if how = 3 then [123] ++ a ++ [44] ++ b ++ [44] ++ c ++ [44] ++ d ++ [125]
  else if how = 4 then [123] ++ a ++ [44, 123] ++ b ++ [44] ++ c ++ [125, 44] ++ d ++ [125]
  else [123, 123, 123] ++ a ++ [44] ++ b ++ [125, 125, 44] ++ c ++ [125]
end P
def bytesOf (l : List UInt8) : ByteArray := ⟨l.toArray⟩

set_option maxHeartbeats 400000 in
theorem pick_any (c : Int) (n : Nat) (w : World) (hn : 1 ≤ n) (hn2 : n ≤ 4294967296) (h0 : -9223372036854775808 ≤ c) (h1 : c ≤ 9223372036854775807) :
    Calls Tryz.prog 9 #[.int .i64 c, .int .i64 n] w fun e w' => e = .returned (.int .i64 (P.pickP c n)) ∧ w' = w := by
  have hnz : ((n : Int) == 0) = false := by rw [beq_eq_false_iff_ne]; omega
  by_cases h : c < 0
  · have HP : Hid (((P.pickP c n : Nat) : Int) = -((c + 1).tmod n)) := by
      unfold Hid P.pickP; rw [if_pos h, Int.natCast_emod, Int.toNat_of_nonneg (by omega), ← Int.tmod_eq_emod_of_nonneg (by omega), Int.neg_tmod]
    go_enter Tryz.func9, Tryz.ntmps9
    go_wp2_with fail
    go_ret
    exact ⟨by rw [HP.out]; rfl, rfl⟩
  · have HP : Hid (((P.pickP c n : Nat) : Int) = c % n) := by
      unfold Hid P.pickP; rw [if_neg h, Int.natCast_emod, Int.toNat_of_nonneg (by omega)]
    go_enter Tryz.func9, Tryz.ntmps9
    go_wp2_with fail
    go_ret
    exact ⟨by rw [HP.out]; rfl, rfl⟩
theorem pick_lt (c : Int) (n : Nat) (hn : 1 ≤ n) : P.pickP c n < n := Nat.mod_lt _ (by omega)

set_option maxHeartbeats 1000000 in
theorem kleaf_any (k : Nat) (w : World) (hk : k ≤ 5) :
    Calls Tryz.prog 29 #[.int .i64 k] w fun e w' => e = .returned (.string (bytesOf (P.leafT k))) ∧ Below w.heap.size w w' := by
  have hc : k = 0 ∨ k = 1 ∨ k = 2 ∨ k = 3 ∨ k = 4 ∨ k = 5 := by omega
  rcases hc with rfl | rfl | rfl | rfl | rfl | rfl
  all_goals
    go_enter Tryz.func29, Tryz.ntmps29
    go_wp2_with fail
    go_ret
    exact ⟨rfl, (Below.refl _ _).alloc (Nat.le_refl _) _⟩

set_option maxHeartbeats 1000000 in
theorem one_num (k : Nat) (M : Nat) (c : Int) (w : World) (hk : (k = 0 ∧ M = 256) ∨ (k = 1 ∧ M = 65536) ∨ (k = 2 ∧ M = 4294967296)) (h0 : -9223372036854775808 ≤ c) (h1 : c ≤ 9223372036854775807) (htab : Lib.TabIs Tryz.prog w "internal/strconv.uint64pow10" .u64 Lib.pow10Tab) :
    Calls Tryz.prog 34 #[.int .i64 k, .int .i64 c] w fun e w' => e = .returned (.string (bytesOf (Lib.decDigits (P.pickP c M)))) ∧ Below w.heap.size w w' := by
  have HT : Hid (Lib.TabBelow Tryz.prog w.heap.size w "internal/strconv.uint64pow10" .u64 Lib.pow10Tab) := Lib.tabBelow_of_tabIs htab
  clear htab
  rcases hk with ⟨rfl, rfl⟩ | ⟨rfl, rfl⟩ | ⟨rfl, rfl⟩
  all_goals
    go_enter Tryz.func34, Tryz.ntmps34
    go_wp2_with fail
    refine Calls.mono (pick_any c _ _ (by decide) (by decide) h0 h1) ?_
    rintro e w1 ⟨rfl, hw1⟩
    have hb1 : Below w.heap.size w w1 := by rw [hw1]; exact (Below.refl _ _).alloc (Nat.le_refl _) _
    clear hw1
    go_wp2_with fail
    refine Calls.mono (Tryz.strconv_Itoa _ (by omega) (by have := pick_lt c 256 (by decide); have := pick_lt c 65536 (by decide); have := pick_lt c 4294967296 (by decide); omega) _ (HT.out.on hb1).here) ?_
    rintro e w2 ⟨rfl, kk, os, hw2⟩
    have hbe := grow_below hw2
    have hb2 : Below w.heap.size w w2 := hb1.trans (hbe.mono hb1.size)
    clear hw2
    go_wp2_with fail
    go_ret
    refine ⟨?_, hb2⟩
    rw [Lib.itoa_nonneg]
    rfl

theorem lowHex_len (k n : Nat) : (P.lowHex k n).length = k := by
  induction k with
  | zero => rfl
  | succ k ih => simp [P.lowHex, ih]
theorem hx_data' {d : Nat} (h : d < 16) : (ByteArray.extract ⟨#[48, 49, 50, 51, 52, 53, 54, 55, 56, 57, 97, 98, 99, 100, 101, 102]⟩ d (d + 1)).data.toList = [P.hx d] := by
  match d, h with
  | 0, _ | 1, _ | 2, _ | 3, _ | 4, _ | 5, _ | 6, _ | 7, _ | 8, _ | 9, _ | 10, _ | 11, _ | 12, _ | 13, _ | 14, _ | 15, _ => rfl
  | n + 16, h => exact absurd h (by omega)
theorem hx_size' {d : Nat} (h : d < 16) : (ByteArray.extract ⟨#[48, 49, 50, 51, 52, 53, 54, 55, 56, 57, 97, 98, 99, 100, 101, 102]⟩ d (d + 1)).size = 1 := by
  have := congrArg List.length (hx_data' h)
  simpa [ByteArray.size] using this

set_option maxHeartbeats 1000000 in
theorem one_hex (k : Nat) (c : Int) (w : World) (hk : 3 ≤ k) (hk5 : k ≤ 5) (h0 : -9223372036854775808 ≤ c) (h1 : c ≤ 9223372036854775807) :
    Calls Tryz.prog 34 #[.int .i64 k, .int .i64 c] w fun e w' => e = .returned (.string (bytesOf (P.lowHex (2 * (k - 2)) (P.pickP c 16777216)))) ∧ Below w.heap.size w w' := by
  go_enter Tryz.func34, Tryz.ntmps34
  go_wp2_with fail
  refine Calls.mono (pick_any c 16777216 _ (by decide) (by decide) h0 h1) ?_
  rintro e w1 ⟨rfl, hw1⟩
  have hb1 : Below w.heap.size w w1 := by rw [hw1]; exact (Below.refl _ _).alloc (Nat.le_refl _) _
  clear hw1
  have hN := pick_lt c 16777216 (by decide)
  obtain ⟨N, hNe⟩ : ∃ N, P.pickP c 16777216 = N := ⟨_, rfl⟩
  rw [hNe] at hN ⊢
  have HNE : Hid (P.pickP c 16777216 = N) := hNe
  clear hNe
  go_wp2_with fail
  go_loopw [6, 7, 8] (fun n o i wr => ∃ (q nn : Nat) (tb : ByteArray), q ≤ 2 * (k - 2) ∧ i = .int .i64 q ∧ n = .int .i64 nn ∧ nn < 16777216 ∧ o = .string tb ∧ tb.size = q ∧ Hid (nn = N / 16 ^ q ∧ tb.data.toList = P.lowHex q N) ∧ Below w.heap.size w wr) (fun _ _ i _ => 2 * (k - 2) - (intOf i).toNat)
  case atStart => exact ⟨0, N, ⟨#[]⟩, by omega, rfl, rfl, hN, rfl, rfl, ⟨by simp, rfl⟩, hb1⟩
  case round =>
    obtain ⟨q, nn, tb, hq, rfl, rfl, hnn, rfl, htb, HI, hbe⟩ := hrel
    by_cases hlt : q < 2 * (k - 2)
    · go_wp2_with fail
      refine ⟨⟨q + 1, nn / 16, _, by omega, by go_num, by go_num, by omega, rfl, ?_, ?_, hbe⟩, by simp [intOf]; omega⟩
      · rw [ByteArray.size_append, hx_size' (by omega)]
        omega
      · refine ⟨by rw [HI.out.1, Nat.div_div_eq_div_mul, Nat.pow_succ], ?_⟩
        rw [ByteArray.data_append, Array.toList_append, hx_data' (show nn % 16 < 16 by omega), P.lowHex, ← HI.out.1, HI.out.2]
    · have hqe : q = 2 * (k - 2) := by omega
      have HE : Hid (P.lowHex (2 * (k - 2)) N = tb.data.toList) := by have h := HI.out.2; rw [hqe] at h; exact h.symm
      clear HI hqe
      go_wp2_with fail
      go_ret
      refine ⟨?_, hbe⟩
      rw [HNE.out, HE.out]
      have e : tb = ⟨tb.data.toList.toArray⟩ := by cases tb; simp
      exact congrArg (fun z => Ending.returned (.string z)) e

theorem one_any (k : Nat) (c : Int) (w : World) (hk : k ≤ 5) (h0 : -9223372036854775808 ≤ c) (h1 : c ≤ 9223372036854775807) (htab : Lib.TabIs Tryz.prog w "internal/strconv.uint64pow10" .u64 Lib.pow10Tab) :
    Calls Tryz.prog 34 #[.int .i64 k, .int .i64 c] w fun e w' => e = .returned (.string (bytesOf (P.oneP k c))) ∧ Below w.heap.size w w' := by
  unfold P.oneP
  by_cases e0 : k = 0
  · rw [if_pos e0]; exact one_num k 256 c w (Or.inl ⟨e0, rfl⟩) h0 h1 htab
  · rw [if_neg e0]
    by_cases e1 : k = 1
    · rw [if_pos e1]; exact one_num k 65536 c w (Or.inr (Or.inl ⟨e1, rfl⟩)) h0 h1 htab
    · rw [if_neg e1]
      by_cases e2 : k = 2
      · rw [if_pos e2]; exact one_num k 4294967296 c w (Or.inr (Or.inr ⟨e2, rfl⟩)) h0 h1 htab
      · rw [if_neg e2]; exact one_hex k c w (by omega) hk h0 h1

set_option maxHeartbeats 1000000 in
theorem knumber_any (h l0 l1 l2 l3 : Int) (i : Nat) (w : World) (hi : i ≤ 3) (hl : ∀ x ∈ [l0, l1, l2, l3], -9223372036854775808 ≤ x ∧ x ≤ 9223372036854775807) :
    Calls Tryz.prog 30 #[.agg #[.int .i64 h, .int .i64 l0, .int .i64 l1, .int .i64 l2, .int .i64 l3], .int .i64 i] w fun e w' => e = .returned (.int .i64 (P.pickP ([l0, l1, l2, l3].getD i 0) 6)) ∧ Below w.heap.size w w' := by
  have hc : i = 0 ∨ i = 1 ∨ i = 2 ∨ i = 3 := by omega
  have HL : Hid (∀ x ∈ [l0, l1, l2, l3], -9223372036854775808 ≤ x ∧ x ≤ 9223372036854775807) := hl
  clear hl
  rcases hc with rfl | rfl | rfl | rfl
  all_goals
    go_enter Tryz.func30, Tryz.ntmps30
    go_wp2_with fail
    refine Calls.mono (pick_any _ 6 _ (by decide) (by decide) (HL.out _ (by simp)).1 (HL.out _ (by simp)).2) ?_
    rintro e w1 ⟨rfl, hw1⟩
    have hb1 : Below w.heap.size w w1 := by rw [hw1]; exact (Below.refl _ _).alloc (Nat.le_refl _) _
    clear hw1
    go_wp2_with fail
    go_ret
    exact ⟨rfl, hb1⟩

set_option maxHeartbeats 1000000 in
theorem join_any (h l0 l1 l2 l3 : Int) (a b c d : ByteArray) (w : World) (h0 : -9223372036854775808 ≤ h) (h1 : h ≤ 9223372036854775807) (ha : a.size ≤ 40) (hb : b.size ≤ 40) (hc : c.size ≤ 40) (hd : d.size ≤ 40) :
    Calls Tryz.prog 28 #[.agg #[.int .i64 h, .int .i64 l0, .int .i64 l1, .int .i64 l2, .int .i64 l3], .string a, .string b, .string c, .string d] w fun e w' => e = .returned (.string (bytesOf (P.joinP (P.pickP h 6) a.data.toList b.data.toList c.data.toList d.data.toList))) ∧ Below w.heap.size w w' := by
  have hlt := pick_lt h 6 (by decide)
  go_enter Tryz.func28, Tryz.ntmps28
  go_wp2_with fail
  refine Calls.mono (pick_any _ 6 _ (by decide) (by decide) h0 h1) ?_
  rintro e w1 ⟨rfl, hw1⟩
  have hb1 : Below w.heap.size w w1 := by rw [hw1]; exact (Below.refl _ _).alloc (Nat.le_refl _) _
  clear hw1
  obtain ⟨k, hk⟩ : ∃ k, P.pickP h 6 = k := ⟨_, rfl⟩
  rw [hk] at hlt ⊢
  have HK : Hid (P.pickP h 6 = k) := hk
  clear hk
  have hcs : k = 0 ∨ k = 1 ∨ k = 2 ∨ k = 3 ∨ k = 4 ∨ k = 5 := by omega
  rcases hcs with rfl | rfl | rfl | rfl | rfl | rfl
  all_goals
    go_wp2_with fail
    go_ret
    refine ⟨?_, hb1⟩
    rw [HK.out]
    refine congrArg (fun z => Ending.returned (Value.string z)) ?_
    apply ByteArray.ext
    apply Array.toList_inj.1
    simp [bytesOf, P.joinP]
end Go.Proofs.YtghggcehloiemabGreatDoor
namespace Go.Proofs.YtghggcehloiemabGreatDoor
open Go.RowKit
set_option linter.unusedVariables false
set_option maxRecDepth 16000

theorem leafT_len (k : Nat) : (P.leafT k).length = 2 := by
  unfold P.leafT
  by_cases h0 : k = 0
  · rw [if_pos h0]; rfl
  · by_cases h1 : k = 1
    · rw [if_neg h0, if_pos h1]; rfl
    · by_cases h2 : k = 2
      · rw [if_neg h0, if_neg h1, if_pos h2]; rfl
      · by_cases h3 : k = 3
        · rw [if_neg h0, if_neg h1, if_neg h2, if_pos h3]; rfl
        · by_cases h4 : k = 4
          · rw [if_neg h0, if_neg h1, if_neg h2, if_neg h3, if_pos h4]; rfl
          · rw [if_neg h0, if_neg h1, if_neg h2, if_neg h3, if_neg h4]; rfl
theorem bytes_len (l : List UInt8) : (bytesOf l).size = l.length := by simp [bytesOf, ByteArray.size]
theorem pick6 (c : Int) : P.pickP c 6 ≤ 5 := Nat.le_of_lt_succ (pick_lt c 6 (by decide))

def I64 (x : Int) : Prop := -9223372036854775808 ≤ x ∧ x ≤ 9223372036854775807

/-- The five cells of a shape at block B. -/
def Five (w : World) (B : Nat) (v0 v1 v2 v3 v4 : Value) : Prop := w.cell? ⟨B, 0, none⟩ = some v0 ∧ w.cell? ⟨B, 1, none⟩ = some v1 ∧ w.cell? ⟨B, 2, none⟩ = some v2 ∧ w.cell? ⟨B, 3, none⟩ = some v3 ∧ w.cell? ⟨B, 4, none⟩ = some v4
theorem Five.on {w w' : World} {B : Nat} {v0 v1 v2 v3 v4 : Value} (h : Five w B v0 v1 v2 v3 v4) (hb : Below w.heap.size w w') : Five w' B v0 v1 v2 v3 v4 := by
  have key : ∀ a v, w.cell? a = some v → w'.cell? a = some v := fun a v hv => (hb.cell (p := a) (World.block_lt_of_cell? w a hv)).trans hv
  exact ⟨key _ _ h.1, key _ _ h.2.1, key _ _ h.2.2.1, key _ _ h.2.2.2.1, key _ _ h.2.2.2.2⟩
theorem Five.new (w : World) (v0 v1 v2 v3 v4 : Value) (T : TypeId) : Five (w.alloc (.cells #[v0, v1, v2, v3, v4] T)) w.heap.size v0 v1 v2 v3 v4 := by
  have h := heap_alloc_new w (.cells #[v0, v1, v2, v3, v4] T)
  refine ⟨?_, ?_, ?_, ?_, ?_⟩ <;> rw [cell_of_row _ _ _ _ _ _ h] <;> rfl
theorem five_on {w wp w3 : World} {B : Nat} {v0 v1 v2 v3 v4 : Value} (hb : Below wp.heap.size wp w3) (h : Five w B v0 v1 v2 v3 v4) (he : wp.heap = w.heap := by rfl) : Five w3 B v0 v1 v2 v3 v4 := by
  have h' : Five wp B v0 v1 v2 v3 v4 := by unfold Five World.cell? at *; rw [he]; exact h
  exact h'.on hb
theorem below_on {w0 w wp w3 : World} (hb : Below wp.heap.size wp w3) (h : Below w0.heap.size w0 w) (he : wp.heap = w.heap := by rfl) (ho : wp.os = w.os := by rfl) (ht : wp.tape = w.tape := by rfl) (hu : wp.output = w.output := by rfl) : Below w0.heap.size w0 w3 := by
  have h' : Below w0.heap.size w0 wp := ⟨ho.trans h.os, ht.trans h.tape, hu.trans h.output, by rw [he]; exact h.size, fun k hk => by rw [he]; exact h.block k hk⟩
  exact h'.trans (hb.mono h'.size)
theorem Five.drew {w : World} {B : Nat} {v0 v1 v2 v3 v4 : Value} (h : Five w B v0 v1 v2 v3 v4) : Five w.drew B v0 v1 v2 v3 v4 := h

/-- The leaf that a literal names. -/
def selI (l0 l1 l2 l3 : Int) (z : Int) : Int := if z = 0 then l0 else if z = 1 then l1 else if z = 2 then l2 else l3
theorem knumber_int (h l0 l1 l2 l3 z : Int) (w : World) (hz : z = 0 ∨ z = 1 ∨ z = 2 ∨ z = 3) (hl : ∀ x ∈ [l0, l1, l2, l3], I64 x) :
    Calls Tryz.prog 30 #[.agg #[.int .i64 h, .int .i64 l0, .int .i64 l1, .int .i64 l2, .int .i64 l3], .int .i64 z] w fun e w' => e = .returned (.int .i64 (P.pickP (selI l0 l1 l2 l3 z) 6)) ∧ Below w.heap.size w w' := by
  rcases hz with rfl | rfl | rfl | rfl
  · exact knumber_any h l0 l1 l2 l3 0 w (by decide) hl
  · exact knumber_any h l0 l1 l2 l3 1 w (by decide) hl
  · exact knumber_any h l0 l1 l2 l3 2 w (by decide) hl
  · exact knumber_any h l0 l1 l2 l3 3 w (by decide) hl
end Go.Proofs.YtghggcehloiemabGreatDoor
