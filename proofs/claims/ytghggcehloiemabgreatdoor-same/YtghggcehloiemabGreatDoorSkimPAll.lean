import Derived.Test.YtghggcehloiemabGreatDoorEncWAll
import Derived.Test.YtghggcehloiemabGreatDoorRoundPAll
import Derived.Test.YtghggcehloiemabGreatDoorKeepW3
namespace Go.Proofs.YtghggcehloiemabGreatDoor.P
set_option linter.unusedVariables false

def key (x : Pt) : Nat × Nat × Nat := (x.kind, x.mark, x.size)
/-- Whether a text is laid, and what is left of it: the places aside. -/
def skim : List (Nat × Nat × Nat) → List UInt8 → Option (List UInt8)
  | [], l => some l
  | x :: r, l => if x.1 = 1 then (match rdnum (256 ^ x.2.2 - 1) l with
      | some y => skim r (l.drop y.2)
      | none => none)
    else if x.1 = 2 then (match rdhex x.2.2 l with
      | some _ => skim r (l.drop (2 * x.2.2))
      | none => none)
    else (match l with
      | [] => none
      | c :: l' => if c.toNat = x.2.1 then skim r l' else none)
theorem skim_cons (x : Nat × Nat × Nat) (r : List (Nat × Nat × Nat)) (l : List UInt8) : skim (x :: r) l = if x.1 = 1 then (match rdnum (256 ^ x.2.2 - 1) l with
      | some y => skim r (l.drop y.2)
      | none => none)
    else if x.1 = 2 then (match rdhex x.2.2 l with
      | some _ => skim r (l.drop (2 * x.2.2))
      | none => none)
    else (match l with
      | [] => none
      | c :: l' => if c.toNat = x.2.1 then skim r l' else none) := by cases l <;> rfl
theorem skim_lay : ∀ (ps : List Pt) (l bs r : List UInt8), skim (ps.map key) l = some r → ∃ bs', layAll ps l bs = some (r, bs') := by
  intro ps
  induction ps with
  | nil => intro l bs r h; cases h; exact ⟨bs, rfl⟩
  | cons x ps ih =>
    intro l bs r h
    rw [List.map_cons, skim_cons] at h
    have hk : key x = (x.kind, x.mark, x.size) := rfl
    rw [hk] at h
    dsimp only at h
    rw [layAll]
    unfold stepP
    by_cases h1 : x.kind = 1
    · rw [if_pos h1] at h ⊢
      cases hr : rdnum (256 ^ x.size - 1) l with
      | none => rw [hr] at h; cases h
      | some y => rw [hr] at h; exact ih _ _ _ h
    · rw [if_neg h1] at h ⊢
      by_cases h2 : x.kind = 2
      · rw [if_pos h2] at h ⊢
        cases hr : rdhex x.size l with
        | none => rw [hr] at h; cases h
        | some y => rw [hr] at h; exact ih _ _ _ h
      · rw [if_neg h2] at h ⊢
        cases l with
        | nil => cases h
        | cons c l' =>
          simp only at h ⊢
          by_cases hc : c.toNat = x.mark
          · rw [if_pos hc] at h ⊢; exact ih _ _ _ h
          · rw [if_neg hc] at h; cases h

theorem dec_facts : ∀ (k n : Nat), n < 10 ^ (k + 1) → (∀ c ∈ Lib.decDigits n, isDig c = true) ∧ val (Lib.decDigits n) = n ∧ Lib.decDigits n ≠ [] ∧ (1 ≤ n → (Lib.decDigits n).head? ≠ some 48) := by
  have dig : ∀ d : Nat, d < 10 → isDig (UInt8.ofNat (48 + d)) = true ∧ (UInt8.ofNat (48 + d)).toNat - 48 = d := by
    intro d hd
    have e : (UInt8.ofNat (48 + d)).toNat = 48 + d := by simp; omega
    refine ⟨?_, by omega⟩
    unfold isDig
    simp only [e]
    simp
    omega
  have one : ∀ n : Nat, n < 10 → (∀ c ∈ Lib.decDigits n, isDig c = true) ∧ val (Lib.decDigits n) = n ∧ Lib.decDigits n ≠ [] ∧ (1 ≤ n → (Lib.decDigits n).head? ≠ some 48) := by
    intro n hn
    rw [Lib.decDigits_one hn]
    refine ⟨by intro c hc; simp only [List.mem_singleton] at hc; rw [hc]; exact (dig n hn).1, ?_, by simp, ?_⟩
    · have := (dig n hn).2
      simp only [val, List.foldl_cons, List.foldl_nil]
      omega
    · intro h1 he
      simp only [List.head?_cons, Option.some.injEq] at he
      have := congrArg UInt8.toNat he
      have e : (UInt8.ofNat (48 + n)).toNat = 48 + n := by simp; omega
      rw [e] at this
      simp at this
      omega
  intro k
  induction k with
  | zero => intro n hn; exact one n (by simpa using hn)
  | succ k ih =>
    intro n hn
    by_cases h : n < 10
    · exact one n h
    · rw [Nat.pow_succ] at hn
      obtain ⟨a1, a2, a3, a4⟩ := ih (n / 10) (by omega)
      rw [Lib.decDigits, dif_neg h]
      have hd := dig (n % 10) (by omega)
      refine ⟨?_, ?_, by simp, ?_⟩
      · intro c hc
        rcases List.mem_append.1 hc with hc | hc
        · exact a1 c hc
        · simp only [List.mem_singleton] at hc; rw [hc]; exact hd.1
      · rw [val_snoc, a2, hd.2]; omega
      · intro _
        rw [List.head?_append]
        cases hh : (Lib.decDigits (n / 10)).head? with
        | none => exact absurd (List.head?_eq_none_iff.1 hh) a3
        | some x => have := a4 (by omega); rw [hh] at this; simpa using this
theorem digs_app {d r : List UInt8} (hd : ∀ c ∈ d, isDig c = true) (hr : ∀ c, r.head? = some c → isDig c = false) : digs (d ++ r) = d := by
  unfold digs
  induction d with
  | nil =>
    cases r with
    | nil => rfl
    | cons c r => have := hr c rfl; simp [this]
  | cons c d ih =>
    have h1 := hd c (by simp)
    rw [List.cons_append, List.takeWhile_cons, h1]
    simp only [if_true]
    rw [ih (fun x hx => hd x (by simp [hx]))]
theorem rdnum_of (most n : Nat) (r : List UInt8) (hn : n ≤ most) (hb : n < 10 ^ 20) (hr : ∀ c, r.head? = some c → isDig c = false) : rdnum most (Lib.decDigits n ++ r) = some (n, (Lib.decDigits n).length) := by
  obtain ⟨h1, h2, h3, h4⟩ := dec_facts 19 n hb
  unfold rdnum
  rw [digs_app h1 hr, if_neg, h2]
  rintro (h | ⟨hl, hh⟩ | h)
  · exact h3 h
  · by_cases h0 : n < 10
    · rw [Lib.decDigits_one h0] at hl; simp at hl
    · exact h4 (by omega) hh
  · omega
theorem hexv_hx {d : Nat} (h : d < 16) : hexv (hx d) = some d := by
  match d, h with
  | 0, _ | 1, _ | 2, _ | 3, _ | 4, _ | 5, _ | 6, _ | 7, _ | 8, _ | 9, _ | 10, _ | 11, _ | 12, _ | 13, _ | 14, _ | 15, _ => rfl
  | n + 16, h => exact absurd h (by omega)
theorem rdhex_of : ∀ (m : Nat) (l r : List UInt8), l.length = 2 * m → (∀ c ∈ l, ∃ d, hexv c = some d) → ∃ xs, rdhex m (l ++ r) = some xs := by
  intro m
  induction m with
  | zero => intro l r _ _; exact ⟨[], rfl⟩
  | succ m ih =>
    intro l r hl hc
    match l, hl with
    | a :: c :: l', hl =>
      obtain ⟨x, hx'⟩ := hc a (by simp)
      obtain ⟨y, hy'⟩ := hc c (by simp)
      obtain ⟨xs, hxs⟩ := ih l' r (by simp at hl; omega) (fun z hz => hc z (by simp [hz]))
      refine ⟨UInt8.ofNat (x * 16 + y) :: xs, ?_⟩
      rw [List.cons_append, List.cons_append, rdhex, hx', hy']
      simp only [hxs, Option.map_some]
    | [_], hl => simp at hl; omega
    | [], hl => simp at hl
theorem lowHex_hex (k n : Nat) : ∀ c ∈ lowHex k n, ∃ d, hexv c = some d := by
  induction k with
  | zero => intro c hc; simp [lowHex] at hc
  | succ k ih =>
    intro c hc
    rw [lowHex] at hc
    rcases List.mem_append.1 hc with hc | hc
    · exact ih c hc
    · simp only [List.mem_singleton] at hc
      rw [hc]
      exact ⟨_, hexv_hx (Nat.mod_lt _ (by omega))⟩
/-- A leaf's key. -/
def lkey (k : Nat) : Nat × Nat × Nat := if k = 0 then (1, 0, 1) else if k = 1 then (1, 0, 2) else if k = 2 then (1, 0, 4) else (2, 0, k - 2)
theorem skim_leaf (k : Nat) (c : Int) (ks : List (Nat × Nat × Nat)) (r : List UInt8) (hr : ∀ c, r.head? = some c → isDig c = false) : skim (lkey k :: ks) (oneP k c ++ r) = skim ks r := by
  have num : ∀ (s M : Nat), 256 ^ s = M → 1 ≤ M → M ≤ 4294967296 → skim ((1, 0, s) :: ks) (Lib.decDigits (pickP c M) ++ r) = skim ks r := by
    intro s M hM h1 h2
    have hlt := pick_lt c M h1
    rw [skim_cons, if_pos rfl]
    simp only
    rw [hM, rdnum_of (M - 1) (pickP c M) r (by omega) (by omega) hr]
    simp
  unfold lkey oneP
  by_cases e0 : k = 0
  · rw [if_pos e0, if_pos e0]; exact num 1 256 (by decide) (by decide) (by decide)
  · rw [if_neg e0, if_neg e0]
    by_cases e1 : k = 1
    · rw [if_pos e1, if_pos e1]; exact num 2 65536 (by decide) (by decide) (by decide)
    · rw [if_neg e1, if_neg e1]
      by_cases e2 : k = 2
      · rw [if_pos e2, if_pos e2]; exact num 4 4294967296 (by decide) (by decide) (by decide)
      · rw [if_neg e2, if_neg e2]
        have hl := lowHex_len (2 * (k - 2)) (pickP c 16777216)
        obtain ⟨xs, hxs⟩ := rdhex_of (k - 2) (lowHex (2 * (k - 2)) (pickP c 16777216)) r hl (lowHex_hex _ _)
        rw [skim_cons, if_neg (by simp), if_pos rfl]
        simp only
        rw [hxs]
        simp only
        rw [List.drop_append_of_le_length (by omega), List.drop_of_length_le (by omega), List.nil_append]
theorem skim_mark (m : Nat) (c : UInt8) (ks : List (Nat × Nat × Nat)) (r : List UInt8) (h : c.toNat = m) : skim ((0, m, 0) :: ks) (c :: r) = skim ks r := by
  rw [skim_cons, if_neg (by simp), if_neg (by simp)]
  simp only
  rw [if_pos h]
/-- The keys of a way of brackets. -/
def keysOf (how k0 k1 k2 k3 : Nat) : List (Nat × Nat × Nat) :=
  if how = 0 then [lkey k0] else if how = 1 then [(0, 123, 0), lkey k0, (0, 125, 0)] else if how = 2 then [(0, 123, 0), lkey k0, (0, 44, 0), lkey k1, (0, 125, 0)]
  else if how = 3 then [(0, 123, 0), lkey k0, (0, 44, 0), lkey k1, (0, 44, 0), lkey k2, (0, 44, 0), lkey k3, (0, 125, 0)]
  else if how = 4 then [(0, 123, 0), lkey k0, (0, 44, 0), (0, 123, 0), lkey k1, (0, 44, 0), lkey k2, (0, 125, 0), (0, 44, 0), lkey k3, (0, 125, 0)]
  else [(0, 123, 0), (0, 123, 0), (0, 123, 0), lkey k0, (0, 44, 0), lkey k1, (0, 125, 0), (0, 125, 0), (0, 44, 0), lkey k2, (0, 125, 0)]
theorem nd_nil : ∀ c : UInt8, ([] : List UInt8).head? = some c → isDig c = false := by intro c h; cases h
theorem nd_44 (r : List UInt8) : ∀ c : UInt8, (44 :: r : List UInt8).head? = some c → isDig c = false := by intro c h; cases h; rfl
theorem nd_125 (r : List UInt8) : ∀ c : UInt8, (125 :: r : List UInt8).head? = some c → isDig c = false := by intro c h; cases h; rfl
theorem skim_44 (ks : List (Nat × Nat × Nat)) (r : List UInt8) : skim ((0, 44, 0) :: ks) (44 :: r) = skim ks r := skim_mark 44 44 ks r rfl
theorem skim_123 (ks : List (Nat × Nat × Nat)) (r : List UInt8) : skim ((0, 123, 0) :: ks) (123 :: r) = skim ks r := skim_mark 123 123 ks r rfl
theorem skim_125 (ks : List (Nat × Nat × Nat)) (r : List UInt8) : skim ((0, 125, 0) :: ks) (125 :: r) = skim ks r := skim_mark 125 125 ks r rfl
theorem skim_l44 (k : Nat) (c : Int) (ks : List (Nat × Nat × Nat)) (r : List UInt8) : skim (lkey k :: ks) (oneP k c ++ 44 :: r) = skim ks (44 :: r) := skim_leaf k c ks _ (nd_44 r)
theorem skim_l125 (k : Nat) (c : Int) (ks : List (Nat × Nat × Nat)) (r : List UInt8) : skim (lkey k :: ks) (oneP k c ++ 125 :: r) = skim ks (125 :: r) := skim_leaf k c ks _ (nd_125 r)
theorem skim_join (how k0 k1 k2 k3 : Nat) (c0 c1 c2 c3 : Int) : skim (keysOf how k0 k1 k2 k3) (joinP how (oneP k0 c0) (oneP k1 c1) (oneP k2 c2) (oneP k3 c3)) = some [] := by
  unfold keysOf joinP
  by_cases e0 : how = 0
  · rw [if_pos e0, if_pos e0]
    have := skim_leaf k0 c0 [] [] nd_nil
    rw [List.append_nil] at this
    rw [this]; rfl
  · rw [if_neg e0, if_neg e0]
    by_cases e1 : how = 1
    · rw [if_pos e1, if_pos e1]
      simp only [List.cons_append, List.nil_append, skim_123, skim_l125, skim_125]
      rfl
    · rw [if_neg e1, if_neg e1]
      by_cases e2 : how = 2
      · rw [if_pos e2, if_pos e2]
        simp only [List.append_assoc, List.cons_append, List.nil_append, skim_123, skim_l125, skim_125, skim_44, skim_l44]
        rfl
      · rw [if_neg e2, if_neg e2]
        by_cases e3 : how = 3
        · rw [if_pos e3, if_pos e3]
          simp only [List.append_assoc, List.cons_append, List.nil_append, skim_123, skim_l125, skim_125, skim_44, skim_l44]
          rfl
        · rw [if_neg e3, if_neg e3]
          by_cases e4 : how = 4
          · rw [if_pos e4, if_pos e4]
            simp only [List.append_assoc, List.cons_append, List.nil_append, skim_123, skim_l125, skim_125, skim_44, skim_l44]
            rfl
          · rw [if_neg e4, if_neg e4]
            simp only [List.append_assoc, List.cons_append, List.nil_append, skim_123, skim_l125, skim_125, skim_44, skim_l44]
            rfl
end Go.Proofs.YtghggcehloiemabGreatDoor.P
namespace Go.Proofs.YtghggcehloiemabGreatDoor.P
set_option linter.unusedVariables false

instance (x y : Pt) : Decidable (Off x y) := inferInstanceAs (Decidable (_ ∨ _))
def offB : List Pt → Bool
  | [] => true
  | x :: xs => xs.all (fun y => decide (Off x y)) && offB xs
theorem offB_pairwise : ∀ l : List Pt, offB l = true → l.Pairwise Off := by
  intro l
  induction l with
  | nil => intro _; exact List.Pairwise.nil
  | cons x l ih =>
    intro h
    rw [offB, Bool.and_eq_true] at h
    refine List.Pairwise.cons (fun y hy => ?_) (ih h.2)
    exact of_decide_eq_true (List.all_eq_true.1 h.1 y hy)
/-- A way of brackets over four leaves is a type whose parts are as told and lie apart. -/
def okS (how k0 k1 k2 k3 : Nat) : Bool := match tyOf (joinP how (leafT k0) (leafT k1) (leafT k2) (leafT k3)) with
  | none => false
  | some t => decide ((parts 4 t).map key = keysOf how k0 k1 k2 k3) && offB (parts 4 t) && decide ((sz 4 t).1 % (sz 4 t).2 = 0)
def all6 (f : Nat → Bool) : Bool := f 0 && f 1 && f 2 && f 3 && f 4 && f 5
theorem all6_at {f : Nat → Bool} (h : all6 f = true) {k : Nat} (hk : k ≤ 5) : f k = true := by
  simp only [all6, Bool.and_eq_true] at h
  have : k = 0 ∨ k = 1 ∨ k = 2 ∨ k = 3 ∨ k = 4 ∨ k = 5 := by omega
  rcases this with rfl | rfl | rfl | rfl | rfl | rfl
  · exact h.1.1.1.1.1
  · exact h.1.1.1.1.2
  · exact h.1.1.1.2
  · exact h.1.1.2
  · exact h.1.2
  · exact h.2
set_option maxRecDepth 100000 in
theorem chk0 : all6 (fun a => okS 0 a 0 0 0) = true := by decide +kernel
set_option maxRecDepth 100000 in
theorem chk1 : all6 (fun a => okS 1 a 0 0 0) = true := by decide +kernel
set_option maxRecDepth 100000 in
theorem chk2 : all6 (fun a => all6 fun b => okS 2 a b 0 0) = true := by decide +kernel
set_option maxRecDepth 100000 in
theorem chk5 : all6 (fun a => all6 fun b => all6 fun c => okS 5 a b c 0) = true := by decide +kernel
set_option maxRecDepth 100000 in
theorem chk3 : all6 (fun a => all6 fun b => all6 fun c => all6 fun d => okS 3 a b c d) = true := by decide +kernel
set_option maxRecDepth 100000 in
theorem chk4 : all6 (fun a => all6 fun b => all6 fun c => all6 fun d => okS 4 a b c d) = true := by decide +kernel
theorem okS_all (how k0 k1 k2 k3 : Nat) (h : how ≤ 5) (h0 : k0 ≤ 5) (h1 : k1 ≤ 5) (h2 : k2 ≤ 5) (h3 : k3 ≤ 5) : okS how k0 k1 k2 k3 = true := by
  have : how = 0 ∨ how = 1 ∨ how = 2 ∨ how = 3 ∨ how = 4 ∨ how = 5 := by omega
  rcases this with rfl | rfl | rfl | rfl | rfl | rfl
  · exact all6_at chk0 h0
  · exact all6_at chk1 h0
  · exact all6_at (all6_at chk2 h0) h1
  · exact all6_at (all6_at (all6_at (all6_at chk3 h0) h1) h2) h3
  · exact all6_at (all6_at (all6_at (all6_at chk4 h0) h1) h2) h3
  · exact all6_at (all6_at (all6_at chk5 h0) h1) h2
end Go.Proofs.YtghggcehloiemabGreatDoor.P
