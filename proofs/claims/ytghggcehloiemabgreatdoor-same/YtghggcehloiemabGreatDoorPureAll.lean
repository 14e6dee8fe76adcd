namespace Go.Proofs.YtghggcehloiemabGreatDoor.P

def isDig (c : UInt8) : Bool := decide (48 ≤ c.toNat) && decide (c.toNat ≤ 57)
def val (l : List UInt8) : Nat := l.foldl (fun n c => n * 10 + (c.toNat - 48)) 0
def digs (l : List UInt8) : List UInt8 := l.takeWhile isDig
def rdnum (most : Nat) (l : List UInt8) : Option (Nat × Nat) :=
  if digs l = [] ∨ (1 < (digs l).length ∧ (digs l).head? = some 48) ∨ most < val (digs l) then none else some (val (digs l), (digs l).length)

theorem val_nil : val [] = 0 := rfl
theorem val_snoc (l : List UInt8) (c : UInt8) : val (l ++ [c]) = val l * 10 + (c.toNat - 48) := by simp [val]
theorem le_foldl (r : List UInt8) : ∀ n : Nat, n ≤ r.foldl (fun n c => n * 10 + (c.toNat - 48)) n := by
  induction r with
  | nil => intro n; simp
  | cons c r ih => intro n; rw [List.foldl_cons]; exact Nat.le_trans (by omega) (ih _)
theorem val_le_append (l r : List UInt8) : val l ≤ val (l ++ r) := by
  unfold val; rw [List.foldl_append]; exact le_foldl r _
theorem val_take_le (l : List UInt8) (k : Nat) : val (l.take k) ≤ val l := by
  have h := val_le_append (l.take k) (l.drop k)
  rwa [List.take_append_drop] at h
theorem digs_next (l : List UInt8) : ∀ (k : Nat) (c : UInt8), k ≤ (digs l).length → l[k]? = some c → isDig c = true → (digs l)[k]? = some c := by
  induction l with
  | nil => intro k c _ h; simp at h
  | cons a l ih =>
    intro k c hk hc hd
    cases k with
    | zero =>
      simp at hc; subst hc
      simp [digs, hd]
    | succ k =>
      by_cases ha : isDig a = true
      · have e : digs (a :: l) = a :: digs l := by simp [digs, ha]
        rw [e] at hk ⊢
        simp at hk hc ⊢
        exact ih k c hk hc hd
      · have e : digs (a :: l) = [] := by simp [digs, ha]
        rw [e] at hk; simp at hk
theorem digs_stop (l : List UInt8) : ∀ (k : Nat), k ≤ (digs l).length → (∀ c, l[k]? = some c → isDig c = false) → k = (digs l).length := by
  induction l with
  | nil => intro k hk _; simp [digs] at hk ⊢; omega
  | cons a l ih =>
    intro k hk hc
    by_cases ha : isDig a = true
    · have e : digs (a :: l) = a :: digs l := by simp [digs, ha]
      rw [e] at hk ⊢
      cases k with
      | zero => have := hc a rfl; simp [ha] at this
      | succ k =>
        simp at hk ⊢
        exact ih k hk (fun c h => hc c (by simpa using h))
    · have e : digs (a :: l) = [] := by simp [digs, ha]
      rw [e] at hk ⊢; simp at hk ⊢; omega
theorem take_next {l : List UInt8} {k : Nat} {c : UInt8} (h : l[k]? = some c) : l.take (k + 1) = l.take k ++ [c] := by
  rw [List.take_add_one, h]; rfl
theorem digs_all (l : List UInt8) (c : UInt8) (h : c ∈ digs l) : isDig c = true := by
  induction l with
  | nil => simp [digs] at h
  | cons a l ih =>
    by_cases ha : isDig a = true
    · have e : digs (a :: l) = a :: digs l := by simp [digs, ha]
      rw [e] at h
      rcases List.mem_cons.1 h with rfl | h
      · exact ha
      · exact ih h
    · have e : digs (a :: l) = [] := by simp [digs, ha]
      rw [e] at h; simp at h

def NumInv (l : List UInt8) (most k n : Nat) : Prop := k ≤ (digs l).length ∧ n = val ((digs l).take k) ∧ n ≤ most ∧ (2 ≤ k → (digs l).head? ≠ some 48)

theorem numInv_start (l : List UInt8) (most : Nat) : NumInv l most 0 0 := ⟨Nat.zero_le _, by simp [val], Nat.zero_le _, by omega⟩
theorem val_pos_of_head {c : UInt8} {l : List UInt8} (hd : isDig c = true) (hc : c ≠ 48) : 0 < val (c :: l) := by
  have h := val_le_append [c] l
  have h1 : 48 < c.toNat := by
    simp [isDig] at hd
    rcases Nat.lt_or_ge 48 c.toNat with h | h
    · exact h
    · exact absurd (UInt8.toNat_inj.1 (by simp; omega)) hc
  have h2 : val [c] = c.toNat - 48 := by simp [val]
  simp at h; omega
theorem num_zero {l : List UInt8} {most k n : Nat} (h : NumInv l most k n) (hn : n = 0) (hk : 0 < k) : k = 1 ∧ (digs l).head? = some 48 := by
  obtain ⟨h1, h2, h3, h4⟩ := h
  cases hd : digs l with
  | nil => rw [hd] at h1; simp at h1; omega
  | cons c r =>
    have hdig : isDig c = true := digs_all l c (by rw [hd]; simp)
    by_cases hc : c = 48
    · subst hc
      refine ⟨?_, by simp⟩
      rcases Nat.lt_or_ge 1 k with hlt | hge
      · exact absurd (by simp [hd]) (h4 hlt)
      · omega
    · exfalso
      rw [hd] at h2
      obtain ⟨k', rfl⟩ : ∃ k', k = k' + 1 := ⟨k - 1, by omega⟩
      rw [List.take_succ_cons] at h2
      have := val_pos_of_head (l := r.take k') hdig hc
      omega
theorem num_bad1 {l : List UInt8} {most k n : Nat} {c : UInt8} (h : NumInv l most k n) (hc : l[k]? = some c) (hd : isDig c = true) (hn : n = 0) (hk : 0 < k) : rdnum most l = none := by
  obtain ⟨hk1, hh⟩ := num_zero h hn hk
  have hx := digs_next l k c h.1 hc hd
  have hlen : k < (digs l).length := (List.getElem?_eq_some_iff.1 hx).1
  unfold rdnum
  rw [if_pos (Or.inr (Or.inl ⟨by omega, hh⟩))]
theorem num_bad2 {l : List UInt8} {most k n : Nat} {c : UInt8} (h : NumInv l most k n) (hc : l[k]? = some c) (hd : isDig c = true) (hm : most < n * 10 + (c.toNat - 48)) : rdnum most l = none := by
  have hx := digs_next l k c h.1 hc hd
  have hv : val ((digs l).take (k + 1)) = n * 10 + (c.toNat - 48) := by rw [take_next hx, val_snoc, ← h.2.1]
  have hle := val_take_le (digs l) (k + 1)
  unfold rdnum
  rw [if_pos (Or.inr (Or.inr (by omega)))]
theorem num_ok {l : List UInt8} {most k n : Nat} {c : UInt8} (h : NumInv l most k n) (hc : l[k]? = some c) (hd : isDig c = true) (hz : ¬ (n = 0 ∧ 0 < k)) (hm : n * 10 + (c.toNat - 48) ≤ most) : NumInv l most (k + 1) (n * 10 + (c.toNat - 48)) := by
  have hx := digs_next l k c h.1 hc hd
  have hlen : k < (digs l).length := (List.getElem?_eq_some_iff.1 hx).1
  refine ⟨hlen, by rw [take_next hx, val_snoc, ← h.2.1], hm, fun h2 => ?_⟩
  rcases Nat.lt_or_ge k 2 with hk | hk
  · have hk1 : k = 1 := by omega
    subst hk1
    intro hh
    apply hz
    refine ⟨?_, by omega⟩
    have h21 := h.2.1
    cases hd' : digs l with
    | nil => rw [hd'] at hlen; simp at hlen
    | cons a r => rw [hd'] at hh h21; simp at hh; subst hh; simp [val] at h21; exact h21
  · exact h.2.2.2 hk
theorem num_stop0 {l : List UInt8} {most n : Nat} (h : NumInv l most 0 n) (hs : ∀ c, l[0]? = some c → isDig c = false) : rdnum most l = none := by
  have := digs_stop l 0 h.1 hs
  unfold rdnum
  rw [if_pos (Or.inl (List.length_eq_zero_iff.1 this.symm))]
theorem num_stop {l : List UInt8} {most k n : Nat} (h : NumInv l most k n) (hs : ∀ c, l[k]? = some c → isDig c = false) (hk : 0 < k) : rdnum most l = some (n, k) := by
  have hl := digs_stop l k h.1 hs
  obtain ⟨h1, h2, h3, h4⟩ := h
  rw [hl, List.take_length] at h2
  unfold rdnum
  rw [if_neg, ← h2, ← hl]
  rintro (he | ⟨h5, h6⟩ | h7)
  · rw [he] at hl; simp at hl; omega
  · exact h4 (by omega) h6
  · omega
theorem isDig_sub {c : UInt8} (h : isDig c = true) : 48 ≤ c.toNat ∧ c.toNat ≤ 57 := by simpa [isDig] using h

end Go.Proofs.YtghggcehloiemabGreatDoor.P
namespace Go.Proofs.YtghggcehloiemabGreatDoor.P
set_option linter.unusedVariables false

/-- A part of a type, as the reader gathers them. -/
structure Pt where
  kind : Nat
  mark : Nat
  place : Nat
  size : Nat
def Pt.sh (p : Nat) (x : Pt) : Pt := { x with place := x.place + p }

/-- Types, at most so many structs deep: a leaf (a number?, its bytes), or a struct. -/
def Ty : Nat → Type
  | 0 => Bool × Nat
  | n + 1 => (Bool × Nat) ⊕ List (Ty n)
def lf : (n : Nat) → Bool × Nat → Ty n
  | 0, l => l
  | _ + 1, l => .inl l

def up (e p : Nat) : Nat := (e + p - 1) / p * p
theorem up_le (e p : Nat) (hp : 1 ≤ p) : up e p ≤ e + p - 1 := by unfold up; exact Nat.div_mul_le_self _ _
theorem le_up (e p : Nat) (hp : 1 ≤ p) : e ≤ up e p := by
  unfold up
  have h := Nat.div_add_mod (e + p - 1) p
  have h2 := Nat.mod_lt (e + p - 1) (show 0 < p by omega)
  rw [Nat.mul_comm]; omega

def lsz (l : Bool × Nat) : Nat × Nat := (l.2, if l.1 then l.2 else 1)
def lay1 (a b : Nat × Nat) : Nat × Nat := (up a.1 b.2 + b.1, max a.2 b.2)
def fold (l : List (Nat × Nat)) : Nat × Nat := l.foldl lay1 (0, 1)
def closed (a : Nat × Nat) : Nat × Nat := (up a.1 a.2, a.2)
theorem fold_snoc (l : List (Nat × Nat)) (x : Nat × Nat) : fold (l ++ [x]) = lay1 (fold l) x := by simp [fold]
def sz : (n : Nat) → Ty n → Nat × Nat
  | 0, l => lsz l
  | _ + 1, .inl l => lsz l
  | n + 1, .inr ts => closed (fold (ts.map (sz n)))

def lpart (l : Bool × Nat) : Pt := ⟨if l.1 then 1 else 2, 0, 0, l.2⟩
def markP (c : Nat) : Pt := ⟨0, c, 0, 0⟩
/-- The fields' parts, each at its place, a comma behind each. -/
def body (a : Nat × Nat) : List (List Pt × (Nat × Nat)) → List Pt
  | [] => []
  | x :: xs => x.1.map (Pt.sh (up a.1 x.2.2)) ++ markP 44 :: body (lay1 a x.2) xs
def parts : (n : Nat) → Ty n → List Pt
  | 0, l => [lpart l]
  | _ + 1, .inl l => [lpart l]
  | n + 1, .inr ts => markP 123 :: ((body (0, 1) (ts.map fun t => (parts n t, sz n t))).dropLast ++ [markP 125])

theorem body_snoc (xs : List (List Pt × (Nat × Nat))) (x : List Pt × (Nat × Nat)) : ∀ a, body a (xs ++ [x]) = body a xs ++ x.1.map (Pt.sh (up ((xs.map (·.2)).foldl lay1 a).1 x.2.2)) ++ [markP 44] := by
  induction xs with
  | nil => intro a; simp [body]
  | cons y ys ih => intro a; simp [body, ih]

theorem sz_lf (n : Nat) (l : Bool × Nat) : sz n (lf n l) = lsz l := by cases n <;> rfl
theorem parts_lf (n : Nat) (l : Bool × Nat) : parts n (lf n l) = [lpart l] := by cases n <;> rfl
theorem parts_struct (n : Nat) (ts : List (Ty n)) (t : Ty n) :
    parts (n + 1) (.inr (ts ++ [t])) = markP 123 :: body (0, 1) (ts.map fun t => (parts n t, sz n t)) ++ (parts n t).map (Pt.sh (up (fold (ts.map (sz n))).1 (sz n t).2)) ++ [markP 125] := by
  have e : (ts.map (fun t => (parts n t, sz n t))).map (·.2) = ts.map (sz n) := by simp [Function.comp_def]
  simp only [parts, List.map_append, List.map_cons, List.map_nil, body_snoc]
  rw [List.dropLast_concat]
  rw [e]
  simp [fold]

/-- A leaf, read off a text's head. -/
def rdLeaf (l : List UInt8) : Option ((Bool × Nat) × List UInt8) := match l with
  | [] => none
  | c :: r => if c = 117 then (match rdnum 4 r with
      | some (k, m) => if k = 0 ∨ k = 3 then none else some ((true, k), r.drop m)
      | none => none)
    else (match rdnum 16 r with
      | some (k, m) => if k = 0 then none else some ((false, k), r.drop m)
      | none => none)
def leafy (l : List UInt8) : Bool := l.head? == some 117 || l.head? == some 98

def rdF {α : Type} (f : List UInt8 → Option (α × List UInt8)) : Nat → List α → List UInt8 → Option (List α × List UInt8)
  | 0, _, _ => none
  | k + 1, acc, s => match f s with
    | none => none
    | some (_, []) => none
    | some (t, c :: r) => if c = 125 then some (acc ++ [t], r) else if c = 44 then rdF f k (acc ++ [t]) r else none

def rd : (n : Nat) → List UInt8 → Option (Ty n × List UInt8)
  | 0, l => if leafy l = true then (rdLeaf l).map (fun x => (lf 0 x.1, x.2)) else none
  | n + 1, l => if leafy l = true then (rdLeaf l).map (fun x => (lf (n + 1) x.1, x.2)) else (match l with
    | [] => none
    | c :: r => if c = 123 then (rdF (rd n) 8 [] r).map (fun x => (.inr x.1, x.2)) else none)
def rdS : (n : Nat) → List UInt8 → Option (Ty n × List UInt8)
  | 0, _ => none
  | n + 1, l => match l with
    | [] => none
    | c :: r => if c = 123 then (rdF (rd n) 8 [] r).map (fun x => (.inr x.1, x.2)) else none
theorem rd_leafy (n : Nat) (l : List UInt8) (h : leafy l = true) : rd n l = (rdLeaf l).map (fun x => (lf n x.1, x.2)) := by
  cases n <;> simp [rd, h]
theorem rd_else (n : Nat) (l : List UInt8) (h : leafy l = false) : rd n l = rdS n l := by
  cases n <;> simp [rd, rdS, h]

end Go.Proofs.YtghggcehloiemabGreatDoor.P
namespace Go.Proofs.YtghggcehloiemabGreatDoor.P

def Good (n : Nat) (t : Ty n) : Prop := 1 ≤ (sz n t).2 ∧ (sz n t).2 ≤ 4 ∧ ∀ x ∈ parts n t, x.place ≤ (sz n t).1

theorem rdnum_some {most : Nat} {l : List UInt8} {n k : Nat} (h : rdnum most l = some (n, k)) : n ≤ most ∧ 1 ≤ k ∧ k ≤ l.length := by
  unfold rdnum at h
  split at h
  · cases h
  · rename_i hn
    have hl : (digs l).length ≤ l.length := by
      unfold digs
      exact (List.takeWhile_sublist _).length_le
    simp at h
    have h1 : digs l ≠ [] := fun e => hn (Or.inl e)
    have h2 : 0 < (digs l).length := List.length_pos_iff.2 h1
    refine ⟨?_, by omega, by omega⟩
    rcases Nat.lt_or_ge most (val (digs l)) with h3 | h3
    · exact absurd (Or.inr (Or.inr h3)) hn
    · omega

theorem rdLeaf_good {l : List UInt8} {x : (Bool × Nat) × List UInt8} (h : rdLeaf l = some x) : 1 ≤ (lsz x.1).2 ∧ (lsz x.1).2 ≤ 4 ∧ (lsz x.1).1 ≤ 16 ∧ 1 ≤ (lsz x.1).1 ∧ x.2.length + 2 ≤ l.length := by
  unfold rdLeaf at h
  cases l with
  | nil => cases h
  | cons c r =>
    simp only at h
    split at h
    · cases hn : rdnum 4 r with
      | none => rw [hn] at h; cases h
      | some y =>
        obtain ⟨k, m⟩ := y
        obtain ⟨h1, h2, h3⟩ := rdnum_some hn
        rw [hn] at h
        simp only at h
        split at h
        · cases h
        · cases h; simp [lsz]; omega
    · cases hn : rdnum 16 r with
      | none => rw [hn] at h; cases h
      | some y =>
        obtain ⟨k, m⟩ := y
        obtain ⟨h1, h2, h3⟩ := rdnum_some hn
        rw [hn] at h
        simp only at h
        split at h
        · cases h
        · cases h; simp [lsz]; omega

theorem lay1_le {a b : Nat × Nat} (hb1 : 1 ≤ b.2) (hb4 : b.2 ≤ 4) : a.1 + b.1 ≤ (lay1 a b).1 ∧ (lay1 a b).1 ≤ a.1 + 3 + b.1 ∧ up a.1 b.2 + b.1 = (lay1 a b).1 := by
  have h1 := up_le a.1 b.2 hb1
  have h2 := le_up a.1 b.2 hb1
  simp only [lay1]; refine ⟨?_, ?_, trivial⟩ <;> omega

theorem fold_step {l : List (Nat × Nat)} : (∀ x ∈ l, 1 ≤ x.2 ∧ x.2 ≤ 4) → ∀ a : Nat × Nat, 1 ≤ a.2 → a.2 ≤ 4 → 1 ≤ (l.foldl lay1 a).2 ∧ (l.foldl lay1 a).2 ≤ 4 ∧ a.1 ≤ (l.foldl lay1 a).1 := by
  induction l with
  | nil => intro _ a h1 h2; exact ⟨h1, h2, Nat.le_refl _⟩
  | cons x l ih =>
    intro h a h1 h2
    have hx := h x (by simp)
    have hl := lay1_le (a := a) hx.1 hx.2
    have := ih (fun y hy => h y (by simp [hy])) (lay1 a x) (by simp [lay1]; omega) (by simp [lay1]; omega)
    rw [List.foldl_cons]
    omega

theorem body_le (xs : List (List Pt × (Nat × Nat))) : (∀ y ∈ xs, 1 ≤ y.2.2 ∧ y.2.2 ≤ 4 ∧ ∀ z ∈ y.1, z.place ≤ y.2.1) → ∀ a : Nat × Nat, 1 ≤ a.2 → a.2 ≤ 4 → ∀ z ∈ body a xs, z.place ≤ ((xs.map (·.2)).foldl lay1 a).1 := by
  induction xs with
  | nil => intro _ a _ _ z hz; simp [body] at hz
  | cons x xs ih =>
    intro h a h1 h2 z hz
    have hx := h x (by simp)
    have hl := lay1_le (a := a) hx.1 hx.2.1
    have hm2 : 1 ≤ (lay1 a x.2).2 ∧ (lay1 a x.2).2 ≤ 4 := by simp only [lay1]; omega
    have hmono := fold_step (l := xs.map (·.2)) (by
      intro y hy
      obtain ⟨q, hq, rfl⟩ := List.mem_map.1 hy
      have := h q (by simp [hq]); exact ⟨this.1, this.2.1⟩) (lay1 a x.2) hm2.1 hm2.2
    simp only [List.map_cons, List.foldl_cons]
    rw [body, List.mem_append, List.mem_cons] at hz
    rcases hz with hz | rfl | hz
    · obtain ⟨q, hq, rfl⟩ := List.mem_map.1 hz
      have := hx.2.2 q hq
      simp only [Pt.sh]
      omega
    · simp [markP]
    · exact ih (fun y hy => h y (by simp [hy])) _ hm2.1 hm2.2 z hz

theorem good_struct {n : Nat} {ts : List (Ty n)} (h : ∀ t ∈ ts, Good n t) : Good (n + 1) (.inr ts) := by
  have hs : ∀ x ∈ ts.map (sz n), 1 ≤ x.2 ∧ x.2 ≤ 4 := by
    intro x hx
    obtain ⟨t, ht, rfl⟩ := List.mem_map.1 hx
    exact ⟨(h t ht).1, (h t ht).2.1⟩
  obtain ⟨h1, h2, _⟩ := fold_step hs (0, 1) (by simp) (by simp)
  have e : (ts.map (fun t => (parts n t, sz n t))).map (·.2) = ts.map (sz n) := by simp [Function.comp_def]
  have hup := le_up (fold (ts.map (sz n))).1 (fold (ts.map (sz n))).2 h1
  refine ⟨h1, h2, ?_⟩
  intro x hx
  have hb : ∀ z ∈ body (0, 1) (ts.map fun t => (parts n t, sz n t)), z.place ≤ (fold (ts.map (sz n))).1 := by
    have := body_le (ts.map fun t => (parts n t, sz n t)) (by
      intro y hy
      obtain ⟨t, ht, rfl⟩ := List.mem_map.1 hy
      exact h t ht) (0, 1) (by simp) (by simp)
    rw [e] at this; exact this
  simp only [parts, List.mem_cons, List.mem_append] at hx
  simp only [sz, closed]
  rcases hx with rfl | hx | hx
  · simp [markP]
  · have := hb x (List.dropLast_subset _ hx); omega
  · simp at hx; subst hx; simp [markP]

theorem rdF_good {n : Nat} (ih : ∀ l t r, rd n l = some (t, r) → Good n t ∧ (sz n t).1 + 16 * r.length ≤ 16 * l.length) :
    ∀ (k : Nat) (acc : List (Ty n)) (s : List UInt8) (ts : List (Ty n)) (r : List UInt8) (M : Nat), rdF (rd n) k acc s = some (ts, r) → (∀ t ∈ acc, Good n t) → (fold (acc.map (sz n))).1 + 16 * s.length ≤ M →
    (∀ t ∈ ts, Good n t) ∧ (fold (ts.map (sz n))).1 + 3 + 16 * r.length ≤ M := by
  intro k
  induction k with
  | zero => intro acc s ts r M h; simp [rdF] at h
  | succ k ihk =>
    intro acc s ts r M h hacc hM
    rw [rdF] at h
    split at h
    · cases h
    · cases h
    · rename_i t c r' hf
      obtain ⟨hg, hle⟩ := ih _ _ _ hf
      have hgs : ∀ x ∈ acc ++ [t], Good n x := by
        intro x hx
        rcases List.mem_append.1 hx with hx | hx
        · exact hacc x hx
        · simp at hx; subst hx; exact hg
      have hl := lay1_le (a := fold (acc.map (sz n))) hg.1 hg.2.1
      have hfd : fold ((acc ++ [t]).map (sz n)) = lay1 (fold (acc.map (sz n))) (sz n t) := by rw [List.map_append, List.map_cons, List.map_nil, fold_snoc]
      simp only [List.length_cons] at hle
      split at h
      · cases h
        refine ⟨hgs, ?_⟩
        rw [hfd]; omega
      · split at h
        · exact ihk _ _ _ _ M h hgs (by rw [hfd]; omega)
        · cases h

theorem rd_good : ∀ (n : Nat) (l : List UInt8) (t : Ty n) (r : List UInt8), rd n l = some (t, r) → Good n t ∧ (sz n t).1 + 16 * r.length ≤ 16 * l.length := by
  intro n
  have leafcase : ∀ (n : Nat) (l : List UInt8) (t : Ty n) (r : List UInt8), (rdLeaf l).map (fun x => (lf n x.1, x.2)) = some (t, r) → Good n t ∧ (sz n t).1 + 16 * r.length ≤ 16 * l.length := by
    intro n l t r h
    cases hx : rdLeaf l with
    | none => rw [hx] at h; cases h
    | some x =>
      rw [hx] at h
      simp at h
      obtain ⟨rfl, rfl⟩ := h
      have hg := rdLeaf_good hx
      refine ⟨⟨by rw [sz_lf]; exact hg.1, by rw [sz_lf]; exact hg.2.1, ?_⟩, by rw [sz_lf]; omega⟩
      rw [parts_lf]
      intro y hy
      simp at hy; subst hy; simp [lpart]
  induction n with
  | zero =>
    intro l t r h
    by_cases hl : leafy l = true
    · rw [rd_leafy _ _ hl] at h; exact leafcase 0 l t r h
    · simp [rd, hl] at h
  | succ n ih =>
    intro l t r h
    by_cases hl : leafy l = true
    · rw [rd_leafy _ _ hl] at h; exact leafcase _ l t r h
    · rw [rd_else _ _ (by simpa using hl)] at h
      cases l with
      | nil => simp [rdS] at h
      | cons c s =>
        simp only [rdS] at h
        split at h
        · cases hx : rdF (rd n) 8 [] s with
          | none => rw [hx] at h; cases h
          | some x =>
            obtain ⟨ts, r'⟩ := x
            rw [hx] at h
            simp at h
            obtain ⟨rfl, rfl⟩ := h
            obtain ⟨hg, hle⟩ := rdF_good ih 8 [] s ts _ (16 * s.length) hx (by simp) (by simp [fold])
            have hgd := good_struct hg
            refine ⟨hgd, ?_⟩
            have h1 := hgd.1
            have h2 := hgd.2.1
            simp only [sz, closed] at h1 h2 ⊢
            have := up_le (fold (ts.map (sz n))).1 (fold (ts.map (sz n))).2 h1
            simp only [List.length_cons]
            omega
        · cases h

end Go.Proofs.YtghggcehloiemabGreatDoor.P
