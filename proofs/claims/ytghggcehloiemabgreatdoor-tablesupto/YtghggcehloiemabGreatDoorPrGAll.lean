import Derived.Test.YtghggcehloiemabGreatDoorPrCAll
namespace Go.Proofs.YtghggcehloiemabGreatDoor
set_option linter.unusedVariables false
namespace P
/-- The list lies in the code from p on. -/
def Has (c : List I) (p : Nat) (l : List I) : Prop := ∀ i x, l[i]? = some x → c[p + i]? = some x
theorem Has.all (c : List I) : Has c 0 c := fun i x h => by rw [Nat.zero_add]; exact h
theorem Has.left {c : List I} {p : Nat} {a b : List I} (h : Has c p (a ++ b)) : Has c p a := fun i x hx => h i x (by rw [List.getElem?_append_left (by exact (List.getElem?_eq_some_iff.1 hx).1)]; exact hx)
theorem Has.right {c : List I} {p q : Nat} {a b : List I} (h : Has c p (a ++ b)) (hq : p + a.length = q) : Has c q b := fun i x hx => by
  rw [← hq, Nat.add_assoc]
  exact h _ x (by rw [List.getElem?_append_right (by omega), show a.length + i - a.length = i by omega]; exact hx)
theorem Has.head {c : List I} {p : Nat} {x : I} {l : List I} (h : Has c p (x :: l)) : c[p]? = some x := h 0 x rfl
theorem Has.tail {c : List I} {p : Nat} {x : I} {l : List I} (h : Has c p (x :: l)) : Has c (p + 1) l := fun i y hy => by rw [Nat.add_assoc, Nat.add_comm 1 i]; exact h (i + 1) y (by simpa using hy)
theorem each_split (d n : Nat) (g : Nat → List I) (hg : ∀ i, (g i).length = d) (i : Nat) (hi : i < n) : ∃ a b, each n g = a ++ (g i ++ b) ∧ a.length = d * i := by
  induction n with
  | zero => omega
  | succ n ih =>
    rw [each_succ]
    rcases Nat.lt_or_ge i n with h | h
    · obtain ⟨a, b, e, hl⟩ := ih h
      exact ⟨a, b ++ g n, by rw [e]; simp, hl⟩
    · have : i = n := by omega
      subst this
      exact ⟨each i g, [], by simp, each_len d i g hg⟩
theorem Has.each {c : List I} {p d n : Nat} {g : Nat → List I} (h : Has c p (each n g)) (hg : ∀ i, (g i).length = d) {i : Nat} (hi : i < n) : Has c (p + d * i) (g i) := by
  obtain ⟨a, b, e, hl⟩ := each_split d n g hg i hi
  rw [e] at h
  exact (h.right (by rw [hl])).left
/-- From one machine to another in at most N steps. -/
def To (c : List I) (N : Nat) (m m' : M) : Prop := ∃ n, n ≤ N ∧ ∀ f s, go c (n + f) s m = go c f (s + n) m'
theorem To.refl (c : List I) (m : M) : To c 0 m m := ⟨0, Nat.le_refl _, fun f s => by rw [Nat.zero_add]; rfl⟩
theorem To.trans {c : List I} {N N' : Nat} {m m1 m2 : M} (h : To c N m m1) (h' : To c N' m1 m2) : To c (N + N') m m2 := by
  obtain ⟨n, hn, e⟩ := h
  obtain ⟨n', hn', e'⟩ := h'
  exact ⟨n + n', by omega, fun f s => by rw [Nat.add_assoc, e, e', Nat.add_assoc]⟩
theorem To.mono {c : List I} {N N' : Nat} {m m1 : M} (h : To c N m m1) (hN : N ≤ N') : To c N' m m1 := by
  obtain ⟨n, hn, e⟩ := h
  exact ⟨n, by omega, e⟩
theorem To.to {c : List I} {N : Nat} {m m1 m2 : M} (h : To c N m m1) (e : m1 = m2) : To c N m m2 := e ▸ h
theorem To.one {c : List I} {x : I} {r : List Nat} {mem : List UInt8} {pc : Nat} {m' : M} (h : c[pc]? = some x) (h0 : x.op ≠ 0) (hs : step x ⟨r, mem, pc⟩ = some m') : To c 1 ⟨r, mem, pc⟩ m' := by
  refine ⟨1, Nat.le_refl _, fun f s => ?_⟩
  rw [Nat.add_comm 1 f]
  simp only [go, h, hs]
  rw [if_neg h0]
theorem To.ends {c : List I} {N k : Nat} {m : M} {r : List Nat} {mem : List UInt8} {pc a b : Nat} (h : To c N m ⟨r, mem, pc⟩) (hx : c[pc]? = some ⟨0, a, b, k⟩) (F : Nat) (hF : N < F) : ∃ n, go c F 0 m = ⟨mem, r[0]?.getD 0, k, n, 0⟩ := by
  obtain ⟨n, hn, e⟩ := h
  refine ⟨0 + n + 1, ?_⟩
  have := e (F - n) 0
  rw [show n + (F - n) = F by omega] at this
  rw [this]
  obtain ⟨g, hg⟩ : ∃ g, F - n = g + 1 := ⟨F - n - 1, by omega⟩
  rw [hg]
  simp only [go, hx]
  rfl
/-- The registers. -/
def R (a b c d e f g h i j : Nat) : List Nat := [a, b, c, d, e, f, g, h, i, j, 0, 0, 0, 0, 0, 0]
theorem sp_load (a b k : Nat) (r : List Nat) (mem : List UInt8) (pc : Nat) (v : UInt8) (h : mem[(r[b]?.getD 0) + k]? = some v) : step ⟨9, a, b, k⟩ ⟨r, mem, pc⟩ = some ⟨r.set a v.toNat, mem, pc + 1⟩ := by
  simp [step, rg, h]
theorem sp_store (a b k : Nat) (r : List Nat) (mem : List UInt8) (pc : Nat) (h : (r[b]?.getD 0) + k < mem.length) : step ⟨10, a, b, k⟩ ⟨r, mem, pc⟩ = some ⟨r, mem.set ((r[b]?.getD 0) + k) (UInt8.ofNat (r[a]?.getD 0)), pc + 1⟩ := by
  simp [step, rg, h]
theorem sp_num (a b k : Nat) (r : List Nat) (mem : List UInt8) (pc : Nat) : step ⟨1, a, b, k⟩ ⟨r, mem, pc⟩ = some ⟨r.set a k, mem, pc + 1⟩ := rfl
theorem sp_copy (a b k : Nat) (r : List Nat) (mem : List UInt8) (pc : Nat) : step ⟨2, a, b, k⟩ ⟨r, mem, pc⟩ = some ⟨r.set a (r[b]?.getD 0), mem, pc + 1⟩ := rfl
theorem sp_add (a b k : Nat) (r : List Nat) (mem : List UInt8) (pc : Nat) (h : (r[a]?.getD 0) + (r[b]?.getD 0) < 100000) : step ⟨3, a, b, k⟩ ⟨r, mem, pc⟩ = some ⟨r.set a ((r[a]?.getD 0) + (r[b]?.getD 0)), mem, pc + 1⟩ := by
  have e : ((r[a]?.getD 0) + (r[b]?.getD 0)) % W32 = (r[a]?.getD 0) + (r[b]?.getD 0) := Nat.mod_eq_of_lt (Nat.lt_trans h (by decide))
  simp [step, reck, rg, e]
theorem sp_sub (a b k : Nat) (r : List Nat) (mem : List UInt8) (pc : Nat) (h : (r[a]?.getD 0) < 100000) (h' : (r[b]?.getD 0) ≤ (r[a]?.getD 0)) : step ⟨4, a, b, k⟩ ⟨r, mem, pc⟩ = some ⟨r.set a ((r[a]?.getD 0) - (r[b]?.getD 0)), mem, pc + 1⟩ := by
  have e : ((r[a]?.getD 0) + W32 - (r[b]?.getD 0)) % W32 = (r[a]?.getD 0) - (r[b]?.getD 0) := by
    have : (r[a]?.getD 0) + W32 - (r[b]?.getD 0) = ((r[a]?.getD 0) - (r[b]?.getD 0)) + W32 := by omega
    rw [this, Nat.add_mod_right]
    exact Nat.mod_eq_of_lt (Nat.lt_of_le_of_lt (Nat.sub_le _ _) (Nat.lt_trans h (by decide)))
  simp [step, reck, rg, e]
theorem sp_mul (a b k : Nat) (r : List Nat) (mem : List UInt8) (pc : Nat) (h : (r[a]?.getD 0) * (r[b]?.getD 0) < 100000) : step ⟨5, a, b, k⟩ ⟨r, mem, pc⟩ = some ⟨r.set a ((r[a]?.getD 0) * (r[b]?.getD 0)), mem, pc + 1⟩ := by
  have e : ((r[a]?.getD 0) * (r[b]?.getD 0)) % W32 = (r[a]?.getD 0) * (r[b]?.getD 0) := Nat.mod_eq_of_lt (Nat.lt_trans h (by decide))
  simp [step, reck, rg, e]
theorem sp_go (a b k : Nat) (r : List Nat) (mem : List UInt8) (pc : Nat) : step ⟨11, a, b, k⟩ ⟨r, mem, pc⟩ = some ⟨r, mem, k⟩ := rfl
theorem sp_same (a b k : Nat) (r : List Nat) (mem : List UInt8) (pc : Nat) : step ⟨12, a, b, k⟩ ⟨r, mem, pc⟩ = some ⟨r, mem, if (r[a]?.getD 0) = (r[b]?.getD 0) then k else pc + 1⟩ := by
  simp [step, goB, rg]
theorem sp_notsame (a b k : Nat) (r : List Nat) (mem : List UInt8) (pc : Nat) : step ⟨13, a, b, k⟩ ⟨r, mem, pc⟩ = some ⟨r, mem, if (r[a]?.getD 0) = (r[b]?.getD 0) then pc + 1 else k⟩ := by
  simp only [step, goB, rg, show (11 : Nat) ≤ 13 by decide, if_true, show ¬ ((13 : Nat) = 12) by decide, if_false]
  by_cases h : (r[a]?.getD 0) = (r[b]?.getD 0) <;> simp [h]
theorem sp_same_y (a b k : Nat) (r : List Nat) (mem : List UInt8) (pc : Nat) (h : (r[a]?.getD 0) = (r[b]?.getD 0)) : step ⟨12, a, b, k⟩ ⟨r, mem, pc⟩ = some ⟨r, mem, k⟩ := by rw [sp_same, if_pos h]
theorem sp_same_n (a b k : Nat) (r : List Nat) (mem : List UInt8) (pc : Nat) (h : (r[a]?.getD 0) ≠ (r[b]?.getD 0)) : step ⟨12, a, b, k⟩ ⟨r, mem, pc⟩ = some ⟨r, mem, pc + 1⟩ := by rw [sp_same, if_neg h]
theorem sp_not_y (a b k : Nat) (r : List Nat) (mem : List UInt8) (pc : Nat) (h : (r[a]?.getD 0) ≠ (r[b]?.getD 0)) : step ⟨13, a, b, k⟩ ⟨r, mem, pc⟩ = some ⟨r, mem, k⟩ := by rw [sp_notsame, if_neg h]
theorem sp_not_n (a b k : Nat) (r : List Nat) (mem : List UInt8) (pc : Nat) (h : (r[a]?.getD 0) = (r[b]?.getD 0)) : step ⟨13, a, b, k⟩ ⟨r, mem, pc⟩ = some ⟨r, mem, pc + 1⟩ := by rw [sp_notsame, if_pos h]
/-- Bytes copied one by one. -/
def cp (src dst : Nat → Nat) (mem : List UInt8) : Nat → List UInt8
  | 0 => mem
  | n + 1 => (cp src dst mem n).set (dst n) ((cp src dst mem n)[src n]?.getD 0)
theorem cp_len (src dst : Nat → Nat) (mem : List UInt8) (n : Nat) : (cp src dst mem n).length = mem.length := by
  induction n with
  | zero => rfl
  | succ n ih => simp [cp, ih]
theorem cp_other (src dst : Nat → Nat) (mem : List UInt8) (n x : Nat) (h : ∀ i, i < n → dst i ≠ x) : (cp src dst mem n)[x]? = mem[x]? := by
  induction n with
  | zero => rfl
  | succ n ih => rw [cp, List.getElem?_set_ne (h n (by omega)), ih (fun i hi => h i (by omega))]
theorem cp_at (src dst : Nat → Nat) (mem : List UInt8) (n : Nat) (hd : ∀ i j, i < j → j < n → dst i ≠ dst j) (hs : ∀ i j, i < j → j < n → dst i ≠ src j) (hb : ∀ i, i < n → src i < mem.length ∧ dst i < mem.length) (i : Nat) (hi : i < n) : (cp src dst mem n)[dst i]? = mem[src i]? := by
  induction n with
  | zero => omega
  | succ n ih =>
    rw [cp]
    rcases Nat.lt_or_ge i n with h | h
    · rw [List.getElem?_set_ne (fun e => hd i n h (by omega) e.symm)]
      exact ih (fun i j h1 h2 => hd i j h1 (by omega)) (fun i j h1 h2 => hs i j h1 (by omega)) (fun i hi => hb i (by omega)) h
    · have : i = n := by omega
      subst this
      have hbi := hb i (by omega)
      rw [List.getElem?_set_self (by rw [cp_len]; exact hbi.2), cp_other _ _ _ _ _ (fun j hj => hs j i hj (by omega)), List.getElem?_eq_getElem hbi.1]
      rfl
theorem moves {c : List I} {p n to fr : Nat} {tp fp : Nat → Nat} (hc : Has c p (each n (pMove to fr tp fp))) (r : List Nat) (hr : r.length = 16) (mem : List UInt8) (h8 : fr ≠ 8) (h8' : to ≠ 8) (hs : ∀ i, i < n → (r[fr]?.getD 0) + fp i < mem.length) (hd : ∀ i, i < n → (r[to]?.getD 0) + tp i < mem.length) :
    ∃ v, To c (2 * n) ⟨r, mem, p⟩ ⟨r.set 8 v, cp (fun i => (r[fr]?.getD 0) + fp i) (fun i => (r[to]?.getD 0) + tp i) mem n, p + 2 * n⟩ := by
  have key : ∀ t, t ≤ n → ∃ v, To c (2 * t) ⟨r, mem, p⟩ ⟨r.set 8 v, cp (fun i => (r[fr]?.getD 0) + fp i) (fun i => (r[to]?.getD 0) + tp i) mem t, p + 2 * t⟩ := by
    intro t
    induction t with
    | zero =>
      intro _
      refine ⟨r[8], ?_⟩
      rw [List.set_getElem_self]
      exact To.refl _ _
    | succ t ih =>
      intro ht
      obtain ⟨v, hv⟩ := ih (by omega)
      have hh := hc.each (d := 2) (fun i => rfl) (i := t) (by omega)
      have e1 := hh.head
      have e2 := hh.tail.head
      have hfr : ((r.set 8 v)[fr]?.getD 0) = (r[fr]?.getD 0) := by rw [List.getElem?_set_ne (fun e => h8 e.symm)]
      obtain ⟨u, hu⟩ : ∃ u, (cp (fun i => (r[fr]?.getD 0) + fp i) (fun i => (r[to]?.getD 0) + tp i) mem t)[(r[fr]?.getD 0) + fp t]? = some u := ⟨_, List.getElem?_eq_getElem (by rw [cp_len]; exact hs t (by omega))⟩
      have s1 := To.one e1 (by simp) (sp_load 8 fr (fp t) (r.set 8 v) _ _ u (by rw [hfr]; exact hu))
      have hto : (((r.set 8 v).set 8 u.toNat)[to]?.getD 0) = (r[to]?.getD 0) := by rw [List.getElem?_set_ne (fun e => h8' e.symm), List.getElem?_set_ne (fun e => h8' e.symm)]
      have s2 := To.one e2 (by simp) (sp_store 8 to (tp t) ((r.set 8 v).set 8 u.toNat) (cp (fun i => (r[fr]?.getD 0) + fp i) (fun i => (r[to]?.getD 0) + tp i) mem t) (p + 2 * t + 1) (by rw [hto, cp_len]; exact hd t (by omega)))
      rw [hto] at s2
      have hu8 : UInt8.ofNat (((r.set 8 v).set 8 u.toNat)[8]?.getD 0) = u := by rw [List.getElem?_set_self (by simp; omega)]; simp
      rw [hu8] at s2
      refine ⟨u.toNat, ?_⟩
      have e3 : (r.set 8 v).set 8 u.toNat = r.set 8 u.toNat := List.set_set ..
      have fin := (hv.trans s1).trans s2
      rw [e3] at fin
      have e4 : cp (fun i => (r[fr]?.getD 0) + fp i) (fun i => (r[to]?.getD 0) + tp i) mem (t + 1) = (cp (fun i => (r[fr]?.getD 0) + fp i) (fun i => (r[to]?.getD 0) + tp i) mem t).set ((r[to]?.getD 0) + tp t) u := by rw [cp, hu]; rfl
      rw [e4, show p + 2 * (t + 1) = p + 2 * t + 1 + 1 by omega]
      exact fin.mono (by omega)
  exact key n (Nat.le_refl _)
end P
end Go.Proofs.YtghggcehloiemabGreatDoor
namespace Go.Proofs.YtghggcehloiemabGreatDoor
set_option linter.unusedVariables false
namespace P
/-- The parts of the program at their places. -/
structure Pg (c : List I) (kp vp : List Nat) (sl : Nat) : Prop where
  choose : Has c 0 (pChoose (zOf kp.length vp.length))
  tell : Has c 11 pTell
  empty : Has c 13 pEmpty
  search1 : Has c 15 (pSearch1 (zOf kp.length vp.length) (kp.length + vp.length))
  search2 : Has c 22 (each kp.length (pSearch2 (zOf kp.length vp.length) kp))
  search3 : Has c (22 + 3 * kp.length) (pSearch3 (zOf kp.length vp.length))
  absent1 : Has c (25 + 3 * kp.length) (pAbsent1 (zOf kp.length vp.length) sl)
  absent2 : Has c (29 + 3 * kp.length) (each kp.length (pMove 5 1 (fun i => i) (at_ kp)))
  absent3 : Has c (29 + 5 * kp.length) (pAbsent3 (zOf kp.length vp.length))
  present1 : Has c (33 + 5 * kp.length) (pPresent1 (zOf kp.length vp.length))
  present2 : Has c (38 + 5 * kp.length) (each (kp.length + vp.length) (pMove 5 6 (fun i => i) (fun i => i)))
  present3 : Has c (38 + 7 * kp.length + 2 * vp.length) pPresent3
  lay1 : Has c (42 + 7 * kp.length + 2 * vp.length) (each vp.length (pMove 5 2 (fun i => kp.length + i) (at_ vp)))
  lay2 : Has c (42 + 7 * kp.length + 4 * vp.length) (pEnd 0)
  give1 : Has c (43 + 7 * kp.length + 4 * vp.length) (each vp.length (pMove 2 5 (at_ vp) (fun i => kp.length + i)))
  give2 : Has c (43 + 7 * kp.length + 6 * vp.length) (pEnd 0)
  none_ : Has c (44 + 7 * kp.length + 6 * vp.length) (pEnd 1)
  full : Has c (45 + 7 * kp.length + 6 * vp.length) (pEnd 2)
theorem pg_of (kp vp : List Nat) (sl : Nat) : Pg (prog kp vp sl).resolve kp vp sl := by
  rw [resolve_eq]
  generalize hz : zOf kp.length vp.length = z
  have h0 : Has (progZ z kp vp sl) 0 (progZ z kp vp sl) := Has.all _
  generalize hc : progZ z kp vp sl = c at h0
  have h1 : Has c 0 (progZ z kp vp sl) := by rw [hc]; exact h0
  unfold progZ at h1
  have l3 : ∀ n (f : Nat → Nat) (l : List Nat), (each n (pSearch2 f l)).length = 3 * n := fun n f l => each_len 3 _ _ (fun _ => rfl)
  have l2 : ∀ n a b f g, (each n (pMove a b f g)).length = 2 * n := fun n a b f g => each_len 2 _ _ (fun _ => rfl)
  have e1 := h1.right (q := 11) rfl
  have e2 := e1.right (q := 13) rfl
  have e3 := e2.right (q := 15) rfl
  have e4 := e3.right (q := 22) rfl
  have e5 := e4.right (q := 22 + 3 * kp.length) (by rw [l3])
  have e6 := e5.right (q := 25 + 3 * kp.length) (by show 22 + 3 * kp.length + 3 = _; omega)
  have e7 := e6.right (q := 29 + 3 * kp.length) (by show 25 + 3 * kp.length + 4 = _; omega)
  have e8 := e7.right (q := 29 + 5 * kp.length) (by rw [l2]; omega)
  have e9 := e8.right (q := 33 + 5 * kp.length) (by show 29 + 5 * kp.length + 4 = _; omega)
  have e10 := e9.right (q := 38 + 5 * kp.length) (by show 33 + 5 * kp.length + 5 = _; omega)
  have e11 := e10.right (q := 38 + 7 * kp.length + 2 * vp.length) (by rw [l2]; omega)
  have e12 := e11.right (q := 42 + 7 * kp.length + 2 * vp.length) (by show 38 + 7 * kp.length + 2 * vp.length + 4 = _; omega)
  have e13 := e12.right (q := 42 + 7 * kp.length + 4 * vp.length) (by rw [l2]; omega)
  have e14 := e13.right (q := 43 + 7 * kp.length + 4 * vp.length) (by show 42 + 7 * kp.length + 4 * vp.length + 1 = _; omega)
  have e15 := e14.right (q := 43 + 7 * kp.length + 6 * vp.length) (by rw [l2]; omega)
  have e16 := e15.right (q := 44 + 7 * kp.length + 6 * vp.length) (by show 43 + 7 * kp.length + 6 * vp.length + 1 = _; omega)
  have e17 := e16.right (q := 45 + 7 * kp.length + 6 * vp.length) (by show 44 + 7 * kp.length + 6 * vp.length + 1 = _; omega)
  subst hz
  exact ⟨h1.left, e1.left, e2.left, e3.left, e4.left, e5.left, e6.left, e7.left, e8.left, e9.left, e10.left, e11.left, e12.left, e13.left, e14.left, e15.left, e16.left, e17⟩
/-- What the table's bytes say: its entries, each a key's and a value's bytes. -/
structure Tab (sz : Nat) (mem : List UInt8) (T : List (List UInt8)) : Prop where
  count : mem[0]? = some (UInt8.ofNat T.length)
  ent : ∀ e t, T[e]? = some t → t.length = sz ∧ ∀ i, i < sz → mem[1 + e * sz + i]? = t[i]?
def bytesOf (mem : List UInt8) (at0 : Nat) (ps : List Nat) : List UInt8 := ps.map (fun p => mem[at0 + p]?.getD 0)
theorem bytesOf_get (mem : List UInt8) (at0 : Nat) (ps : List Nat) (i : Nat) (hi : i < ps.length) (hb : at0 + at_ ps i < mem.length) : (bytesOf mem at0 ps)[i]? = mem[at0 + at_ ps i]? := by
  unfold bytesOf
  rw [List.getElem?_map, List.getElem?_eq_getElem hi]
  have e : at_ ps i = ps[i] := by unfold at_; rw [List.getElem?_eq_getElem hi]; rfl
  rw [e] at hb ⊢
  simp [List.getElem?_eq_getElem hb]
/-- What a run finds: the types' places, the slots, the memory, where key and value lie, what the table holds. -/
structure Cx (kp vp : List Nat) (sl : Nat) (mem : List UInt8) (ka va : Nat) (T : List (List UInt8)) : Prop where
  kl : kp.length ≤ 32
  vl : vp.length ≤ 32
  k1 : 1 ≤ kp.length
  hsl : sl ≤ 16
  few : T.length ≤ sl
  tab : Tab (kp.length + vp.length) mem T
  hka : 1 + sl * (kp.length + vp.length) ≤ ka
  hva : 1 + sl * (kp.length + vp.length) ≤ va
  kin : ∀ i, i < kp.length → ka + at_ kp i < mem.length
  vin : ∀ i, i < vp.length → va + at_ vp i < mem.length
  vinj : ∀ i j, i < j → j < vp.length → at_ vp i ≠ at_ vp j
theorem ent_lt {e n sz i : Nat} (he : e < n) (hi : i < sz) : e * sz + i < n * sz := by
  have := Nat.mul_le_mul_right sz (show e + 1 ≤ n from he)
  rw [Nat.add_mul] at this; omega
theorem ent_ne {e e' sz i j : Nat} (he : e ≠ e') (hi : i < sz) (hj : j < sz) : e * sz + i ≠ e' * sz + j := by
  rcases Nat.lt_or_ge e e' with h | h
  · have := ent_lt h hi; omega
  · have := ent_lt (show e' < e by omega) hj; omega
theorem Cx.small {kp vp : List Nat} {sl : Nat} {mem : List UInt8} {ka va : Nat} {T : List (List UInt8)} (h : Cx kp vp sl mem ka va T) {n : Nat} (hn : n ≤ sl) : n * (kp.length + vp.length) ≤ 1024 := by
  have h1 := h.kl; have h2 := h.vl; have h3 := h.hsl
  have : n * (kp.length + vp.length) ≤ 16 * 64 := Nat.mul_le_mul (by omega) (by omega)
  omega
theorem Cx.room {kp vp : List Nat} {sl : Nat} {mem : List UInt8} {ka va : Nat} {T : List (List UInt8)} (h : Cx kp vp sl mem ka va T) : 1 + sl * (kp.length + vp.length) < mem.length := by
  have := h.hka; have := h.kin 0 h.k1; omega
theorem Cx.byte {kp vp : List Nat} {sl : Nat} {mem : List UInt8} {ka va : Nat} {T : List (List UInt8)} (h : Cx kp vp sl mem ka va T) : (UInt8.ofNat T.length).toNat = T.length := by
  have := h.few; have := h.hsl
  simp only [UInt8.toNat_ofNat']; omega
section search
variable {c : List I} {kp vp : List Nat} {sl : Nat} {mem : List UInt8} {ka va : Nat} {T : List (List UInt8)}
theorem compare (hp : Pg c kp vp sl) (hx : Cx kp vp sl mem ka va T) {e : Nat} {t : List UInt8} (hT : T[e]? = some t) (a n r7 r8' r9' : Nat) (g : Nat) :
    ∀ i, i ≤ kp.length →
      ((∀ j, j < i → (bytesOf mem ka kp)[j]? = t[j]?) ∧ ∃ r8 r9, To c (3 * i) ⟨R a ka va n (kp.length + vp.length) (1 + e * (kp.length + vp.length)) g r7 r8' r9', mem, 22⟩ ⟨R a ka va n (kp.length + vp.length) (1 + e * (kp.length + vp.length)) g r7 r8 r9, mem, 22 + 3 * i⟩) ∨
      ((∃ j, j < kp.length ∧ (bytesOf mem ka kp)[j]? ≠ t[j]?) ∧ ∃ r8 r9, To c (3 * i) ⟨R a ka va n (kp.length + vp.length) (1 + e * (kp.length + vp.length)) g r7 r8' r9', mem, 22⟩ ⟨R a ka va n (kp.length + vp.length) (1 + e * (kp.length + vp.length)) g r7 r8 r9, mem, 23 + 3 * kp.length⟩) := by
  intro i
  induction i with
  | zero => intro _; exact .inl ⟨fun j hj => absurd hj (by omega), _, _, To.refl _ _⟩
  | succ i ih =>
    intro hi
    rcases ih (by omega) with ⟨heq, q8, q9, h⟩ | ⟨hne, q8, q9, h⟩
    · have hh := hp.search2.each (d := 3) (fun i => rfl) (i := i) (by omega)
      have e1 := hh.head
      have e2 := hh.tail.head
      have e3 := hh.tail.tail.head
      have hkb := hx.kin i (by omega)
      have htl := (hx.tab.ent e t hT).1
      have hti := (hx.tab.ent e t hT).2 i (by omega)
      obtain ⟨u, hu⟩ : ∃ u, mem[ka + at_ kp i]? = some u := ⟨_, List.getElem?_eq_getElem hkb⟩
      obtain ⟨v, hv⟩ : ∃ v, t[i]? = some v := ⟨_, List.getElem?_eq_getElem (by omega)⟩
      have hbu : (bytesOf mem ka kp)[i]? = some u := by rw [bytesOf_get _ _ _ _ (by omega) hkb]; exact hu
      rw [hv] at hti
      have s1 := To.one e1 (by simp) (sp_load 8 1 (at_ kp i) (R a ka va n (kp.length + vp.length) (1 + e * (kp.length + vp.length)) g r7 q8 q9) mem (22 + 3 * i) u hu)
      have s2 := To.one e2 (by simp) (sp_load 9 5 i (R a ka va n (kp.length + vp.length) (1 + e * (kp.length + vp.length)) g r7 u.toNat q9) mem (22 + 3 * i + 1) v hti)
      by_cases huv : u = v
      · refine .inl ⟨?_, u.toNat, v.toNat, ?_⟩
        · intro j hj
          rcases Nat.lt_or_ge j i with h | h
          · exact heq j h
          · have : j = i := by omega
            subst this
            rw [hbu, hv, huv]
        · have s3 := To.one e3 (by simp) (sp_not_n 8 9 (zOf kp.length vp.length 2) (R a ka va n (kp.length + vp.length) (1 + e * (kp.length + vp.length)) g r7 u.toNat v.toNat) mem (22 + 3 * i + 1 + 1) (show u.toNat = v.toNat by rw [huv]))
          exact (((h.trans s1).trans s2).trans s3).mono (by omega)
      · refine .inr ⟨⟨i, by omega, ?_⟩, u.toNat, v.toNat, ?_⟩
        · rw [hbu, hv]; intro hh; exact huv (Option.some.inj hh)
        · have s3 := To.one e3 (by simp) (sp_not_y 8 9 (zOf kp.length vp.length 2) (R a ka va n (kp.length + vp.length) (1 + e * (kp.length + vp.length)) g r7 u.toNat v.toNat) mem (22 + 3 * i + 1 + 1) (show u.toNat ≠ v.toNat from fun hh => huv (UInt8.toNat_inj.1 hh)))
          exact (((h.trans s1).trans s2).trans s3).mono (by omega)
    · exact .inr ⟨hne, q8, q9, h.mono (by omega)⟩
end search
end P
namespace P
theorem bytesOf_len (mem : List UInt8) (at0 : Nat) (ps : List Nat) : (bytesOf mem at0 ps).length = ps.length := by simp [bytesOf]
theorem take_iff {nk : Nat} {K t : List UInt8} (hK : K.length = nk) : t.take nk = K ↔ ∀ j, j < nk → K[j]? = t[j]? := by
  constructor
  · intro h j hj; rw [← h, List.getElem?_take, if_pos hj]
  · intro h
    apply List.ext_getElem?
    intro j
    rw [List.getElem?_take]
    rcases Nat.lt_or_ge j nk with hj | hj
    · rw [if_pos hj, h j hj]
    · rw [if_neg (by omega), List.getElem?_eq_none (by omega)]
section search
variable {c : List I} {kp vp : List Nat} {sl : Nat} {mem : List UInt8} {ka va : Nat} {T : List (List UInt8)}
theorem look (hp : Pg c kp vp sl) (hx : Cx kp vp sl mem ka va T) (a r7 : Nat) : ∀ d e, e + d = T.length → ∀ q8 q9,
    (∃ e' t r8 r9, T[e']? = some t ∧ t.take kp.length = bytesOf mem ka kp ∧ To c ((d + 1) * (3 * kp.length + 4)) ⟨R a ka va T.length (kp.length + vp.length) (1 + e * (kp.length + vp.length)) (1 + T.length * (kp.length + vp.length)) r7 q8 q9, mem, 21⟩ ⟨R a ka va T.length (kp.length + vp.length) (1 + e' * (kp.length + vp.length)) (1 + T.length * (kp.length + vp.length)) r7 r8 r9, mem, 33 + 5 * kp.length⟩) ∨
    ((∀ e' t, e ≤ e' → T[e']? = some t → t.take kp.length ≠ bytesOf mem ka kp) ∧ ∃ r8 r9, To c ((d + 1) * (3 * kp.length + 4)) ⟨R a ka va T.length (kp.length + vp.length) (1 + e * (kp.length + vp.length)) (1 + T.length * (kp.length + vp.length)) r7 q8 q9, mem, 21⟩ ⟨R a ka va T.length (kp.length + vp.length) (1 + T.length * (kp.length + vp.length)) (1 + T.length * (kp.length + vp.length)) r7 r8 r9, mem, 25 + 3 * kp.length⟩) := by
  have hs1 : c[21]? = some ⟨12, 5, 6, 25 + 3 * kp.length⟩ := hp.search1.tail.tail.tail.tail.tail.tail.head
  have hg : c[22 + 3 * kp.length]? = some ⟨11, 0, 0, 33 + 5 * kp.length⟩ := hp.search3.head
  have hd1 : c[22 + 3 * kp.length + 1]? = some ⟨3, 5, 4, 0⟩ := hp.search3.tail.head
  have hd2 : c[22 + 3 * kp.length + 1 + 1]? = some ⟨11, 0, 0, 21⟩ := hp.search3.tail.tail.head
  have hk1 := hx.k1
  intro d
  induction d with
  | zero =>
    intro e he q8 q9
    have : e = T.length := by omega
    subst this
    refine .inr ⟨fun e' t h1 h2 => absurd (List.getElem?_eq_some_iff.1 h2).1 (by omega), q8, q9, ?_⟩
    have s := To.one hs1 (by simp) (sp_same_y 5 6 (25 + 3 * kp.length) (R a ka va T.length (kp.length + vp.length) (1 + T.length * (kp.length + vp.length)) (1 + T.length * (kp.length + vp.length)) r7 q8 q9) mem 21 rfl)
    exact s.mono (by omega)
  | succ d ih =>
    intro e he q8 q9
    obtain ⟨t, hT⟩ : ∃ t, T[e]? = some t := ⟨_, List.getElem?_eq_getElem (by omega)⟩
    have htl := (hx.tab.ent e t hT).1
    have hlt := ent_lt (show e < T.length by omega) (show 0 < kp.length + vp.length by omega)
    have hb := hx.small (n := T.length) hx.few
    have hb1 := hx.kl
    have hb2 := hx.vl
    have s0 := To.one hs1 (by simp) (sp_same_n 5 6 (25 + 3 * kp.length) (R a ka va T.length (kp.length + vp.length) (1 + e * (kp.length + vp.length)) (1 + T.length * (kp.length + vp.length)) r7 q8 q9) mem 21 (show 1 + e * (kp.length + vp.length) ≠ 1 + T.length * (kp.length + vp.length) by omega))
    have hmul : (d + 1 + 1) * (3 * kp.length + 4) = (d + 1) * (3 * kp.length + 4) + (3 * kp.length + 4) := Nat.succ_mul _ _
    rcases compare hp hx hT a T.length r7 q8 q9 (1 + T.length * (kp.length + vp.length)) kp.length (Nat.le_refl _) with ⟨heq, p8, p9, h⟩ | ⟨⟨j, hj, hne⟩, p8, p9, h⟩
    · refine .inl ⟨e, t, p8, p9, hT, (take_iff (bytesOf_len _ _ _)).2 heq, ?_⟩
      have s1 := To.one hg (by simp) (sp_go 0 0 (33 + 5 * kp.length) (R a ka va T.length (kp.length + vp.length) (1 + e * (kp.length + vp.length)) (1 + T.length * (kp.length + vp.length)) r7 p8 p9) mem (22 + 3 * kp.length))
      exact ((s0.trans h).trans s1).mono (by omega)
    · have hno : t.take kp.length ≠ bytesOf mem ka kp := fun hh => hne ((take_iff (bytesOf_len _ _ _)).1 hh j hj)
      rw [show 23 + 3 * kp.length = 22 + 3 * kp.length + 1 by omega] at h
      have s1 := To.one hd1 (by simp) (sp_add 5 4 0 (R a ka va T.length (kp.length + vp.length) (1 + e * (kp.length + vp.length)) (1 + T.length * (kp.length + vp.length)) r7 p8 p9) mem (22 + 3 * kp.length + 1) (show 1 + e * (kp.length + vp.length) + (kp.length + vp.length) < 100000 by omega))
      have s2 := To.one hd2 (by simp) (sp_go 0 0 21 (R a ka va T.length (kp.length + vp.length) (1 + e * (kp.length + vp.length) + (kp.length + vp.length)) (1 + T.length * (kp.length + vp.length)) r7 p8 p9) mem (22 + 3 * kp.length + 1 + 1))
      have hnx : 1 + e * (kp.length + vp.length) + (kp.length + vp.length) = 1 + (e + 1) * (kp.length + vp.length) := by rw [Nat.succ_mul]; omega
      rw [hnx] at s2
      have s1' := s1.to (show (⟨R a ka va T.length (kp.length + vp.length) (1 + e * (kp.length + vp.length) + (kp.length + vp.length)) (1 + T.length * (kp.length + vp.length)) r7 p8 p9, mem, 22 + 3 * kp.length + 1 + 1⟩ : M) = ⟨R a ka va T.length (kp.length + vp.length) (1 + (e + 1) * (kp.length + vp.length)) (1 + T.length * (kp.length + vp.length)) r7 p8 p9, mem, 22 + 3 * kp.length + 1 + 1⟩ by rw [hnx])
      have s := ((s0.trans h).trans s1').trans s2
      rcases ih (e + 1) (by omega) p8 p9 with ⟨e', t', r8, r9, h1, h2, h3⟩ | ⟨h1, r8, r9, h3⟩
      · exact .inl ⟨e', t', r8, r9, h1, h2, (s.trans h3).mono (by omega)⟩
      · refine .inr ⟨fun e' t' he' ht' => ?_, r8, r9, (s.trans h3).mono (by omega)⟩
        rcases Nat.lt_or_ge e e' with hh | hh
        · exact h1 e' t' (by omega) ht'
        · have : e' = e := by omega
          subst this
          rw [hT] at ht'
          cases ht'
          exact hno
theorem searched (hp : Pg c kp vp sl) (hx : Cx kp vp sl mem ka va T) (a r7 : Nat) :
    (∃ e t r8 r9, T[e]? = some t ∧ t.take kp.length = bytesOf mem ka kp ∧ To c 1800 ⟨R a ka va 0 0 0 0 r7 0 0, mem, 15⟩ ⟨R a ka va T.length (kp.length + vp.length) (1 + e * (kp.length + vp.length)) (1 + T.length * (kp.length + vp.length)) r7 r8 r9, mem, 33 + 5 * kp.length⟩) ∨
    ((∀ (e : Nat) (t : List UInt8), T[e]? = some t → t.take kp.length ≠ bytesOf mem ka kp) ∧ ∃ r8 r9, To c 1800 ⟨R a ka va 0 0 0 0 r7 0 0, mem, 15⟩ ⟨R a ka va T.length (kp.length + vp.length) (1 + T.length * (kp.length + vp.length)) (1 + T.length * (kp.length + vp.length)) r7 r8 r9, mem, 25 + 3 * kp.length⟩) := by
  have h0 := hp.search1.head
  have h1 := hp.search1.tail.head
  have h2 := hp.search1.tail.tail.head
  have h3 := hp.search1.tail.tail.tail.head
  have h4 := hp.search1.tail.tail.tail.tail.head
  have h5 := hp.search1.tail.tail.tail.tail.tail.head
  have hb := hx.small (n := T.length) hx.few
  have hfew := hx.few
  have hsl := hx.hsl
  have hkl := hx.kl
  have s0 := To.one h0 (by simp) (sp_load 3 15 0 (R a ka va 0 0 0 0 r7 0 0) mem 15 (UInt8.ofNat T.length) hx.tab.count)
  rw [hx.byte] at s0
  have s1 := To.one h1 (by simp) (sp_num 4 0 (kp.length + vp.length) (R a ka va T.length 0 0 0 r7 0 0) mem (15 + 1))
  have s2 := To.one h2 (by simp) (sp_num 5 0 1 (R a ka va T.length (kp.length + vp.length) 0 0 r7 0 0) mem (15 + 1 + 1))
  have s3 := To.one h3 (by simp) (sp_copy 6 3 0 (R a ka va T.length (kp.length + vp.length) 1 0 r7 0 0) mem (15 + 1 + 1 + 1))
  have s4 := To.one h4 (by simp) (sp_mul 6 4 0 (R a ka va T.length (kp.length + vp.length) 1 T.length r7 0 0) mem (15 + 1 + 1 + 1 + 1) (show T.length * (kp.length + vp.length) < 100000 by omega))
  have s5 := To.one h5 (by simp) (sp_add 6 5 0 (R a ka va T.length (kp.length + vp.length) 1 (T.length * (kp.length + vp.length)) r7 0 0) mem (15 + 1 + 1 + 1 + 1 + 1) (show T.length * (kp.length + vp.length) + 1 < 100000 by omega))
  have s5' := s5.to (show (⟨R a ka va T.length (kp.length + vp.length) 1 (T.length * (kp.length + vp.length) + 1) r7 0 0, mem, 21⟩ : M) = ⟨R a ka va T.length (kp.length + vp.length) (1 + 0 * (kp.length + vp.length)) (1 + T.length * (kp.length + vp.length)) r7 0 0, mem, 21⟩ by rw [Nat.zero_mul, Nat.add_comm 1 (T.length * _)])
  have s := ((((s0.trans s1).trans s2).trans s3).trans s4).trans s5'
  have hm : (T.length + 1) * (3 * kp.length + 4) ≤ 17 * 100 := Nat.mul_le_mul (by omega) (by omega)
  rcases look hp hx a r7 T.length 0 (by omega) 0 0 with ⟨e', t', r8, r9, h1, h2, h3⟩ | ⟨h1, r8, r9, h3⟩
  · exact .inl ⟨e', t', r8, r9, h1, h2, (s.trans h3).mono (by omega)⟩
  · exact .inr ⟨fun e' t' => h1 e' t' (Nat.zero_le _), r8, r9, (s.trans h3).mono (by omega)⟩
/-- Where a task is done. -/
theorem chosen (hp : Pg c kp vp sl) (mem : List UInt8) (ka va a : Nat) :
    (a = 1 → To c 10 (start mem a ka va) ⟨R a ka va 0 0 0 0 1 0 0, mem, 15⟩) ∧ (a = 2 → To c 10 (start mem a ka va) ⟨R a ka va 0 0 0 0 2 0 0, mem, 15⟩) ∧ (a = 3 → To c 10 (start mem a ka va) ⟨R a ka va 0 0 0 0 3 0 0, mem, 15⟩) ∧
    (a = 4 → To c 10 (start mem a ka va) ⟨R a ka va 0 0 0 0 4 0 0, mem, 11⟩) ∧ (a = 5 → To c 10 (start mem a ka va) ⟨R a ka va 0 0 0 0 5 0 0, mem, 13⟩) ∧
    (a ≠ 1 → a ≠ 2 → a ≠ 3 → a ≠ 4 → a ≠ 5 → To c 10 (start mem a ka va) ⟨R a ka va 0 0 0 0 5 0 0, mem, 10⟩) := by
  have hc := hp.choose
  have one : ∀ (p w l r7 : Nat), c[p]? = some ⟨1, 7, 0, w⟩ → c[p + 1]? = some ⟨12, 0, 7, l⟩ → a = w → To c 2 ⟨R a ka va 0 0 0 0 r7 0 0, mem, p⟩ ⟨R a ka va 0 0 0 0 w 0 0, mem, l⟩ := by
    intro p w l r7 e1 e2 hw
    exact (To.one e1 (by simp) (sp_num 7 0 w (R a ka va 0 0 0 0 r7 0 0) mem p)).trans (To.one e2 (by simp) (sp_same_y 0 7 l (R a ka va 0 0 0 0 w 0 0) mem (p + 1) hw))
  have two : ∀ (p w l r7 : Nat), c[p]? = some ⟨1, 7, 0, w⟩ → c[p + 1]? = some ⟨12, 0, 7, l⟩ → a ≠ w → To c 2 ⟨R a ka va 0 0 0 0 r7 0 0, mem, p⟩ ⟨R a ka va 0 0 0 0 w 0 0, mem, p + 2⟩ := by
    intro p w l r7 e1 e2 hw
    exact (To.one e1 (by simp) (sp_num 7 0 w (R a ka va 0 0 0 0 r7 0 0) mem p)).trans (To.one e2 (by simp) (sp_same_n 0 7 l (R a ka va 0 0 0 0 w 0 0) mem (p + 1) hw))
  have c0 : c[0]? = some ⟨1, 7, 0, 1⟩ := hc.head
  have c1 : c[0 + 1]? = some ⟨12, 0, 7, 15⟩ := hc.tail.head
  have c2 : c[2]? = some ⟨1, 7, 0, 2⟩ := hc.tail.tail.head
  have c3 : c[2 + 1]? = some ⟨12, 0, 7, 15⟩ := hc.tail.tail.tail.head
  have c4 : c[4]? = some ⟨1, 7, 0, 3⟩ := hc.tail.tail.tail.tail.head
  have c5 : c[4 + 1]? = some ⟨12, 0, 7, 15⟩ := hc.tail.tail.tail.tail.tail.head
  have c6 : c[6]? = some ⟨1, 7, 0, 4⟩ := hc.tail.tail.tail.tail.tail.tail.head
  have c7 : c[6 + 1]? = some ⟨12, 0, 7, 11⟩ := hc.tail.tail.tail.tail.tail.tail.tail.head
  have c8 : c[8]? = some ⟨1, 7, 0, 5⟩ := hc.tail.tail.tail.tail.tail.tail.tail.tail.head
  have c9 : c[8 + 1]? = some ⟨12, 0, 7, 13⟩ := hc.tail.tail.tail.tail.tail.tail.tail.tail.tail.head
  have hst : start mem a ka va = ⟨R a ka va 0 0 0 0 0 0 0, mem, 0⟩ := rfl
  rw [hst]
  refine ⟨fun h => ?_, fun h => ?_, fun h => ?_, fun h => ?_, fun h => ?_, fun h1 h2 h3 h4 h5 => ?_⟩
  · exact (one 0 1 15 0 c0 c1 h).mono (by omega)
  · exact ((two 0 1 15 0 c0 c1 (by omega)).trans (one 2 2 15 1 c2 c3 h)).mono (by omega)
  · exact (((two 0 1 15 0 c0 c1 (by omega)).trans (two 2 2 15 1 c2 c3 (by omega))).trans (one 4 3 15 2 c4 c5 h)).mono (by omega)
  · exact ((((two 0 1 15 0 c0 c1 (by omega)).trans (two 2 2 15 1 c2 c3 (by omega))).trans (two 4 3 15 2 c4 c5 (by omega))).trans (one 6 4 11 3 c6 c7 h)).mono (by omega)
  · exact (((((two 0 1 15 0 c0 c1 (by omega)).trans (two 2 2 15 1 c2 c3 (by omega))).trans (two 4 3 15 2 c4 c5 (by omega))).trans (two 6 4 11 3 c6 c7 (by omega))).trans (one 8 5 13 4 c8 c9 h)).mono (by omega)
  · exact (((((two 0 1 15 0 c0 c1 (by omega)).trans (two 2 2 15 1 c2 c3 (by omega))).trans (two 4 3 15 2 c4 c5 (by omega))).trans (two 6 4 11 3 c6 c7 (by omega))).trans (two 8 5 13 4 c8 c9 h5)).mono (by omega)
end search
end P
end Go.Proofs.YtghggcehloiemabGreatDoor
