import Derived.Test.YtghggcehloiemaaMcT
namespace Go.Proofs.Ytghggcehloiemaa
namespace P
/-- Of a reached instruction what it says may follow is reached. -/
def Closed (c : List I) (fl : List Bool) (i : Nat) : Prop := ∀ x, c[i]? = some x → fl[i]? = some true → (11 ≤ x.op → fl[x.k]? = some true) ∧ (¬ Ends x → fl[i + 1]? = some true)
theorem flags_of_closed {c : List I} {fl : List Bool} (hl : fl.length = c.length) (h0 : fl[0]? = some true) (hr : ∀ i : Nat, fl[i]? = some true → Reach c i) (hc : ∀ i, i < c.length → Closed c fl i) : Flags c fl := by
  refine ⟨hl, fun i _ => ⟨hr i, fun h => ?_⟩⟩
  induction h with
  | zero => exact h0
  | @go i x hr hx h11 ih =>
    have hi := (List.getElem?_eq_some_iff.1 hx).1
    exact (hc i hi x hx (ih hi)).1 h11
  | @next i x hr hx he ih =>
    have hi := (List.getElem?_eq_some_iff.1 hx).1
    exact (hc i hi x hx (ih hi)).2 he
theorem cnt_set (fl : List Bool) (n : Nat) (h : fl[n]? = some false) : cnt (fl.set n true) fl.length = cnt fl fl.length + 1 := by
  have key : ∀ (fl : List Bool) (n : Nat), fl[n]? = some false → (fl.set n true).countP id = fl.countP id + 1 := by
    intro fl
    induction fl with
    | nil => intro n h; simp at h
    | cons b fl ih =>
      intro n h
      cases n with
      | zero => simp at h; subst h; simp
      | succ n =>
        simp at h
        have := ih n h
        simp only [List.set_cons_succ, List.countP_cons]; omega
  unfold cnt
  rw [show (fl.set n true).take fl.length = fl.set n true from List.take_of_length_le (by simp), List.take_length]
  exact key fl n h
theorem set_keeps {fl : List Bool} {n i : Nat} (h : fl[i]? = some true) : (fl.set n true)[i]? = some true := by
  have hi := (List.getElem?_eq_some_iff.1 h).1
  rw [List.getElem?_set]
  split
  · rename_i e; rw [if_pos (by rw [e]; exact hi)]
  · exact h
theorem set_here {fl : List Bool} {n : Nat} (h : n < fl.length) : (fl.set n true)[n]? = some true := by rw [List.getElem?_set_self h]
theorem set_from {fl : List Bool} {n i : Nat} (h : (fl.set n true)[i]? = some true) : i = n ∨ fl[i]? = some true := by
  rw [List.getElem?_set] at h
  split at h
  · rename_i e; exact .inl e.symm
  · exact .inr h

/-- What the walker holds: the marks, and the queue. -/
structure Wk (c : List I) (fl : List Bool) (q : List Nat) : Prop where
  len : fl.length = c.length
  queue : ∀ j : Nat, fl[j]? = some true ↔ j ∈ q
  count : q.length = cnt fl c.length
  reach : ∀ j ∈ q, Reach c j
def marked (fl : List Bool) (n : Nat) : List Bool := if fl[n]? = some false then fl.set n true else fl
def queued (fl : List Bool) (q : List Nat) (n : Nat) : List Nat := if fl[n]? = some false then q ++ [n] else q
theorem Wk.start (c : List I) : Wk c (List.replicate c.length false) [] := by
  refine ⟨by simp, fun j => ?_, ?_, by simp⟩
  · simp [List.getElem?_replicate]
  · simp only [cnt, List.length_nil]
    rw [List.take_of_length_le (by simp), List.countP_replicate]; simp
theorem Wk.mark {c : List I} {fl : List Bool} {q : List Nat} {n : Nat} (h : Wk c fl q) (hr : Reach c n) (hn : n < c.length) : Wk c (marked fl n) (queued fl q n) ∧ n ∈ queued fl q n := by
  have hnl : n < fl.length := by rw [h.len]; exact hn
  unfold marked queued
  by_cases hf : fl[n]? = some false
  · rw [if_pos hf, if_pos hf]
    refine ⟨⟨by simp [h.len], fun j => ?_, ?_, ?_⟩, by simp⟩
    · rw [List.mem_append, List.mem_singleton, ← h.queue j]
      constructor
      · intro hj; rcases set_from hj with e | e
        · exact .inr e
        · exact .inl e
      · rintro (e | e)
        · exact set_keeps e
        · rw [e]; exact set_here hnl
    · have := cnt_set fl n hf
      rw [h.len] at this
      rw [this, List.length_append, h.count]; rfl
    · intro j hj
      rw [List.mem_append, List.mem_singleton] at hj
      rcases hj with e | e
      · exact h.reach j e
      · rw [e]; exact hr
  · rw [if_neg hf, if_neg hf]
    refine ⟨h, (h.queue n).1 ?_⟩
    rw [List.getElem?_eq_getElem hnl] at hf ⊢
    cases hb : fl[n]
    · rw [hb] at hf; exact absurd rfl hf
    · rfl
theorem queued_keeps {fl : List Bool} {q : List Nat} {n j i : Nat} (h : q[i]? = some j) : (queued fl q n)[i]? = some j := by
  unfold queued
  split
  · rw [List.getElem?_append_left (List.getElem?_eq_some_iff.1 h).1]; exact h
  · exact h
theorem queued_mem {fl : List Bool} {q : List Nat} {n j : Nat} (h : j ∈ q) : j ∈ queued fl q n := by
  unfold queued
  split
  · exact List.mem_append_left _ h
  · exact h
theorem Wk.few {c : List I} {fl : List Bool} {q : List Nat} (h : Wk c fl q) : q.length ≤ c.length := by
  rw [h.count]; exact cnt_le _ _
/-- What the first t of the queue say may follow is in the queue. -/
def Seen (c : List I) (q : List Nat) (t : Nat) : Prop := ∀ i j x, i < t → q[i]? = some j → c[j]? = some x → (11 ≤ x.op → x.k ∈ q) ∧ (¬ Ends x → j + 1 ∈ q)
theorem Wk.flags {c : List I} {fl : List Bool} {q : List Nat} (h : Wk c fl q) (h0 : 0 ∈ q) (hs : Seen c q q.length) : Flags c fl := by
  refine flags_of_closed h.len ((h.queue 0).2 h0) (fun i hi => h.reach i ((h.queue i).1 hi)) ?_
  intro i hi x hx hf
  obtain ⟨t, ht⟩ := List.getElem?_of_mem ((h.queue i).1 hf)
  have := hs t i x (List.getElem?_eq_some_iff.1 ht).1 ht hx
  exact ⟨fun h11 => (h.queue _).2 (this.1 h11), fun he => (h.queue _).2 (this.2 he)⟩
theorem Seen.zero (c : List I) (q : List Nat) : Seen c q 0 := fun _ _ _ hi => absurd hi (Nat.not_lt_zero _)
/-- One more of the queue. -/
theorem Seen.more {c : List I} {q q' : List Nat} {t j : Nat} {x : I} (h : Seen c q t) (ht : q[t]? = some j) (hx : c[j]? = some x) (hk : ∀ i : Nat, i < q.length → q'[i]? = q[i]?) (hm : ∀ z ∈ q, z ∈ q') (h1 : 11 ≤ x.op → x.k ∈ q') (h2 : ¬ Ends x → j + 1 ∈ q') : Seen c q' (t + 1) := by
  intro i j' x' hi hq hx'
  have htl := (List.getElem?_eq_some_iff.1 ht).1
  rw [hk i (by omega)] at hq
  rcases Nat.lt_or_ge i t with hlt | hge
  · have := h i j' x' hlt hq hx'
    exact ⟨fun a => hm _ (this.1 a), fun a => hm _ (this.2 a)⟩
  · have e : i = t := by omega
    subst e
    rw [ht] at hq; cases hq
    rw [hx] at hx'; cases hx'
    exact ⟨h1, h2⟩
/-- The new nplaces. -/
def nplaces (fl : List Bool) (n : Nat) : List Nat := (List.range n).map (cnt fl)
theorem nplaces_succ (fl : List Bool) (n : Nat) : nplaces fl (n + 1) = nplaces fl n ++ [cnt fl n] := by simp [nplaces, List.range_succ]
theorem nplaces_get {fl : List Bool} {n k : Nat} (h : k < n) : (nplaces fl n)[k]? = some (cnt fl k) := by simp [nplaces, h]
/-- The first n of the trimmed code. -/
def trimTo (fl : List Bool) (c : List I) (n : Nat) : List I := trimUp fl (c.take n) (fl.take n)
theorem trimUp_append (fl0 : List Bool) : ∀ (c : List I) (fl : List Bool) (x : I) (b : Bool), c.length = fl.length → trimUp fl0 (c ++ [x]) (fl ++ [b]) = trimUp fl0 c fl ++ (if b then [turned fl0 x] else []) := by
  intro c
  induction c with
  | nil => intro fl x b h; cases fl with
    | nil => cases b <;> simp [trimUp]
    | cons => simp at h
  | cons y c ih => intro fl x b h; cases fl with
    | nil => simp at h
    | cons d fl =>
      have := ih fl x b (by simpa using h)
      cases d <;> simp only [List.cons_append, trimUp, if_true, Bool.false_eq_true, if_false] <;> rw [this]
theorem trimTo_succ {fl : List Bool} {c : List I} {n : Nat} {x : I} {b : Bool} (hl : fl.length = c.length) (hx : c[n]? = some x) (hb : fl[n]? = some b) : trimTo fl c (n + 1) = trimTo fl c n ++ (if b then [turned fl x] else []) := by
  unfold trimTo
  rw [List.take_add_one, List.take_add_one, hx, hb]
  exact trimUp_append fl _ _ x b (by simp [hl])
theorem trimTo_all {fl : List Bool} {c : List I} (hl : fl.length = c.length) : trimTo fl c c.length = trimList c fl := by
  unfold trimTo trimList; rw [List.take_length, ← hl, List.take_length]
theorem trimUp_le (fl0 : List Bool) : ∀ (c : List I) (fl : List Bool), (trimUp fl0 c fl).length ≤ c.length := by
  intro c
  induction c with
  | nil => intro fl; simp [trimUp]
  | cons x c ih =>
    intro fl
    cases fl with
    | nil => simp [trimUp]
    | cons b fl =>
      have := ih fl
      cases b
      · simp only [trimUp, Bool.false_eq_true, if_false, List.length_cons]; omega
      · simp only [trimUp, if_true, List.length_cons]; omega
theorem trimTo_le (fl : List Bool) (c : List I) (n : Nat) : (trimTo fl c n).length ≤ n := by
  have := trimUp_le fl (c.take n) (fl.take n)
  rw [List.length_take] at this
  unfold trimTo; omega
theorem trimTo_zero (fl : List Bool) (c : List I) : trimTo fl c 0 = [] := by simp [trimTo, trimUp]
end P
end Go.Proofs.Ytghggcehloiemaa
