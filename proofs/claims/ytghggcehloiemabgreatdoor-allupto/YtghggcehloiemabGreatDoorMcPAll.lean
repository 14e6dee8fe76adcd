import Derived.Test.YtghggcehloiemabGreatDoorBaseAll
namespace Go.Proofs.YtghggcehloiemabGreatDoor
namespace P
/-- An instruction. -/
structure I where
  op : Nat
  a : Nat
  b : Nat
  k : Nat
  deriving DecidableEq, Inhabited
def byteAt (l : List UInt8) (i : Nat) : Nat := (l[i]?.getD 0).toNat
def insAt (l : List UInt8) (n : Nat) : I := ⟨byteAt l (5 * n), byteAt l (5 * n + 1), byteAt l (5 * n + 2), byteAt l (5 * n + 3) + byteAt l (5 * n + 4) * 256⟩
theorem byteAt_lt (l : List UInt8) (i : Nat) : byteAt l i < 256 := UInt8.toNat_lt _
def OkI (count : Nat) (i : I) : Prop := i.op ≤ 14 ∧ i.a ≤ 15 ∧ i.b ≤ 15 ∧ (11 ≤ i.op → i.k < count) ∧ (i.op = 8 → i.k ≤ 31)
instance (count : Nat) (i : I) : Decidable (OkI count i) := by unfold OkI; infer_instance
def Ends (i : I) : Prop := i.op = 0 ∨ i.op = 11
instance (i : I) : Decidable (Ends i) := by unfold Ends; infer_instance
structure IsCode (l : List UInt8) : Prop where
  five : l.length = 5 * (l.length / 5)
  some : 1 ≤ l.length / 5
  few : l.length / 5 ≤ 800
  all : ∀ i, i < l.length / 5 → OkI (l.length / 5) (insAt l i)
  last : Ends (insAt l (l.length / 5 - 1))
theorem isCode_iff (l : List UInt8) : IsCode l ↔ (l.length = 5 * (l.length / 5) ∧ 1 ≤ l.length / 5 ∧ l.length / 5 ≤ 800 ∧ (∀ i, i < l.length / 5 → OkI (l.length / 5) (insAt l i)) ∧ Ends (insAt l (l.length / 5 - 1))) :=
  ⟨fun h => ⟨h.1, h.2, h.3, h.4, h.5⟩, fun h => ⟨h.1, h.2.1, h.2.2.1, h.2.2.2.1, h.2.2.2.2⟩⟩
instance (l : List UInt8) : Decidable (IsCode l) := decidable_of_iff' _ (isCode_iff l)
def codeOf (l : List UInt8) : List I := (List.range (l.length / 5)).map (insAt l)
theorem codeOf_length (l : List UInt8) : (codeOf l).length = l.length / 5 := by simp [codeOf]
theorem codeOf_get (l : List UInt8) (i : Nat) (h : i < l.length / 5) : (codeOf l)[i]? = some (insAt l i) := by simp [codeOf, h]
end P

def insV (i : P.I) : Value := .agg #[.int .i64 i.op, .int .i64 i.a, .int .i64 i.b, .int .i64 i.k]
def insCells (i : P.I) : List Value := [.int .i64 i.op, .int .i64 i.a, .int .i64 i.b, .int .i64 i.k]
def codeCells (l : List P.I) : List Value := l.flatMap insCells
theorem codeCells_append (a b : List P.I) : codeCells (a ++ b) = codeCells a ++ codeCells b := by simp [codeCells]
end Go.Proofs.YtghggcehloiemabGreatDoor
namespace Go.Proofs.YtghggcehloiemabGreatDoor
namespace P
/-- The machine: its registers, its memory, the instruction that comes next. -/
structure M where
  reg : List Nat
  mem : List UInt8
  pc : Nat
def rg (m : M) (i : Nat) : Nat := m.reg[i]?.getD 0
def W32 : Nat := 4294967296
/-- What register A becomes by the instructions 1 to 8. -/
def reck (x : I) (a b : Nat) : Nat :=
  if x.op = 1 then x.k else if x.op = 2 then b else if x.op = 3 then (a + b) % W32 else if x.op = 4 then (a + W32 - b) % W32 else if x.op = 5 then (a * b) % W32
  else if x.op = 6 then a &&& b else if x.op = 7 then a ^^^ b else b >>> x.k
/-- Does an instruction that says where to go on go there? -/
def goB (op a b : Nat) : Bool := if op = 12 then a == b else if op = 13 then a != b else if op = 14 then decide (a < b) else true
def step (x : I) (m : M) : Option M :=
  if 11 ≤ x.op then some { m with pc := if goB x.op (rg m x.a) (rg m x.b) then x.k else m.pc + 1 }
  else if x.op = 9 then (match m.mem[rg m x.b + x.k]? with
    | some c => some { m with reg := m.reg.set x.a c.toNat, pc := m.pc + 1 }
    | none => none)
  else if x.op = 10 then (if rg m x.b + x.k < m.mem.length then some { m with mem := m.mem.set (rg m x.b + x.k) (UInt8.ofNat (rg m x.a)), pc := m.pc + 1 } else none)
  else some { m with reg := m.reg.set x.a (reck x (rg m x.a) (rg m x.b)), pc := m.pc + 1 }
/-- What a run answers: the memory, the result, the status, the steps, the error. -/
structure O where
  mem : List UInt8
  res : Nat
  st : Nat
  steps : Nat
  err : Nat
def go (code : List I) : Nat → Nat → M → O
  | 0, _, _ => ⟨[], 0, 0, 0, 8⟩
  | f + 1, n, m => match code[m.pc]? with
    | none => ⟨[], 0, 0, 0, 8⟩
    | some x => if x.op = 0 then ⟨m.mem, rg m 0, x.k, n + 1, 0⟩ else match step x m with
      | none => ⟨[], 0, 0, 0, 7⟩
      | some m' => go code f (n + 1) m'
/-- Registers are sixteen words; the next instruction is there. -/
structure OkM (n : Nat) (m : M) : Prop where
  sixteen : m.reg.length = 16
  words : ∀ x ∈ m.reg, x < W32
  here : m.pc < n
def start (mem : List UInt8) (a b c : Nat) : M := ⟨[a, b, c, 0, 0, 0, 0, 0, 0, 0, 0, 0, 0, 0, 0, 0], mem, 0⟩
def Word (n : Int) : Prop := 0 ≤ n ∧ n ≤ 4294967295
instance (n : Int) : Decidable (Word n) := by unfold Word; infer_instance
def runOf (lc mem : List UInt8) (a b c fuel : Int) : O :=
  if ¬ IsCode lc then ⟨[], 0, 0, 0, 4⟩ else if 2048 < mem.length then ⟨[], 0, 0, 0, 5⟩
  else if ¬ (Word a ∧ Word b ∧ Word c ∧ 0 ≤ fuel ∧ fuel ≤ 20000) then ⟨[], 0, 0, 0, 6⟩
  else go (codeOf lc) fuel.toNat 0 (start mem a.toNat b.toNat c.toNat)

theorem rg_lt {n : Nat} {m : M} (h : OkM n m) (i : Nat) : rg m i < W32 := by
  unfold rg
  cases hi : m.reg[i]? with
  | none => simp [W32]
  | some x => exact h.words x (List.mem_of_getElem? hi)
theorem reck_lt (x : I) (a b : Nat) (hk : x.k < W32) (ha : a < W32) (hb : b < W32) : reck x a b < W32 := by
  unfold reck
  have h0 : 0 < W32 := by decide
  split
  · exact hk
  · split
    · exact hb
    · split
      · exact Nat.mod_lt _ h0
      · split
        · exact Nat.mod_lt _ h0
        · split
          · exact Nat.mod_lt _ h0
          · split
            · exact Nat.lt_of_le_of_lt Nat.and_le_left ha
            · split
              · exact Nat.xor_lt_two_pow (n := 32) ha hb
              · exact Nat.lt_of_le_of_lt (Nat.shiftRight_le _ _) hb
theorem step_ok {l : List UInt8} (hc : IsCode l) {i : Nat} (hi : i < l.length / 5) {m m' : M} (hm : OkM (l.length / 5) m) (hpc : m.pc = i) (h0 : (insAt l i).op ≠ 0) (h : step (insAt l i) m = some m') : OkM (l.length / 5) m' := by
  obtain ⟨ho, ha, hb, hk, h8⟩ := hc.all i hi
  have hkl : (insAt l i).k < W32 := by
    have h3 := byteAt_lt l (5 * i + 3); have h4 := byteAt_lt l (5 * i + 4)
    simp only [insAt, W32]; omega
  have hnext : (insAt l i).op ≠ 11 → i + 1 < l.length / 5 := by
    intro h11
    rcases Nat.lt_or_ge (i + 1) (l.length / 5) with h | h
    · exact h
    · exfalso
      have hl := hc.last
      rw [show l.length / 5 - 1 = i by omega] at hl
      rcases hl with hl | hl
      · exact h0 hl
      · exact h11 hl
  unfold step at h
  split at h
  · rename_i h11
    cases h
    refine ⟨hm.sixteen, hm.words, ?_⟩
    show (if goB _ _ _ = true then _ else m.pc + 1) < _
    split
    · exact hk h11
    · rename_i hg
      rw [hpc]
      refine hnext (fun e => hg ?_)
      rw [e]; rfl
  · rename_i h11
    have hn := hnext (by omega)
    split at h
    · split at h
      · rename_i c hcc
        cases h
        refine ⟨by simp [hm.sixteen], ?_, by show m.pc + 1 < _; omega⟩
        intro x hx
        rcases List.mem_or_eq_of_mem_set hx with hx | hx
        · exact hm.words x hx
        · rw [hx]; have := UInt8.toNat_lt c; simp only [W32]; omega
      · cases h
    · split at h
      · split at h
        · cases h
          exact ⟨hm.sixteen, hm.words, by show m.pc + 1 < _; omega⟩
        · cases h
      · cases h
        refine ⟨by simp [hm.sixteen], ?_, by show m.pc + 1 < _; omega⟩
        intro x hx
        rcases List.mem_or_eq_of_mem_set hx with hx | hx
        · exact hm.words x hx
        · rw [hx]; exact reck_lt _ _ _ hkl (rg_lt hm _) (rg_lt hm _)
theorem step_mem {x : I} {m m' : M} (h : step x m = some m') : m'.mem.length = m.mem.length := by
  unfold step at h
  split at h
  · cases h; rfl
  · split at h
    · split at h
      · cases h; rfl
      · cases h
    · split at h
      · split at h
        · cases h; simp
        · cases h
      · cases h; rfl
theorem start_ok (mem : List UInt8) (a b c n : Nat) (ha : a < W32) (hb : b < W32) (hc : c < W32) (hn : 1 ≤ n) : OkM n (start mem a b c) := by
  refine ⟨rfl, ?_, hn⟩
  intro x hx
  simp only [start, List.mem_cons, List.not_mem_nil, or_false] at hx
  have h0 : 0 < W32 := by decide
  rcases hx with rfl | rfl | rfl | rfl | rfl | rfl | rfl | rfl | rfl | rfl | rfl | rfl | rfl | rfl | rfl | rfl <;> assumption
end P
end Go.Proofs.YtghggcehloiemabGreatDoor
namespace Go.Proofs.YtghggcehloiemabGreatDoor
namespace P
/-- The instruction can be reached. -/
inductive Reach (c : List I) : Nat → Prop
  | zero : Reach c 0
  | go {i : Nat} {x : I} : Reach c i → c[i]? = some x → 11 ≤ x.op → Reach c x.k
  | next {i : Nat} {x : I} : Reach c i → c[i]? = some x → ¬ Ends x → Reach c (i + 1)
/-- How many of the first k are true. -/
def cnt (fl : List Bool) (k : Nat) : Nat := (fl.take k).countP id
def turned (fl : List Bool) (x : I) : I := if 11 ≤ x.op then { x with k := cnt fl x.k } else x
def trimUp (fl : List Bool) : List I → List Bool → List I
  | x :: c, b :: r => if b then turned fl x :: trimUp fl c r else trimUp fl c r
  | _, _ => []
def trimList (c : List I) (fl : List Bool) : List I := trimUp fl c fl
def bytesI (x : I) : List UInt8 := [UInt8.ofNat x.op, UInt8.ofNat x.a, UInt8.ofNat x.b, UInt8.ofNat x.k, UInt8.ofNat (x.k / 256)]
def text (c : List I) : List UInt8 := c.flatMap bytesI
structure CodeL (c : List I) : Prop where
  one : 1 ≤ c.length
  few : c.length ≤ 800
  all : ∀ (i : Nat) (x : I), c[i]? = some x → OkI c.length x
  last : ∀ x : I, c[c.length - 1]? = some x → Ends x
structure Small (x : I) : Prop where
  op : x.op < 256
  a : x.a < 256
  b : x.b < 256
  k : x.k < 65536

theorem text_length (c : List I) : (text c).length = 5 * c.length := by
  induction c with
  | nil => rfl
  | cons x c ih => simp only [text, List.flatMap_cons, List.length_append, List.length_cons] at *; rw [ih]; simp [bytesI]; omega
theorem text_cons (x : I) (c : List I) : text (x :: c) = bytesI x ++ text c := by simp [text]
theorem text_append (a b : List I) : text (a ++ b) = text a ++ text b := by simp [text]
theorem text_byte (c : List I) : ∀ (i j : Nat) (x : I), c[i]? = some x → j < 5 → (text c)[5 * i + j]? = (bytesI x)[j]? := by
  induction c with
  | nil => intro i j x h; simp at h
  | cons y c ih =>
    intro i j x h hj
    rw [text_cons]
    have hl : (bytesI y).length = 5 := rfl
    cases i with
    | zero =>
      simp at h; subst h
      rw [List.getElem?_append_left (by omega)]; simp
    | succ i =>
      simp at h
      rw [List.getElem?_append_right (by omega), hl, show 5 * (i + 1) + j - 5 = 5 * i + j by omega]
      exact ih i j x h hj
theorem ofNat_toNat' {n : Nat} (h : n < 256) : (UInt8.ofNat n).toNat = n := by simp [Nat.mod_eq_of_lt h]
theorem insAt_text {c : List I} {i : Nat} {x : I} (h : c[i]? = some x) (hs : Small x) : insAt (text c) i = x := by
  have e := text_byte c i
  unfold insAt byteAt
  have e0 := e 0 x h (by omega); have e1 := e 1 x h (by omega); have e2 := e 2 x h (by omega); have e3 := e 3 x h (by omega); have e4 := e 4 x h (by omega)
  rw [Nat.add_zero] at e0
  rw [e0, e1, e2, e3, e4]
  obtain ⟨op, a, b, k⟩ := x
  simp only [bytesI, List.getElem?_cons_zero, List.getElem?_cons_succ, Option.getD_some]
  have hk := hs.k
  have h4 : k / 256 < 256 := by simp only at hk; omega
  rw [ofNat_toNat' hs.op, ofNat_toNat' hs.a, ofNat_toNat' hs.b, ofNat_toNat' h4]
  congr 1
  simp only [UInt8.toNat_ofNat']
  omega
theorem codeOf_text {c : List I} (hs : ∀ x ∈ c, Small x) : codeOf (text c) = c := by
  apply List.ext_getElem?
  intro i
  have hl := text_length c
  rcases Nat.lt_or_ge i c.length with h | h
  · rw [codeOf_get _ _ (by omega), List.getElem?_eq_getElem h, insAt_text (List.getElem?_eq_getElem h) (hs _ (List.getElem_mem h))]
  · rw [List.getElem?_eq_none h, List.getElem?_eq_none (by rw [codeOf_length]; omega)]
theorem okI_small {n : Nat} {x : I} (h : OkI n x) (hk : x.k < 65536) : Small x := ⟨by have := h.1; omega, by have := h.2.1; omega, by have := h.2.2.1; omega, hk⟩
theorem isCode_text {c : List I} (h : CodeL c) (hk : ∀ x ∈ c, x.k < 65536) : IsCode (text c) := by
  have hl := text_length c
  have h5 : (text c).length / 5 = c.length := by omega
  have hf := h.few
  have hs : ∀ (i : Nat) (x : I), c[i]? = Option.some x → insAt (text c) i = x := fun i x hx => insAt_text hx (okI_small (h.all i x hx) (hk x (List.mem_of_getElem? hx)))
  refine ⟨by omega, by rw [h5]; exact h.one, by rw [h5]; exact h.few, ?_, ?_⟩
  · intro i hi
    rw [h5] at hi ⊢
    rw [hs i _ (List.getElem?_eq_getElem hi)]
    exact h.all i _ (List.getElem?_eq_getElem hi)
  · rw [h5]
    have h1 := h.one
    have hlt : c.length - 1 < c.length := by omega
    rw [hs _ _ (List.getElem?_eq_getElem hlt)]
    exact h.last _ (List.getElem?_eq_getElem hlt)
theorem codeL_of {l : List UInt8} (h : IsCode l) : CodeL (codeOf l) := by
  have hl := codeOf_length l
  refine ⟨by rw [hl]; exact h.some, by rw [hl]; exact h.few, ?_, ?_⟩
  · intro i x hx
    have hi : i < l.length / 5 := by rw [← hl]; exact (List.getElem?_eq_some_iff.1 hx).1
    rw [codeOf_get l i hi] at hx
    cases hx
    rw [hl]; exact h.all i hi
  · intro x hx
    have h1 := h.some
    rw [hl, codeOf_get l _ (by omega)] at hx
    cases hx
    exact h.last
theorem codeOf_small (l : List UInt8) : ∀ x ∈ codeOf l, x.k < 65536 := by
  intro x hx
  simp only [codeOf, List.mem_map] at hx
  obtain ⟨i, _, rfl⟩ := hx
  have h3 := byteAt_lt l (5 * i + 3); have h4 := byteAt_lt l (5 * i + 4)
  simp only [insAt]; omega
theorem text_codeOf {l : List UInt8} (h : IsCode l) : text (codeOf l) = l := by
  have h5 := h.five
  have hl := text_length (codeOf l)
  rw [codeOf_length] at hl
  apply List.ext_getElem?
  intro j
  rcases Nat.lt_or_ge j l.length with hj | hj
  · have hi : j / 5 < l.length / 5 := by omega
    have e := text_byte (codeOf l) (j / 5) (j % 5) _ (codeOf_get l _ hi) (by omega)
    rw [show 5 * (j / 5) + j % 5 = j by omega] at e
    rw [e]
    have hb : ∀ q, UInt8.ofNat (byteAt l q) = l[q]?.getD 0 := fun q => by simp [byteAt]
    have key : j % 5 = 0 ∨ j % 5 = 1 ∨ j % 5 = 2 ∨ j % 5 = 3 ∨ j % 5 = 4 := by omega
    have lo : ∀ x y : Nat, UInt8.ofNat (x + y * 256) = UInt8.ofNat x := fun x y => by
      apply UInt8.toNat_inj.1; simp only [UInt8.toNat_ofNat']; omega
    have hi' : ∀ x y : Nat, x < 256 → (x + y * 256) / 256 = y := fun x y h => by omega
    have fin : ∀ q, q = j → some (l[q]?.getD 0) = l[j]? := fun q hq => by rw [hq, List.getElem?_eq_getElem hj]; rfl
    simp only [bytesI, insAt]
    rw [lo, hi' _ _ (byteAt_lt l _), hb, hb, hb, hb, hb]
    rcases key with h | h | h | h | h <;> rw [h] <;> simp only [List.getElem?_cons_zero, List.getElem?_cons_succ] <;> refine fin _ ?_ <;> omega
  · rw [List.getElem?_eq_none hj, List.getElem?_eq_none (by omega)]

/-! ### Counting -/
theorem cnt_zero (fl : List Bool) : cnt fl 0 = 0 := by simp [cnt]
theorem cnt_succ (fl : List Bool) (k : Nat) : cnt fl (k + 1) = cnt fl k + (if fl[k]? = some true then 1 else 0) := by
  unfold cnt
  rw [List.take_add_one, List.countP_append]
  cases h : fl[k]? with
  | none => simp
  | some b => cases b <;> simp
theorem cnt_mono (fl : List Bool) {i j : Nat} (h : i ≤ j) : cnt fl i ≤ cnt fl j := by
  induction j with
  | zero => rw [Nat.le_zero.1 h]; exact Nat.le_refl _
  | succ j ih =>
    rcases Nat.lt_or_ge i (j + 1) with hlt | hge
    · have := ih (by omega); rw [cnt_succ]; omega
    · rw [show i = j + 1 by omega]; exact Nat.le_refl _
theorem cnt_le (fl : List Bool) (k : Nat) : cnt fl k ≤ k := by
  induction k with
  | zero => rw [cnt_zero]; exact Nat.le_refl _
  | succ k ih => rw [cnt_succ]; split <;> omega
theorem cnt_cons (b : Bool) (fl : List Bool) (k : Nat) : cnt (b :: fl) (k + 1) = (if b then 1 else 0) + cnt fl k := by
  unfold cnt; rw [List.take_succ_cons, List.countP_cons]; cases b <;> simp [Nat.add_comm]

theorem trimUp_get (fl0 : List Bool) : ∀ (c : List I) (fl : List Bool) (i : Nat) (x : I), c[i]? = some x → fl[i]? = some true → (trimUp fl0 c fl)[cnt fl i]? = some (turned fl0 x) := by
  intro c
  induction c with
  | nil => intro fl i x h; simp at h
  | cons y c ih =>
    intro fl i x h hf
    cases fl with
    | nil => simp at hf
    | cons b fl =>
      cases i with
      | zero =>
        simp at h hf; subst h; subst hf
        rw [cnt_zero]; simp [trimUp]
      | succ i =>
        simp at h hf
        rw [cnt_cons]
        have := ih fl i x h hf
        cases b
        · simpa [trimUp] using this
        · simp only [trimUp, if_true, Nat.add_comm 1, List.getElem?_cons_succ]; exact this
theorem trimUp_from (fl0 : List Bool) : ∀ (c : List I) (fl : List Bool) (j : Nat) (y : I), (trimUp fl0 c fl)[j]? = some y → ∃ i x, c[i]? = some x ∧ fl[i]? = some true ∧ cnt fl i = j ∧ y = turned fl0 x := by
  intro c
  induction c with
  | nil => intro fl j y h; simp [trimUp] at h
  | cons z c ih =>
    intro fl j y h
    cases fl with
    | nil => simp [trimUp] at h
    | cons b fl =>
      cases b
      · simp only [trimUp, Bool.false_eq_true, if_false] at h
        obtain ⟨i, x, h1, h2, h3, h4⟩ := ih fl j y h
        exact ⟨i + 1, x, by simpa using h1, by simpa using h2, by rw [cnt_cons]; simpa using h3, h4⟩
      · simp only [trimUp, if_true] at h
        cases j with
        | zero => simp at h; exact ⟨0, z, rfl, rfl, cnt_zero _, h.symm⟩
        | succ j =>
          simp only [List.getElem?_cons_succ] at h
          obtain ⟨i, x, h1, h2, h3, h4⟩ := ih fl j y h
          exact ⟨i + 1, x, by simpa using h1, by simpa using h2, by rw [cnt_cons, h3]; simp [Nat.add_comm], h4⟩
theorem trimUp_length (fl0 : List Bool) : ∀ (c : List I) (fl : List Bool), c.length = fl.length → (trimUp fl0 c fl).length = cnt fl fl.length := by
  intro c
  induction c with
  | nil => intro fl h; cases fl with
    | nil => rfl
    | cons b fl => simp at h
  | cons z c ih =>
    intro fl h
    cases fl with
    | nil => simp at h
    | cons b fl =>
      simp at h
      have := ih fl h
      rw [List.length_cons, cnt_cons, ← this]
      cases b
      · simp [trimUp]
      · simp [trimUp, Nat.add_comm]

/-! ### What is trimmed -/
structure Flags (c : List I) (fl : List Bool) : Prop where
  len : fl.length = c.length
  just : ∀ i, i < c.length → (fl[i]? = some true ↔ Reach c i)
theorem Flags.only {c : List I} {fl fl' : List Bool} (h : Flags c fl) (h' : Flags c fl') : fl = fl' := by
  apply List.ext_getElem?
  intro i
  rcases Nat.lt_or_ge i c.length with hi | hi
  · have h1 : i < fl.length := by rw [h.len]; exact hi
    have h2 : i < fl'.length := by rw [h'.len]; exact hi
    have a := h.just i hi; have b := h'.just i hi
    rw [List.getElem?_eq_getElem h1] at a ⊢
    rw [List.getElem?_eq_getElem h2] at b ⊢
    have : fl[i] = true ↔ fl'[i] = true := by simpa using a.trans b.symm
    rw [Bool.eq_iff_iff.2 this]
  · rw [List.getElem?_eq_none (by rw [h.len]; exact hi), List.getElem?_eq_none (by rw [h'.len]; exact hi)]
theorem next_in {c : List I} (h : CodeL c) {i : Nat} {x : I} (hx : c[i]? = some x) (he : ¬ Ends x) : i + 1 < c.length := by
  have hi := (List.getElem?_eq_some_iff.1 hx).1
  rcases Nat.lt_or_ge (i + 1) c.length with hlt | hge
  · exact hlt
  · exact absurd (h.last x (by rw [show c.length - 1 = i by omega]; exact hx)) he
theorem reach_in {c : List I} (h : CodeL c) {i : Nat} (hr : Reach c i) : i < c.length := by
  cases hr with
  | zero => exact h.one
  | go hr hx h11 => exact (h.all _ _ hx).2.2.2.1 h11
  | next hr hx he => exact next_in h hx he
theorem Flags.on {c : List I} {fl : List Bool} (hf : Flags c fl) (h : CodeL c) {i : Nat} (hr : Reach c i) : fl[i]? = some true := (hf.just i (reach_in h hr)).2 hr
theorem turned_op (fl : List Bool) (x : I) : (turned fl x).op = x.op := by unfold turned; split <;> rfl
theorem turned_a (fl : List Bool) (x : I) : (turned fl x).a = x.a := by unfold turned; split <;> rfl
theorem turned_b (fl : List Bool) (x : I) : (turned fl x).b = x.b := by unfold turned; split <;> rfl
theorem turned_go {fl : List Bool} {x : I} (h : 11 ≤ x.op) : (turned fl x).k = cnt fl x.k := by unfold turned; rw [if_pos h]
theorem turned_other {fl : List Bool} {x : I} (h : ¬ 11 ≤ x.op) : turned fl x = x := by unfold turned; rw [if_neg h]
theorem trim_get {c : List I} {fl : List Bool} (h : CodeL c) (hf : Flags c fl) {i : Nat} {x : I} (hr : Reach c i) (hx : c[i]? = some x) : (trimList c fl)[cnt fl i]? = some (turned fl x) :=
  trimUp_get fl c fl i x hx (hf.on h hr)
theorem trim_from {c : List I} {fl : List Bool} (hf : Flags c fl) {j : Nat} {y : I} (hy : (trimList c fl)[j]? = some y) : ∃ i x, c[i]? = some x ∧ Reach c i ∧ cnt fl i = j ∧ y = turned fl x := by
  obtain ⟨i, x, h1, h2, h3, h4⟩ := trimUp_from fl c fl j y hy
  exact ⟨i, x, h1, (hf.just i ((List.getElem?_eq_some_iff.1 h1).1)).1 h2, h3, h4⟩
theorem cnt_next {fl : List Bool} {i : Nat} (h : fl[i]? = some true) : cnt fl (i + 1) = cnt fl i + 1 := by rw [cnt_succ, if_pos h]
theorem trim_length {c : List I} {fl : List Bool} (hf : Flags c fl) : (trimList c fl).length = cnt fl c.length := by
  unfold trimList; rw [trimUp_length fl c fl hf.len.symm, hf.len]
theorem cnt_lt_len {c : List I} {fl : List Bool} (h : CodeL c) (hf : Flags c fl) {i : Nat} (hr : Reach c i) : cnt fl i < (trimList c fl).length := by
  rw [trim_length hf]
  have := cnt_next (hf.on h hr)
  have h2 := cnt_mono fl (show i + 1 ≤ c.length from reach_in h hr)
  omega
theorem cnt_inj {c : List I} {fl : List Bool} (h : CodeL c) (hf : Flags c fl) {i j : Nat} (hi : Reach c i) (hj : Reach c j) (he : cnt fl i = cnt fl j) : i = j := by
  have a := cnt_next (hf.on h hi); have b := cnt_next (hf.on h hj)
  rcases Nat.lt_trichotomy i j with hl | hl | hl
  · have := cnt_mono fl (show i + 1 ≤ j from hl); omega
  · exact hl
  · have := cnt_mono fl (show j + 1 ≤ i from hl); omega
theorem trim_small {c : List I} {fl : List Bool} (hf : Flags c fl) (hk : ∀ x ∈ c, x.k < 65536) : ∀ y ∈ trimList c fl, y.k < 65536 := by
  intro y hy
  obtain ⟨j, hj⟩ := List.getElem?_of_mem hy
  obtain ⟨i, x, h1, h2, h3, rfl⟩ := trim_from hf hj
  have := hk x (List.mem_of_getElem? h1)
  by_cases h11 : 11 ≤ x.op
  · rw [turned_go h11]; have := cnt_le fl x.k; omega
  · rw [turned_other h11]; exact this
theorem trim_code {c : List I} {fl : List Bool} (h : CodeL c) (hf : Flags c fl) : CodeL (trimList c fl) := by
  have hlen := trim_length hf
  have hle := cnt_le fl c.length
  have h0 := cnt_lt_len h hf Reach.zero
  refine ⟨by omega, by have := h.few; omega, ?_, ?_⟩
  · intro j y hy
    obtain ⟨i, x, h1, h2, h3, rfl⟩ := trim_from hf hy
    obtain ⟨o1, o2, o3, o4, o5⟩ := h.all i x h1
    refine ⟨by rw [turned_op]; exact o1, by rw [turned_a]; exact o2, by rw [turned_b]; exact o3, ?_, ?_⟩
    · intro h11
      rw [turned_op] at h11
      rw [turned_go h11]
      exact cnt_lt_len h hf (Reach.go h2 h1 h11)
    · intro h8
      rw [turned_op] at h8
      rw [turned_other (by omega)]; exact o5 h8
  · intro y hy
    obtain ⟨i, x, h1, h2, h3, rfl⟩ := trim_from hf hy
    by_cases he : Ends x
    · unfold Ends at *; rw [turned_op]; exact he
    · exfalso
      have hr := Reach.next h2 h1 he
      have a := cnt_lt_len h hf hr
      have b := cnt_next (hf.on h h2)
      omega
theorem trim_reach {c : List I} {fl : List Bool} (h : CodeL c) (hf : Flags c fl) {i : Nat} (hr : Reach c i) : Reach (trimList c fl) (cnt fl i) := by
  induction hr with
  | zero => rw [cnt_zero]; exact Reach.zero
  | @go i x hr hx h11 ih =>
    have := Reach.go ih (trim_get h hf hr hx) (by rw [turned_op]; exact h11)
    rwa [turned_go h11] at this
  | @next i x hr hx he ih =>
    have := Reach.next ih (trim_get h hf hr hx) (by unfold Ends at *; rw [turned_op]; exact he)
    rw [cnt_next (hf.on h hr)]; exact this
theorem trim_all {c : List I} {fl fl' : List Bool} (h : CodeL c) (hf : Flags c fl) (hf' : Flags (trimList c fl) fl') : fl' = List.replicate (trimList c fl).length true := by
  apply List.ext_getElem?
  intro j
  rcases Nat.lt_or_ge j (trimList c fl).length with hj | hj
  · rw [List.getElem?_replicate, if_pos hj]
    obtain ⟨i, x, h1, h2, h3, _⟩ := trim_from hf (List.getElem?_eq_getElem hj)
    exact (hf'.just j hj).2 (by rw [← h3]; exact trim_reach h hf h2)
  · rw [List.getElem?_eq_none (by rw [hf'.len]; exact hj), List.getElem?_eq_none (by simpa using hj)]
theorem cnt_all (n k : Nat) (hk : k ≤ n) : cnt (List.replicate n true) k = k := by
  unfold cnt; rw [List.take_replicate, Nat.min_eq_left hk, List.countP_replicate]; simp
theorem trimUp_all (fl0 : List Bool) : ∀ (c : List I), trimUp fl0 c (List.replicate c.length true) = c.map (turned fl0) := by
  intro c
  induction c with
  | nil => rfl
  | cons x c ih => rw [List.length_cons, List.replicate_succ]; simp only [trimUp, if_true, List.map_cons]; rw [ih]
theorem trim_again {c : List I} {fl fl' : List Bool} (h : CodeL c) (hf : Flags c fl) (hf' : Flags (trimList c fl) fl') : trimList (trimList c fl) fl' = trimList c fl := by
  have hc := trim_code h hf
  rw [trim_all h hf hf']
  show trimUp _ (trimList c fl) _ = _
  rw [trimUp_all]
  apply List.ext_getElem?
  intro j
  rw [List.getElem?_map]
  cases hy : (trimList c fl)[j]? with
  | none => rfl
  | some y =>
    have ho := hc.all j y hy
    simp only [Option.map_some, Option.some.injEq]
    unfold turned
    split
    · rename_i h11
      rw [cnt_all _ _ (Nat.le_of_lt (ho.2.2.2.1 h11))]
    · rfl
/-! ### It runs alike -/
theorem trim_step {fl : List Bool} {x : I} {m : M} : step (turned fl x) { m with pc := cnt fl m.pc } = (if 11 ≤ x.op then some { m with pc := if goB x.op (rg m x.a) (rg m x.b) then cnt fl x.k else cnt fl m.pc + 1 } else (step x m).map (fun m' => { m' with pc := cnt fl m.pc + 1 })) := by
  by_cases h11 : 11 ≤ x.op
  · rw [if_pos h11]
    unfold step
    rw [turned_op, turned_a, turned_b, turned_go h11, if_pos h11]
    rfl
  · rw [if_neg h11, turned_other h11]
    unfold step
    rw [if_neg h11, if_neg h11]
    by_cases h9 : x.op = 9
    · rw [if_pos h9, if_pos h9]
      show (match m.mem[rg m x.b + x.k]? with | some c => _ | none => _) = _
      cases m.mem[rg m x.b + x.k]? with
      | none => rfl
      | some b => rfl
    · rw [if_neg h9, if_neg h9]
      by_cases h10 : x.op = 10
      · rw [if_pos h10, if_pos h10]
        show (if rg m x.b + x.k < m.mem.length then _ else _) = _
        split
        · rfl
        · rfl
      · rw [if_neg h10, if_neg h10]
        rfl
theorem step_pc {x : I} {m m' : M} (h : step x m = some m') (h11 : ¬ 11 ≤ x.op) : m'.pc = m.pc + 1 := by
  unfold step at h
  rw [if_neg h11] at h
  split at h
  · split at h
    · cases h; rfl
    · cases h
  · split at h
    · split at h
      · cases h; rfl
      · cases h
    · cases h; rfl
theorem trim_go {c : List I} {fl : List Bool} (h : CodeL c) (hf : Flags c fl) : ∀ (f n : Nat) (m : M), Reach c m.pc → go (trimList c fl) f n { m with pc := cnt fl m.pc } = go c f n m := by
  intro f
  induction f with
  | zero => intro n m _; rfl
  | succ f ih =>
    intro n m hr
    have hlt := reach_in h hr
    obtain ⟨x, hx⟩ : ∃ x, c[m.pc]? = some x := ⟨_, List.getElem?_eq_getElem hlt⟩
    have hy := trim_get h hf hr hx
    rw [go, go, hx]
    show (match (trimList c fl)[cnt fl m.pc]? with | none => _ | some x => _) = _
    rw [hy]
    simp only
    rw [turned_op]
    by_cases h0 : x.op = 0
    · rw [if_pos h0, if_pos h0, turned_other (by omega)]; rfl
    · rw [if_neg h0, if_neg h0, trim_step]
      have hn := cnt_next (hf.on h hr)
      by_cases h11 : 11 ≤ x.op
      · rw [if_pos h11]
        have hs : step x m = some { m with pc := if goB x.op (rg m x.a) (rg m x.b) then x.k else m.pc + 1 } := by unfold step; rw [if_pos h11]
        rw [hs]
        simp only
        by_cases hg : goB x.op (rg m x.a) (rg m x.b) = true
        · rw [if_pos hg, if_pos hg]
          exact ih (n + 1) { m with pc := x.k } (Reach.go hr hx h11)
        · rw [if_neg hg, if_neg hg, ← hn]
          refine ih (n + 1) { m with pc := m.pc + 1 } (Reach.next hr hx ?_)
          rintro (e | e)
          · exact h0 e
          · rw [e] at hg; exact hg rfl
      · rw [if_neg h11]
        cases hs : step x m with
        | none => rfl
        | some m' =>
          simp only [Option.map_some]
          have hp := step_pc hs h11
          rw [← hn, ← hp]
          refine ih (n + 1) m' ?_
          rw [hp]
          refine Reach.next hr hx ?_
          rintro (e | e)
          · exact h0 e
          · omega
end P
end Go.Proofs.YtghggcehloiemabGreatDoor
namespace Go.Proofs.YtghggcehloiemabGreatDoor
namespace P
/-- Of a reached instruction what it says may follow is reached. -/
def Closed (c : List I) (fl : List Bool) (i : Nat) : Prop := ∀ x, c[i]? = some x → fl[i]? = some true → (11 ≤ x.op → fl[x.k]? = some true) ∧ (¬ Ends x → fl[i + 1]? = some true)
theorem flags_of_closed {c : List I} {fl : List Bool} (hl : fl.length = c.length) (h0 : fl[0]? = some true) (hr : ∀ i : Nat, fl[i]? = some true → Reach c i) (hc : ∀ i, i < c.length → Closed c fl i) : Flags c fl := by
  refine ⟨hl, fun i _ => ⟨hr i, fun h => ?_⟩⟩
  induction h with
  | zero => exact h0
  | @go i x hr hx h11 ih =>
    have hi := (List.getElem?_eq_some_iff.1 hx).1
    exact (hc i hi x hx (ih hi)).1 h11
  | @next i x hr hx he ih =>
    have hi := (List.getElem?_eq_some_iff.1 hx).1
    exact (hc i hi x hx (ih hi)).2 he
theorem cnt_set (fl : List Bool) (n : Nat) (h : fl[n]? = some false) : cnt (fl.set n true) fl.length = cnt fl fl.length + 1 := by
  have key : ∀ (fl : List Bool) (n : Nat), fl[n]? = some false → (fl.set n true).countP id = fl.countP id + 1 := by
    intro fl
    induction fl with
    | nil => intro n h; simp at h
    | cons b fl ih =>
      intro n h
      cases n with
      | zero => simp at h; subst h; simp
      | succ n =>
        simp at h
        have := ih n h
        simp only [List.set_cons_succ, List.countP_cons]; omega
  unfold cnt
  rw [show (fl.set n true).take fl.length = fl.set n true from List.take_of_length_le (by simp), List.take_length]
  exact key fl n h
theorem set_keeps {fl : List Bool} {n i : Nat} (h : fl[i]? = some true) : (fl.set n true)[i]? = some true := by
  have hi := (List.getElem?_eq_some_iff.1 h).1
  rw [List.getElem?_set]
  split
  · rename_i e; rw [if_pos (by rw [e]; exact hi)]
  · exact h
theorem set_here {fl : List Bool} {n : Nat} (h : n < fl.length) : (fl.set n true)[n]? = some true := by rw [List.getElem?_set_self h]
theorem set_from {fl : List Bool} {n i : Nat} (h : (fl.set n true)[i]? = some true) : i = n ∨ fl[i]? = some true := by
  rw [List.getElem?_set] at h
  split at h
  · rename_i e; exact .inl e.symm
  · exact .inr h

/-- What the walker holds: the marks, and the queue. -/
structure Wk (c : List I) (fl : List Bool) (q : List Nat) : Prop where
  len : fl.length = c.length
  queue : ∀ j : Nat, fl[j]? = some true ↔ j ∈ q
  count : q.length = cnt fl c.length
  reach : ∀ j ∈ q, Reach c j
def marked (fl : List Bool) (n : Nat) : List Bool := if fl[n]? = some false then fl.set n true else fl
def queued (fl : List Bool) (q : List Nat) (n : Nat) : List Nat := if fl[n]? = some false then q ++ [n] else q
theorem Wk.start (c : List I) : Wk c (List.replicate c.length false) [] := by
  refine ⟨by simp, fun j => ?_, ?_, by simp⟩
  · simp [List.getElem?_replicate]
  · simp only [cnt, List.length_nil]
    rw [List.take_of_length_le (by simp), List.countP_replicate]; simp
theorem Wk.mark {c : List I} {fl : List Bool} {q : List Nat} {n : Nat} (h : Wk c fl q) (hr : Reach c n) (hn : n < c.length) : Wk c (marked fl n) (queued fl q n) ∧ n ∈ queued fl q n := by
  have hnl : n < fl.length := by rw [h.len]; exact hn
  unfold marked queued
  by_cases hf : fl[n]? = some false
  · rw [if_pos hf, if_pos hf]
    refine ⟨⟨by simp [h.len], fun j => ?_, ?_, ?_⟩, by simp⟩
    · rw [List.mem_append, List.mem_singleton, ← h.queue j]
      constructor
      · intro hj; rcases set_from hj with e | e
        · exact .inr e
        · exact .inl e
      · rintro (e | e)
        · exact set_keeps e
        · rw [e]; exact set_here hnl
    · have := cnt_set fl n hf
      rw [h.len] at this
      rw [this, List.length_append, h.count]; rfl
    · intro j hj
      rw [List.mem_append, List.mem_singleton] at hj
      rcases hj with e | e
      · exact h.reach j e
      · rw [e]; exact hr
  · rw [if_neg hf, if_neg hf]
    refine ⟨h, (h.queue n).1 ?_⟩
    rw [List.getElem?_eq_getElem hnl] at hf ⊢
    cases hb : fl[n]
    · rw [hb] at hf; exact absurd rfl hf
    · rfl
theorem queued_keeps {fl : List Bool} {q : List Nat} {n j i : Nat} (h : q[i]? = some j) : (queued fl q n)[i]? = some j := by
  unfold queued
  split
  · rw [List.getElem?_append_left (List.getElem?_eq_some_iff.1 h).1]; exact h
  · exact h
theorem queued_mem {fl : List Bool} {q : List Nat} {n j : Nat} (h : j ∈ q) : j ∈ queued fl q n := by
  unfold queued
  split
  · exact List.mem_append_left _ h
  · exact h
theorem Wk.few {c : List I} {fl : List Bool} {q : List Nat} (h : Wk c fl q) : q.length ≤ c.length := by
  rw [h.count]; exact cnt_le _ _
/-- What the first t of the queue say may follow is in the queue. -/
def Seen (c : List I) (q : List Nat) (t : Nat) : Prop := ∀ i j x, i < t → q[i]? = some j → c[j]? = some x → (11 ≤ x.op → x.k ∈ q) ∧ (¬ Ends x → j + 1 ∈ q)
theorem Wk.flags {c : List I} {fl : List Bool} {q : List Nat} (h : Wk c fl q) (h0 : 0 ∈ q) (hs : Seen c q q.length) : Flags c fl := by
  refine flags_of_closed h.len ((h.queue 0).2 h0) (fun i hi => h.reach i ((h.queue i).1 hi)) ?_
  intro i hi x hx hf
  obtain ⟨t, ht⟩ := List.getElem?_of_mem ((h.queue i).1 hf)
  have := hs t i x (List.getElem?_eq_some_iff.1 ht).1 ht hx
  exact ⟨fun h11 => (h.queue _).2 (this.1 h11), fun he => (h.queue _).2 (this.2 he)⟩
theorem Seen.zero (c : List I) (q : List Nat) : Seen c q 0 := fun _ _ _ hi => absurd hi (Nat.not_lt_zero _)
/-- One more of the queue. -/
theorem Seen.more {c : List I} {q q' : List Nat} {t j : Nat} {x : I} (h : Seen c q t) (ht : q[t]? = some j) (hx : c[j]? = some x) (hk : ∀ i : Nat, i < q.length → q'[i]? = q[i]?) (hm : ∀ z ∈ q, z ∈ q') (h1 : 11 ≤ x.op → x.k ∈ q') (h2 : ¬ Ends x → j + 1 ∈ q') : Seen c q' (t + 1) := by
  intro i j' x' hi hq hx'
  have htl := (List.getElem?_eq_some_iff.1 ht).1
  rw [hk i (by omega)] at hq
  rcases Nat.lt_or_ge i t with hlt | hge
  · have := h i j' x' hlt hq hx'
    exact ⟨fun a => hm _ (this.1 a), fun a => hm _ (this.2 a)⟩
  · have e : i = t := by omega
    subst e
    rw [ht] at hq; cases hq
    rw [hx] at hx'; cases hx'
    exact ⟨h1, h2⟩
/-- The new nplaces. -/
def nplaces (fl : List Bool) (n : Nat) : List Nat := (List.range n).map (cnt fl)
theorem nplaces_succ (fl : List Bool) (n : Nat) : nplaces fl (n + 1) = nplaces fl n ++ [cnt fl n] := by simp [nplaces, List.range_succ]
theorem nplaces_get {fl : List Bool} {n k : Nat} (h : k < n) : (nplaces fl n)[k]? = some (cnt fl k) := by simp [nplaces, h]
/-- The first n of the trimmed code. -/
def trimTo (fl : List Bool) (c : List I) (n : Nat) : List I := trimUp fl (c.take n) (fl.take n)
theorem trimUp_append (fl0 : List Bool) : ∀ (c : List I) (fl : List Bool) (x : I) (b : Bool), c.length = fl.length → trimUp fl0 (c ++ [x]) (fl ++ [b]) = trimUp fl0 c fl ++ (if b then [turned fl0 x] else []) := by
  intro c
  induction c with
  | nil => intro fl x b h; cases fl with
    | nil => cases b <;> simp [trimUp]
    | cons => simp at h
  | cons y c ih => intro fl x b h; cases fl with
    | nil => simp at h
    | cons d fl =>
      have := ih fl x b (by simpa using h)
      cases d <;> simp only [List.cons_append, trimUp, if_true, Bool.false_eq_true, if_false] <;> rw [this]
theorem trimTo_succ {fl : List Bool} {c : List I} {n : Nat} {x : I} {b : Bool} (hl : fl.length = c.length) (hx : c[n]? = some x) (hb : fl[n]? = some b) : trimTo fl c (n + 1) = trimTo fl c n ++ (if b then [turned fl x] else []) := by
  unfold trimTo
  rw [List.take_add_one, List.take_add_one, hx, hb]
  exact trimUp_append fl _ _ x b (by simp [hl])
theorem trimTo_all {fl : List Bool} {c : List I} (hl : fl.length = c.length) : trimTo fl c c.length = trimList c fl := by
  unfold trimTo trimList; rw [List.take_length, ← hl, List.take_length]
theorem trimUp_le (fl0 : List Bool) : ∀ (c : List I) (fl : List Bool), (trimUp fl0 c fl).length ≤ c.length := by
  intro c
  induction c with
  | nil => intro fl; simp [trimUp]
  | cons x c ih =>
    intro fl
    cases fl with
    | nil => simp [trimUp]
    | cons b fl =>
      have := ih fl
      cases b
      · simp only [trimUp, Bool.false_eq_true, if_false, List.length_cons]; omega
      · simp only [trimUp, if_true, List.length_cons]; omega
theorem trimTo_le (fl : List Bool) (c : List I) (n : Nat) : (trimTo fl c n).length ≤ n := by
  have := trimUp_le fl (c.take n) (fl.take n)
  rw [List.length_take] at this
  unfold trimTo; omega
theorem trimTo_zero (fl : List Bool) (c : List I) : trimTo fl c 0 = [] := by simp [trimTo, trimUp]
end P
end Go.Proofs.YtghggcehloiemabGreatDoor
