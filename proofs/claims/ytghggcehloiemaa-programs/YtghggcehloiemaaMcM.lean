import Derived.Test.YtghggcehloiemaaMcP
namespace Go.Proofs.Ytghggcehloiemaa
namespace P
/-- The machine: its registers, its memory, the instruction that comes next. -/
structure M where
  reg : List Nat
  mem : List UInt8
  pc : Nat
def rg (m : M) (i : Nat) : Nat := m.reg[i]?.getD 0
def W32 : Nat := 4294967296
/-- What register A becomes by the instructions 1 to 8. -/
def reck (x : I) (a b : Nat) : Nat :=
  if x.op = 1 then x.k else if x.op = 2 then b else if x.op = 3 then (a + b) % W32 else if x.op = 4 then (a + W32 - b) % W32 else if x.op = 5 then (a * b) % W32
  else if x.op = 6 then a &&& b else if x.op = 7 then a ^^^ b else b >>> x.k
/-- Does an instruction that says where to go on go there? -/
def goB (op a b : Nat) : Bool := if op = 12 then a == b else if op = 13 then a != b else if op = 14 then decide (a < b) else true
def step (x : I) (m : M) : Option M :=
  if 11 ≤ x.op then some { m with pc := if goB x.op (rg m x.a) (rg m x.b) then x.k else m.pc + 1 }
  else if x.op = 9 then (match m.mem[rg m x.b + x.k]? with
    | some c => some { m with reg := m.reg.set x.a c.toNat, pc := m.pc + 1 }
    | none => none)
  else if x.op = 10 then (if rg m x.b + x.k < m.mem.length then some { m with mem := m.mem.set (rg m x.b + x.k) (UInt8.ofNat (rg m x.a)), pc := m.pc + 1 } else none)
  else some { m with reg := m.reg.set x.a (reck x (rg m x.a) (rg m x.b)), pc := m.pc + 1 }
/-- What a run answers: the memory, the result, the status, the steps, the error. -/
structure O where
  mem : List UInt8
  res : Nat
  st : Nat
  steps : Nat
  err : Nat
def go (code : List I) : Nat → Nat → M → O
  | 0, _, _ => ⟨[], 0, 0, 0, 8⟩
  | f + 1, n, m => match code[m.pc]? with
    | none => ⟨[], 0, 0, 0, 8⟩
    | some x => if x.op = 0 then ⟨m.mem, rg m 0, x.k, n + 1, 0⟩ else match step x m with
      | none => ⟨[], 0, 0, 0, 7⟩
      | some m' => go code f (n + 1) m'
/-- Registers are sixteen words; the next instruction is there. -/
structure OkM (n : Nat) (m : M) : Prop where
  sixteen : m.reg.length = 16
  words : ∀ x ∈ m.reg, x < W32
  here : m.pc < n
def start (mem : List UInt8) (a b c : Nat) : M := ⟨[a, b, c, 0, 0, 0, 0, 0, 0, 0, 0, 0, 0, 0, 0, 0], mem, 0⟩
def Word (n : Int) : Prop := 0 ≤ n ∧ n ≤ 4294967295
instance (n : Int) : Decidable (Word n) := by unfold Word; infer_instance
def runOf (lc mem : List UInt8) (a b c fuel : Int) : O :=
  if ¬ IsCode lc then ⟨[], 0, 0, 0, 4⟩ else if 2048 < mem.length then ⟨[], 0, 0, 0, 5⟩
  else if ¬ (Word a ∧ Word b ∧ Word c ∧ 0 ≤ fuel ∧ fuel ≤ 20000) then ⟨[], 0, 0, 0, 6⟩
  else go (codeOf lc) fuel.toNat 0 (start mem a.toNat b.toNat c.toNat)

theorem rg_lt {n : Nat} {m : M} (h : OkM n m) (i : Nat) : rg m i < W32 := by
  unfold rg
  cases hi : m.reg[i]? with
  | none => simp [W32]
  | some x => exact h.words x (List.mem_of_getElem? hi)
theorem reck_lt (x : I) (a b : Nat) (hk : x.k < W32) (ha : a < W32) (hb : b < W32) : reck x a b < W32 := by
  unfold reck
  have h0 : 0 < W32 := by decide
  split
  · exact hk
  · split
    · exact hb
    · split
      · exact Nat.mod_lt _ h0
      · split
        · exact Nat.mod_lt _ h0
        · split
          · exact Nat.mod_lt _ h0
          · split
            · exact Nat.lt_of_le_of_lt Nat.and_le_left ha
            · split
              · exact Nat.xor_lt_two_pow (n := 32) ha hb
              · exact Nat.lt_of_le_of_lt (Nat.shiftRight_le _ _) hb
theorem step_ok {l : List UInt8} (hc : IsCode l) {i : Nat} (hi : i < l.length / 5) {m m' : M} (hm : OkM (l.length / 5) m) (hpc : m.pc = i) (h0 : (insAt l i).op ≠ 0) (h : step (insAt l i) m = some m') : OkM (l.length / 5) m' := by
  obtain ⟨ho, ha, hb, hk, h8⟩ := hc.all i hi
  have hkl : (insAt l i).k < W32 := by
    have h3 := byteAt_lt l (5 * i + 3); have h4 := byteAt_lt l (5 * i + 4)
    simp only [insAt, W32]; omega
  have hnext : (insAt l i).op ≠ 11 → i + 1 < l.length / 5 := by
    intro h11
    rcases Nat.lt_or_ge (i + 1) (l.length / 5) with h | h
    · exact h
    · exfalso
      have hl := hc.last
      rw [show l.length / 5 - 1 = i by omega] at hl
      rcases hl with hl | hl
      · exact h0 hl
      · exact h11 hl
  unfold step at h
  split at h
  · rename_i h11
    cases h
    refine ⟨hm.sixteen, hm.words, ?_⟩
    show (if goB _ _ _ = true then _ else m.pc + 1) < _
    split
    · exact hk h11
    · rename_i hg
      rw [hpc]
      refine hnext (fun e => hg ?_)
      rw [e]; rfl
  · rename_i h11
    have hn := hnext (by omega)
    split at h
    · split at h
      · rename_i c hcc
        cases h
        refine ⟨by simp [hm.sixteen], ?_, by show m.pc + 1 < _; omega⟩
        intro x hx
        rcases List.mem_or_eq_of_mem_set hx with hx | hx
        · exact hm.words x hx
        · rw [hx]; have := UInt8.toNat_lt c; simp only [W32]; omega
      · cases h
    · split at h
      · split at h
        · cases h
          exact ⟨hm.sixteen, hm.words, by show m.pc + 1 < _; omega⟩
        · cases h
      · cases h
        refine ⟨by simp [hm.sixteen], ?_, by show m.pc + 1 < _; omega⟩
        intro x hx
        rcases List.mem_or_eq_of_mem_set hx with hx | hx
        · exact hm.words x hx
        · rw [hx]; exact reck_lt _ _ _ hkl (rg_lt hm _) (rg_lt hm _)
theorem step_mem {x : I} {m m' : M} (h : step x m = some m') : m'.mem.length = m.mem.length := by
  unfold step at h
  split at h
  · cases h; rfl
  · split at h
    · split at h
      · cases h; rfl
      · cases h
    · split at h
      · split at h
        · cases h; simp
        · cases h
      · cases h; rfl
theorem start_ok (mem : List UInt8) (a b c n : Nat) (ha : a < W32) (hb : b < W32) (hc : c < W32) (hn : 1 ≤ n) : OkM n (start mem a b c) := by
  refine ⟨rfl, ?_, hn⟩
  intro x hx
  simp only [start, List.mem_cons, List.not_mem_nil, or_false] at hx
  have h0 : 0 < W32 := by decide
  rcases hx with rfl | rfl | rfl | rfl | rfl | rfl | rfl | rfl | rfl | rfl | rfl | rfl | rfl | rfl | rfl | rfl <;> assumption
end P
end Go.Proofs.Ytghggcehloiemaa
