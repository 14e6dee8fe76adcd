import Derived.WalkKit
import Derived.WalkSpells
import Derived.WalkLawsBesides
import Derived.Test.YtghggcehloiemabGreatDoorRows
import Derived.Deep.QuietTactic
import Derived.BigQuiet
namespace Go.Proofs.YtghggcehloiemabGreatDoor
open Go.RowKit

/-- A cursor (alone or at the head of a reader or writer) at block b. -/
def Cur (w : World) (b : Nat) (s : ByteArray) (i : Nat) (v : Value) (T : TypeId) : Prop := w.heap[b]? = some (.cells #[.string s, .int .i64 i, v] T (0, 0))

/-- Nothing but block b has turned, and no block has come. -/
structure Only (b : Nat) (w w' : World) : Prop where
  os : w'.os = w.os
  tape : w'.tape = w.tape
  output : w'.output = w.output
  size : w'.heap.size = w.heap.size
  block : ∀ k, k ≠ b → w'.heap[k]? = w.heap[k]?

theorem Only.refl (b : Nat) (w : World) : Only b w w := ⟨rfl, rfl, rfl, rfl, fun _ _ => rfl⟩
theorem Only.trans {b : Nat} {w w1 w2 : World} (h : Only b w w1) (k : Only b w1 w2) : Only b w w2 :=
  ⟨k.os.trans h.os, k.tape.trans h.tape, k.output.trans h.output, k.size.trans h.size, fun j hj => (k.block j hj).trans (h.block j hj)⟩
theorem Only.drewN {b : Nat} {w w1 : World} (h : Only b w w1) (n : Nat) : Only b w (w1.drewN n) := ⟨h.os, h.tape, h.output, h.size, h.block⟩
theorem Only.setCell {b : Nat} {w w1 : World} (h : Only b w w1) (o : Nat) (u : Value) : Only b w (w1.setCell ⟨b, o, none⟩ u) :=
  ⟨h.os, h.tape, h.output, by simpa [World.setCell] using h.size, fun j hj => (Below.heap_setCell _ _ _ _ (by simpa using hj)).trans (h.block j hj)⟩
theorem Only.below {B b : Nat} {w w1 : World} (h : Only b w w1) (hB : B ≤ b) : Below B w w1 := ⟨h.os, h.tape, h.output, by rw [h.size]; exact Nat.le_refl _, fun k hk => h.block k (by omega)⟩

theorem Cur.c0 {w : World} {b : Nat} {s : ByteArray} {i : Nat} {v : Value} {T : TypeId} (h : Cur w b s i v T) : w.cell? ⟨b, 0, none⟩ = some (.string s) := by
  rw [cell_of_row w b 0 _ _ _ h]; rfl
theorem Cur.c1 {w : World} {b : Nat} {s : ByteArray} {i : Nat} {v : Value} {T : TypeId} (h : Cur w b s i v T) : w.cell? ⟨b, 1, none⟩ = some (.int .i64 i) := by
  rw [cell_of_row w b 1 _ _ _ h]; rfl
theorem Cur.c2 {w : World} {b : Nat} {s : ByteArray} {i : Nat} {v : Value} {T : TypeId} (h : Cur w b s i v T) : w.cell? ⟨b, 2, none⟩ = some v := by
  rw [cell_of_row w b 2 _ _ _ h]; rfl
theorem Cur.fz {w : World} {b : Nat} {s : ByteArray} {i : Nat} {v : Value} {T : TypeId} (h : Cur w b s i v T) (o : Nat) : w.frozen? ⟨b, o, none⟩ = false := by
  unfold Cur at h; simp [World.frozen?, h]
theorem Cur.lt {w : World} {b : Nat} {s : ByteArray} {i : Nat} {v : Value} {T : TypeId} (h : Cur w b s i v T) : b < w.heap.size := by
  rcases Nat.lt_or_ge b w.heap.size with hl | hl
  · exact hl
  · unfold Cur at h; rw [Array.getElem?_eq_none hl] at h; cases h
theorem Cur.drewN {w : World} {b : Nat} {s : ByteArray} {i : Nat} {v : Value} {T : TypeId} (h : Cur w b s i v T) (n : Nat) : Cur (w.drewN n) b s i v T := by
  unfold Cur at *; simpa using h
theorem Cur.set1 {w : World} {b : Nat} {s : ByteArray} {i : Nat} {v : Value} {T : TypeId} (h : Cur w b s i v T) (j : Nat) : Cur (w.setCell ⟨b, 1, none⟩ (.int .i64 j)) b s j v T := by
  unfold Cur at *
  simp [World.setCell, Array.getElem?_modify, h]
theorem Cur.set2 {w : World} {b : Nat} {s : ByteArray} {i : Nat} {v : Value} {T : TypeId} (h : Cur w b s i v T) (u : Value) : Cur (w.setCell ⟨b, 2, none⟩ u) b s i u T := by
  unfold Cur at *
  simp [World.setCell, Array.getElem?_modify, h]
theorem Cur.only {w w' : World} {b b' : Nat} {s : ByteArray} {i : Nat} {v : Value} {T : TypeId} (h : Cur w b s i v T) (ho : Only b' w w') (hne : b ≠ b') : Cur w' b s i v T := by
  unfold Cur at *; rw [ho.block b hne, h]

/-- Where the cursor stands. -/
def atOf (w : World) (b : Nat) : Nat := match w.cell? ⟨b, 1, none⟩ with
  | some (.int _ j) => j.toNat
  | _ => 0
theorem Cur.atOf {w : World} {b : Nat} {s : ByteArray} {i : Nat} {v : Value} {T : TypeId} (h : Cur w b s i v T) : atOf w b = i := by
  simp [Go.Proofs.YtghggcehloiemabGreatDoor.atOf, h.c1]

end Go.Proofs.YtghggcehloiemabGreatDoor
namespace Go.Proofs.YtghggcehloiemabGreatDoor.P

def isDig (c : UInt8) : Bool := decide (48 ≤ c.toNat) && decide (c.toNat ≤ 57)
def val (l : List UInt8) : Nat := l.foldl (fun n c => n * 10 + (c.toNat - 48)) 0
def digs (l : List UInt8) : List UInt8 := l.takeWhile isDig
def rdnum (most : Nat) (l : List UInt8) : Option (Nat × Nat) :=
  if digs l = [] ∨ (1 < (digs l).length ∧ (digs l).head? = some 48) ∨ most < val (digs l) then none else some (val (digs l), (digs l).length)

theorem val_nil : val [] = 0 := rfl
theorem val_snoc (l : List UInt8) (c : UInt8) : val (l ++ [c]) = val l * 10 + (c.toNat - 48) := by simp [val]
theorem le_foldl (r : List UInt8) : ∀ n : Nat, n ≤ r.foldl (fun n c => n * 10 + (c.toNat - 48)) n := by
  induction r with
  | nil => intro n; simp
  | cons c r ih => intro n; rw [List.foldl_cons]; exact Nat.le_trans (by omega) (ih _)
theorem val_le_append (l r : List UInt8) : val l ≤ val (l ++ r) := by
  unfold val; rw [List.foldl_append]; exact le_foldl r _
theorem val_take_le (l : List UInt8) (k : Nat) : val (l.take k) ≤ val l := by
  have h := val_le_append (l.take k) (l.drop k)
  rwa [List.take_append_drop] at h
theorem digs_next (l : List UInt8) : ∀ (k : Nat) (c : UInt8), k ≤ (digs l).length → l[k]? = some c → isDig c = true → (digs l)[k]? = some c := by
  induction l with
  | nil => intro k c _ h; simp at h
  | cons a l ih =>
    intro k c hk hc hd
    cases k with
    | zero =>
      simp at hc; subst hc
      simp [digs, hd]
    | succ k =>
      by_cases ha : isDig a = true
      · have e : digs (a :: l) = a :: digs l := by simp [digs, ha]
        rw [e] at hk ⊢
        simp at hk hc ⊢
        exact ih k c hk hc hd
      · have e : digs (a :: l) = [] := by simp [digs, ha]
        rw [e] at hk; simp at hk
theorem digs_stop (l : List UInt8) : ∀ (k : Nat), k ≤ (digs l).length → (∀ c, l[k]? = some c → isDig c = false) → k = (digs l).length := by
  induction l with
  | nil => intro k hk _; simp [digs] at hk ⊢; omega
  | cons a l ih =>
    intro k hk hc
    by_cases ha : isDig a = true
    · have e : digs (a :: l) = a :: digs l := by simp [digs, ha]
      rw [e] at hk ⊢
      cases k with
      | zero => have := hc a rfl; simp [ha] at this
      | succ k =>
        simp at hk ⊢
        exact ih k hk (fun c h => hc c (by simpa using h))
    · have e : digs (a :: l) = [] := by simp [digs, ha]
      rw [e] at hk ⊢; simp at hk ⊢; omega
theorem take_next {l : List UInt8} {k : Nat} {c : UInt8} (h : l[k]? = some c) : l.take (k + 1) = l.take k ++ [c] := by
  rw [List.take_add_one, h]; rfl
theorem digs_all (l : List UInt8) (c : UInt8) (h : c ∈ digs l) : isDig c = true := by
  induction l with
  | nil => simp [digs] at h
  | cons a l ih =>
    by_cases ha : isDig a = true
    · have e : digs (a :: l) = a :: digs l := by simp [digs, ha]
      rw [e] at h
      rcases List.mem_cons.1 h with rfl | h
      · exact ha
      · exact ih h
    · have e : digs (a :: l) = [] := by simp [digs, ha]
      rw [e] at h; simp at h

def NumInv (l : List UInt8) (most k n : Nat) : Prop := k ≤ (digs l).length ∧ n = val ((digs l).take k) ∧ n ≤ most ∧ (2 ≤ k → (digs l).head? ≠ some 48)

theorem numInv_start (l : List UInt8) (most : Nat) : NumInv l most 0 0 := ⟨Nat.zero_le _, by simp [val], Nat.zero_le _, by omega⟩
theorem val_pos_of_head {c : UInt8} {l : List UInt8} (hd : isDig c = true) (hc : c ≠ 48) : 0 < val (c :: l) := by
  have h := val_le_append [c] l
  have h1 : 48 < c.toNat := by
    simp [isDig] at hd
    rcases Nat.lt_or_ge 48 c.toNat with h | h
    · exact h
    · exact absurd (UInt8.toNat_inj.1 (by simp; omega)) hc
  have h2 : val [c] = c.toNat - 48 := by simp [val]
  simp at h; omega
theorem num_zero {l : List UInt8} {most k n : Nat} (h : NumInv l most k n) (hn : n = 0) (hk : 0 < k) : k = 1 ∧ (digs l).head? = some 48 := by
  obtain ⟨h1, h2, h3, h4⟩ := h
  cases hd : digs l with
  | nil => rw [hd] at h1; simp at h1; omega
  | cons c r =>
    have hdig : isDig c = true := digs_all l c (by rw [hd]; simp)
    by_cases hc : c = 48
    · subst hc
      refine ⟨?_, by simp⟩
      rcases Nat.lt_or_ge 1 k with hlt | hge
      · exact absurd (by simp [hd]) (h4 hlt)
      · omega
    · exfalso
      rw [hd] at h2
      obtain ⟨k', rfl⟩ : ∃ k', k = k' + 1 := ⟨k - 1, by omega⟩
      rw [List.take_succ_cons] at h2
      have := val_pos_of_head (l := r.take k') hdig hc
      omega
theorem num_bad1 {l : List UInt8} {most k n : Nat} {c : UInt8} (h : NumInv l most k n) (hc : l[k]? = some c) (hd : isDig c = true) (hn : n = 0) (hk : 0 < k) : rdnum most l = none := by
  obtain ⟨hk1, hh⟩ := num_zero h hn hk
  have hx := digs_next l k c h.1 hc hd
  have hlen : k < (digs l).length := (List.getElem?_eq_some_iff.1 hx).1
  unfold rdnum
  rw [if_pos (Or.inr (Or.inl ⟨by omega, hh⟩))]
theorem num_bad2 {l : List UInt8} {most k n : Nat} {c : UInt8} (h : NumInv l most k n) (hc : l[k]? = some c) (hd : isDig c = true) (hm : most < n * 10 + (c.toNat - 48)) : rdnum most l = none := by
  have hx := digs_next l k c h.1 hc hd
  have hv : val ((digs l).take (k + 1)) = n * 10 + (c.toNat - 48) := by rw [take_next hx, val_snoc, ← h.2.1]
  have hle := val_take_le (digs l) (k + 1)
  unfold rdnum
  rw [if_pos (Or.inr (Or.inr (by omega)))]
theorem num_ok {l : List UInt8} {most k n : Nat} {c : UInt8} (h : NumInv l most k n) (hc : l[k]? = some c) (hd : isDig c = true) (hz : ¬ (n = 0 ∧ 0 < k)) (hm : n * 10 + (c.toNat - 48) ≤ most) : NumInv l most (k + 1) (n * 10 + (c.toNat - 48)) := by
  have hx := digs_next l k c h.1 hc hd
  have hlen : k < (digs l).length := (List.getElem?_eq_some_iff.1 hx).1
  refine ⟨hlen, by rw [take_next hx, val_snoc, ← h.2.1], hm, fun h2 => ?_⟩
  rcases Nat.lt_or_ge k 2 with hk | hk
  · have hk1 : k = 1 := by omega
    subst hk1
    intro hh
    apply hz
    refine ⟨?_, by omega⟩
    have h21 := h.2.1
    cases hd' : digs l with
    | nil => rw [hd'] at hlen; simp at hlen
    | cons a r => rw [hd'] at hh h21; simp at hh; subst hh; simp [val] at h21; exact h21
  · exact h.2.2.2 hk
theorem num_stop0 {l : List UInt8} {most n : Nat} (h : NumInv l most 0 n) (hs : ∀ c, l[0]? = some c → isDig c = false) : rdnum most l = none := by
  have := digs_stop l 0 h.1 hs
  unfold rdnum
  rw [if_pos (Or.inl (List.length_eq_zero_iff.1 this.symm))]
theorem num_stop {l : List UInt8} {most k n : Nat} (h : NumInv l most k n) (hs : ∀ c, l[k]? = some c → isDig c = false) (hk : 0 < k) : rdnum most l = some (n, k) := by
  have hl := digs_stop l k h.1 hs
  obtain ⟨h1, h2, h3, h4⟩ := h
  rw [hl, List.take_length] at h2
  unfold rdnum
  rw [if_neg, ← h2, ← hl]
  rintro (he | ⟨h5, h6⟩ | h7)
  · rw [he] at hl; simp at hl; omega
  · exact h4 (by omega) h6
  · omega
theorem isDig_sub {c : UInt8} (h : isDig c = true) : 48 ≤ c.toNat ∧ c.toNat ≤ 57 := by simpa [isDig] using h

end Go.Proofs.YtghggcehloiemabGreatDoor.P
namespace Go.Proofs.YtghggcehloiemabGreatDoor
open Go.RowKit
set_option linter.unusedVariables false
set_option maxRecDepth 16000

def digB (c : Int) : Bool := decide (48 ≤ c) && decide (c ≤ 57)

set_option maxHeartbeats 400000 in
theorem isDigit_any (c : Int) (w : World) :
    Calls Tryz.prog 175 #[.int .u8 c] w fun e w' => e = .returned (.bool (digB c)) ∧ w' = w := by
  go_enter Tryz.func175, Tryz.ntmps175
  go_wp2
  all_goals go_ret
  · exact ⟨by simp [digB, *], rfl⟩
  · exact ⟨by rw [digB, decide_eq_false (by omega)]; rfl, rfl⟩
theorem isDigit_yes (c : Int) (w : World) (h : digB c = true) : Calls Tryz.prog 175 #[.int .u8 c] w fun e w' => e = .returned (.bool true) ∧ w' = w := by
  have := isDigit_any c w; rwa [h] at this
theorem isDigit_no (c : Int) (w : World) (h : digB c = false) : Calls Tryz.prog 175 #[.int .u8 c] w fun e w' => e = .returned (.bool false) ∧ w' = w := by
  have := isDigit_any c w; rwa [h] at this

set_option maxHeartbeats 400000 in
theorem skip_end (b i : Nat) (s : ByteArray) (m : Int) (w : World) (h0 : w.cell? ⟨b, 0, none⟩ = some (.string s)) (h1 : w.cell? ⟨b, 1, none⟩ = some (.int .i64 i)) (hi : s.size ≤ i) :
    Calls Tryz.prog 131 #[.pointer (some ⟨b, 0, none⟩), .int .u8 m] w fun e w' => e = .returned (.bool false) ∧ ∃ n, w' = w.drewN n := by
  have hd : decide ((s.size : Int) ≤ (i : Int)) = true := by simp; omega
  go_enter Tryz.func131, Tryz.ntmps131
  go_wp2_with fail
  go_quiet (fail)
  go_wp2
  go_ret
  exact ⟨rfl, _, rfl⟩

set_option maxHeartbeats 400000 in
theorem skip_else (b i : Nat) (s : ByteArray) (m : Int) (w : World) (h0 : w.cell? ⟨b, 0, none⟩ = some (.string s)) (h1 : w.cell? ⟨b, 1, none⟩ = some (.int .i64 i)) (hi : i < s.size)
    (hne : ((s[i].toNat : Int) != m) = true) :
    Calls Tryz.prog 131 #[.pointer (some ⟨b, 0, none⟩), .int .u8 m] w fun e w' => e = .returned (.bool false) ∧ ∃ n, w' = w.drewN n := by
  have hd : decide ((s.size : Int) ≤ (i : Int)) = false := by simp; omega
  go_enter Tryz.func131, Tryz.ntmps131
  go_wp2_with fail
  go_quiet (fail)
  go_wp2
  go_ret
  exact ⟨rfl, _, rfl⟩

set_option maxHeartbeats 400000 in
theorem skip_hit (b i : Nat) (s : ByteArray) (m : Int) (w : World) (h0 : w.cell? ⟨b, 0, none⟩ = some (.string s)) (h1 : w.cell? ⟨b, 1, none⟩ = some (.int .i64 i)) (hf : w.frozen? ⟨b, 1, none⟩ = false) (hi : i < s.size) (hm : s.size ≤ maxLen)
    (heq : ((s[i].toNat : Int) != m) = false) :
    Calls Tryz.prog 131 #[.pointer (some ⟨b, 0, none⟩), .int .u8 m] w fun e w' => e = .returned (.bool true) ∧ ∃ n, w' = (w.setCell ⟨b, 1, none⟩ (.int .i64 (i + 1 : Nat))).drewN n := by
  unfold maxLen at hm
  have hd : decide ((s.size : Int) ≤ (i : Int)) = false := by simp; omega
  go_enter Tryz.func131, Tryz.ntmps131
  go_wp2_with fail
  go_quiet (fail)
  go_wp2
  go_ret
  exact ⟨rfl, _, rfl⟩

/-- Does the mark stand at place i? -/
def hit (s : ByteArray) (i : Nat) (m : UInt8) : Bool := s.data.toList[i]? == some m

theorem get_of {s : ByteArray} {i : Nat} (hi : i < s.size) : s.data.toList[i]? = some s[i] := by
  have : i < s.data.toList.length := by simpa using hi
  rw [List.getElem?_eq_getElem this]; rfl
theorem get_none {s : ByteArray} {i : Nat} (hi : s.size ≤ i) : s.data.toList[i]? = none := by
  rw [List.getElem?_eq_none]; simpa using hi

theorem skip_yes {b i : Nat} {s : ByteArray} {m : UInt8} {w : World} {v : Value} {T : TypeId} (hc : Cur w b s i v T) (hm : s.size ≤ maxLen) (hh : hit s i m = true) :
    Calls Tryz.prog 131 #[.pointer (some ⟨b, 0, none⟩), .int .u8 m.toNat] w fun e w' => e = .returned (.bool true) ∧ i < s.size ∧ Cur w' b s (i + 1) v T ∧ Only b w w' := by
  have hi : i < s.size := by
    rcases Nat.lt_or_ge i s.size with h | h
    · exact h
    · simp [hit, get_none h] at hh
  have he : s[i] = m := by simpa [hit, get_of hi] using hh
  refine (skip_hit b i s m.toNat w hc.c0 hc.c1 (hc.fz 1) hi hm (by rw [he]; simp)).mono ?_
  rintro e w' ⟨rfl, n, rfl⟩
  exact ⟨rfl, hi, (hc.set1 (i + 1)).drewN n, ((Only.refl b w).setCell 1 _).drewN n⟩

theorem skip_no {b i : Nat} {s : ByteArray} {m : UInt8} {w : World} {v : Value} {T : TypeId} (hc : Cur w b s i v T) (hh : hit s i m = false) :
    Calls Tryz.prog 131 #[.pointer (some ⟨b, 0, none⟩), .int .u8 m.toNat] w fun e w' => e = .returned (.bool false) ∧ Cur w' b s i v T ∧ Only b w w' := by
  have key : Calls Tryz.prog 131 #[.pointer (some ⟨b, 0, none⟩), .int .u8 m.toNat] w fun e w' => e = .returned (.bool false) ∧ ∃ n, w' = w.drewN n := by
    rcases Nat.lt_or_ge i s.size with hi | hi
    · refine skip_else b i s m.toNat w hc.c0 hc.c1 hi ?_
      have he : s[i] ≠ m := by simpa [hit, get_of hi] using hh
      rw [bne_iff_ne]
      intro h
      exact he (UInt8.toNat_inj.1 (by exact_mod_cast h))
    · exact skip_end b i s m.toNat w hc.c0 hc.c1 hi
  refine key.mono ?_
  rintro e w' ⟨rfl, n, rfl⟩
  exact ⟨rfl, hc.drewN n, (Only.refl b w).drewN n⟩

set_option maxHeartbeats 400000 in
theorem ended_any {b i : Nat} {s : ByteArray} {w : World} {v : Value} {T : TypeId} (hc : Cur w b s i v T) :
    Calls Tryz.prog 88 #[.pointer (some ⟨b, 0, none⟩)] w fun e w' => e = .returned (.bool (decide (s.size ≤ i))) ∧ ∃ n, w' = w.drewN n := by
  have h0 := hc.c0
  have h1 := hc.c1
  clear hc
  go_enter Tryz.func88, Tryz.ntmps88
  go_wp2_with fail
  go_quiet (fail)
  go_wp2
  go_ret
  exact ⟨by simp, _, rfl⟩
end Go.Proofs.YtghggcehloiemabGreatDoor
