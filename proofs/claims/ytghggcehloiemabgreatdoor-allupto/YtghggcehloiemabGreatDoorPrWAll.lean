import Derived.Test.YtghggcehloiemabGreatDoorMcTW3
namespace Go.Proofs.YtghggcehloiemabGreatDoor
open Go.RowKit
set_option linter.unusedVariables false
set_option maxRecDepth 16000

namespace P
/-- What a Writer holds: the instructions (a label in K where one says where to go on), and what the labels tell. -/
structure W where
  list : List I
  places : List Nat
def W.put (s : W) (op a b k : Nat) : W := { s with list := s.list ++ [⟨op, a, b, k⟩] }
def W.here (s : W) (l : Nat) : W := { s with places := s.places.set l s.list.length }
def W.start : W := ⟨[], List.replicate 16 0⟩
end P

def woCells (kv vv : Value) (sl : Nat) (lv : Value) (places : List Nat) : Array Value := ([kv, vv, .int .i64 sl, lv] ++ places.map natV).toArray
/-- The writer of a program at block b: its plan, the instructions, the labels. -/
structure Wo (w : World) (b : Nat) (kv vv : Value) (sl : Nat) (s : P.W) (lv : Value) : Prop where
  blk : w.heap[b]? = some (.cells (woCells kv vv sl lv s.places) 110 (0, 0))
  own : w.ownsRow (b + 1) 112 4 lv s.list.length (codeCells s.list)
  sixteen : s.places.length = 16
theorem Wo.lt {w : World} {b sl : Nat} {kv vv lv : Value} {s : P.W} (h : Wo w b kv vv sl s lv) : b < w.heap.size := m_blk_lt h.blk
theorem Wo.c0 {w : World} {b sl : Nat} {kv vv lv : Value} {s : P.W} (h : Wo w b kv vv sl s lv) : w.cell? ⟨b, 0, none⟩ = some kv := by rw [cell_of_row _ _ _ _ _ _ h.blk]; rfl
theorem Wo.c1 {w : World} {b sl : Nat} {kv vv lv : Value} {s : P.W} (h : Wo w b kv vv sl s lv) : w.cell? ⟨b, 1, none⟩ = some vv := by rw [cell_of_row _ _ _ _ _ _ h.blk]; rfl
theorem Wo.c2 {w : World} {b sl : Nat} {kv vv lv : Value} {s : P.W} (h : Wo w b kv vv sl s lv) : w.cell? ⟨b, 2, none⟩ = some (.int .i64 sl) := by rw [cell_of_row _ _ _ _ _ _ h.blk]; rfl
theorem Wo.c3 {w : World} {b sl : Nat} {kv vv lv : Value} {s : P.W} (h : Wo w b kv vv sl s lv) : w.cell? ⟨b, 3, none⟩ = some lv := by rw [cell_of_row _ _ _ _ _ _ h.blk]; rfl
theorem Wo.fz {w : World} {b sl : Nat} {kv vv lv : Value} {s : P.W} (h : Wo w b kv vv sl s lv) (o : Nat) : w.frozen? ⟨b, o, none⟩ = false := by simp [World.frozen?, h.blk]
theorem Wo.place {w : World} {b sl l p : Nat} {kv vv lv : Value} {s : P.W} (h : Wo w b kv vv sl s lv) (hp : s.places[l]? = some p) : w.cell? ⟨b, 4 + l, none⟩ = some (.int .i64 p) := by
  rw [cell_of_row _ _ _ _ _ _ h.blk]
  unfold woCells
  rw [Nat.add_comm]
  simp [hp, natV]
theorem Wo.hereSet {w : World} {b sl l : Nat} {kv vv lv : Value} {s : P.W} (h : Wo w b kv vv sl s lv) (hl : l < 16) : Wo (w.setCell ⟨b, 4 + l, none⟩ (.int .i64 s.list.length)) b kv vv sl (s.here l) lv := by
  refine ⟨?_, owns_set _ _ h.own, by simp [P.W.here, h.sixteen]⟩
  have e : (woCells kv vv sl lv s.places).setIfInBounds (4 + l) (.int .i64 s.list.length) = woCells kv vv sl lv (s.here l).places := by
    unfold woCells P.W.here
    apply Array.toList_inj.1
    rw [Array.toList_setIfInBounds, Nat.add_comm]
    simp [List.map_set, natV]
  simp [World.setCell, Array.getElem?_modify, h.blk, e]
theorem Wo.grow {w w3 : World} {b sl op x y k : Nat} {kv vv lv lv' : Value} {s : P.W} {o : Obj} (h : Wo w b kv vv sl s lv) (hg : (w.alloc o).grownBy w3 lv.ownBlock)
    (hown' : w3.ownsRow (b + 1) 112 4 lv' (s.list.length + 1) (codeCells s.list ++ insCells ⟨op, x, y, k⟩)) :
    Wo (w3.setCell ⟨b, 3, none⟩ lv') b kv vv sl (s.put op x y k) lv' ∧ Below b w (w3.setCell ⟨b, 3, none⟩ lv') ∧ w3.frozen? ⟨b, 3, none⟩ = false ∧ w3.cell? ⟨b, 3, none⟩ = some lv := by
  have hb3 := m_grown_blk h.own hg (Nat.lt_succ_self b) h.blk
  have hlb := h.lt
  refine ⟨⟨?_, ?_, h.sixteen⟩, ?_, by simp [World.frozen?, hb3], by rw [cell_of_row _ _ _ _ _ _ hb3]; rfl⟩
  · have e : (woCells kv vv sl lv s.places).setIfInBounds 3 lv' = woCells kv vv sl lv' s.places := by
      unfold woCells
      apply Array.toList_inj.1
      rw [Array.toList_setIfInBounds]; rfl
    simp [World.setCell, Array.getElem?_modify, hb3, e, P.W.put]
  · have := owns_set 3 lv' hown'
    have e : codeCells (s.put op x y k).list = codeCells s.list ++ insCells ⟨op, x, y, k⟩ := by
      unfold P.W.put
      rw [codeCells_append]; simp [codeCells]
    rw [e]
    have e2 : (s.put op x y k).list.length = s.list.length + 1 := by simp [P.W.put]
    rw [e2]; exact this
  · exact (Below.grown ((Below.refl b w).alloc (by omega) o) hg (by simp; omega) (fun j hj => by have := (h.own.lt _ hj).1; omega)).setCell (Nat.le_refl _) lv'

theorem Wo.drewn {w : World} {b sl : Nat} {kv vv lv : Value} {s : P.W} (h : Wo w b kv vv sl s lv) : Wo w.drew b kv vv sl s lv := ⟨h.blk, m_owns_of h.own (fun _ _ => rfl), h.sixteen⟩
set_option maxHeartbeats 1000000 in
theorem wwrite_any {w : World} {b sl : Nat} {kv vv lv : Value} {s : P.W} (op x y k : Nat) (h : Wo w b kv vv sl s lv) (hn : s.list.length ≤ 100000) :
    Calls Tryz.prog 142 #[.pointer (some ⟨b, 3, none⟩), .int .i64 op, .int .i64 x, .int .i64 y, .int .i64 k] w fun e w' => e = .returned (.tuple #[]) ∧ (∃ lv', Wo w' b kv vv sl (s.put op x y k) lv') ∧ Below b w w' := by
  obtain ⟨i0, hi0, hz0, hz1, hz2⟩ := info_parts Tryz.infoIns
  have c3 := h.c3
  have hbl := h.lt
  have H := hid_m h
  clear h
  go_enter Tryz.func142, Tryz.ntmps142
  go_wp2_with (first
    | (at_builtin; refine wpList_append_lies _ rfl _ _ 73 rfl (b + 1) 112 i0 (.agg #[.int .i64 0, .int .i64 0, .int .i64 0, .int .i64 0]) 4 32 Tryz.underlying73 hi0 hz0 hz1 hz2 rfl (by decide) lv s.list.length (codeCells s.list) rfl (H.out.own.alloc _) ⟨w.heap.size, 0, none⟩ 1 1 (insCells ⟨op, x, y, k⟩) rfl rfl (m_four_new _ _ _ _ _ _) (fun x hx => by simp [insCells] at hx; rcases hx with rfl | rfl | rfl | rfl <;> rfl) (by omega) (by unfold maxLen; omega) (by omega) (by simp; omega) _ rfl ?_; intro g cap w3 hown' hgrow hat hlt'
       obtain ⟨X1, X2, X3, X4⟩ := H.out.grow hgrow hown'))
  go_end0
  exact ⟨rfl, ⟨_, X1⟩, X2⟩
set_option maxHeartbeats 1000000 in
theorem where_any {w : World} {b sl : Nat} {kv vv lv : Value} {s : P.W} (l : Nat) (h : Wo w b kv vv sl s lv) (hl : l < 16) (hn : s.list.length ≤ 100000) :
    Calls Tryz.prog 101 #[.pointer (some ⟨b, 3, none⟩), .int .i64 l] w fun e w' => e = .returned (.tuple #[]) ∧ Wo w' b kv vv sl (s.here l) lv ∧ Below b w w' := by
  have c3 := h.c3
  obtain ⟨a, N, cap, rfl⟩ := m_owns_form h.own
  have hN : (N : Int) = s.list.length := by
    rcases h.own.2 with ⟨e, e2⟩ | ⟨g, cp, cur, e, _⟩
    · cases e; rw [e2]
    · cases e; rfl
  have l0 : (0 : Int) ≤ (l : Int) := Int.natCast_nonneg l
  have l1 : (l : Int) < 16 := by omega
  have l2 : ¬ (16 : Int) ≤ (l : Int) := by omega
  obtain ⟨p, hp⟩ : ∃ p, s.places[l]? = some p := ⟨_, List.getElem?_eq_getElem (by rw [h.sixteen]; exact hl)⟩
  have cp := h.place hp
  have zf := h.fz (4 + l)
  have HS := hid_m (h.hereSet hl)
  have HB : Hid (Below b w (w.setCell ⟨b, 4 + l, none⟩ (.int .i64 s.list.length))) := (Below.refl b w).setCell (Nat.le_refl _) _
  rw [← hN] at HS HB
  clear hp h hN
  go_enter Tryz.func101, Tryz.ntmps101
  go_wp2_with fail
  go_region
  go_wp2_with fail
  go_end0
  exact ⟨rfl, HS.out.drewn, drew_below HB.out⟩
set_option maxHeartbeats 1000000 in
theorem wend_any {w : World} {b sl : Nat} {kv vv lv : Value} {s : P.W} (k : Nat) (h : Wo w b kv vv sl s lv) (hn : s.list.length ≤ 100000) :
    Calls Tryz.prog 100 #[.pointer (some ⟨b, 3, none⟩), .int .i64 k] w fun e w' => e = .returned (.tuple #[]) ∧ (∃ lv', Wo w' b kv vv sl (s.put 0 0 0 k) lv') ∧ Below b w w' := by
  have H := hid_m (wwrite_any 0 0 0 k h hn)
  clear h
  go_enter Tryz.func100, Tryz.ntmps100
  go_wp2_with fail
  refine H.out.mono ?_
  rintro e w1 ⟨rfl, hw, hb⟩
  go_wp2_with fail
  go_end0
  exact ⟨rfl, hw, hb⟩
set_option maxHeartbeats 1000000 in
theorem wnumber_any {w : World} {b sl : Nat} {kv vv lv : Value} {s : P.W} (x : Nat) (k : Nat) (h : Wo w b kv vv sl s lv) (hn : s.list.length ≤ 100000) :
    Calls Tryz.prog 104 #[.pointer (some ⟨b, 3, none⟩), .int .i64 x, .int .i64 k] w fun e w' => e = .returned (.tuple #[]) ∧ (∃ lv', Wo w' b kv vv sl (s.put 1 x 0 k) lv') ∧ Below b w w' := by
  have H := hid_m (wwrite_any 1 x 0 k h hn)
  clear h
  go_enter Tryz.func104, Tryz.ntmps104
  go_wp2_with fail
  refine H.out.mono ?_
  rintro e w1 ⟨rfl, hw, hb⟩
  go_wp2_with fail
  go_end0
  exact ⟨rfl, hw, hb⟩
set_option maxHeartbeats 1000000 in
theorem wcopy_any {w : World} {b sl : Nat} {kv vv lv : Value} {s : P.W} (x : Nat) (y : Nat) (h : Wo w b kv vv sl s lv) (hn : s.list.length ≤ 100000) :
    Calls Tryz.prog 105 #[.pointer (some ⟨b, 3, none⟩), .int .i64 x, .int .i64 y] w fun e w' => e = .returned (.tuple #[]) ∧ (∃ lv', Wo w' b kv vv sl (s.put 2 x y 0) lv') ∧ Below b w w' := by
  have H := hid_m (wwrite_any 2 x y 0 h hn)
  clear h
  go_enter Tryz.func105, Tryz.ntmps105
  go_wp2_with fail
  refine H.out.mono ?_
  rintro e w1 ⟨rfl, hw, hb⟩
  go_wp2_with fail
  go_end0
  exact ⟨rfl, hw, hb⟩
set_option maxHeartbeats 1000000 in
theorem wadd_any {w : World} {b sl : Nat} {kv vv lv : Value} {s : P.W} (x : Nat) (y : Nat) (h : Wo w b kv vv sl s lv) (hn : s.list.length ≤ 100000) :
    Calls Tryz.prog 107 #[.pointer (some ⟨b, 3, none⟩), .int .i64 x, .int .i64 y] w fun e w' => e = .returned (.tuple #[]) ∧ (∃ lv', Wo w' b kv vv sl (s.put 3 x y 0) lv') ∧ Below b w w' := by
  have H := hid_m (wwrite_any 3 x y 0 h hn)
  clear h
  go_enter Tryz.func107, Tryz.ntmps107
  go_wp2_with fail
  refine H.out.mono ?_
  rintro e w1 ⟨rfl, hw, hb⟩
  go_wp2_with fail
  go_end0
  exact ⟨rfl, hw, hb⟩
set_option maxHeartbeats 1000000 in
theorem wsub_any {w : World} {b sl : Nat} {kv vv lv : Value} {s : P.W} (x : Nat) (y : Nat) (h : Wo w b kv vv sl s lv) (hn : s.list.length ≤ 100000) :
    Calls Tryz.prog 112 #[.pointer (some ⟨b, 3, none⟩), .int .i64 x, .int .i64 y] w fun e w' => e = .returned (.tuple #[]) ∧ (∃ lv', Wo w' b kv vv sl (s.put 4 x y 0) lv') ∧ Below b w w' := by
  have H := hid_m (wwrite_any 4 x y 0 h hn)
  clear h
  go_enter Tryz.func112, Tryz.ntmps112
  go_wp2_with fail
  refine H.out.mono ?_
  rintro e w1 ⟨rfl, hw, hb⟩
  go_wp2_with fail
  go_end0
  exact ⟨rfl, hw, hb⟩
set_option maxHeartbeats 1000000 in
theorem wmul_any {w : World} {b sl : Nat} {kv vv lv : Value} {s : P.W} (x : Nat) (y : Nat) (h : Wo w b kv vv sl s lv) (hn : s.list.length ≤ 100000) :
    Calls Tryz.prog 106 #[.pointer (some ⟨b, 3, none⟩), .int .i64 x, .int .i64 y] w fun e w' => e = .returned (.tuple #[]) ∧ (∃ lv', Wo w' b kv vv sl (s.put 5 x y 0) lv') ∧ Below b w w' := by
  have H := hid_m (wwrite_any 5 x y 0 h hn)
  clear h
  go_enter Tryz.func106, Tryz.ntmps106
  go_wp2_with fail
  refine H.out.mono ?_
  rintro e w1 ⟨rfl, hw, hb⟩
  go_wp2_with fail
  go_end0
  exact ⟨rfl, hw, hb⟩
set_option maxHeartbeats 1000000 in
theorem wload_any {w : World} {b sl : Nat} {kv vv lv : Value} {s : P.W} (x : Nat) (y : Nat) (k : Nat) (h : Wo w b kv vv sl s lv) (hn : s.list.length ≤ 100000) :
    Calls Tryz.prog 102 #[.pointer (some ⟨b, 3, none⟩), .int .i64 x, .int .i64 y, .int .i64 k] w fun e w' => e = .returned (.tuple #[]) ∧ (∃ lv', Wo w' b kv vv sl (s.put 9 x y k) lv') ∧ Below b w w' := by
  have H := hid_m (wwrite_any 9 x y k h hn)
  clear h
  go_enter Tryz.func102, Tryz.ntmps102
  go_wp2_with fail
  refine H.out.mono ?_
  rintro e w1 ⟨rfl, hw, hb⟩
  go_wp2_with fail
  go_end0
  exact ⟨rfl, hw, hb⟩
set_option maxHeartbeats 1000000 in
theorem wstore_any {w : World} {b sl : Nat} {kv vv lv : Value} {s : P.W} (x : Nat) (y : Nat) (k : Nat) (h : Wo w b kv vv sl s lv) (hn : s.list.length ≤ 100000) :
    Calls Tryz.prog 103 #[.pointer (some ⟨b, 3, none⟩), .int .i64 x, .int .i64 y, .int .i64 k] w fun e w' => e = .returned (.tuple #[]) ∧ (∃ lv', Wo w' b kv vv sl (s.put 10 x y k) lv') ∧ Below b w w' := by
  have H := hid_m (wwrite_any 10 x y k h hn)
  clear h
  go_enter Tryz.func103, Tryz.ntmps103
  go_wp2_with fail
  refine H.out.mono ?_
  rintro e w1 ⟨rfl, hw, hb⟩
  go_wp2_with fail
  go_end0
  exact ⟨rfl, hw, hb⟩
set_option maxHeartbeats 1000000 in
theorem wgo_any {w : World} {b sl : Nat} {kv vv lv : Value} {s : P.W} (k : Nat) (h : Wo w b kv vv sl s lv) (hn : s.list.length ≤ 100000) :
    Calls Tryz.prog 110 #[.pointer (some ⟨b, 3, none⟩), .int .i64 k] w fun e w' => e = .returned (.tuple #[]) ∧ (∃ lv', Wo w' b kv vv sl (s.put 11 0 0 k) lv') ∧ Below b w w' := by
  have H := hid_m (wwrite_any 11 0 0 k h hn)
  clear h
  go_enter Tryz.func110, Tryz.ntmps110
  go_wp2_with fail
  refine H.out.mono ?_
  rintro e w1 ⟨rfl, hw, hb⟩
  go_wp2_with fail
  go_end0
  exact ⟨rfl, hw, hb⟩
set_option maxHeartbeats 1000000 in
theorem wsame_any {w : World} {b sl : Nat} {kv vv lv : Value} {s : P.W} (x : Nat) (y : Nat) (k : Nat) (h : Wo w b kv vv sl s lv) (hn : s.list.length ≤ 100000) :
    Calls Tryz.prog 108 #[.pointer (some ⟨b, 3, none⟩), .int .i64 x, .int .i64 y, .int .i64 k] w fun e w' => e = .returned (.tuple #[]) ∧ (∃ lv', Wo w' b kv vv sl (s.put 12 x y k) lv') ∧ Below b w w' := by
  have H := hid_m (wwrite_any 12 x y k h hn)
  clear h
  go_enter Tryz.func108, Tryz.ntmps108
  go_wp2_with fail
  refine H.out.mono ?_
  rintro e w1 ⟨rfl, hw, hb⟩
  go_wp2_with fail
  go_end0
  exact ⟨rfl, hw, hb⟩
set_option maxHeartbeats 1000000 in
theorem wnotsame_any {w : World} {b sl : Nat} {kv vv lv : Value} {s : P.W} (x : Nat) (y : Nat) (k : Nat) (h : Wo w b kv vv sl s lv) (hn : s.list.length ≤ 100000) :
    Calls Tryz.prog 109 #[.pointer (some ⟨b, 3, none⟩), .int .i64 x, .int .i64 y, .int .i64 k] w fun e w' => e = .returned (.tuple #[]) ∧ (∃ lv', Wo w' b kv vv sl (s.put 13 x y k) lv') ∧ Below b w w' := by
  have H := hid_m (wwrite_any 13 x y k h hn)
  clear h
  go_enter Tryz.func109, Tryz.ntmps109
  go_wp2_with fail
  refine H.out.mono ?_
  rintro e w1 ⟨rfl, hw, hb⟩
  go_wp2_with fail
  go_end0
  exact ⟨rfl, hw, hb⟩
end Go.Proofs.YtghggcehloiemabGreatDoor
namespace Go.Proofs.YtghggcehloiemabGreatDoor
open Go.RowKit
set_option linter.unusedVariables false
set_option maxRecDepth 16000
namespace P
def W.task (s : W) (wanted label : Nat) : W := (s.put 1 7 0 wanted).put 12 0 7 label
def W.move (s : W) (to tp from_ fp : Nat) : W := (s.put 9 8 from_ fp).put 10 8 to tp
theorem W.put_len (s : W) (op a b k : Nat) : (s.put op a b k).list.length = s.list.length + 1 := by simp [W.put]
theorem W.here_len (s : W) (l : Nat) : (s.here l).list.length = s.list.length := rfl
theorem W.task_len (s : W) (wanted label : Nat) : (s.task wanted label).list.length = s.list.length + 1 + 1 := by simp [W.task, W.put]
theorem W.move_len (s : W) (to tp from_ fp : Nat) : (s.move to tp from_ fp).list.length = s.list.length + 1 + 1 := by simp [W.move, W.put]
def W.choose (s : W) : W := ((((((s.task 1 0).task 2 0).task 3 0).task 4 7).task 5 8).put 0 0 0 3)
def W.tell (s : W) : W := ((s.here 7).put 9 0 15 0).put 0 0 0 0
def W.empty (s : W) : W := ((s.here 8).put 10 15 15 0).put 0 0 0 0
def W.refuse (s : W) : W := (((s.here 9).put 0 0 0 1).here 10).put 0 0 0 2
end P
set_option maxHeartbeats 1000000 in
theorem ptask_any {w : World} {b sl : Nat} {kv vv lv : Value} {s : P.W} (wanted : Nat) (label : Nat) (h : Wo w b kv vv sl s lv) (hn : s.list.length ≤ 90000) :
    Calls Tryz.prog 99 #[.pointer (some ⟨b, 0, none⟩), .int .i64 wanted, .int .i64 label] w fun e w' => e = .returned (.tuple #[]) ∧ (∃ lv', Wo w' b kv vv sl (s.task wanted label) lv') ∧ Below b w w' := by
  have H := hid_m h
  have HB : Hid (Below b w w) := Below.refl _ _
  have HN := hid_m hn
  clear h hn
  go_enter Tryz.func99, Tryz.ntmps99
  go_wp2_with fail
  refine (wnumber_any 7 wanted H.out (by have := HN.out; (repeat (first | rw [P.W.put_len] | rw [P.W.here_len] | rw [P.W.task_len] | rw [P.W.move_len])); omega)).mono ?_
  rintro e w0 ⟨rfl, ⟨lv0, hw0⟩, hb0⟩
  have H0 := hid_m hw0
  have HB0 := hid_m (HB.out.trans hb0)
  clear hw0 hb0
  go_wp2_with fail
  refine (wsame_any 0 7 label H0.out (by have := HN.out; (repeat (first | rw [P.W.put_len] | rw [P.W.here_len] | rw [P.W.task_len] | rw [P.W.move_len])); omega)).mono ?_
  rintro e w1 ⟨rfl, ⟨lv1, hw1⟩, hb1⟩
  have H1 := hid_m hw1
  have HB1 := hid_m (HB0.out.trans hb1)
  clear hw1 hb1
  go_wp2_with fail
  go_end0
  exact ⟨rfl, ⟨_, H1.out⟩, HB1.out⟩
set_option maxHeartbeats 1000000 in
theorem pmove_any {w : World} {b sl : Nat} {kv vv lv : Value} {s : P.W} (to : Nat) (tp : Nat) (fr : Nat) (fp : Nat) (h : Wo w b kv vv sl s lv) (hn : s.list.length ≤ 90000) :
    Calls Tryz.prog 111 #[.pointer (some ⟨b, 0, none⟩), .int .i64 to, .int .i64 tp, .int .i64 fr, .int .i64 fp] w fun e w' => e = .returned (.tuple #[]) ∧ (∃ lv', Wo w' b kv vv sl (s.move to tp fr fp) lv') ∧ Below b w w' := by
  have H := hid_m h
  have HB : Hid (Below b w w) := Below.refl _ _
  have HN := hid_m hn
  clear h hn
  go_enter Tryz.func111, Tryz.ntmps111
  go_wp2_with fail
  refine (wload_any 8 fr fp H.out (by have := HN.out; (repeat (first | rw [P.W.put_len] | rw [P.W.here_len] | rw [P.W.task_len] | rw [P.W.move_len])); omega)).mono ?_
  rintro e w0 ⟨rfl, ⟨lv0, hw0⟩, hb0⟩
  have H0 := hid_m hw0
  have HB0 := hid_m (HB.out.trans hb0)
  clear hw0 hb0
  go_wp2_with fail
  refine (wstore_any 8 to tp H0.out (by have := HN.out; (repeat (first | rw [P.W.put_len] | rw [P.W.here_len] | rw [P.W.task_len] | rw [P.W.move_len])); omega)).mono ?_
  rintro e w1 ⟨rfl, ⟨lv1, hw1⟩, hb1⟩
  have H1 := hid_m hw1
  have HB1 := hid_m (HB0.out.trans hb1)
  clear hw1 hb1
  go_wp2_with fail
  go_end0
  exact ⟨rfl, ⟨_, H1.out⟩, HB1.out⟩
set_option maxHeartbeats 1000000 in
theorem pchoose_any {w : World} {b sl : Nat} {kv vv lv : Value} {s : P.W} (h : Wo w b kv vv sl s lv) (hn : s.list.length ≤ 80000) :
    Calls Tryz.prog 55 #[.pointer (some ⟨b, 0, none⟩)] w fun e w' => e = .returned (.tuple #[]) ∧ (∃ lv', Wo w' b kv vv sl s.choose lv') ∧ Below b w w' := by
  have H := hid_m h
  have HB : Hid (Below b w w) := Below.refl _ _
  have HN := hid_m hn
  clear h hn
  go_enter Tryz.func55, Tryz.ntmps55
  go_wp2_with fail
  refine (ptask_any 1 0 H.out (by have := HN.out; (repeat (first | rw [P.W.put_len] | rw [P.W.here_len] | rw [P.W.task_len] | rw [P.W.move_len])); omega)).mono ?_
  rintro e w0 ⟨rfl, ⟨lv0, hw0⟩, hb0⟩
  have H0 := hid_m hw0
  have HB0 := hid_m (HB.out.trans hb0)
  clear hw0 hb0
  go_wp2_with fail
  refine (ptask_any 2 0 H0.out (by have := HN.out; (repeat (first | rw [P.W.put_len] | rw [P.W.here_len] | rw [P.W.task_len] | rw [P.W.move_len])); omega)).mono ?_
  rintro e w1 ⟨rfl, ⟨lv1, hw1⟩, hb1⟩
  have H1 := hid_m hw1
  have HB1 := hid_m (HB0.out.trans hb1)
  clear hw1 hb1
  go_wp2_with fail
  refine (ptask_any 3 0 H1.out (by have := HN.out; (repeat (first | rw [P.W.put_len] | rw [P.W.here_len] | rw [P.W.task_len] | rw [P.W.move_len])); omega)).mono ?_
  rintro e w2 ⟨rfl, ⟨lv2, hw2⟩, hb2⟩
  have H2 := hid_m hw2
  have HB2 := hid_m (HB1.out.trans hb2)
  clear hw2 hb2
  go_wp2_with fail
  refine (ptask_any 4 7 H2.out (by have := HN.out; (repeat (first | rw [P.W.put_len] | rw [P.W.here_len] | rw [P.W.task_len] | rw [P.W.move_len])); omega)).mono ?_
  rintro e w3 ⟨rfl, ⟨lv3, hw3⟩, hb3⟩
  have H3 := hid_m hw3
  have HB3 := hid_m (HB2.out.trans hb3)
  clear hw3 hb3
  go_wp2_with fail
  refine (ptask_any 5 8 H3.out (by have := HN.out; (repeat (first | rw [P.W.put_len] | rw [P.W.here_len] | rw [P.W.task_len] | rw [P.W.move_len])); omega)).mono ?_
  rintro e w4 ⟨rfl, ⟨lv4, hw4⟩, hb4⟩
  have H4 := hid_m hw4
  have HB4 := hid_m (HB3.out.trans hb4)
  clear hw4 hb4
  go_wp2_with fail
  refine (wend_any 3 H4.out (by have := HN.out; (repeat (first | rw [P.W.put_len] | rw [P.W.here_len] | rw [P.W.task_len] | rw [P.W.move_len])); omega)).mono ?_
  rintro e w5 ⟨rfl, ⟨lv5, hw5⟩, hb5⟩
  have H5 := hid_m hw5
  have HB5 := hid_m (HB4.out.trans hb5)
  clear hw5 hb5
  go_wp2_with fail
  go_end0
  exact ⟨rfl, ⟨_, H5.out⟩, HB5.out⟩
set_option maxHeartbeats 1000000 in
theorem ptell_any {w : World} {b sl : Nat} {kv vv lv : Value} {s : P.W} (h : Wo w b kv vv sl s lv) (hn : s.list.length ≤ 80000) :
    Calls Tryz.prog 56 #[.pointer (some ⟨b, 0, none⟩)] w fun e w' => e = .returned (.tuple #[]) ∧ (∃ lv', Wo w' b kv vv sl s.tell lv') ∧ Below b w w' := by
  have H := hid_m h
  have HB : Hid (Below b w w) := Below.refl _ _
  have HN := hid_m hn
  clear h hn
  go_enter Tryz.func56, Tryz.ntmps56
  go_wp2_with fail
  refine (where_any 7 H.out (by decide) (by have := HN.out; (repeat (first | rw [P.W.put_len] | rw [P.W.here_len] | rw [P.W.task_len] | rw [P.W.move_len])); omega)).mono ?_
  rintro e w0 ⟨rfl, hw0, hb0⟩
  have H0 := hid_m hw0
  have HB0 := hid_m (HB.out.trans hb0)
  clear hw0 hb0
  go_wp2_with fail
  refine (wload_any 0 15 0 H0.out (by have := HN.out; (repeat (first | rw [P.W.put_len] | rw [P.W.here_len] | rw [P.W.task_len] | rw [P.W.move_len])); omega)).mono ?_
  rintro e w1 ⟨rfl, ⟨lv1, hw1⟩, hb1⟩
  have H1 := hid_m hw1
  have HB1 := hid_m (HB0.out.trans hb1)
  clear hw1 hb1
  go_wp2_with fail
  refine (wend_any 0 H1.out (by have := HN.out; (repeat (first | rw [P.W.put_len] | rw [P.W.here_len] | rw [P.W.task_len] | rw [P.W.move_len])); omega)).mono ?_
  rintro e w2 ⟨rfl, ⟨lv2, hw2⟩, hb2⟩
  have H2 := hid_m hw2
  have HB2 := hid_m (HB1.out.trans hb2)
  clear hw2 hb2
  go_wp2_with fail
  go_end0
  exact ⟨rfl, ⟨_, H2.out⟩, HB2.out⟩
set_option maxHeartbeats 1000000 in
theorem pempty_any {w : World} {b sl : Nat} {kv vv lv : Value} {s : P.W} (h : Wo w b kv vv sl s lv) (hn : s.list.length ≤ 80000) :
    Calls Tryz.prog 57 #[.pointer (some ⟨b, 0, none⟩)] w fun e w' => e = .returned (.tuple #[]) ∧ (∃ lv', Wo w' b kv vv sl s.empty lv') ∧ Below b w w' := by
  have H := hid_m h
  have HB : Hid (Below b w w) := Below.refl _ _
  have HN := hid_m hn
  clear h hn
  go_enter Tryz.func57, Tryz.ntmps57
  go_wp2_with fail
  refine (where_any 8 H.out (by decide) (by have := HN.out; (repeat (first | rw [P.W.put_len] | rw [P.W.here_len] | rw [P.W.task_len] | rw [P.W.move_len])); omega)).mono ?_
  rintro e w0 ⟨rfl, hw0, hb0⟩
  have H0 := hid_m hw0
  have HB0 := hid_m (HB.out.trans hb0)
  clear hw0 hb0
  go_wp2_with fail
  refine (wstore_any 15 15 0 H0.out (by have := HN.out; (repeat (first | rw [P.W.put_len] | rw [P.W.here_len] | rw [P.W.task_len] | rw [P.W.move_len])); omega)).mono ?_
  rintro e w1 ⟨rfl, ⟨lv1, hw1⟩, hb1⟩
  have H1 := hid_m hw1
  have HB1 := hid_m (HB0.out.trans hb1)
  clear hw1 hb1
  go_wp2_with fail
  refine (wend_any 0 H1.out (by have := HN.out; (repeat (first | rw [P.W.put_len] | rw [P.W.here_len] | rw [P.W.task_len] | rw [P.W.move_len])); omega)).mono ?_
  rintro e w2 ⟨rfl, ⟨lv2, hw2⟩, hb2⟩
  have H2 := hid_m hw2
  have HB2 := hid_m (HB1.out.trans hb2)
  clear hw2 hb2
  go_wp2_with fail
  go_end0
  exact ⟨rfl, ⟨_, H2.out⟩, HB2.out⟩
set_option maxHeartbeats 1000000 in
theorem prefuse_any {w : World} {b sl : Nat} {kv vv lv : Value} {s : P.W} (h : Wo w b kv vv sl s lv) (hn : s.list.length ≤ 80000) :
    Calls Tryz.prog 63 #[.pointer (some ⟨b, 0, none⟩)] w fun e w' => e = .returned (.tuple #[]) ∧ (∃ lv', Wo w' b kv vv sl s.refuse lv') ∧ Below b w w' := by
  have H := hid_m h
  have HB : Hid (Below b w w) := Below.refl _ _
  have HN := hid_m hn
  clear h hn
  go_enter Tryz.func63, Tryz.ntmps63
  go_wp2_with fail
  refine (where_any 9 H.out (by decide) (by have := HN.out; (repeat (first | rw [P.W.put_len] | rw [P.W.here_len] | rw [P.W.task_len] | rw [P.W.move_len])); omega)).mono ?_
  rintro e w0 ⟨rfl, hw0, hb0⟩
  have H0 := hid_m hw0
  have HB0 := hid_m (HB.out.trans hb0)
  clear hw0 hb0
  go_wp2_with fail
  refine (wend_any 1 H0.out (by have := HN.out; (repeat (first | rw [P.W.put_len] | rw [P.W.here_len] | rw [P.W.task_len] | rw [P.W.move_len])); omega)).mono ?_
  rintro e w1 ⟨rfl, ⟨lv1, hw1⟩, hb1⟩
  have H1 := hid_m hw1
  have HB1 := hid_m (HB0.out.trans hb1)
  clear hw1 hb1
  go_wp2_with fail
  refine (where_any 10 H1.out (by decide) (by have := HN.out; (repeat (first | rw [P.W.put_len] | rw [P.W.here_len] | rw [P.W.task_len] | rw [P.W.move_len])); omega)).mono ?_
  rintro e w2 ⟨rfl, hw2, hb2⟩
  have H2 := hid_m hw2
  have HB2 := hid_m (HB1.out.trans hb2)
  clear hw2 hb2
  go_wp2_with fail
  refine (wend_any 2 H2.out (by have := HN.out; (repeat (first | rw [P.W.put_len] | rw [P.W.here_len] | rw [P.W.task_len] | rw [P.W.move_len])); omega)).mono ?_
  rintro e w3 ⟨rfl, ⟨lv3, hw3⟩, hb3⟩
  have H3 := hid_m hw3
  have HB3 := hid_m (HB2.out.trans hb3)
  clear hw3 hb3
  go_wp2_with fail
  go_end0
  exact ⟨rfl, ⟨_, H3.out⟩, HB3.out⟩
end Go.Proofs.YtghggcehloiemabGreatDoor
namespace Go.Proofs.YtghggcehloiemabGreatDoor
open Go.RowKit
set_option linter.unusedVariables false
set_option maxRecDepth 16000
namespace P
def W.upTo (f : W → Nat → W) (s : W) : Nat → W
  | 0 => s
  | t + 1 => f (W.upTo f s t) t
def at_ (l : List Nat) (i : Nat) : Nat := l[i]?.getD 0
def W.lay (s : W) (kl : Nat) (vp : List Nat) : W := (W.upTo (fun s i => s.move 5 (kl + i) 2 (at_ vp i)) (s.here 5) vp.length).put 0 0 0 0
def W.give (s : W) (kl : Nat) (vp : List Nat) : W := (W.upTo (fun s i => s.move 2 (at_ vp i) 5 (kl + i)) (s.here 6) vp.length).put 0 0 0 0
def W.absent (s : W) (kp : List Nat) (sl : Nat) : W := (((((W.upTo (fun s i => s.move 5 i 1 (at_ kp i)) (((((s.here 3).put 1 7 0 2).put 13 0 7 9).put 1 7 0 sl).put 12 3 7 10) kp.length).put 1 7 0 1).put 3 3 7 0).put 10 3 15 0).put 11 0 0 5)
theorem upTo_len (f : W → Nat → W) (d : Nat) (hf : ∀ s i, (f s i).list.length = s.list.length + d) (s : W) (t : Nat) : (W.upTo f s t).list.length = s.list.length + d * t := by
  induction t with
  | zero => rfl
  | succ t ih => show (f (W.upTo f s t) t).list.length = _; rw [hf, ih, Nat.mul_succ]; omega
end P
/-- A row of places, below block b. -/
structure Kp (w : World) (b : Nat) (v : Value) (kp : List Nat) : Prop where
  own : ∃ base, w.ownsRow base 3 1 v kp.length (kp.map natV)
  low : ∀ g, v.ownBlock = some g → g < b
theorem Kp.on {w w' : World} {b : Nat} {v : Value} {kp : List Nat} (h : Kp w b v kp) (hb : Below b w w') : Kp w' b v kp := by
  obtain ⟨⟨base, ho⟩, hl⟩ := h
  exact ⟨⟨base, m_owns_of ho (fun g hg => hb.block g (hl g hg))⟩, hl⟩

set_option maxHeartbeats 4000000 in
theorem play_any {w : World} {b sl : Nat} {kv vv lv : Value} {s : P.W} (kp vp : List Nat) (h : Wo w b kv vv sl s lv) (hk : Kp w b kv kp) (hv : Kp w b vv vp) (hk1 : 1 ≤ kp.length) (hv1 : 1 ≤ vp.length) (hkl : kp.length ≤ 100) (hvl : vp.length ≤ 100) (hn : s.list.length ≤ 70000) :
    Calls Tryz.prog 61 #[.pointer (some ⟨b, 0, none⟩)] w fun e w' => e = .returned (.tuple #[]) ∧ (∃ lv', Wo w' b kv vv sl (s.lay kp.length vp) lv') ∧ Below b w w' := by
  obtain ⟨f, hf⟩ : ∃ f : P.W → Nat → P.W, (fun s i => s.move 5 (kp.length + i) 2 (P.at_ vp i)) = f := ⟨_, rfl⟩
  obtain ⟨s0, hs0⟩ : ∃ s0, s.here 5 = s0 := ⟨_, rfl⟩
  have hfl : ∀ t, (P.W.upTo f s0 t).list.length = s.list.length + 0 + 2 * t := fun t => by
    rw [← hf, P.upTo_len _ 2 (fun s i => by (repeat (first | rw [P.W.put_len] | rw [P.W.move_len]))), ← hs0]; (repeat (first | rw [P.W.put_len] | rw [P.W.here_len])); try omega
  have H := hid_m h
  have HB : Hid (Below b w w) := Below.refl _ _
  have HK := hid_m hk
  have HV := hid_m hv
  have HN := hid_m hn
  have HFE := hid_m hf
  have HFL := hid_m hfl
  have HS0 := hid_m hs0
  obtain ⟨bv, hov⟩ := hv.own
  obtain ⟨bk, hok⟩ := hk.own
  obtain ⟨gv, cv, hvv, _, _⟩ := hov.form hv1
  obtain ⟨gk, ck, hkv, _, _⟩ := hok.form hk1
  obtain ⟨nv, hnv⟩ : ∃ n, vp.length = n := ⟨_, rfl⟩
  obtain ⟨nk, hnk⟩ : ∃ n, kp.length = n := ⟨_, rfl⟩
  rw [hnv] at hvv hvl hv1
  rw [hnk] at hkv hkl hk1
  subst hvv
  subst hkv
  have HNV := hid_m hnv
  have HNK := hid_m hnk
  clear h hn hk hv hf hfl hs0 hov hok hnv hnk
  go_enter Tryz.func61, Tryz.ntmps61
  go_wp2_with fail
  refine (where_any 5 H.out (by decide) (by have := HN.out; (repeat (first | rw [P.W.put_len] | rw [P.W.here_len] | rw [P.W.task_len] | rw [P.W.move_len])); omega)).mono ?_
  rintro e wp0 ⟨rfl, hw, hb⟩
  have P0 := hid_m hw
  have PB0 := hid_m (HB.out.trans hb)
  have c0 := hw.c0
  have c1 := hw.c1
  have c2 := hw.c2
  clear hw hb
  go_wp2_with fail
  have HI0 := P0
  rw [HS0.out] at HI0
  go_loopw [14] (fun j wr => ∃ (t : Nat), t ≤ nv ∧ j = .int .i64 t ∧ Hid (∃ lv', Wo wr b (.slice (some ⟨gk, 0, none⟩) nk ck) (.slice (some ⟨gv, 0, none⟩) nv cv) sl (P.W.upTo f s0 t) lv') ∧ Hid (Below b w wr)) (fun j _ => nv - (intOf j).toNat)
  case atStart => exact ⟨0, Nat.zero_le _, rfl, ⟨_, HI0.out⟩, PB0.out⟩
  case round =>
    obtain ⟨t, ht, rfl, HL, HBR⟩ := hrel
    obtain ⟨lv', hl⟩ := HL.out
    have c0 := hl.c0
    by_cases hlt : t < nv
    · obtain ⟨p, hp⟩ : ∃ p, vp[t]? = some p := ⟨_, List.getElem?_eq_getElem (by have := HNV.out; omega)⟩
      obtain ⟨bv2, hov2⟩ := (HV.out.on HBR.out).own
      have cp : wr.cell? ⟨gv, t, none⟩ = some (.int .i64 p) := row1_cell hov2 (by simp) (by rw [List.getElem?_map, hp]; rfl)
      have HPE : Hid (P.at_ vp t = p) := by unfold Hid P.at_; rw [hp]; rfl
      have j0 : (0 : Int) ≤ (t : Int) := Int.natCast_nonneg t
      have j1 : (t : Int) < (nv : Int) := by omega
      have HTW : Hid (wrap64 ((t : Int) + 1) = (t : Int) + 1) := w64_id _ (by omega) (by omega)
      have hkt : wrap64 ((nk : Int) + (t : Int)) = ((nk + t : Nat) : Int) := by rw [w64_id _ (by omega) (by omega)]; rfl
      have HTN : Hid (t + 1 ≤ nv) := hlt
      have HH := hid_m hl
      have HTL : Hid (t ≤ 100) := by unfold Hid; omega
      clear hp hov2 hl ht hlt
      go_wp2_with fail
      refine (pmove_any 5 (nk + t) 2 p HH.out (by (repeat (first | rw [P.W.put_len] | rw [P.W.here_len] | rw [P.W.task_len] | rw [P.W.move_len])); rw [HFL.out]; have := HN.out; have := HTL.out; omega)).mono ?_
      rintro e wq0 ⟨rfl, ⟨lvq0, hw⟩, hb⟩
      have Q0 := hid_m hw
      have QB0 := hid_m (HBR.out.trans hb)
      clear hw hb
      go_wp2_with fail
      have e : P.W.upTo f s0 (t + 1) = (P.W.upTo f s0 t).move 5 (nk + t) 2 p := by show f _ t = _; rw [← HFE.out]; simp only [HPE.out, HNK.out]
      exact ⟨⟨t + 1, HTN.out, by first | (rw [HTW.out]; exact next_t) | exact next_t, ⟨_, by rw [e]; exact Q0.out⟩, QB0.out⟩, by first | (rw [HTW.out]; exact less_t HTN.out) | exact less_t HTN.out⟩
    · have hte : t = nv := by omega
      subst hte
      have HH := hid_m hl
      clear hl ht hlt
      go_wp2_with fail
      refine (wend_any 0 HH.out (by (repeat (first | rw [P.W.put_len] | rw [P.W.here_len] | rw [P.W.task_len] | rw [P.W.move_len])); rw [HFL.out]; have := HN.out; omega)).mono ?_
      rintro e ws0 ⟨rfl, ⟨lvs0, hw⟩, hb⟩
      have S0 := hid_m hw
      have SB0 := hid_m (HBR.out.trans hb)
      clear hw hb
      go_wp2_with fail
      go_end0
      have e : (P.W.upTo f s0 t).put 0 0 0 0 = s.lay kp.length vp := by rw [← HFE.out, ← HS0.out, ← HNV.out]; rfl
      exact ⟨rfl, ⟨_, by rw [← e]; exact S0.out⟩, SB0.out⟩
set_option maxHeartbeats 4000000 in
theorem pgive_any {w : World} {b sl : Nat} {kv vv lv : Value} {s : P.W} (kp vp : List Nat) (h : Wo w b kv vv sl s lv) (hk : Kp w b kv kp) (hv : Kp w b vv vp) (hk1 : 1 ≤ kp.length) (hv1 : 1 ≤ vp.length) (hkl : kp.length ≤ 100) (hvl : vp.length ≤ 100) (hn : s.list.length ≤ 70000) :
    Calls Tryz.prog 62 #[.pointer (some ⟨b, 0, none⟩)] w fun e w' => e = .returned (.tuple #[]) ∧ (∃ lv', Wo w' b kv vv sl (s.give kp.length vp) lv') ∧ Below b w w' := by
  obtain ⟨f, hf⟩ : ∃ f : P.W → Nat → P.W, (fun s i => s.move 2 (P.at_ vp i) 5 (kp.length + i)) = f := ⟨_, rfl⟩
  obtain ⟨s0, hs0⟩ : ∃ s0, s.here 6 = s0 := ⟨_, rfl⟩
  have hfl : ∀ t, (P.W.upTo f s0 t).list.length = s.list.length + 0 + 2 * t := fun t => by
    rw [← hf, P.upTo_len _ 2 (fun s i => by (repeat (first | rw [P.W.put_len] | rw [P.W.move_len]))), ← hs0]; (repeat (first | rw [P.W.put_len] | rw [P.W.here_len])); try omega
  have H := hid_m h
  have HB : Hid (Below b w w) := Below.refl _ _
  have HK := hid_m hk
  have HV := hid_m hv
  have HN := hid_m hn
  have HFE := hid_m hf
  have HFL := hid_m hfl
  have HS0 := hid_m hs0
  obtain ⟨bv, hov⟩ := hv.own
  obtain ⟨bk, hok⟩ := hk.own
  obtain ⟨gv, cv, hvv, _, _⟩ := hov.form hv1
  obtain ⟨gk, ck, hkv, _, _⟩ := hok.form hk1
  obtain ⟨nv, hnv⟩ : ∃ n, vp.length = n := ⟨_, rfl⟩
  obtain ⟨nk, hnk⟩ : ∃ n, kp.length = n := ⟨_, rfl⟩
  rw [hnv] at hvv hvl hv1
  rw [hnk] at hkv hkl hk1
  subst hvv
  subst hkv
  have HNV := hid_m hnv
  have HNK := hid_m hnk
  clear h hn hk hv hf hfl hs0 hov hok hnv hnk
  go_enter Tryz.func62, Tryz.ntmps62
  go_wp2_with fail
  refine (where_any 6 H.out (by decide) (by have := HN.out; (repeat (first | rw [P.W.put_len] | rw [P.W.here_len] | rw [P.W.task_len] | rw [P.W.move_len])); omega)).mono ?_
  rintro e wp0 ⟨rfl, hw, hb⟩
  have P0 := hid_m hw
  have PB0 := hid_m (HB.out.trans hb)
  have c0 := hw.c0
  have c1 := hw.c1
  have c2 := hw.c2
  clear hw hb
  go_wp2_with fail
  have HI0 := P0
  rw [HS0.out] at HI0
  go_loopw [14] (fun j wr => ∃ (t : Nat), t ≤ nv ∧ j = .int .i64 t ∧ Hid (∃ lv', Wo wr b (.slice (some ⟨gk, 0, none⟩) nk ck) (.slice (some ⟨gv, 0, none⟩) nv cv) sl (P.W.upTo f s0 t) lv') ∧ Hid (Below b w wr)) (fun j _ => nv - (intOf j).toNat)
  case atStart => exact ⟨0, Nat.zero_le _, rfl, ⟨_, HI0.out⟩, PB0.out⟩
  case round =>
    obtain ⟨t, ht, rfl, HL, HBR⟩ := hrel
    obtain ⟨lv', hl⟩ := HL.out
    have c0 := hl.c0
    by_cases hlt : t < nv
    · obtain ⟨p, hp⟩ : ∃ p, vp[t]? = some p := ⟨_, List.getElem?_eq_getElem (by have := HNV.out; omega)⟩
      obtain ⟨bv2, hov2⟩ := (HV.out.on HBR.out).own
      have cp : wr.cell? ⟨gv, t, none⟩ = some (.int .i64 p) := row1_cell hov2 (by simp) (by rw [List.getElem?_map, hp]; rfl)
      have HPE : Hid (P.at_ vp t = p) := by unfold Hid P.at_; rw [hp]; rfl
      have j0 : (0 : Int) ≤ (t : Int) := Int.natCast_nonneg t
      have j1 : (t : Int) < (nv : Int) := by omega
      have HTW : Hid (wrap64 ((t : Int) + 1) = (t : Int) + 1) := w64_id _ (by omega) (by omega)
      have hkt : wrap64 ((nk : Int) + (t : Int)) = ((nk + t : Nat) : Int) := by rw [w64_id _ (by omega) (by omega)]; rfl
      have HTN : Hid (t + 1 ≤ nv) := hlt
      have HH := hid_m hl
      have HTL : Hid (t ≤ 100) := by unfold Hid; omega
      clear hp hov2 hl ht hlt
      go_wp2_with fail
      refine (pmove_any 2 p 5 (nk + t) HH.out (by (repeat (first | rw [P.W.put_len] | rw [P.W.here_len] | rw [P.W.task_len] | rw [P.W.move_len])); rw [HFL.out]; have := HN.out; have := HTL.out; omega)).mono ?_
      rintro e wq0 ⟨rfl, ⟨lvq0, hw⟩, hb⟩
      have Q0 := hid_m hw
      have QB0 := hid_m (HBR.out.trans hb)
      clear hw hb
      go_wp2_with fail
      have e : P.W.upTo f s0 (t + 1) = (P.W.upTo f s0 t).move 2 p 5 (nk + t) := by show f _ t = _; rw [← HFE.out]; simp only [HPE.out, HNK.out]
      exact ⟨⟨t + 1, HTN.out, by first | (rw [HTW.out]; exact next_t) | exact next_t, ⟨_, by rw [e]; exact Q0.out⟩, QB0.out⟩, by first | (rw [HTW.out]; exact less_t HTN.out) | exact less_t HTN.out⟩
    · have hte : t = nv := by omega
      subst hte
      have HH := hid_m hl
      clear hl ht hlt
      go_wp2_with fail
      refine (wend_any 0 HH.out (by (repeat (first | rw [P.W.put_len] | rw [P.W.here_len] | rw [P.W.task_len] | rw [P.W.move_len])); rw [HFL.out]; have := HN.out; omega)).mono ?_
      rintro e ws0 ⟨rfl, ⟨lvs0, hw⟩, hb⟩
      have S0 := hid_m hw
      have SB0 := hid_m (HBR.out.trans hb)
      clear hw hb
      go_wp2_with fail
      go_end0
      have e : (P.W.upTo f s0 t).put 0 0 0 0 = s.give kp.length vp := by rw [← HFE.out, ← HS0.out, ← HNV.out]; rfl
      exact ⟨rfl, ⟨_, by rw [← e]; exact S0.out⟩, SB0.out⟩
end Go.Proofs.YtghggcehloiemabGreatDoor
