import Derived.Test.YtghggcehloiemabGreatDoorMcTW3
namespace Go.Proofs.YtghggcehloiemabGreatDoor
open Go.RowKit
set_option linter.unusedVariables false
set_option maxRecDepth 16000

namespace P
/-- What a Writer holds: the instructions (a label in K where one says where to go on), and what the labels tell. -/
structure W where
  list : List I
  places : List Nat
def W.put (s : W) (op a b k : Nat) : W := { s with list := s.list ++ [⟨op, a, b, k⟩] }
def W.here (s : W) (l : Nat) : W := { s with places := s.places.set l s.list.length }
def W.start : W := ⟨[], List.replicate 16 0⟩
end P

def woCells (kv vv : Value) (sl : Nat) (lv : Value) (places : List Nat) : Array Value := ([kv, vv, .int .i64 sl, lv] ++ places.map natV).toArray
/-- The writer of a program at block b: its plan, the instructions, the labels. -/
structure Wo (w : World) (b : Nat) (kv vv : Value) (sl : Nat) (s : P.W) (lv : Value) : Prop where
  blk : w.heap[b]? = some (.cells (woCells kv vv sl lv s.places) 110 (0, 0))
  own : w.ownsRow (b + 1) 112 4 lv s.list.length (codeCells s.list)
  sixteen : s.places.length = 16
theorem Wo.lt {w : World} {b sl : Nat} {kv vv lv : Value} {s : P.W} (h : Wo w b kv vv sl s lv) : b < w.heap.size := m_blk_lt h.blk
theorem Wo.c0 {w : World} {b sl : Nat} {kv vv lv : Value} {s : P.W} (h : Wo w b kv vv sl s lv) : w.cell? ⟨b, 0, none⟩ = some kv := by rw [cell_of_row _ _ _ _ _ _ h.blk]; rfl
theorem Wo.c1 {w : World} {b sl : Nat} {kv vv lv : Value} {s : P.W} (h : Wo w b kv vv sl s lv) : w.cell? ⟨b, 1, none⟩ = some vv := by rw [cell_of_row _ _ _ _ _ _ h.blk]; rfl
theorem Wo.c2 {w : World} {b sl : Nat} {kv vv lv : Value} {s : P.W} (h : Wo w b kv vv sl s lv) : w.cell? ⟨b, 2, none⟩ = some (.int .i64 sl) := by rw [cell_of_row _ _ _ _ _ _ h.blk]; rfl
theorem Wo.c3 {w : World} {b sl : Nat} {kv vv lv : Value} {s : P.W} (h : Wo w b kv vv sl s lv) : w.cell? ⟨b, 3, none⟩ = some lv := by rw [cell_of_row _ _ _ _ _ _ h.blk]; rfl
theorem Wo.fz {w : World} {b sl : Nat} {kv vv lv : Value} {s : P.W} (h : Wo w b kv vv sl s lv) (o : Nat) : w.frozen? ⟨b, o, none⟩ = false := by simp [World.frozen?, h.blk]
theorem Wo.place {w : World} {b sl l p : Nat} {kv vv lv : Value} {s : P.W} (h : Wo w b kv vv sl s lv) (hp : s.places[l]? = some p) : w.cell? ⟨b, 4 + l, none⟩ = some (.int .i64 p) := by
  rw [cell_of_row _ _ _ _ _ _ h.blk]
  unfold woCells
  rw [Nat.add_comm]
  simp [hp, natV]
theorem Wo.hereSet {w : World} {b sl l : Nat} {kv vv lv : Value} {s : P.W} (h : Wo w b kv vv sl s lv) (hl : l < 16) : Wo (w.setCell ⟨b, 4 + l, none⟩ (.int .i64 s.list.length)) b kv vv sl (s.here l) lv := by
  refine ⟨?_, owns_set _ _ h.own, by simp [P.W.here, h.sixteen]⟩
  have e : (woCells kv vv sl lv s.places).setIfInBounds (4 + l) (.int .i64 s.list.length) = woCells kv vv sl lv (s.here l).places := by
    unfold woCells P.W.here
    apply Array.toList_inj.1
    rw [Array.toList_setIfInBounds, Nat.add_comm]
    simp [List.map_set, natV]
  simp [World.setCell, Array.getElem?_modify, h.blk, e]
theorem Wo.grow {w w3 : World} {b sl op x y k : Nat} {kv vv lv lv' : Value} {s : P.W} {o : Obj} (h : Wo w b kv vv sl s lv) (hg : (w.alloc o).grownBy w3 lv.ownBlock)
    (hown' : w3.ownsRow (b + 1) 112 4 lv' (s.list.length + 1) (codeCells s.list ++ insCells ⟨op, x, y, k⟩)) :
    Wo (w3.setCell ⟨b, 3, none⟩ lv') b kv vv sl (s.put op x y k) lv' ∧ Below b w (w3.setCell ⟨b, 3, none⟩ lv') ∧ w3.frozen? ⟨b, 3, none⟩ = false ∧ w3.cell? ⟨b, 3, none⟩ = some lv := by
  have hb3 := m_grown_blk h.own hg (Nat.lt_succ_self b) h.blk
  have hlb := h.lt
  refine ⟨⟨?_, ?_, h.sixteen⟩, ?_, by simp [World.frozen?, hb3], by rw [cell_of_row _ _ _ _ _ _ hb3]; rfl⟩
  · have e : (woCells kv vv sl lv s.places).setIfInBounds 3 lv' = woCells kv vv sl lv' s.places := by
      unfold woCells
      apply Array.toList_inj.1
      rw [Array.toList_setIfInBounds]; rfl
    simp [World.setCell, Array.getElem?_modify, hb3, e, P.W.put]
  · have := owns_set 3 lv' hown'
    have e : codeCells (s.put op x y k).list = codeCells s.list ++ insCells ⟨op, x, y, k⟩ := by
      unfold P.W.put
      rw [codeCells_append]; simp [codeCells]
    rw [e]
    have e2 : (s.put op x y k).list.length = s.list.length + 1 := by simp [P.W.put]
    rw [e2]; exact this
  · exact (Below.grown ((Below.refl b w).alloc (by omega) o) hg (by simp; omega) (fun j hj => by have := (h.own.lt _ hj).1; omega)).setCell (Nat.le_refl _) lv'

theorem Wo.drewn {w : World} {b sl : Nat} {kv vv lv : Value} {s : P.W} (h : Wo w b kv vv sl s lv) : Wo w.drew b kv vv sl s lv := ⟨h.blk, m_owns_of h.own (fun _ _ => rfl), h.sixteen⟩
set_option maxHeartbeats 1000000 in
theorem wwrite_any {w : World} {b sl : Nat} {kv vv lv : Value} {s : P.W} (op x y k : Nat) (h : Wo w b kv vv sl s lv) (hn : s.list.length ≤ 100000) :
    Calls Tryz.prog 142 #[.pointer (some ⟨b, 3, none⟩), .int .i64 op, .int .i64 x, .int .i64 y, .int .i64 k] w fun e w' => e = .returned (.tuple #[]) ∧ (∃ lv', Wo w' b kv vv sl (s.put op x y k) lv') ∧ Below b w w' := by
  obtain ⟨i0, hi0, hz0, hz1, hz2⟩ := info_parts Tryz.infoIns
  have c3 := h.c3
  have hbl := h.lt
  have H := hid_m h
  clear h
  go_enter Tryz.func142, Tryz.ntmps142
  go_wp2_with (first
    | (at_builtin; refine wpList_append_lies _ rfl _ _ 73 rfl (b + 1) 112 i0 (.agg #[.int .i64 0, .int .i64 0, .int .i64 0, .int .i64 0]) 4 32 Tryz.underlying73 hi0 hz0 hz1 hz2 rfl (by decide) lv s.list.length (codeCells s.list) rfl (H.out.own.alloc _) ⟨w.heap.size, 0, none⟩ 1 1 (insCells ⟨op, x, y, k⟩) rfl rfl (m_four_new _ _ _ _ _ _) (fun x hx => by simp [insCells] at hx; rcases hx with rfl | rfl | rfl | rfl <;> rfl) (by omega) (by unfold maxLen; omega) (by omega) (by simp; omega) _ rfl ?_; intro g cap w3 hown' hgrow hat hlt'
       obtain ⟨X1, X2, X3, X4⟩ := H.out.grow hgrow hown'))
  go_end0
  exact ⟨rfl, ⟨_, X1⟩, X2⟩
set_option maxHeartbeats 1000000 in
theorem where_any {w : World} {b sl : Nat} {kv vv lv : Value} {s : P.W} (l : Nat) (h : Wo w b kv vv sl s lv) (hl : l < 16) (hn : s.list.length ≤ 100000) :
    Calls Tryz.prog 101 #[.pointer (some ⟨b, 3, none⟩), .int .i64 l] w fun e w' => e = .returned (.tuple #[]) ∧ Wo w' b kv vv sl (s.here l) lv ∧ Below b w w' := by
  have c3 := h.c3
  obtain ⟨a, N, cap, rfl⟩ := m_owns_form h.own
  have hN : (N : Int) = s.list.length := by
    rcases h.own.2 with ⟨e, e2⟩ | ⟨g, cp, cur, e, _⟩
    · cases e; rw [e2]
    · cases e; rfl
  have l0 : (0 : Int) ≤ (l : Int) := Int.natCast_nonneg l
  have l1 : (l : Int) < 16 := by omega
  have l2 : ¬ (16 : Int) ≤ (l : Int) := by omega
  obtain ⟨p, hp⟩ : ∃ p, s.places[l]? = some p := ⟨_, List.getElem?_eq_getElem (by rw [h.sixteen]; exact hl)⟩
  have cp := h.place hp
  have zf := h.fz (4 + l)
  have HS := hid_m (h.hereSet hl)
  have HB : Hid (Below b w (w.setCell ⟨b, 4 + l, none⟩ (.int .i64 s.list.length))) := (Below.refl b w).setCell (Nat.le_refl _) _
  rw [← hN] at HS HB
  clear hp h hN
  go_enter Tryz.func101, Tryz.ntmps101
  go_wp2_with fail
  go_region
  go_wp2_with fail
  go_end0
  exact ⟨rfl, HS.out.drewn, drew_below HB.out⟩
set_option maxHeartbeats 1000000 in
theorem wend_any {w : World} {b sl : Nat} {kv vv lv : Value} {s : P.W} (k : Nat) (h : Wo w b kv vv sl s lv) (hn : s.list.length ≤ 100000) :
    Calls Tryz.prog 100 #[.pointer (some ⟨b, 3, none⟩), .int .i64 k] w fun e w' => e = .returned (.tuple #[]) ∧ (∃ lv', Wo w' b kv vv sl (s.put 0 0 0 k) lv') ∧ Below b w w' := by
  have H := hid_m (wwrite_any 0 0 0 k h hn)
  clear h
  go_enter Tryz.func100, Tryz.ntmps100
  go_wp2_with fail
  refine H.out.mono ?_
  rintro e w1 ⟨rfl, hw, hb⟩
  go_wp2_with fail
  go_end0
  exact ⟨rfl, hw, hb⟩
set_option maxHeartbeats 1000000 in
theorem wnumber_any {w : World} {b sl : Nat} {kv vv lv : Value} {s : P.W} (x : Nat) (k : Nat) (h : Wo w b kv vv sl s lv) (hn : s.list.length ≤ 100000) :
    Calls Tryz.prog 104 #[.pointer (some ⟨b, 3, none⟩), .int .i64 x, .int .i64 k] w fun e w' => e = .returned (.tuple #[]) ∧ (∃ lv', Wo w' b kv vv sl (s.put 1 x 0 k) lv') ∧ Below b w w' := by
  have H := hid_m (wwrite_any 1 x 0 k h hn)
  clear h
  go_enter Tryz.func104, Tryz.ntmps104
  go_wp2_with fail
  refine H.out.mono ?_
  rintro e w1 ⟨rfl, hw, hb⟩
  go_wp2_with fail
  go_end0
  exact ⟨rfl, hw, hb⟩
set_option maxHeartbeats 1000000 in
theorem wcopy_any {w : World} {b sl : Nat} {kv vv lv : Value} {s : P.W} (x : Nat) (y : Nat) (h : Wo w b kv vv sl s lv) (hn : s.list.length ≤ 100000) :
    Calls Tryz.prog 105 #[.pointer (some ⟨b, 3, none⟩), .int .i64 x, .int .i64 y] w fun e w' => e = .returned (.tuple #[]) ∧ (∃ lv', Wo w' b kv vv sl (s.put 2 x y 0) lv') ∧ Below b w w' := by
  have H := hid_m (wwrite_any 2 x y 0 h hn)
  clear h
  go_enter Tryz.func105, Tryz.ntmps105
  go_wp2_with fail
  refine H.out.mono ?_
  rintro e w1 ⟨rfl, hw, hb⟩
  go_wp2_with fail
  go_end0
  exact ⟨rfl, hw, hb⟩
set_option maxHeartbeats 1000000 in
theorem wadd_any {w : World} {b sl : Nat} {kv vv lv : Value} {s : P.W} (x : Nat) (y : Nat) (h : Wo w b kv vv sl s lv) (hn : s.list.length ≤ 100000) :
    Calls Tryz.prog 107 #[.pointer (some ⟨b, 3, none⟩), .int .i64 x, .int .i64 y] w fun e w' => e = .returned (.tuple #[]) ∧ (∃ lv', Wo w' b kv vv sl (s.put 3 x y 0) lv') ∧ Below b w w' := by
  have H := hid_m (wwrite_any 3 x y 0 h hn)
  clear h
  go_enter Tryz.func107, Tryz.ntmps107
  go_wp2_with fail
  refine H.out.mono ?_
  rintro e w1 ⟨rfl, hw, hb⟩
  go_wp2_with fail
  go_end0
  exact ⟨rfl, hw, hb⟩
set_option maxHeartbeats 1000000 in
theorem wsub_any {w : World} {b sl : Nat} {kv vv lv : Value} {s : P.W} (x : Nat) (y : Nat) (h : Wo w b kv vv sl s lv) (hn : s.list.length ≤ 100000) :
    Calls Tryz.prog 112 #[.pointer (some ⟨b, 3, none⟩), .int .i64 x, .int .i64 y] w fun e w' => e = .returned (.tuple #[]) ∧ (∃ lv', Wo w' b kv vv sl (s.put 4 x y 0) lv') ∧ Below b w w' := by
  have H := hid_m (wwrite_any 4 x y 0 h hn)
  clear h
  go_enter Tryz.func112, Tryz.ntmps112
  go_wp2_with fail
  refine H.out.mono ?_
  rintro e w1 ⟨rfl, hw, hb⟩
  go_wp2_with fail
  go_end0
  exact ⟨rfl, hw, hb⟩
set_option maxHeartbeats 1000000 in
theorem wmul_any {w : World} {b sl : Nat} {kv vv lv : Value} {s : P.W} (x : Nat) (y : Nat) (h : Wo w b kv vv sl s lv) (hn : s.list.length ≤ 100000) :
    Calls Tryz.prog 106 #[.pointer (some ⟨b, 3, none⟩), .int .i64 x, .int .i64 y] w fun e w' => e = .returned (.tuple #[]) ∧ (∃ lv', Wo w' b kv vv sl (s.put 5 x y 0) lv') ∧ Below b w w' := by
  have H := hid_m (wwrite_any 5 x y 0 h hn)
  clear h
  go_enter Tryz.func106, Tryz.ntmps106
  go_wp2_with fail
  refine H.out.mono ?_
  rintro e w1 ⟨rfl, hw, hb⟩
  go_wp2_with fail
  go_end0
  exact ⟨rfl, hw, hb⟩
set_option maxHeartbeats 1000000 in
theorem wload_any {w : World} {b sl : Nat} {kv vv lv : Value} {s : P.W} (x : Nat) (y : Nat) (k : Nat) (h : Wo w b kv vv sl s lv) (hn : s.list.length ≤ 100000) :
    Calls Tryz.prog 102 #[.pointer (some ⟨b, 3, none⟩), .int .i64 x, .int .i64 y, .int .i64 k] w fun e w' => e = .returned (.tuple #[]) ∧ (∃ lv', Wo w' b kv vv sl (s.put 9 x y k) lv') ∧ Below b w w' := by
  have H := hid_m (wwrite_any 9 x y k h hn)
  clear h
  go_enter Tryz.func102, Tryz.ntmps102
  go_wp2_with fail
  refine H.out.mono ?_
  rintro e w1 ⟨rfl, hw, hb⟩
  go_wp2_with fail
  go_end0
  exact ⟨rfl, hw, hb⟩
set_option maxHeartbeats 1000000 in
theorem wstore_any {w : World} {b sl : Nat} {kv vv lv : Value} {s : P.W} (x : Nat) (y : Nat) (k : Nat) (h : Wo w b kv vv sl s lv) (hn : s.list.length ≤ 100000) :
    Calls Tryz.prog 103 #[.pointer (some ⟨b, 3, none⟩), .int .i64 x, .int .i64 y, .int .i64 k] w fun e w' => e = .returned (.tuple #[]) ∧ (∃ lv', Wo w' b kv vv sl (s.put 10 x y k) lv') ∧ Below b w w' := by
  have H := hid_m (wwrite_any 10 x y k h hn)
  clear h
  go_enter Tryz.func103, Tryz.ntmps103
  go_wp2_with fail
  refine H.out.mono ?_
  rintro e w1 ⟨rfl, hw, hb⟩
  go_wp2_with fail
  go_end0
  exact ⟨rfl, hw, hb⟩
set_option maxHeartbeats 1000000 in
theorem wgo_any {w : World} {b sl : Nat} {kv vv lv : Value} {s : P.W} (k : Nat) (h : Wo w b kv vv sl s lv) (hn : s.list.length ≤ 100000) :
    Calls Tryz.prog 110 #[.pointer (some ⟨b, 3, none⟩), .int .i64 k] w fun e w' => e = .returned (.tuple #[]) ∧ (∃ lv', Wo w' b kv vv sl (s.put 11 0 0 k) lv') ∧ Below b w w' := by
  have H := hid_m (wwrite_any 11 0 0 k h hn)
  clear h
  go_enter Tryz.func110, Tryz.ntmps110
  go_wp2_with fail
  refine H.out.mono ?_
  rintro e w1 ⟨rfl, hw, hb⟩
  go_wp2_with fail
  go_end0
  exact ⟨rfl, hw, hb⟩
set_option maxHeartbeats 1000000 in
theorem wsame_any {w : World} {b sl : Nat} {kv vv lv : Value} {s : P.W} (x : Nat) (y : Nat) (k : Nat) (h : Wo w b kv vv sl s lv) (hn : s.list.length ≤ 100000) :
    Calls Tryz.prog 108 #[.pointer (some ⟨b, 3, none⟩), .int .i64 x, .int .i64 y, .int .i64 k] w fun e w' => e = .returned (.tuple #[]) ∧ (∃ lv', Wo w' b kv vv sl (s.put 12 x y k) lv') ∧ Below b w w' := by
  have H := hid_m (wwrite_any 12 x y k h hn)
  clear h
  go_enter Tryz.func108, Tryz.ntmps108
  go_wp2_with fail
  refine H.out.mono ?_
  rintro e w1 ⟨rfl, hw, hb⟩
  go_wp2_with fail
  go_end0
  exact ⟨rfl, hw, hb⟩
set_option maxHeartbeats 1000000 in
theorem wnotsame_any {w : World} {b sl : Nat} {kv vv lv : Value} {s : P.W} (x : Nat) (y : Nat) (k : Nat) (h : Wo w b kv vv sl s lv) (hn : s.list.length ≤ 100000) :
    Calls Tryz.prog 109 #[.pointer (some ⟨b, 3, none⟩), .int .i64 x, .int .i64 y, .int .i64 k] w fun e w' => e = .returned (.tuple #[]) ∧ (∃ lv', Wo w' b kv vv sl (s.put 13 x y k) lv') ∧ Below b w w' := by
  have H := hid_m (wwrite_any 13 x y k h hn)
  clear h
  go_enter Tryz.func109, Tryz.ntmps109
  go_wp2_with fail
  refine H.out.mono ?_
  rintro e w1 ⟨rfl, hw, hb⟩
  go_wp2_with fail
  go_end0
  exact ⟨rfl, hw, hb⟩
end Go.Proofs.YtghggcehloiemabGreatDoor
