import Derived.Test.YtghggcehloiemaaMcT2
import Derived.Test.YtghggcehloiemaaMcTI
import Derived.Deep.OwnRows
namespace Go.Proofs.Ytghggcehloiemaa
open Go.RowKit
set_option linter.unusedVariables false
set_option maxRecDepth 16000

/-- The marks. -/
def Fl (w : World) (fb : Nat) (fl : List Bool) : Prop := w.heap[fb]? = some (.cells (fl.map Value.bool).toArray 4 (0, 0))
theorem Fl.cell {w : World} {fb i : Nat} {fl : List Bool} {b : Bool} (h : Fl w fb fl) (hi : fl[i]? = some b) : w.cell? ⟨fb, i, none⟩ = some (.bool b) := by
  rw [cell_of_row _ _ _ _ _ _ h]; simp [hi]
theorem Fl.fz {w : World} {fb : Nat} {fl : List Bool} (h : Fl w fb fl) (i : Nat) : w.frozen? ⟨fb, i, none⟩ = false := by unfold Fl at h; simp [World.frozen?, h]
theorem Fl.set {w : World} {fb i : Nat} {fl : List Bool} (h : Fl w fb fl) : Fl (w.setCell ⟨fb, i, none⟩ (.bool true)) fb (fl.set i true) := by
  unfold Fl at *
  simp [World.setCell, Array.getElem?_modify, h, List.map_set]
theorem Fl.of {w w' : World} {fb : Nat} {fl : List Bool} (h : Fl w fb fl) (he : w'.heap[fb]? = w.heap[fb]?) : Fl w' fb fl := by unfold Fl at *; rw [he]; exact h
theorem Fl.lt {w : World} {fb : Nat} {fl : List Bool} (h : Fl w fb fl) : fb < w.heap.size := m_blk_lt h
theorem Fl.made (w : World) (n : Nat) : Fl (w.alloc (.cells (madeCells #[.bool false] n) 4)) w.heap.size (List.replicate n false) := by
  unfold Fl
  have e : madeCells #[.bool false] n = ((List.replicate n false).map Value.bool).toArray := by
    apply Array.toList_inj.1
    rw [toList_madeCells_one]; simp
  rw [e]; exact heap_alloc_new w _
/-- Where the walker lies, where its marks, and what lies ahead of both or behind both. -/
structure Sd (b fb B L : Nat) : Prop where
  ne : fb ≠ b
  b1 : b < B
  f1 : fb < B
  l1 : L ≤ b
  l2 : L ≤ fb
/-- The walker: its code, its marks, its queue. -/
structure Wt (w : World) (b fb B : Nat) (lv : Value) (n : Nat) (fl : List Bool) (q : List Nat) (qv : Value) : Prop where
  blk : w.heap[b]? = some (.cells #[lv, .slice (some ⟨fb, 0, none⟩) n n, qv] 114 (0, 0))
  fl : Fl w fb fl
  own : w.ownsRow B 3 1 qv q.length (q.map natV)
  room : B ≤ w.heap.size
theorem Wt.c0 {w : World} {b fb B : Nat} {lv : Value} {n : Nat} {fl : List Bool} {q : List Nat} {qv : Value} (h : Wt w b fb B lv n fl q qv) : w.cell? ⟨b, 0, none⟩ = some lv := by rw [cell_of_row _ _ _ _ _ _ h.blk]; rfl
theorem Wt.c1 {w : World} {b fb B : Nat} {lv : Value} {n : Nat} {fl : List Bool} {q : List Nat} {qv : Value} (h : Wt w b fb B lv n fl q qv) : w.cell? ⟨b, 1, none⟩ = some (.slice (some ⟨fb, 0, none⟩) n n) := by rw [cell_of_row _ _ _ _ _ _ h.blk]; rfl
theorem Wt.c2 {w : World} {b fb B : Nat} {lv : Value} {n : Nat} {fl : List Bool} {q : List Nat} {qv : Value} (h : Wt w b fb B lv n fl q qv) : w.cell? ⟨b, 2, none⟩ = some qv := by rw [cell_of_row _ _ _ _ _ _ h.blk]; rfl
theorem Wt.mark {w : World} {b fb B L i : Nat} {lv : Value} {n : Nat} {fl : List Bool} {q : List Nat} {qv : Value} (h : Wt w b fb B lv n fl q qv) (sd : Sd b fb B L) : Wt (w.setCell ⟨fb, i, none⟩ (.bool true)) b fb B lv n (fl.set i true) q qv :=
  ⟨by rw [set_other (fun e => sd.ne e.symm)]; exact h.blk, h.fl.set, m_owns_of h.own (fun g hg => set_other (by have := (h.own.lt g hg).1; have := sd.f1; omega)), by simpa using h.room⟩
theorem Wt.grow {w w3 : World} {b fb B L k : Nat} {lv : Value} {n : Nat} {fl : List Bool} {q : List Nat} {qv qv' : Value} {o : Obj} (h : Wt w b fb B lv n fl q qv) (sd : Sd b fb B L) (hg : (w.alloc o).grownBy w3 qv.ownBlock) (hown' : w3.ownsRow B 3 1 qv' (q.length + 1) (q.map natV ++ [natV k])) :
    Wt (w3.setCell ⟨b, 2, none⟩ qv') b fb B lv n fl (q ++ [k]) qv' ∧ Below L w (w3.setCell ⟨b, 2, none⟩ qv') ∧ w3.frozen? ⟨b, 2, none⟩ = false ∧ w3.cell? ⟨b, 2, none⟩ = some qv ∧ (∀ g, g < w.heap.size → g ≠ b → qv.ownBlock ≠ some g → (w3.setCell ⟨b, 2, none⟩ qv').heap[g]? = w.heap[g]?) := by
  have hb3 := m_grown_blk h.own hg sd.b1 h.blk
  have hf3 := m_grown_blk h.own hg sd.f1 h.fl
  have hl := h.fl.lt
  have hlb := m_blk_lt h.blk
  have l1 := sd.l1
  have b1 := sd.b1
  have hrm := h.room
  have hgs : w.heap.size ≤ w3.heap.size := by have := hg.size; simp at this; omega
  refine ⟨⟨?_, ?_, ?_, by simp; omega⟩, ?_, by simp [World.frozen?, hb3], by rw [cell_of_row _ _ _ _ _ _ hb3]; rfl, fun g hgl hgb hgq => by rw [set_other hgb, hg.block g (by simp; omega) (fun e => hgq e.symm), Below.heap_alloc _ _ _ hgl]⟩
  · simp [World.setCell, Array.getElem?_modify, hb3]
  · unfold Fl; rw [set_other sd.ne]; exact hf3
  · have : (w3.setCell ⟨b, 2, none⟩ qv').ownsRow B 3 1 qv' (q.length + 1) (q.map natV ++ [natV k]) := m_owns_of hown' (fun g hg => set_other (by have := (hown'.lt g hg).1; omega))
    simpa using this
  · exact (Below.grown ((Below.refl L w).alloc (by omega) o) hg (by simp; omega) (fun j hj => by have := (h.own.lt _ hj).1; omega)).setCell l1 qv'

theorem one_new (w : World) (a : Value) (t : TypeId) : ∀ j u, [a][j]? = some u → (w.alloc (.cells #[a] t)).cell? ((⟨w.heap.size, 0, none⟩ : Addr).add j) = some u :=
  World.news_of_block (heap_alloc_new w _)

theorem one_new' {w : World} {n : Nat} (h : w.heap.size = n) (a : Value) (t : TypeId) : ∀ j u, [a][j]? = some u → (w.alloc (.cells #[a] t)).cell? ((⟨n, 0, none⟩ : Addr).add j) = some u := by rw [← h]; exact one_new w a t

set_option maxHeartbeats 1000000 in
theorem reach_no {w : World} {b fb B n k : Nat} {lv : Value} {fl : List Bool} {q : List Nat} {qv : Value} (h : Wt w b fb B lv n fl q qv) (hk : k < n) (hn : n ≤ 800) (hf : fl[k]? = some true) :
    Calls Try.prog 84 #[.pointer (some ⟨b, 0, none⟩), .int .i64 k] w fun e w' => e = .returned (.tuple #[]) ∧ w' = w := by
  have c1 := h.c1
  have cf := h.fl.cell hf
  have h0 : ¬ ((k : Int) < 0) := by omega
  have h1 : (k : Int) < (n : Int) := by omega
  have h1' : ¬ (n : Int) ≤ (k : Int) := by omega
  have h2 : (0 : Int) ≤ (k : Int) := by omega
  clear h hf
  go_enter Try.func84, Try.ntmps84
  go_wp2_with fail
  refine bodyPost_ret (results_none rfl _ _ _) rfl ?_
  exact ⟨rfl, rfl⟩
set_option maxHeartbeats 1000000 in
theorem reach_yes {w : World} {b fb B L n k : Nat} {lv : Value} {fl : List Bool} {q : List Nat} {qv : Value} (h : Wt w b fb B lv n fl q qv) (sd : Sd b fb B L) (hk : k < n) (hn : n ≤ 800) (hq : q.length ≤ 800) (hf : fl[k]? = some false) :
    Calls Try.prog 84 #[.pointer (some ⟨b, 0, none⟩), .int .i64 k] w fun e w' => e = .returned (.tuple #[]) ∧ (∃ qv', Wt w' b fb B lv n (fl.set k true) (q ++ [k]) qv') ∧ Below L w w' ∧ (∀ g, g < w.heap.size → g ≠ b → g ≠ fb → qv.ownBlock ≠ some g → w'.heap[g]? = w.heap[g]?) := by
  have c1 := h.c1
  have cf := h.fl.cell hf
  have zf := h.fl.fz k
  have hm := h.mark (i := k) sd
  have c2 := hm.c2
  have hfl := h.fl.lt
  have hbl := m_blk_lt h.blk
  have h0 : ¬ ((k : Int) < 0) := by omega
  have h1 : (k : Int) < (n : Int) := by omega
  have h1' : ¬ (n : Int) ≤ (k : Int) := by omega
  have h2 : (0 : Int) ≤ (k : Int) := by omega
  have hbe : Below L w (w.setCell ⟨fb, k, none⟩ (.bool true)) := (Below.refl L w).setCell sd.l2 _
  obtain ⟨i0, hi0, hz0, hz1, hz2⟩ := info_parts Try.infoMInt
  have HM := hid_m hm
  have HF := hid_m sd
  have hbB := sd.b1
  have hroom := h.room
  have hfB := sd.f1
  clear h hf hm
  go_enter Try.func84, Try.ntmps84
  go_wp2_with (first
    | (at_builtin; (refine wpList_append_lies _ rfl _ _ 47 rfl B 3 i0 (.int .i64 0) 1 8 Try.underlying47 hi0 hz0 hz1 hz2 rfl (by decide) qv q.length (q.map natV) rfl (HM.out.own.alloc _) ⟨w.heap.size, 0, none⟩ 1 1 [natV k] rfl rfl (one_new' (by simp) _ _) (fun x hx => by simp at hx; subst hx; rfl) (by omega) (by unfold maxLen; omega) (by omega) (by simp; omega) _ rfl ?_; intro g cap w3 hown' hgrow hat hlt')
       obtain ⟨X1, X2, X3, X4, X5⟩ := HM.out.grow HF.out hgrow hown'))
  go_end0
  exact ⟨rfl, ⟨_, X1⟩, hbe.trans X2, fun g g1 g2 g3 g4 => by rw [X5 g (by simpa using g1) g2 g4, set_other g3]⟩
theorem reach_any {w : World} {b fb B L n k : Nat} {lv : Value} {fl : List Bool} {q : List Nat} {qv : Value} (h : Wt w b fb B lv n fl q qv) (sd : Sd b fb B L) (hl : fl.length = n) (hk : k < n) (hn : n ≤ 800) (hq : q.length ≤ 800) :
    Calls Try.prog 84 #[.pointer (some ⟨b, 0, none⟩), .int .i64 k] w fun e w' => e = .returned (.tuple #[]) ∧ (∃ qv', Wt w' b fb B lv n (P.marked fl k) (P.queued fl q k) qv') ∧ Below L w w' ∧ (∀ g, g < w.heap.size → g ≠ b → g ≠ fb → qv.ownBlock ≠ some g → w'.heap[g]? = w.heap[g]?) := by
  cases hf : fl[k]? with
  | none => rw [List.getElem?_eq_none_iff] at hf; omega
  | some c =>
    cases c with
    | true =>
      refine (reach_no h hk hn hf).mono ?_
      rintro e w' ⟨rfl, rfl⟩
      unfold P.marked P.queued
      rw [hf, if_neg (by simp), if_neg (by simp)]
      exact ⟨rfl, ⟨qv, h⟩, Below.refl _ _, fun _ _ _ _ _ => rfl⟩
    | false =>
      refine (reach_yes h sd hk hn hq hf).mono ?_
      rintro e w' ⟨rfl, hx, hb, hk⟩
      unfold P.marked P.queued
      rw [hf, if_pos rfl, if_pos rfl]
      exact ⟨rfl, hx, hb, hk⟩
end Go.Proofs.Ytghggcehloiemaa
