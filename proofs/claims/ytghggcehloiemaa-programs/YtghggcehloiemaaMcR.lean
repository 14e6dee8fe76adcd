import Derived.Test.YtghggcehloiemaaMcW2
import Derived.Deep.AppendLies
namespace Go.Proofs.Ytghggcehloiemaa
open Go.RowKit
set_option linter.unusedVariables false
set_option maxRecDepth 16000

theorem m_owns_of {w w' : World} {base : Nat} {e : TypeId} {size n : Nat} {v : Value} {xs : List Value} (h : w.ownsRow base e size v n xs) (hs : ∀ g, v.ownBlock = some g → w'.heap[g]? = w.heap[g]?) : w'.ownsRow base e size v n xs := by
  obtain ⟨h1, h2⟩ := h
  refine ⟨h1, ?_⟩
  rcases h2 with h2 | ⟨g, cap, cur, rfl, hb, hg, hr⟩
  · exact .inl h2
  · exact .inr ⟨g, cap, cur, rfl, hb, by rw [hs g rfl]; exact hg, hr⟩
theorem owns_on {w w' : World} {base : Nat} {e : TypeId} {size n : Nat} {v : Value} {xs : List Value} (h : w.ownsRow base e size v n xs) (hb : Below w.heap.size w w') : w'.ownsRow base e size v n xs :=
  m_owns_of h (fun g hg => hb.block g (h.lt g hg).2)
theorem owns_less {w : World} {base base' : Nat} {e : TypeId} {size n : Nat} {v : Value} {xs : List Value} (h : w.ownsRow base e size v n xs) (hb : base' ≤ base) : w.ownsRow base' e size v n xs := by
  obtain ⟨h1, h2⟩ := h
  refine ⟨h1, ?_⟩
  rcases h2 with h2 | ⟨g, cap, cur, rfl, hb', hr⟩
  · exact .inl h2
  · exact .inr ⟨g, cap, cur, rfl, by omega, hr⟩
theorem owns_set {b : Nat} {w : World} {e : TypeId} {size n : Nat} {v : Value} {xs : List Value} (o : Nat) (u : Value) (h : w.ownsRow (b + 1) e size v n xs) : (w.setCell ⟨b, o, none⟩ u).ownsRow (b + 1) e size v n xs :=
  m_owns_of h (fun g hg => ((Only.refl b w).setCell o u).block g (by have := (h.lt g hg).1; omega))
theorem m_owns_form {w : World} {base : Nat} {e : TypeId} {size n : Nat} {v : Value} {xs : List Value} (h : w.ownsRow base e size v n xs) : ∃ a N cap, v = .slice a N cap := by
  rcases h.2 with ⟨h, _⟩ | ⟨g, cap, cur, h, _⟩
  · exact ⟨_, _, _, h⟩
  · exact ⟨_, _, _, h⟩
theorem codeCells_get (ps : List P.I) : ∀ (i k : Nat) (x : P.I), ps[i]? = some x → k < 4 → (codeCells ps)[i * 4 + k]? = (insCells x)[k]? := by
  induction ps with
  | nil => intro i k x h; simp at h
  | cons y ps ih =>
    intro i k x h hk
    have e : codeCells (y :: ps) = insCells y ++ codeCells ps := by simp [codeCells]
    have hl : (insCells y).length = 4 := rfl
    rw [e]
    cases i with
    | zero =>
      simp at h; subst h
      rw [List.getElem?_append_left (by omega)]; simp
    | succ i =>
      simp at h
      rw [List.getElem?_append_right (by omega), hl, show (i + 1) * 4 + k - 4 = i * 4 + k by omega]
      exact ih i k x h hk
theorem ins_cell {w : World} {base g N cap k n : Nat} {ps : List P.I} {x : P.I} (h : w.ownsRow base 104 4 (.slice (some ⟨g, 0, none⟩) N cap) n (codeCells ps)) (hn : n = ps.length) (hx : ps[k]? = some x) :
    w.cell? ⟨g, k * 4, none⟩ = some (.int .i64 x.op) ∧ w.cell? ⟨g, k * 4 + 1, none⟩ = some (.int .i64 x.a) ∧ w.cell? ⟨g, k * 4 + 2, none⟩ = some (.int .i64 x.b) ∧ w.cell? ⟨g, k * 4 + 3, none⟩ = some (.int .i64 x.k) ∧ N = ps.length ∧ N ≤ cap := by
  obtain ⟨h1, h2⟩ := h
  rcases h2 with ⟨h2, _⟩ | ⟨g', cap', cur, hv, hb, hg, hn', hm, hsz, htk⟩
  · cases h2
  · cases hv
    have hk : k < ps.length := (List.getElem?_eq_some_iff.1 hx).1
    have key : ∀ j, j < 4 → w.cell? ⟨g, k * 4 + j, none⟩ = (insCells x)[j]? := by
      intro j hj
      rw [cell_of_row w g _ _ _ _ hg]
      have hget := codeCells_get ps k j x hx hj
      rw [← htk, List.getElem?_take_of_lt (by omega)] at hget
      simpa using hget
    exact ⟨key 0 (by omega), key 1 (by omega), key 2 (by omega), key 3 (by omega), hn, by omega⟩
theorem m_four_new (w : World) (a b c d : Value) (t : TypeId) : ∀ j u, [a, b, c, d][j]? = some u → (w.alloc (.cells #[a, b, c, d] t)).cell? ((⟨w.heap.size, 0, none⟩ : Addr).add j) = some u :=
  World.news_of_block (heap_alloc_new w _)
theorem m_blk_lt {w : World} {b : Nat} {o : Obj} (h : w.heap[b]? = some o) : b < w.heap.size := by
  rcases Nat.lt_or_ge b w.heap.size with hl | hl
  · exact hl
  · rw [Array.getElem?_eq_none hl] at h; cases h
theorem m_grown_blk {wr w3 : World} {base : Nat} {e : TypeId} {size n : Nat} {v : Value} {xs : List Value} {o o' : Obj} {B : Nat} (hown : wr.ownsRow base e size v n xs) (hg : (wr.alloc o).grownBy w3 v.ownBlock) (hB : B < base) (h : wr.heap[B]? = some o') : w3.heap[B]? = some o' := by
  have hl := m_blk_lt h
  rw [hg.block B (by simp; omega) (fun e => by have := (hown.lt _ e.symm).1; omega), Below.heap_alloc _ _ _ hl]; exact h
theorem m_grown_below {w wr w3 : World} {base : Nat} {e : TypeId} {size n : Nat} {v : Value} {xs : List Value} {o : Obj} (hb : Below w.heap.size w wr) (hown : wr.ownsRow base e size v n xs) (hg : (wr.alloc o).grownBy w3 v.ownBlock) (hB : w.heap.size ≤ base) : Below w.heap.size w w3 :=
  Below.grown (hb.alloc hb.size o) hg (by have := hb.size; simp; omega) (fun j hj => by have := (hown.lt _ hj).1; omega)
theorem insAt_any' (s : ByteArray) (n : Nat) (w : World) (h : 5 * n + 5 ≤ s.size) (hs : s.size ≤ maxLen) :
    Calls Try.prog 55 #[.string s, .int .i64 ((n : Int) * 5)] w fun e w' => e = .returned (.agg #[.int .i64 (P.insAt s.data.toList n).op, .int .i64 (P.insAt s.data.toList n).a, .int .i64 (P.insAt s.data.toList n).b, .int .i64 (P.insAt s.data.toList n).k]) ∧ Below w.heap.size w w' := by
  have e : ((5 * n : Nat) : Int) = (n : Int) * 5 := by omega
  rw [← e]; exact insAt_any s n w h hs
end Go.Proofs.Ytghggcehloiemaa
