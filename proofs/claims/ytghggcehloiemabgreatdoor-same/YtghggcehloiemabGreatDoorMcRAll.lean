import Derived.Test.YtghggcehloiemabGreatDoorMcWAll
import Derived.Deep.AppendLies
namespace Go.Proofs.YtghggcehloiemabGreatDoor
open Go.RowKit
set_option linter.unusedVariables false
set_option maxRecDepth 16000

theorem m_owns_of {w w' : World} {base : Nat} {e : TypeId} {size n : Nat} {v : Value} {xs : List Value} (h : w.ownsRow base e size v n xs) (hs : ∀ g, v.ownBlock = some g → w'.heap[g]? = w.heap[g]?) : w'.ownsRow base e size v n xs := by
  obtain ⟨h1, h2⟩ := h
  refine ⟨h1, ?_⟩
  rcases h2 with h2 | ⟨g, cap, cur, rfl, hb, hg, hr⟩
  · exact .inl h2
  · exact .inr ⟨g, cap, cur, rfl, hb, by rw [hs g rfl]; exact hg, hr⟩
theorem owns_on {w w' : World} {base : Nat} {e : TypeId} {size n : Nat} {v : Value} {xs : List Value} (h : w.ownsRow base e size v n xs) (hb : Below w.heap.size w w') : w'.ownsRow base e size v n xs :=
  m_owns_of h (fun g hg => hb.block g (h.lt g hg).2)
theorem owns_less {w : World} {base base' : Nat} {e : TypeId} {size n : Nat} {v : Value} {xs : List Value} (h : w.ownsRow base e size v n xs) (hb : base' ≤ base) : w.ownsRow base' e size v n xs := by
  obtain ⟨h1, h2⟩ := h
  refine ⟨h1, ?_⟩
  rcases h2 with h2 | ⟨g, cap, cur, rfl, hb', hr⟩
  · exact .inl h2
  · exact .inr ⟨g, cap, cur, rfl, by omega, hr⟩
theorem owns_set {b : Nat} {w : World} {e : TypeId} {size n : Nat} {v : Value} {xs : List Value} (o : Nat) (u : Value) (h : w.ownsRow (b + 1) e size v n xs) : (w.setCell ⟨b, o, none⟩ u).ownsRow (b + 1) e size v n xs :=
  m_owns_of h (fun g hg => ((Only.refl b w).setCell o u).block g (by have := (h.lt g hg).1; omega))
theorem m_owns_form {w : World} {base : Nat} {e : TypeId} {size n : Nat} {v : Value} {xs : List Value} (h : w.ownsRow base e size v n xs) : ∃ a N cap, v = .slice a N cap := by
  rcases h.2 with ⟨h, _⟩ | ⟨g, cap, cur, h, _⟩
  · exact ⟨_, _, _, h⟩
  · exact ⟨_, _, _, h⟩
theorem codeCells_get (ps : List P.I) : ∀ (i k : Nat) (x : P.I), ps[i]? = some x → k < 4 → (codeCells ps)[i * 4 + k]? = (insCells x)[k]? := by
  induction ps with
  | nil => intro i k x h; simp at h
  | cons y ps ih =>
    intro i k x h hk
    have e : codeCells (y :: ps) = insCells y ++ codeCells ps := by simp [codeCells]
    have hl : (insCells y).length = 4 := rfl
    rw [e]
    cases i with
    | zero =>
      simp at h; subst h
      rw [List.getElem?_append_left (by omega)]; simp
    | succ i =>
      simp at h
      rw [List.getElem?_append_right (by omega), hl, show (i + 1) * 4 + k - 4 = i * 4 + k by omega]
      exact ih i k x h hk
theorem ins_cell {w : World} {base g N cap k n : Nat} {ps : List P.I} {x : P.I} (h : w.ownsRow base 112 4 (.slice (some ⟨g, 0, none⟩) N cap) n (codeCells ps)) (hn : n = ps.length) (hx : ps[k]? = some x) :
    w.cell? ⟨g, k * 4, none⟩ = some (.int .i64 x.op) ∧ w.cell? ⟨g, k * 4 + 1, none⟩ = some (.int .i64 x.a) ∧ w.cell? ⟨g, k * 4 + 2, none⟩ = some (.int .i64 x.b) ∧ w.cell? ⟨g, k * 4 + 3, none⟩ = some (.int .i64 x.k) ∧ N = ps.length ∧ N ≤ cap := by
  obtain ⟨h1, h2⟩ := h
  rcases h2 with ⟨h2, _⟩ | ⟨g', cap', cur, hv, hb, hg, hn', hm, hsz, htk⟩
  · cases h2
  · cases hv
    have hk : k < ps.length := (List.getElem?_eq_some_iff.1 hx).1
    have key : ∀ j, j < 4 → w.cell? ⟨g, k * 4 + j, none⟩ = (insCells x)[j]? := by
      intro j hj
      rw [cell_of_row w g _ _ _ _ hg]
      have hget := codeCells_get ps k j x hx hj
      rw [← htk, List.getElem?_take_of_lt (by omega)] at hget
      simpa using hget
    exact ⟨key 0 (by omega), key 1 (by omega), key 2 (by omega), key 3 (by omega), hn, by omega⟩
theorem m_four_new (w : World) (a b c d : Value) (t : TypeId) : ∀ j u, [a, b, c, d][j]? = some u → (w.alloc (.cells #[a, b, c, d] t)).cell? ((⟨w.heap.size, 0, none⟩ : Addr).add j) = some u :=
  World.news_of_block (heap_alloc_new w _)
theorem m_blk_lt {w : World} {b : Nat} {o : Obj} (h : w.heap[b]? = some o) : b < w.heap.size := by
  rcases Nat.lt_or_ge b w.heap.size with hl | hl
  · exact hl
  · rw [Array.getElem?_eq_none hl] at h; cases h
theorem m_grown_blk {wr w3 : World} {base : Nat} {e : TypeId} {size n : Nat} {v : Value} {xs : List Value} {o o' : Obj} {B : Nat} (hown : wr.ownsRow base e size v n xs) (hg : (wr.alloc o).grownBy w3 v.ownBlock) (hB : B < base) (h : wr.heap[B]? = some o') : w3.heap[B]? = some o' := by
  have hl := m_blk_lt h
  rw [hg.block B (by simp; omega) (fun e => by have := (hown.lt _ e.symm).1; omega), Below.heap_alloc _ _ _ hl]; exact h
theorem m_grown_below {w wr w3 : World} {base : Nat} {e : TypeId} {size n : Nat} {v : Value} {xs : List Value} {o : Obj} (hb : Below w.heap.size w wr) (hown : wr.ownsRow base e size v n xs) (hg : (wr.alloc o).grownBy w3 v.ownBlock) (hB : w.heap.size ≤ base) : Below w.heap.size w w3 :=
  Below.grown (hb.alloc hb.size o) hg (by have := hb.size; simp; omega) (fun j hj => by have := (hown.lt _ hj).1; omega)
theorem insAt_any' (s : ByteArray) (n : Nat) (w : World) (h : 5 * n + 5 ≤ s.size) (hs : s.size ≤ maxLen) :
    Calls Tryz.prog 65 #[.string s, .int .i64 ((n : Int) * 5)] w fun e w' => e = .returned (.agg #[.int .i64 (P.insAt s.data.toList n).op, .int .i64 (P.insAt s.data.toList n).a, .int .i64 (P.insAt s.data.toList n).b, .int .i64 (P.insAt s.data.toList n).k]) ∧ Below w.heap.size w w' := by
  have e : ((5 * n : Nat) : Int) = (n : Int) * 5 := by omega
  rw [← e]; exact insAt_any s n w h hs
end Go.Proofs.YtghggcehloiemabGreatDoor
namespace Go.Proofs.YtghggcehloiemabGreatDoor
open Go.RowKit
set_option linter.unusedVariables false
set_option maxRecDepth 16000

theorem Tryz.infoIns : (Tryz.prog.info? 112).map (fun i => (i.zero, i.size, i.bytes)) = some (some (.agg #[.int .i64 0, .int .i64 0, .int .i64 0, .int .i64 0]), 4, 32) := by kernel_rfl

/-- What 'Parse' answers. -/
def PPost (s : ByteArray) (w : World) (e : Ending) (w' : World) : Prop :=
  (if P.IsCode s.data.toList then ∃ v, e = .returned (.tuple #[.agg #[v], .bool true]) ∧ w'.ownsRow w.heap.size 112 4 v (P.codeOf s.data.toList).length (codeCells (P.codeOf s.data.toList))
    else e = .returned (.tuple #[.agg #[.slice none 0 0], .bool false])) ∧ Below w.heap.size w w'
theorem PPost.no {s : ByteArray} {w w' : World} {e : Ending} (h : ¬ P.IsCode s.data.toList) (he : e = .returned (.tuple #[.agg #[.slice none 0 0], .bool false])) (hb : Below w.heap.size w w') : PPost s w e w' := by
  unfold PPost; rw [if_neg h]; exact ⟨he, hb⟩
theorem PPost.yes {s : ByteArray} {w w' : World} {e : Ending} (h : P.IsCode s.data.toList) {v : Value} (he : e = .returned (.tuple #[.agg #[v], .bool true])) (ho : w'.ownsRow w.heap.size 112 4 v (P.codeOf s.data.toList).length (codeCells (P.codeOf s.data.toList))) (hb : Below w.heap.size w w') : PPost s w e w' := by
  unfold PPost; rw [if_pos h]; exact ⟨⟨v, he, ho⟩, hb⟩
theorem tl_len' (s : ByteArray) : s.data.toList.length = s.size := by simp
theorem hid_m {p : Prop} (h : p) : Hid p := h
theorem insAt_lt (l : List UInt8) (q : Nat) : (P.insAt l q).op < 65536 ∧ (P.insAt l q).a < 65536 ∧ (P.insAt l q).b < 65536 ∧ (P.insAt l q).k < 65536 := by
  have := P.byteAt_lt l
  have h0 := this (5 * q); have h1 := this (5 * q + 1); have h2 := this (5 * q + 2); have h3 := this (5 * q + 3); have h4 := this (5 * q + 4)
  simp only [P.insAt]
  omega

set_option maxHeartbeats 4000000 in
theorem mparse_any (s : ByteArray) (w : World) (hs : s.size ≤ maxLen) :
    Calls Tryz.prog 32 #[.string s] w fun e w' => PPost s w e w' := by
  obtain ⟨i0, hi0, hz0, hz1, hz2⟩ := info_parts Tryz.infoIns
  have hlen := tl_len' s
  have hs' := hs
  unfold maxLen at hs
  obtain ⟨c, hc⟩ : ∃ c, s.size / 5 = c := ⟨_, rfl⟩
  have hcc : (s.size : Int) / 5 = c := by omega
  have hal : Below w.heap.size w (w.alloc (.cells #[.slice none 0 0] 75)) := (Below.refl _ _).alloc (Nat.le_refl _) _
  have hc5 : 5 * c ≤ s.size := by omega
  by_cases hc1 : c < 1
  · have HN : Hid (¬ P.IsCode s.data.toList) := fun h => by have := h.some; omega
    clear hc hc5 hlen
    go_enter Tryz.func32, Tryz.ntmps32
    go_wp2_with fail
    go_returns
    exact PPost.no HN.out rfl hal
  · by_cases hc2 : 800 < c
    · have HN : Hid (¬ P.IsCode s.data.toList) := fun h => by have := h.few; omega
      have hc1' : ¬ (c : Int) < 1 := by omega
      have hc2' : (800 : Int) < c := by omega
      clear hc hc5 hlen
      go_enter Tryz.func32, Tryz.ntmps32
      go_wp2_with fail
      go_returns
      exact PPost.no HN.out rfl hal
    · have hc1' : ¬ (c : Int) < 1 := by omega
      have hc2' : ¬ (800 : Int) < c := by omega
      have hwc : wrap64 ((c : Int) * 5) = (c : Int) * 5 := by unfold wrap64; omega
      by_cases hc3 : s.size = 5 * c
      · have hc3' : (s.size : Int) = (c : Int) * 5 := by omega
        have HC : Hid (s.data.toList.length / 5 = c) := by unfold Hid; omega
        have HF : Hid (s.data.toList.length = 5 * c) := by unfold Hid; omega
        have hbig : s.size ≤ 4000 := by omega
        have HS5 : Hid (s.size = 5 * c) := hc3
        clear hlen hc5 hc hcc hc3
        go_enter Tryz.func32, Tryz.ntmps32
        go_wp2_with fail
        go_loopw [5, 6] (fun l j wr => ∃ (q : Nat), q ≤ c ∧ j = .int .i64 q ∧ wr.ownsRow (w.heap.size + 1) 112 4 l q (codeCells ((P.codeOf s.data.toList).take q)) ∧ Hid (∀ i, i < q → P.OkI c (P.insAt s.data.toList i)) ∧ Below w.heap.size w wr ∧ wr.heap[w.heap.size]? = some (.cells #[.slice none 0 0] 75 (0, 0))) (fun _ j _ => c - (intOf j).toNat)
        case atStart => exact ⟨0, by omega, rfl, World.ownsRow_nil _ _ _ _, fun i hi => absurd hi (Nat.not_lt_zero _), hal, heap_alloc_new w _⟩
        case round =>
          obtain ⟨q, hq, rfl, hown, HQ, hbe, hblk⟩ := hrel
          by_cases hlt : q < c
          · have hin := fun w => insAt_any' s q w (by have := HS5.out; omega) hs'
            have hcode : Hid ((P.codeOf s.data.toList)[q]? = some (P.insAt s.data.toList q)) := P.codeOf_get _ _ (by rw [HC.out]; exact hlt)
            have hxb := insAt_lt s.data.toList q
            obtain ⟨x, hx⟩ : ∃ x, P.insAt s.data.toList q = x := ⟨_, rfl⟩
            rw [hx] at hin hxb
            have HX : Hid (P.insAt s.data.toList q = x) := hx
            clear hx
            obtain ⟨op, a, b, k⟩ := x
            simp only at hxb
            have HI := hid_m hin
            clear hin
            go_wp2_with fail
            refine (HI.out _).mono ?_
            rintro e w2 ⟨rfl, hb2⟩
            go_wp2_with fail
            refine (allowed_any op a b k c _).mono ?_
            rintro e w3 ⟨rfl, hb3⟩
            have hb2a : Below wr.heap.size wr (w2.alloc (.cells #[.int .i64 op, .int .i64 a, .int .i64 b, .int .i64 k] 112)) := hb2.alloc hb2.size _
            have hb23 : Below wr.heap.size wr w3 := hb2a.trans (hb3.mono hb2a.size)
            have hnew : w3.heap[w2.heap.size]? = some (.cells #[.int .i64 op, .int .i64 a, .int .i64 b, .int .i64 k] 112 (0, 0)) := by rw [hb3.block _ (by simp)]; exact heap_alloc_new _ _
            have n0 : w3.cell? ⟨w2.heap.size, 0, none⟩ = some (.int .i64 op) := by rw [cell_of_row _ _ _ _ _ _ hnew]; rfl
            have n1 : w3.cell? ⟨w2.heap.size, 1, none⟩ = some (.int .i64 a) := by rw [cell_of_row _ _ _ _ _ _ hnew]; rfl
            have n2 : w3.cell? ⟨w2.heap.size, 2, none⟩ = some (.int .i64 b) := by rw [cell_of_row _ _ _ _ _ _ hnew]; rfl
            have n3 : w3.cell? ⟨w2.heap.size, 3, none⟩ = some (.int .i64 k) := by rw [cell_of_row _ _ _ _ _ _ hnew]; rfl
            have hown3 := owns_on hown hb23
            have hbe3 : Below w.heap.size w w3 := hbe.trans (hb23.mono hbe.size)
            have hblk3 : w3.heap[w.heap.size]? = some (.cells #[.slice none 0 0] 75 (0, 0)) := by rw [hb23.block _ (m_blk_lt hblk)]; exact hblk
            have hlt3 := m_blk_lt hblk3
            clear hb2 hb3 hb23 hb2a hnew
            by_cases hok : P.OkI c ⟨op, a, b, k⟩
            · rw [decide_eq_true hok]
              have HOK := hid_m hok
              clear hok
              go_wp2_with (first
                | (at_builtin; refine wpList_append_lies _ rfl _ _ 73 rfl (w.heap.size + 1) 112 i0 (.agg #[.int .i64 0, .int .i64 0, .int .i64 0, .int .i64 0]) 4 32 Tryz.underlying73 hi0 hz0 hz1 hz2 rfl (by decide) u5 q (codeCells ((P.codeOf s.data.toList).take q)) rfl (hown3.alloc _) ⟨w3.heap.size, 0, none⟩ 1 1 (insCells ⟨op, a, b, k⟩) rfl rfl (m_four_new _ _ _ _ _ _) (fun x hx => by simp [insCells] at hx; rcases hx with rfl | rfl | rfl | rfl <;> rfl) (by omega) (by unfold maxLen; omega) (by omega) (by simp; omega) _ rfl ?_; intro g cap w4 hown' hgrow hat hlt'
                   have hbe4 := m_grown_below hbe3 hown3 hgrow (Nat.le_succ _)
                   have hblk4 := m_grown_blk hown3 hgrow (Nat.lt_succ_self _) hblk3))
              refine ⟨⟨q + 1, by omega, by go_num, ?_, ?_, hbe4, hblk4⟩, by simp [intOf]; omega⟩
              · have ht : (P.codeOf s.data.toList).take (q + 1) = (P.codeOf s.data.toList).take q ++ [⟨op, a, b, k⟩] := by
                  rw [List.take_add_one, hcode.out, HX.out]; rfl
                rw [ht, codeCells_append]
                have : codeCells [(⟨op, a, b, k⟩ : P.I)] = insCells ⟨op, a, b, k⟩ := by simp [codeCells]
                rw [this]; exact hown'
              · intro i hi
                by_cases hiq : i = q
                · subst hiq; rw [HX.out]; exact HOK.out
                · exact HQ.out i (by omega)
            · rw [decide_eq_false hok]
              have HN : Hid (¬ P.IsCode s.data.toList) := fun h => hok (by have := h.all q (by rw [HC.out]; exact hlt); rw [HC.out, HX.out] at this; exact this)
              clear hok
              have m0 : w3.cell? ⟨w.heap.size, 0, none⟩ = some (.slice none 0 0) := by rw [cell_of_row _ _ _ _ _ _ hblk3]; rfl
              have mf : w3.frozen? ⟨w.heap.size, 0, none⟩ = false := by simp [World.frozen?, hblk3]
              go_wp2_with fail
              have z : (w3.setCell ⟨w.heap.size, 0, none⟩ (.slice none 0 0)).cell? ⟨w.heap.size, 0, none⟩ = some (.slice none 0 0) := World.cell?_setCell_same' _ _ _ (by rw [m0]; rfl)
              refine bodyPost_ret (v := .tuple #[.agg #[.slice none 0 0], .bool false]) (by simp [results, Tryz.results32, go_sem, z]) rfl ?_
              exact PPost.no HN.out rfl (hbe3.setCell (Nat.le_refl _) _)
          · obtain rfl : q = c := by omega
            have hlast := P.codeOf_get s.data.toList (q - 1) (by rw [HC.out]; omega)
            have HTK : Hid ((P.codeOf s.data.toList).take q = P.codeOf s.data.toList) := List.take_of_length_le (by rw [P.codeOf_length, HC.out]; exact Nat.le_refl _)
            rw [HTK.out] at hown
            have HLN : Hid ((P.codeOf s.data.toList).length = q) := by unfold Hid; rw [P.codeOf_length, HC.out]
            have HEN : Hid (P.insAt s.data.toList (s.data.toList.length / 5 - 1) = P.insAt s.data.toList (q - 1)) := by unfold Hid; rw [HC.out]
            obtain ⟨g, cap, hv, hgb, hgl⟩ := hown.form (by omega)
            subst hv
            obtain ⟨x, hx⟩ : ∃ x, P.insAt s.data.toList (q - 1) = x := ⟨_, rfl⟩
            rw [hx] at hlast
            have HX : Hid (P.insAt s.data.toList (q - 1) = x) := hx
            clear hx
            obtain ⟨d0, d1, d2, d3, hN1, hN2⟩ := ins_cell hown HLN.out.symm hlast
            clear hlast hN1 hN2
            obtain ⟨op, a, b, k⟩ := x
            simp only at d0 d1 d2 d3
            have hq1 : wrap64 ((q : Int) - 1) = (q : Int) - 1 := by unfold wrap64; omega
            have hq2 : (0 : Int) ≤ (q : Int) - 1 := by omega
            have hq3 : (q : Int) - 1 < q := by omega
            have hq4 : ((q : Int) - 1).toNat = q - 1 := by omega
            have HOWN := hid_m hown
            clear hown
            go_wp2_with fail
            refine (nextFollows_any op a b k _).mono ?_
            rintro e w2 ⟨rfl, hb2⟩
            have hown2 := owns_on HOWN.out hb2
            have hbe2 : Below w.heap.size w w2 := hbe.trans (hb2.mono hbe.size)
            have hblk2 : w2.heap[w.heap.size]? = some (.cells #[.slice none 0 0] 75 (0, 0)) := by rw [hb2.block _ (m_blk_lt hblk)]; exact hblk
            have m0 : w2.cell? ⟨w.heap.size, 0, none⟩ = some (.slice none 0 0) := by rw [cell_of_row _ _ _ _ _ _ hblk2]; rfl
            have mf : w2.frozen? ⟨w.heap.size, 0, none⟩ = false := by simp [World.frozen?, hblk2]
            clear d0 d1 d2 d3 hblk hb2
            by_cases hend : op = 0 ∨ op = 11
            · have HY : Hid (P.IsCode s.data.toList) := ⟨by rw [HC.out]; exact HF.out, by rw [HC.out]; omega, by rw [HC.out]; omega, by rw [HC.out]; exact HQ.out, by rw [HEN.out, HX.out]; exact hend⟩
              rw [decide_eq_false (not_not_intro hend)]
              clear hend
              go_wp2_with fail
              have z : (w2.setCell ⟨w.heap.size, 0, none⟩ (.slice (some ⟨g, 0, none⟩) q cap)).cell? ⟨w.heap.size, 0, none⟩ = some (.slice (some ⟨g, 0, none⟩) q cap) := World.cell?_setCell_same' _ _ _ (by rw [m0]; rfl)
              refine bodyPost_ret (v := .tuple #[.agg #[.slice (some ⟨g, 0, none⟩) q cap], .bool true]) (by simp [results, Tryz.results32, go_sem, z]) rfl ?_
              exact PPost.yes HY.out rfl (by rw [HLN.out]; exact owns_less (owns_set 0 _ hown2) (Nat.le_succ _)) (hbe2.setCell (Nat.le_refl _) _)
            · have HN : Hid (¬ P.IsCode s.data.toList) := fun h => hend (by have := h.last; rw [HEN.out, HX.out] at this; exact this)
              rw [decide_eq_true hend]
              clear hend
              go_wp2_with fail
              have z : (w2.setCell ⟨w.heap.size, 0, none⟩ (.slice none 0 0)).cell? ⟨w.heap.size, 0, none⟩ = some (.slice none 0 0) := World.cell?_setCell_same' _ _ _ (by rw [m0]; rfl)
              refine bodyPost_ret (v := .tuple #[.agg #[.slice none 0 0], .bool false]) (by simp [results, Tryz.results32, go_sem, z]) rfl ?_
              exact PPost.no HN.out rfl (hbe2.setCell (Nat.le_refl _) _)
      · have hc3' : ¬ (s.size : Int) = (c : Int) * 5 := by omega
        have HN : Hid (¬ P.IsCode s.data.toList) := fun h => by have := h.five; omega
        clear hc hc5 hlen
        go_enter Tryz.func32, Tryz.ntmps32
        go_wp2_with fail
        go_returns
        exact PPost.no HN.out rfl hal

set_option maxHeartbeats 400000 in
theorem check_any (s : ByteArray) (w : World) (hs : s.size ≤ maxLen) :
    Calls Tryz.prog 122 #[.string s] w fun e w' => e = .returned (.int .i64 (if P.IsCode s.data.toList then 0 else 4)) ∧ Below w.heap.size w w' := by
  go_enter Tryz.func122, Tryz.ntmps122
  go_wp2_with fail
  refine (mparse_any s w hs).mono ?_
  rintro e w1 ⟨hpost, hb⟩
  by_cases h : P.IsCode s.data.toList
  · rw [if_pos h] at hpost
    obtain ⟨v, rfl, hown⟩ := hpost
    obtain ⟨a, N, cap, rfl⟩ := m_owns_form hown
    have HY := hid_m h
    clear h
    go_wp2_with fail
    go_ret
    exact ⟨by first | rfl | (rw [if_pos HY.out]; rfl), hb.alloc hb.size _⟩
  · rw [if_neg h] at hpost
    subst hpost
    have HY := hid_m h
    clear h
    go_wp2_with fail
    go_ret
    exact ⟨by first | rfl | (rw [if_neg HY.out]; rfl), hb.alloc hb.size _⟩
end Go.Proofs.YtghggcehloiemabGreatDoor
namespace Go.Proofs.YtghggcehloiemabGreatDoor
open Go.RowKit
set_option linter.unusedVariables false
set_option maxRecDepth 16000

theorem wrap_byte (b : UInt8) : IntKind.i64.wrap (b.toNat : Int) = b.toNat := wrap_id _ (by omega) (by have := UInt8.toNat_lt b; omega)
set_option maxHeartbeats 4000000 in
theorem rat_go (s : ByteArray) (n : Nat) (w : World) (h : 5 * n + 5 ≤ s.size) (hs : s.size ≤ 1000000) :
    Calls Tryz.prog 152 #[.string s, .int .i64 n] w fun e w' => e = .returned (.agg #[.int .i64 (P.insAt s.data.toList n).op, .int .i64 (P.insAt s.data.toList n).a, .int .i64 (P.insAt s.data.toList n).b, .int .i64 (P.insAt s.data.toList n).k]) ∧ Below w.heap.size w w' := by
  have h5 : (n : Int) * 5 + 5 ≤ s.size := by omega
  have w1 : wrap64 (5 * (n : Int)) = 5 * (n : Int) := by unfold wrap64; omega
  have w2 : wrap64 (5 * (n : Int) + 5) = 5 * (n : Int) + 5 := by unfold wrap64; omega
  go_enter Tryz.func152, Tryz.ntmps152
  go_wp2_with fail
  have hbs : ∀ i (hi : i < 5), P.byteAt s.data.toList (5 * n + i) = (s.extract (5 * n) (5 * n + 5))[i]!.toNat := by
    intro i hi
    have hsz : (s.extract (5 * n) (5 * n + 5)).size = 5 := by simp; omega
    rw [getElem!_pos (s.extract (5 * n) (5 * n + 5)) i (by omega)]
    unfold P.byteAt
    have h1 : (s.extract (5 * n) (5 * n + 5)).data.toList[i]? = some ((s.extract (5 * n) (5 * n + 5))[i]'(by omega)) := get_of (by omega)
    rw [ByteArray.data_extract] at h1
    rw [show s.data.toList[5 * n + i]? = some ((s.extract (5 * n) (5 * n + 5))[i]'(by omega)) from by
      rw [← h1, Array.toList_extract, List.extract_eq_take_drop, List.getElem?_take_of_lt (by omega), List.getElem?_drop]]
    rfl
  have hsz : (s.extract (5 * n) (5 * n + 5)).size = 5 := by simp; omega
  generalize s.extract (5 * n) (5 * n + 5) = t at hbs hsz ⊢
  have HI : Hid (P.insAt s.data.toList n = ⟨t[0]!.toNat, t[1]!.toNat, t[2]!.toNat, t[3]!.toNat + t[4]!.toNat * 256⟩) := by
    unfold Hid P.insAt
    rw [← hbs 0 (by omega), ← hbs 1 (by omega), ← hbs 2 (by omega), ← hbs 3 (by omega), ← hbs 4 (by omega)]
    rfl
  clear hbs
  obtain ⟨b0, hb0⟩ : ∃ b, t[0]! = b := ⟨_, rfl⟩
  obtain ⟨b1, hb1⟩ : ∃ b, t[1]! = b := ⟨_, rfl⟩
  obtain ⟨b2, hb2⟩ : ∃ b, t[2]! = b := ⟨_, rfl⟩
  obtain ⟨b3, hb3⟩ : ∃ b, t[3]! = b := ⟨_, rfl⟩
  obtain ⟨b4, hb4⟩ : ∃ b, t[4]! = b := ⟨_, rfl⟩
  rw [hb0, hb1, hb2, hb3, hb4] at HI
  have e0 : ∀ h, t[0]'h = b0 := fun h => by rw [← hb0, getElem!_pos t 0 h]
  have e1 : ∀ h, t[1]'h = b1 := fun h => by rw [← hb1, getElem!_pos t 1 h]
  have e2 : ∀ h, t[2]'h = b2 := fun h => by rw [← hb2, getElem!_pos t 2 h]
  have e3 : ∀ h, t[3]'h = b3 := fun h => by rw [← hb3, getElem!_pos t 3 h]
  have e4 : ∀ h, t[4]'h = b4 := fun h => by rw [← hb4, getElem!_pos t 4 h]
  clear hb0 hb1 hb2 hb3 hb4 h h5 w1 w2
  go_region
  clear e0 e1 e2 e3 e4
  go_wp2_with fail
  go_returns
  have x0 : wrap64 (b0.toNat : Int) = b0.toNat := by have := UInt8.toNat_lt b0; unfold wrap64; omega
  have x1 : wrap64 (b1.toNat : Int) = b1.toNat := by have := UInt8.toNat_lt b1; unfold wrap64; omega
  have x2 : wrap64 (b2.toNat : Int) = b2.toNat := by have := UInt8.toNat_lt b2; unfold wrap64; omega
  have x3 : wrap64 (b3.toNat : Int) = b3.toNat := by have := UInt8.toNat_lt b3; unfold wrap64; omega
  have x4 : wrap64 (b4.toNat : Int) = b4.toNat := by have := UInt8.toNat_lt b4; unfold wrap64; omega
  have x5 : wrap64 (256 * (b4.toNat : Int)) = 256 * (b4.toNat : Int) := by have := UInt8.toNat_lt b4; unfold wrap64; omega
  have x6 : wrap64 ((b3.toNat : Int) + 256 * (b4.toNat : Int)) = (b3.toNat : Int) + (b4.toNat : Int) * 256 := by have := UInt8.toNat_lt b3; have := UInt8.toNat_lt b4; unfold wrap64; omega
  refine ⟨?_, ?_⟩
  · rw [HI.out]
    simp [x0, x1, x2, x3, x4, x5, x6]
  · exact ⟨rfl, rfl, rfl, by simp, fun k hk => Below.heap_alloc _ _ _ hk⟩

set_option maxHeartbeats 400000 in
theorem rgoes_any (op a b k : Nat) (w : World) : Calls Tryz.prog 153 #[.agg #[.int .i64 op, .int .i64 a, .int .i64 b, .int .i64 k]] w fun e w' => e = .returned (.bool (decide (11 ≤ op ∧ op ≤ 14))) ∧ Below w.heap.size w w' := by
  by_cases h : 11 ≤ op
  · have h' : (11 : Int) ≤ op := by omega
    go_enter Tryz.func153, Tryz.ntmps153
    go_wp2_with fail
    go_ret
    exact ⟨by rw [show decide (11 ≤ op ∧ op ≤ 14) = decide (op ≤ 14) from by simp [h]]; simp; omega, (Below.refl _ _).alloc (Nat.le_refl _) _⟩
  · have h' : ¬ (11 : Int) ≤ op := by omega
    go_enter Tryz.func153, Tryz.ntmps153
    go_wp2_with fail
    go_ret
    exact ⟨by simp, (Below.refl _ _).alloc (Nat.le_refl _) _⟩

theorem ok_next {c q : Nat} {l : List UInt8} {x : P.I} (HQ : Hid (∀ i, i < q → P.OkI c (P.insAt l i))) (HX : Hid (P.insAt l q = x)) (HOK : Hid (P.OkI c x)) : Hid (∀ i, i < q + 1 → P.OkI c (P.insAt l i)) := by
  intro i hi
  by_cases hiq : i = q
  · subst hiq; rw [HX.out]; exact HOK.out
  · exact HQ.out i (by omega)
set_option maxHeartbeats 4000000 in
theorem risCode_any (s : ByteArray) (w : World) (hs : s.size ≤ maxLen) :
    Calls Tryz.prog 150 #[.string s] w fun e w' => e = .returned (.bool (decide (P.IsCode s.data.toList))) ∧ Below w.heap.size w w' := by
  have hlen := tl_len' s
  have hs' := hs
  unfold maxLen at hs
  obtain ⟨c, hc⟩ : ∃ c, s.size / 5 = c := ⟨_, rfl⟩
  have hcc : (s.size : Int) / 5 = c := by omega
  by_cases hc3 : s.size % 5 = 0
  · by_cases hc1 : c < 1
    · have HN : Hid (decide (P.IsCode s.data.toList) = false) := decide_eq_false (fun h => by have := h.some; omega)
      have hm : (s.size : Int) % 5 = 0 := by omega
      clear hc hlen hc3
      go_enter Tryz.func150, Tryz.ntmps150
      go_wp2_with fail
      go_ret
      exact ⟨by rw [HN.out]; rfl, Below.refl _ _⟩
    · by_cases hc2 : 800 < c
      · have HN : Hid (decide (P.IsCode s.data.toList) = false) := decide_eq_false (fun h => by have := h.few; omega)
        have hm : (s.size : Int) % 5 = 0 := by omega
        have hc1' : ¬ (c : Int) < 1 := by omega
        have hc2' : (800 : Int) < c := by omega
        clear hc hlen hc3
        go_enter Tryz.func150, Tryz.ntmps150
        go_wp2_with fail
        go_ret
        exact ⟨by rw [HN.out]; rfl, Below.refl _ _⟩
      · have hm : (s.size : Int) % 5 = 0 := by omega
        have hc1' : ¬ (c : Int) < 1 := by omega
        have hc2' : ¬ (800 : Int) < c := by omega
        have HC : Hid (s.data.toList.length / 5 = c) := by unfold Hid; omega
        have HF : Hid (s.data.toList.length = 5 * c) := by unfold Hid; omega
        have hbig : s.size ≤ 4000 := by omega
        have HS5 : Hid (s.size = 5 * c) := by unfold Hid; omega
        clear hlen hc hc3
        go_enter Tryz.func150, Tryz.ntmps150
        go_wp2_with fail
        go_loopw [4] (fun j wr => ∃ (q : Nat), q ≤ c ∧ j = .int .i64 q ∧ Hid (∀ i, i < q → P.OkI c (P.insAt s.data.toList i)) ∧ Below w.heap.size w wr) (fun j _ => c - (intOf j).toNat)
        case atStart => exact ⟨0, by omega, rfl, fun i hi => absurd hi (Nat.not_lt_zero _), Below.refl _ _⟩
        case round =>
          obtain ⟨q, hq, rfl, HQ, hbe⟩ := hrel
          by_cases hlt : q < c
          · have hin := fun w => rat_go s q w (by have := HS5.out; omega) (by omega)
            have hxb := insAt_lt s.data.toList q
            obtain ⟨x, hx⟩ : ∃ x, P.insAt s.data.toList q = x := ⟨_, rfl⟩
            rw [hx] at hin hxb
            have HX : Hid (P.insAt s.data.toList q = x) := hx
            clear hx
            obtain ⟨op, a, b, k⟩ := x
            simp only at hxb
            have HI := hid_m hin
            clear hin
            go_wp2_with fail
            refine (HI.out _).mono ?_
            rintro e w2 ⟨rfl, hb2⟩
            go_wp2_with fail
            refine (rgoes_any op a b k _).mono ?_
            rintro e w3 ⟨rfl, hb3⟩
            have hb2a : Below wr.heap.size wr (w2.alloc (.cells #[.int .i64 op, .int .i64 a, .int .i64 b, .int .i64 k] 194)) := hb2.alloc hb2.size _
            have hb23 : Below wr.heap.size wr w3 := hb2a.trans (hb3.mono hb2a.size)
            have hbe3 : Below w.heap.size w w3 := hbe.trans (hb23.mono hbe.size)
            have hnew : w3.heap[w2.heap.size]? = some (.cells #[.int .i64 op, .int .i64 a, .int .i64 b, .int .i64 k] 194 (0, 0)) := by rw [hb3.block _ (by simp)]; exact heap_alloc_new _ _
            have n0 : w3.cell? ⟨w2.heap.size, 0, none⟩ = some (.int .i64 op) := by rw [cell_of_row _ _ _ _ _ _ hnew]; rfl
            have n1 : w3.cell? ⟨w2.heap.size, 1, none⟩ = some (.int .i64 a) := by rw [cell_of_row _ _ _ _ _ _ hnew]; rfl
            have n2 : w3.cell? ⟨w2.heap.size, 2, none⟩ = some (.int .i64 b) := by rw [cell_of_row _ _ _ _ _ _ hnew]; rfl
            have n3 : w3.cell? ⟨w2.heap.size, 3, none⟩ = some (.int .i64 k) := by rw [cell_of_row _ _ _ _ _ _ hnew]; rfl
            clear hb2 hb3 hb23 hb2a hnew
            by_cases h1 : 14 < op
            · have h1' : (14 : Int) < op := by omega
              have HN : Hid (decide (P.IsCode s.data.toList) = false) := decide_eq_false (fun h => by have hh := h.all q (by rw [HC.out]; exact hlt); rw [HC.out, HX.out] at hh; have : op ≤ 14 := hh.1; omega)
              go_wp2_with fail
              go_ret
              exact ⟨by rw [HN.out]; rfl, hbe3⟩
            · have h1' : ¬ (14 : Int) < op := by omega
              by_cases h2 : 15 < a
              · have h2' : (15 : Int) < a := by omega
                have HN : Hid (decide (P.IsCode s.data.toList) = false) := decide_eq_false (fun h => by have hh := h.all q (by rw [HC.out]; exact hlt); rw [HC.out, HX.out] at hh; have : a ≤ 15 := hh.2.1; omega)
                go_wp2_with fail
                go_ret
                exact ⟨by rw [HN.out]; rfl, hbe3⟩
              · have h2' : ¬ (15 : Int) < a := by omega
                by_cases h3 : 15 < b
                · have h3' : (15 : Int) < b := by omega
                  have HN : Hid (decide (P.IsCode s.data.toList) = false) := decide_eq_false (fun h => by have hh := h.all q (by rw [HC.out]; exact hlt); rw [HC.out, HX.out] at hh; have : b ≤ 15 := hh.2.2.1; omega)
                  go_wp2_with fail
                  go_ret
                  exact ⟨by rw [HN.out]; rfl, hbe3⟩
                · have h3' : ¬ (15 : Int) < b := by omega
                  by_cases h4 : 11 ≤ op
                  · rw [decide_eq_true (p := 11 ≤ op ∧ op ≤ 14) ⟨h4, by omega⟩]
                    have h8 : ¬ (op : Int) = 8 := by omega
                    by_cases h5 : c ≤ k
                    · have h5' : (c : Int) ≤ k := by omega
                      have HN : Hid (decide (P.IsCode s.data.toList) = false) := decide_eq_false (fun h => by have hh := h.all q (by rw [HC.out]; exact hlt); rw [HC.out, HX.out] at hh; have : k < c := hh.2.2.2.1 h4; omega)
                      go_wp2_with fail
                      go_ret
                      exact ⟨by rw [HN.out]; rfl, hbe3⟩
                    · have h5' : ¬ (c : Int) ≤ k := by omega
                      have HOK : Hid (P.OkI c ⟨op, a, b, k⟩) := ⟨by show op ≤ 14; omega, by show a ≤ 15; omega, by show b ≤ 15; omega, fun _ => by show k < c; omega, fun (e : op = 8) => by omega⟩
                      go_wp2_with fail
                      exact ⟨⟨q + 1, by omega, by go_num, ok_next HQ HX HOK, hbe3⟩, by simp [intOf]; omega⟩
                  · rw [decide_eq_false (p := 11 ≤ op ∧ op ≤ 14) (fun h => h4 h.1)]
                    by_cases h8 : op = 8
                    · have h8' : (op : Int) = 8 := by omega
                      by_cases h5 : 31 < k
                      · have h5' : (31 : Int) < k := by omega
                        have HN : Hid (decide (P.IsCode s.data.toList) = false) := decide_eq_false (fun h => by have hh := h.all q (by rw [HC.out]; exact hlt); rw [HC.out, HX.out] at hh; have : k ≤ 31 := hh.2.2.2.2 h8; omega)
                        go_wp2_with fail
                        go_ret
                        exact ⟨by rw [HN.out]; rfl, hbe3⟩
                      · have h5' : ¬ (31 : Int) < k := by omega
                        have HOK : Hid (P.OkI c ⟨op, a, b, k⟩) := ⟨by show op ≤ 14; omega, by show a ≤ 15; omega, by show b ≤ 15; omega, fun e => absurd e h4, fun _ => by show k ≤ 31; omega⟩
                        subst h8
                        clear h8'
                        go_wp2_with fail
                        exact ⟨⟨q + 1, by omega, by go_num, ok_next HQ HX HOK, hbe3⟩, by simp [intOf]; omega⟩
                    · have h8' : ¬ (op : Int) = 8 := by omega
                      have HOK : Hid (P.OkI c ⟨op, a, b, k⟩) := ⟨by show op ≤ 14; omega, by show a ≤ 15; omega, by show b ≤ 15; omega, fun e => absurd e h4, fun e => absurd e h8⟩
                      go_wp2_with fail
                      exact ⟨⟨q + 1, by omega, by go_num, ok_next HQ HX HOK, hbe3⟩, by simp [intOf]; omega⟩
          · obtain rfl : q = c := by omega
            have hin := fun w => rat_go s (q - 1) w (by have := HS5.out; omega) (by omega)
            have HEN : Hid (P.insAt s.data.toList (s.data.toList.length / 5 - 1) = P.insAt s.data.toList (q - 1)) := by unfold Hid; rw [HC.out]
            obtain ⟨x, hx⟩ : ∃ x, P.insAt s.data.toList (q - 1) = x := ⟨_, rfl⟩
            rw [hx] at hin
            have HX : Hid (P.insAt s.data.toList (q - 1) = x) := hx
            clear hx
            obtain ⟨op, a, b, k⟩ := x
            have hq1 : wrap64 ((q : Int) - 1) = (q : Int) - 1 := by unfold wrap64; omega
            have hin' : ∀ w, Calls Tryz.prog 152 #[.string s, .int .i64 ((q : Int) - 1)] w fun e w' => e = .returned (.agg #[.int .i64 op, .int .i64 a, .int .i64 b, .int .i64 k]) ∧ Below w.heap.size w w' := by
              intro w
              have := hin w
              rw [show (((q - 1 : Nat)) : Int) = (q : Int) - 1 by omega] at this
              exact this
            have HI := hid_m hin'
            clear hin hin'
            go_wp2_with fail
            refine (HI.out _).mono ?_
            rintro e w2 ⟨rfl, hb2⟩
            have hbe2 : Below w.heap.size w w2 := hbe.trans (hb2.mono hbe.size)
            have hbe3 : Below w.heap.size w (w2.alloc (.cells #[.int .i64 op, .int .i64 a, .int .i64 b, .int .i64 k] 194)) := hbe2.alloc hbe2.size _
            have HD : Hid (decide (P.IsCode s.data.toList) = decide (op = 0 ∨ op = 11)) := by
              refine decide_eq_decide.2 ⟨fun h => by have := h.last; rw [HEN.out, HX.out] at this; exact this, fun h => ⟨by rw [HC.out]; exact HF.out, by rw [HC.out]; omega, by rw [HC.out]; omega, by rw [HC.out]; exact HQ.out, by rw [HEN.out, HX.out]; exact h⟩⟩
            by_cases h0 : op = 0
            · subst h0
              go_wp2_with fail
              go_ret
              exact ⟨by rw [HD.out]; simp, hbe3⟩
            · have h0' : ¬ (op : Int) = 0 := by omega
              by_cases h11 : op = 11
              · subst h11
                go_wp2_with fail
                go_ret
                exact ⟨by rw [HD.out]; rfl, hbe3⟩
              · have h11' : ¬ (op : Int) = 11 := by omega
                have HD' : Hid (decide (P.IsCode s.data.toList) = false) := by unfold Hid; rw [HD.out]; exact decide_eq_false (fun h => h.elim h0 h11)
                go_wp2_with fail
                go_ret
                exact ⟨by rw [HD'.out]; simp; omega, hbe3⟩
  · have HN : Hid (decide (P.IsCode s.data.toList) = false) := decide_eq_false (fun h => by have := h.five; omega)
    have hm : ¬ (s.size : Int) % 5 = 0 := by omega
    clear hc hlen hc3
    go_enter Tryz.func150, Tryz.ntmps150
    go_wp2_with fail
    go_ret
    exact ⟨by rw [HN.out]; rfl, Below.refl _ _⟩

set_option maxHeartbeats 400000 in
theorem rcheck_any (s : ByteArray) (w : World) (hs : s.size ≤ maxLen) :
    Calls Tryz.prog 123 #[.string s] w fun e w' => e = .returned (.int .i64 (if P.IsCode s.data.toList then 0 else 4)) ∧ Below w.heap.size w w' := by
  go_enter Tryz.func123, Tryz.ntmps123
  go_wp2_with fail
  refine (risCode_any s w hs).mono ?_
  rintro e w1 ⟨rfl, hb⟩
  by_cases h : P.IsCode s.data.toList
  · rw [decide_eq_true h]
    have HY := hid_m h
    clear h
    go_wp2_with fail
    go_ret
    exact ⟨by first | rfl | (rw [if_pos HY.out]; rfl), hb⟩
  · rw [decide_eq_false h]
    have HY := hid_m h
    clear h
    go_wp2_with fail
    go_ret
    exact ⟨by first | rfl | (rw [if_neg HY.out]; rfl), hb⟩
set_option maxHeartbeats 400000 in
theorem m_num_any (n : Int) (w : World) : Calls Tryz.prog 42 #[.int .i64 n] w fun e w' => e = .returned (.int .i64 n) ∧ w' = w := by
  go_enter Tryz.func42, Tryz.ntmps42
  go_wp2
  go_ret
  exact ⟨by simp, rfl⟩
end Go.Proofs.YtghggcehloiemabGreatDoor
