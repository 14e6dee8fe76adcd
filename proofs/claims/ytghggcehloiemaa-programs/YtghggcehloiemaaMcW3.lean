import Derived.Test.YtghggcehloiemaaMcR
namespace Go.Proofs.Ytghggcehloiemaa
open Go.RowKit
set_option linter.unusedVariables false
set_option maxRecDepth 16000

theorem Try.infoIns : (Try.prog.info? 104).map (fun i => (i.zero, i.size, i.bytes)) = some (some (.agg #[.int .i64 0, .int .i64 0, .int .i64 0, .int .i64 0]), 4, 32) := by kernel_rfl

/-- What 'Parse' answers. -/
def PPost (s : ByteArray) (w : World) (e : Ending) (w' : World) : Prop :=
  (if P.IsCode s.data.toList then ∃ v, e = .returned (.tuple #[.agg #[v], .bool true]) ∧ w'.ownsRow w.heap.size 104 4 v (P.codeOf s.data.toList).length (codeCells (P.codeOf s.data.toList))
    else e = .returned (.tuple #[.agg #[.slice none 0 0], .bool false])) ∧ Below w.heap.size w w'
theorem PPost.no {s : ByteArray} {w w' : World} {e : Ending} (h : ¬ P.IsCode s.data.toList) (he : e = .returned (.tuple #[.agg #[.slice none 0 0], .bool false])) (hb : Below w.heap.size w w') : PPost s w e w' := by
  unfold PPost; rw [if_neg h]; exact ⟨he, hb⟩
theorem PPost.yes {s : ByteArray} {w w' : World} {e : Ending} (h : P.IsCode s.data.toList) {v : Value} (he : e = .returned (.tuple #[.agg #[v], .bool true])) (ho : w'.ownsRow w.heap.size 104 4 v (P.codeOf s.data.toList).length (codeCells (P.codeOf s.data.toList))) (hb : Below w.heap.size w w') : PPost s w e w' := by
  unfold PPost; rw [if_pos h]; exact ⟨⟨v, he, ho⟩, hb⟩
theorem tl_len' (s : ByteArray) : s.data.toList.length = s.size := by simp
theorem hid_m {p : Prop} (h : p) : Hid p := h
theorem insAt_lt (l : List UInt8) (q : Nat) : (P.insAt l q).op < 65536 ∧ (P.insAt l q).a < 65536 ∧ (P.insAt l q).b < 65536 ∧ (P.insAt l q).k < 65536 := by
  have := P.byteAt_lt l
  have h0 := this (5 * q); have h1 := this (5 * q + 1); have h2 := this (5 * q + 2); have h3 := this (5 * q + 3); have h4 := this (5 * q + 4)
  simp only [P.insAt]
  omega

set_option maxHeartbeats 4000000 in
theorem mparse_any (s : ByteArray) (w : World) (hs : s.size ≤ maxLen) :
    Calls Try.prog 34 #[.string s] w fun e w' => PPost s w e w' := by
  obtain ⟨i0, hi0, hz0, hz1, hz2⟩ := info_parts Try.infoIns
  have hlen := tl_len' s
  have hs' := hs
  unfold maxLen at hs
  obtain ⟨c, hc⟩ : ∃ c, s.size / 5 = c := ⟨_, rfl⟩
  have hcc : (s.size : Int) / 5 = c := by omega
  have hal : Below w.heap.size w (w.alloc (.cells #[.slice none 0 0] 68)) := (Below.refl _ _).alloc (Nat.le_refl _) _
  have hc5 : 5 * c ≤ s.size := by omega
  by_cases hc1 : c < 1
  · have HN : Hid (¬ P.IsCode s.data.toList) := fun h => by have := h.some; omega
    clear hc hc5 hlen
    go_enter Try.func34, Try.ntmps34
    go_wp2_with fail
    go_returns
    exact PPost.no HN.out rfl hal
  · by_cases hc2 : 800 < c
    · have HN : Hid (¬ P.IsCode s.data.toList) := fun h => by have := h.few; omega
      have hc1' : ¬ (c : Int) < 1 := by omega
      have hc2' : (800 : Int) < c := by omega
      clear hc hc5 hlen
      go_enter Try.func34, Try.ntmps34
      go_wp2_with fail
      go_returns
      exact PPost.no HN.out rfl hal
    · have hc1' : ¬ (c : Int) < 1 := by omega
      have hc2' : ¬ (800 : Int) < c := by omega
      have hwc : wrap64 ((c : Int) * 5) = (c : Int) * 5 := by unfold wrap64; omega
      by_cases hc3 : s.size = 5 * c
      · have hc3' : (s.size : Int) = (c : Int) * 5 := by omega
        have HC : Hid (s.data.toList.length / 5 = c) := by unfold Hid; omega
        have HF : Hid (s.data.toList.length = 5 * c) := by unfold Hid; omega
        have hbig : s.size ≤ 4000 := by omega
        have HS5 : Hid (s.size = 5 * c) := hc3
        clear hlen hc5 hc hcc hc3
        go_enter Try.func34, Try.ntmps34
        go_wp2_with fail
        go_loopw [5, 6] (fun l j wr => ∃ (q : Nat), q ≤ c ∧ j = .int .i64 q ∧ wr.ownsRow (w.heap.size + 1) 104 4 l q (codeCells ((P.codeOf s.data.toList).take q)) ∧ Hid (∀ i, i < q → P.OkI c (P.insAt s.data.toList i)) ∧ Below w.heap.size w wr ∧ wr.heap[w.heap.size]? = some (.cells #[.slice none 0 0] 68 (0, 0))) (fun _ j _ => c - (intOf j).toNat)
        case atStart => exact ⟨0, by omega, rfl, World.ownsRow_nil _ _ _ _, fun i hi => absurd hi (Nat.not_lt_zero _), hal, heap_alloc_new w _⟩
        case round =>
          obtain ⟨q, hq, rfl, hown, HQ, hbe, hblk⟩ := hrel
          by_cases hlt : q < c
          · have hin := fun w => insAt_any' s q w (by have := HS5.out; omega) hs'
            have hcode : Hid ((P.codeOf s.data.toList)[q]? = some (P.insAt s.data.toList q)) := P.codeOf_get _ _ (by rw [HC.out]; exact hlt)
            have hxb := insAt_lt s.data.toList q
            obtain ⟨x, hx⟩ : ∃ x, P.insAt s.data.toList q = x := ⟨_, rfl⟩
            rw [hx] at hin hxb
            have HX : Hid (P.insAt s.data.toList q = x) := hx
            clear hx
            obtain ⟨op, a, b, k⟩ := x
            simp only at hxb
            have HI := hid_m hin
            clear hin
            go_wp2_with fail
            refine (HI.out _).mono ?_
            rintro e w2 ⟨rfl, hb2⟩
            go_wp2_with fail
            refine (allowed_any op a b k c _).mono ?_
            rintro e w3 ⟨rfl, hb3⟩
            have hb2a : Below wr.heap.size wr (w2.alloc (.cells #[.int .i64 op, .int .i64 a, .int .i64 b, .int .i64 k] 104)) := hb2.alloc hb2.size _
            have hb23 : Below wr.heap.size wr w3 := hb2a.trans (hb3.mono hb2a.size)
            have hnew : w3.heap[w2.heap.size]? = some (.cells #[.int .i64 op, .int .i64 a, .int .i64 b, .int .i64 k] 104 (0, 0)) := by rw [hb3.block _ (by simp)]; exact heap_alloc_new _ _
            have n0 : w3.cell? ⟨w2.heap.size, 0, none⟩ = some (.int .i64 op) := by rw [cell_of_row _ _ _ _ _ _ hnew]; rfl
            have n1 : w3.cell? ⟨w2.heap.size, 1, none⟩ = some (.int .i64 a) := by rw [cell_of_row _ _ _ _ _ _ hnew]; rfl
            have n2 : w3.cell? ⟨w2.heap.size, 2, none⟩ = some (.int .i64 b) := by rw [cell_of_row _ _ _ _ _ _ hnew]; rfl
            have n3 : w3.cell? ⟨w2.heap.size, 3, none⟩ = some (.int .i64 k) := by rw [cell_of_row _ _ _ _ _ _ hnew]; rfl
            have hown3 := owns_on hown hb23
            have hbe3 : Below w.heap.size w w3 := hbe.trans (hb23.mono hbe.size)
            have hblk3 : w3.heap[w.heap.size]? = some (.cells #[.slice none 0 0] 68 (0, 0)) := by rw [hb23.block _ (m_blk_lt hblk)]; exact hblk
            have hlt3 := m_blk_lt hblk3
            clear hb2 hb3 hb23 hb2a hnew
            by_cases hok : P.OkI c ⟨op, a, b, k⟩
            · rw [decide_eq_true hok]
              have HOK := hid_m hok
              clear hok
              go_wp2_with (first
                | (at_builtin; refine wpList_append_lies _ rfl _ _ 66 rfl (w.heap.size + 1) 104 i0 (.agg #[.int .i64 0, .int .i64 0, .int .i64 0, .int .i64 0]) 4 32 Try.underlying66 hi0 hz0 hz1 hz2 rfl (by decide) u5 q (codeCells ((P.codeOf s.data.toList).take q)) rfl (hown3.alloc _) ⟨w3.heap.size, 0, none⟩ 1 1 (insCells ⟨op, a, b, k⟩) rfl rfl (m_four_new _ _ _ _ _ _) (fun x hx => by simp [insCells] at hx; rcases hx with rfl | rfl | rfl | rfl <;> rfl) (by omega) (by unfold maxLen; omega) (by omega) (by simp; omega) _ rfl ?_; intro g cap w4 hown' hgrow hat hlt'
                   have hbe4 := m_grown_below hbe3 hown3 hgrow (Nat.le_succ _)
                   have hblk4 := m_grown_blk hown3 hgrow (Nat.lt_succ_self _) hblk3))
              refine ⟨⟨q + 1, by omega, by go_num, ?_, ?_, hbe4, hblk4⟩, by simp [intOf]; omega⟩
              · have ht : (P.codeOf s.data.toList).take (q + 1) = (P.codeOf s.data.toList).take q ++ [⟨op, a, b, k⟩] := by
                  rw [List.take_add_one, hcode.out, HX.out]; rfl
                rw [ht, codeCells_append]
                have : codeCells [(⟨op, a, b, k⟩ : P.I)] = insCells ⟨op, a, b, k⟩ := by simp [codeCells]
                rw [this]; exact hown'
              · intro i hi
                by_cases hiq : i = q
                · subst hiq; rw [HX.out]; exact HOK.out
                · exact HQ.out i (by omega)
            · rw [decide_eq_false hok]
              have HN : Hid (¬ P.IsCode s.data.toList) := fun h => hok (by have := h.all q (by rw [HC.out]; exact hlt); rw [HC.out, HX.out] at this; exact this)
              clear hok
              have m0 : w3.cell? ⟨w.heap.size, 0, none⟩ = some (.slice none 0 0) := by rw [cell_of_row _ _ _ _ _ _ hblk3]; rfl
              have mf : w3.frozen? ⟨w.heap.size, 0, none⟩ = false := by simp [World.frozen?, hblk3]
              go_wp2_with fail
              have z : (w3.setCell ⟨w.heap.size, 0, none⟩ (.slice none 0 0)).cell? ⟨w.heap.size, 0, none⟩ = some (.slice none 0 0) := World.cell?_setCell_same' _ _ _ (by rw [m0]; rfl)
              refine bodyPost_ret (v := .tuple #[.agg #[.slice none 0 0], .bool false]) (by simp [results, Try.results34, go_sem, z]) rfl ?_
              exact PPost.no HN.out rfl (hbe3.setCell (Nat.le_refl _) _)
          · obtain rfl : q = c := by omega
            have hlast := P.codeOf_get s.data.toList (q - 1) (by rw [HC.out]; omega)
            have HTK : Hid ((P.codeOf s.data.toList).take q = P.codeOf s.data.toList) := List.take_of_length_le (by rw [P.codeOf_length, HC.out]; exact Nat.le_refl _)
            rw [HTK.out] at hown
            have HLN : Hid ((P.codeOf s.data.toList).length = q) := by unfold Hid; rw [P.codeOf_length, HC.out]
            have HEN : Hid (P.insAt s.data.toList (s.data.toList.length / 5 - 1) = P.insAt s.data.toList (q - 1)) := by unfold Hid; rw [HC.out]
            obtain ⟨g, cap, hv, hgb, hgl⟩ := hown.form (by omega)
            subst hv
            obtain ⟨x, hx⟩ : ∃ x, P.insAt s.data.toList (q - 1) = x := ⟨_, rfl⟩
            rw [hx] at hlast
            have HX : Hid (P.insAt s.data.toList (q - 1) = x) := hx
            clear hx
            obtain ⟨d0, d1, d2, d3, hN1, hN2⟩ := ins_cell hown HLN.out.symm hlast
            clear hlast hN1 hN2
            obtain ⟨op, a, b, k⟩ := x
            simp only at d0 d1 d2 d3
            have hq1 : wrap64 ((q : Int) - 1) = (q : Int) - 1 := by unfold wrap64; omega
            have hq2 : (0 : Int) ≤ (q : Int) - 1 := by omega
            have hq3 : (q : Int) - 1 < q := by omega
            have hq4 : ((q : Int) - 1).toNat = q - 1 := by omega
            have HOWN := hid_m hown
            clear hown
            go_wp2_with fail
            refine (nextFollows_any op a b k _).mono ?_
            rintro e w2 ⟨rfl, hb2⟩
            have hown2 := owns_on HOWN.out hb2
            have hbe2 : Below w.heap.size w w2 := hbe.trans (hb2.mono hbe.size)
            have hblk2 : w2.heap[w.heap.size]? = some (.cells #[.slice none 0 0] 68 (0, 0)) := by rw [hb2.block _ (m_blk_lt hblk)]; exact hblk
            have m0 : w2.cell? ⟨w.heap.size, 0, none⟩ = some (.slice none 0 0) := by rw [cell_of_row _ _ _ _ _ _ hblk2]; rfl
            have mf : w2.frozen? ⟨w.heap.size, 0, none⟩ = false := by simp [World.frozen?, hblk2]
            clear d0 d1 d2 d3 hblk hb2
            by_cases hend : op = 0 ∨ op = 11
            · have HY : Hid (P.IsCode s.data.toList) := ⟨by rw [HC.out]; exact HF.out, by rw [HC.out]; omega, by rw [HC.out]; omega, by rw [HC.out]; exact HQ.out, by rw [HEN.out, HX.out]; exact hend⟩
              rw [decide_eq_false (not_not_intro hend)]
              clear hend
              go_wp2_with fail
              have z : (w2.setCell ⟨w.heap.size, 0, none⟩ (.slice (some ⟨g, 0, none⟩) q cap)).cell? ⟨w.heap.size, 0, none⟩ = some (.slice (some ⟨g, 0, none⟩) q cap) := World.cell?_setCell_same' _ _ _ (by rw [m0]; rfl)
              refine bodyPost_ret (v := .tuple #[.agg #[.slice (some ⟨g, 0, none⟩) q cap], .bool true]) (by simp [results, Try.results34, go_sem, z]) rfl ?_
              exact PPost.yes HY.out rfl (by rw [HLN.out]; exact owns_less (owns_set 0 _ hown2) (Nat.le_succ _)) (hbe2.setCell (Nat.le_refl _) _)
            · have HN : Hid (¬ P.IsCode s.data.toList) := fun h => hend (by have := h.last; rw [HEN.out, HX.out] at this; exact this)
              rw [decide_eq_true hend]
              clear hend
              go_wp2_with fail
              have z : (w2.setCell ⟨w.heap.size, 0, none⟩ (.slice none 0 0)).cell? ⟨w.heap.size, 0, none⟩ = some (.slice none 0 0) := World.cell?_setCell_same' _ _ _ (by rw [m0]; rfl)
              refine bodyPost_ret (v := .tuple #[.agg #[.slice none 0 0], .bool false]) (by simp [results, Try.results34, go_sem, z]) rfl ?_
              exact PPost.no HN.out rfl (hbe2.setCell (Nat.le_refl _) _)
      · have hc3' : ¬ (s.size : Int) = (c : Int) * 5 := by omega
        have HN : Hid (¬ P.IsCode s.data.toList) := fun h => by have := h.five; omega
        clear hc hc5 hlen
        go_enter Try.func34, Try.ntmps34
        go_wp2_with fail
        go_returns
        exact PPost.no HN.out rfl hal

set_option maxHeartbeats 400000 in
theorem check_any (s : ByteArray) (w : World) (hs : s.size ≤ maxLen) :
    Calls Try.prog 17 #[.string s] w fun e w' => e = .returned (.int .i64 (if P.IsCode s.data.toList then 0 else 4)) ∧ Below w.heap.size w w' := by
  go_enter Try.func17, Try.ntmps17
  go_wp2_with fail
  refine (mparse_any s w hs).mono ?_
  rintro e w1 ⟨hpost, hb⟩
  by_cases h : P.IsCode s.data.toList
  · rw [if_pos h] at hpost
    obtain ⟨v, rfl, hown⟩ := hpost
    obtain ⟨a, N, cap, rfl⟩ := m_owns_form hown
    have HY := hid_m h
    clear h
    go_wp2_with fail
    go_ret
    exact ⟨by first | rfl | (rw [if_pos HY.out]; rfl), hb.alloc hb.size _⟩
  · rw [if_neg h] at hpost
    subst hpost
    have HY := hid_m h
    clear h
    go_wp2_with fail
    go_ret
    exact ⟨by first | rfl | (rw [if_neg HY.out]; rfl), hb.alloc hb.size _⟩
end Go.Proofs.Ytghggcehloiemaa
