import Derived.Test.YtghggcehloiemaaMcW3
namespace Go.Proofs.Ytghggcehloiemaa
open Go.RowKit
set_option linter.unusedVariables false
set_option maxRecDepth 16000

theorem wrap_byte (b : UInt8) : IntKind.i64.wrap (b.toNat : Int) = b.toNat := wrap_id _ (by omega) (by have := UInt8.toNat_lt b; omega)
set_option maxHeartbeats 4000000 in
theorem rat_go (s : ByteArray) (n : Nat) (w : World) (h : 5 * n + 5 ≤ s.size) (hs : s.size ≤ 1000000) :
    Calls Try.prog 39 #[.string s, .int .i64 n] w fun e w' => e = .returned (.agg #[.int .i64 (P.insAt s.data.toList n).op, .int .i64 (P.insAt s.data.toList n).a, .int .i64 (P.insAt s.data.toList n).b, .int .i64 (P.insAt s.data.toList n).k]) ∧ Below w.heap.size w w' := by
  have h5 : (n : Int) * 5 + 5 ≤ s.size := by omega
  have w1 : wrap64 (5 * (n : Int)) = 5 * (n : Int) := by unfold wrap64; omega
  have w2 : wrap64 (5 * (n : Int) + 5) = 5 * (n : Int) + 5 := by unfold wrap64; omega
  go_enter Try.func39, Try.ntmps39
  go_wp2_with fail
  have hbs : ∀ i (hi : i < 5), P.byteAt s.data.toList (5 * n + i) = (s.extract (5 * n) (5 * n + 5))[i]!.toNat := by
    intro i hi
    have hsz : (s.extract (5 * n) (5 * n + 5)).size = 5 := by simp; omega
    rw [getElem!_pos (s.extract (5 * n) (5 * n + 5)) i (by omega)]
    unfold P.byteAt
    have h1 : (s.extract (5 * n) (5 * n + 5)).data.toList[i]? = some ((s.extract (5 * n) (5 * n + 5))[i]'(by omega)) := get_of (by omega)
    rw [ByteArray.data_extract] at h1
    rw [show s.data.toList[5 * n + i]? = some ((s.extract (5 * n) (5 * n + 5))[i]'(by omega)) from by
      rw [← h1, Array.toList_extract, List.extract_eq_take_drop, List.getElem?_take_of_lt (by omega), List.getElem?_drop]]
    rfl
  have hsz : (s.extract (5 * n) (5 * n + 5)).size = 5 := by simp; omega
  generalize s.extract (5 * n) (5 * n + 5) = t at hbs hsz ⊢
  have HI : Hid (P.insAt s.data.toList n = ⟨t[0]!.toNat, t[1]!.toNat, t[2]!.toNat, t[3]!.toNat + t[4]!.toNat * 256⟩) := by
    unfold Hid P.insAt
    rw [← hbs 0 (by omega), ← hbs 1 (by omega), ← hbs 2 (by omega), ← hbs 3 (by omega), ← hbs 4 (by omega)]
    rfl
  clear hbs
  obtain ⟨b0, hb0⟩ : ∃ b, t[0]! = b := ⟨_, rfl⟩
  obtain ⟨b1, hb1⟩ : ∃ b, t[1]! = b := ⟨_, rfl⟩
  obtain ⟨b2, hb2⟩ : ∃ b, t[2]! = b := ⟨_, rfl⟩
  obtain ⟨b3, hb3⟩ : ∃ b, t[3]! = b := ⟨_, rfl⟩
  obtain ⟨b4, hb4⟩ : ∃ b, t[4]! = b := ⟨_, rfl⟩
  rw [hb0, hb1, hb2, hb3, hb4] at HI
  have e0 : ∀ h, t[0]'h = b0 := fun h => by rw [← hb0, getElem!_pos t 0 h]
  have e1 : ∀ h, t[1]'h = b1 := fun h => by rw [← hb1, getElem!_pos t 1 h]
  have e2 : ∀ h, t[2]'h = b2 := fun h => by rw [← hb2, getElem!_pos t 2 h]
  have e3 : ∀ h, t[3]'h = b3 := fun h => by rw [← hb3, getElem!_pos t 3 h]
  have e4 : ∀ h, t[4]'h = b4 := fun h => by rw [← hb4, getElem!_pos t 4 h]
  clear hb0 hb1 hb2 hb3 hb4 h h5 w1 w2
  go_region
  clear e0 e1 e2 e3 e4
  go_wp2_with fail
  go_returns
  have x0 : wrap64 (b0.toNat : Int) = b0.toNat := by have := UInt8.toNat_lt b0; unfold wrap64; omega
  have x1 : wrap64 (b1.toNat : Int) = b1.toNat := by have := UInt8.toNat_lt b1; unfold wrap64; omega
  have x2 : wrap64 (b2.toNat : Int) = b2.toNat := by have := UInt8.toNat_lt b2; unfold wrap64; omega
  have x3 : wrap64 (b3.toNat : Int) = b3.toNat := by have := UInt8.toNat_lt b3; unfold wrap64; omega
  have x4 : wrap64 (b4.toNat : Int) = b4.toNat := by have := UInt8.toNat_lt b4; unfold wrap64; omega
  have x5 : wrap64 (256 * (b4.toNat : Int)) = 256 * (b4.toNat : Int) := by have := UInt8.toNat_lt b4; unfold wrap64; omega
  have x6 : wrap64 ((b3.toNat : Int) + 256 * (b4.toNat : Int)) = (b3.toNat : Int) + (b4.toNat : Int) * 256 := by have := UInt8.toNat_lt b3; have := UInt8.toNat_lt b4; unfold wrap64; omega
  refine ⟨?_, ?_⟩
  · rw [HI.out]
    simp [x0, x1, x2, x3, x4, x5, x6]
  · exact ⟨rfl, rfl, rfl, by simp, fun k hk => Below.heap_alloc _ _ _ hk⟩

set_option maxHeartbeats 400000 in
theorem rgoes_any (op a b k : Nat) (w : World) : Calls Try.prog 40 #[.agg #[.int .i64 op, .int .i64 a, .int .i64 b, .int .i64 k]] w fun e w' => e = .returned (.bool (decide (11 ≤ op ∧ op ≤ 14))) ∧ Below w.heap.size w w' := by
  by_cases h : 11 ≤ op
  · have h' : (11 : Int) ≤ op := by omega
    go_enter Try.func40, Try.ntmps40
    go_wp2_with fail
    go_ret
    exact ⟨by rw [show decide (11 ≤ op ∧ op ≤ 14) = decide (op ≤ 14) from by simp [h]]; simp; omega, (Below.refl _ _).alloc (Nat.le_refl _) _⟩
  · have h' : ¬ (11 : Int) ≤ op := by omega
    go_enter Try.func40, Try.ntmps40
    go_wp2_with fail
    go_ret
    exact ⟨by simp, (Below.refl _ _).alloc (Nat.le_refl _) _⟩

theorem ok_next {c q : Nat} {l : List UInt8} {x : P.I} (HQ : Hid (∀ i, i < q → P.OkI c (P.insAt l i))) (HX : Hid (P.insAt l q = x)) (HOK : Hid (P.OkI c x)) : Hid (∀ i, i < q + 1 → P.OkI c (P.insAt l i)) := by
  intro i hi
  by_cases hiq : i = q
  · subst hiq; rw [HX.out]; exact HOK.out
  · exact HQ.out i (by omega)
set_option maxHeartbeats 4000000 in
theorem risCode_any (s : ByteArray) (w : World) (hs : s.size ≤ maxLen) :
    Calls Try.prog 35 #[.string s] w fun e w' => e = .returned (.bool (decide (P.IsCode s.data.toList))) ∧ Below w.heap.size w w' := by
  have hlen := tl_len' s
  have hs' := hs
  unfold maxLen at hs
  obtain ⟨c, hc⟩ : ∃ c, s.size / 5 = c := ⟨_, rfl⟩
  have hcc : (s.size : Int) / 5 = c := by omega
  by_cases hc3 : s.size % 5 = 0
  · by_cases hc1 : c < 1
    · have HN : Hid (decide (P.IsCode s.data.toList) = false) := decide_eq_false (fun h => by have := h.some; omega)
      have hm : (s.size : Int) % 5 = 0 := by omega
      clear hc hlen hc3
      go_enter Try.func35, Try.ntmps35
      go_wp2_with fail
      go_ret
      exact ⟨by rw [HN.out]; rfl, Below.refl _ _⟩
    · by_cases hc2 : 800 < c
      · have HN : Hid (decide (P.IsCode s.data.toList) = false) := decide_eq_false (fun h => by have := h.few; omega)
        have hm : (s.size : Int) % 5 = 0 := by omega
        have hc1' : ¬ (c : Int) < 1 := by omega
        have hc2' : (800 : Int) < c := by omega
        clear hc hlen hc3
        go_enter Try.func35, Try.ntmps35
        go_wp2_with fail
        go_ret
        exact ⟨by rw [HN.out]; rfl, Below.refl _ _⟩
      · have hm : (s.size : Int) % 5 = 0 := by omega
        have hc1' : ¬ (c : Int) < 1 := by omega
        have hc2' : ¬ (800 : Int) < c := by omega
        have HC : Hid (s.data.toList.length / 5 = c) := by unfold Hid; omega
        have HF : Hid (s.data.toList.length = 5 * c) := by unfold Hid; omega
        have hbig : s.size ≤ 4000 := by omega
        have HS5 : Hid (s.size = 5 * c) := by unfold Hid; omega
        clear hlen hc hc3
        go_enter Try.func35, Try.ntmps35
        go_wp2_with fail
        go_loopw [4] (fun j wr => ∃ (q : Nat), q ≤ c ∧ j = .int .i64 q ∧ Hid (∀ i, i < q → P.OkI c (P.insAt s.data.toList i)) ∧ Below w.heap.size w wr) (fun j _ => c - (intOf j).toNat)
        case atStart => exact ⟨0, by omega, rfl, fun i hi => absurd hi (Nat.not_lt_zero _), Below.refl _ _⟩
        case round =>
          obtain ⟨q, hq, rfl, HQ, hbe⟩ := hrel
          by_cases hlt : q < c
          · have hin := fun w => rat_go s q w (by have := HS5.out; omega) (by omega)
            have hxb := insAt_lt s.data.toList q
            obtain ⟨x, hx⟩ : ∃ x, P.insAt s.data.toList q = x := ⟨_, rfl⟩
            rw [hx] at hin hxb
            have HX : Hid (P.insAt s.data.toList q = x) := hx
            clear hx
            obtain ⟨op, a, b, k⟩ := x
            simp only at hxb
            have HI := hid_m hin
            clear hin
            go_wp2_with fail
            refine (HI.out _).mono ?_
            rintro e w2 ⟨rfl, hb2⟩
            go_wp2_with fail
            refine (rgoes_any op a b k _).mono ?_
            rintro e w3 ⟨rfl, hb3⟩
            have hb2a : Below wr.heap.size wr (w2.alloc (.cells #[.int .i64 op, .int .i64 a, .int .i64 b, .int .i64 k] 77)) := hb2.alloc hb2.size _
            have hb23 : Below wr.heap.size wr w3 := hb2a.trans (hb3.mono hb2a.size)
            have hbe3 : Below w.heap.size w w3 := hbe.trans (hb23.mono hbe.size)
            have hnew : w3.heap[w2.heap.size]? = some (.cells #[.int .i64 op, .int .i64 a, .int .i64 b, .int .i64 k] 77 (0, 0)) := by rw [hb3.block _ (by simp)]; exact heap_alloc_new _ _
            have n0 : w3.cell? ⟨w2.heap.size, 0, none⟩ = some (.int .i64 op) := by rw [cell_of_row _ _ _ _ _ _ hnew]; rfl
            have n1 : w3.cell? ⟨w2.heap.size, 1, none⟩ = some (.int .i64 a) := by rw [cell_of_row _ _ _ _ _ _ hnew]; rfl
            have n2 : w3.cell? ⟨w2.heap.size, 2, none⟩ = some (.int .i64 b) := by rw [cell_of_row _ _ _ _ _ _ hnew]; rfl
            have n3 : w3.cell? ⟨w2.heap.size, 3, none⟩ = some (.int .i64 k) := by rw [cell_of_row _ _ _ _ _ _ hnew]; rfl
            clear hb2 hb3 hb23 hb2a hnew
            by_cases h1 : 14 < op
            · have h1' : (14 : Int) < op := by omega
              have HN : Hid (decide (P.IsCode s.data.toList) = false) := decide_eq_false (fun h => by have hh := h.all q (by rw [HC.out]; exact hlt); rw [HC.out, HX.out] at hh; have : op ≤ 14 := hh.1; omega)
              go_wp2_with fail
              go_ret
              exact ⟨by rw [HN.out]; rfl, hbe3⟩
            · have h1' : ¬ (14 : Int) < op := by omega
              by_cases h2 : 15 < a
              · have h2' : (15 : Int) < a := by omega
                have HN : Hid (decide (P.IsCode s.data.toList) = false) := decide_eq_false (fun h => by have hh := h.all q (by rw [HC.out]; exact hlt); rw [HC.out, HX.out] at hh; have : a ≤ 15 := hh.2.1; omega)
                go_wp2_with fail
                go_ret
                exact ⟨by rw [HN.out]; rfl, hbe3⟩
              · have h2' : ¬ (15 : Int) < a := by omega
                by_cases h3 : 15 < b
                · have h3' : (15 : Int) < b := by omega
                  have HN : Hid (decide (P.IsCode s.data.toList) = false) := decide_eq_false (fun h => by have hh := h.all q (by rw [HC.out]; exact hlt); rw [HC.out, HX.out] at hh; have : b ≤ 15 := hh.2.2.1; omega)
                  go_wp2_with fail
                  go_ret
                  exact ⟨by rw [HN.out]; rfl, hbe3⟩
                · have h3' : ¬ (15 : Int) < b := by omega
                  by_cases h4 : 11 ≤ op
                  · rw [decide_eq_true (p := 11 ≤ op ∧ op ≤ 14) ⟨h4, by omega⟩]
                    have h8 : ¬ (op : Int) = 8 := by omega
                    by_cases h5 : c ≤ k
                    · have h5' : (c : Int) ≤ k := by omega
                      have HN : Hid (decide (P.IsCode s.data.toList) = false) := decide_eq_false (fun h => by have hh := h.all q (by rw [HC.out]; exact hlt); rw [HC.out, HX.out] at hh; have : k < c := hh.2.2.2.1 h4; omega)
                      go_wp2_with fail
                      go_ret
                      exact ⟨by rw [HN.out]; rfl, hbe3⟩
                    · have h5' : ¬ (c : Int) ≤ k := by omega
                      have HOK : Hid (P.OkI c ⟨op, a, b, k⟩) := ⟨by show op ≤ 14; omega, by show a ≤ 15; omega, by show b ≤ 15; omega, fun _ => by show k < c; omega, fun (e : op = 8) => by omega⟩
                      go_wp2_with fail
                      exact ⟨⟨q + 1, by omega, by go_num, ok_next HQ HX HOK, hbe3⟩, by simp [intOf]; omega⟩
                  · rw [decide_eq_false (p := 11 ≤ op ∧ op ≤ 14) (fun h => h4 h.1)]
                    by_cases h8 : op = 8
                    · have h8' : (op : Int) = 8 := by omega
                      by_cases h5 : 31 < k
                      · have h5' : (31 : Int) < k := by omega
                        have HN : Hid (decide (P.IsCode s.data.toList) = false) := decide_eq_false (fun h => by have hh := h.all q (by rw [HC.out]; exact hlt); rw [HC.out, HX.out] at hh; have : k ≤ 31 := hh.2.2.2.2 h8; omega)
                        go_wp2_with fail
                        go_ret
                        exact ⟨by rw [HN.out]; rfl, hbe3⟩
                      · have h5' : ¬ (31 : Int) < k := by omega
                        have HOK : Hid (P.OkI c ⟨op, a, b, k⟩) := ⟨by show op ≤ 14; omega, by show a ≤ 15; omega, by show b ≤ 15; omega, fun e => absurd e h4, fun _ => by show k ≤ 31; omega⟩
                        subst h8
                        clear h8'
                        go_wp2_with fail
                        exact ⟨⟨q + 1, by omega, by go_num, ok_next HQ HX HOK, hbe3⟩, by simp [intOf]; omega⟩
                    · have h8' : ¬ (op : Int) = 8 := by omega
                      have HOK : Hid (P.OkI c ⟨op, a, b, k⟩) := ⟨by show op ≤ 14; omega, by show a ≤ 15; omega, by show b ≤ 15; omega, fun e => absurd e h4, fun e => absurd e h8⟩
                      go_wp2_with fail
                      exact ⟨⟨q + 1, by omega, by go_num, ok_next HQ HX HOK, hbe3⟩, by simp [intOf]; omega⟩
          · obtain rfl : q = c := by omega
            have hin := fun w => rat_go s (q - 1) w (by have := HS5.out; omega) (by omega)
            have HEN : Hid (P.insAt s.data.toList (s.data.toList.length / 5 - 1) = P.insAt s.data.toList (q - 1)) := by unfold Hid; rw [HC.out]
            obtain ⟨x, hx⟩ : ∃ x, P.insAt s.data.toList (q - 1) = x := ⟨_, rfl⟩
            rw [hx] at hin
            have HX : Hid (P.insAt s.data.toList (q - 1) = x) := hx
            clear hx
            obtain ⟨op, a, b, k⟩ := x
            have hq1 : wrap64 ((q : Int) - 1) = (q : Int) - 1 := by unfold wrap64; omega
            have hin' : ∀ w, Calls Try.prog 39 #[.string s, .int .i64 ((q : Int) - 1)] w fun e w' => e = .returned (.agg #[.int .i64 op, .int .i64 a, .int .i64 b, .int .i64 k]) ∧ Below w.heap.size w w' := by
              intro w
              have := hin w
              rw [show (((q - 1 : Nat)) : Int) = (q : Int) - 1 by omega] at this
              exact this
            have HI := hid_m hin'
            clear hin hin'
            go_wp2_with fail
            refine (HI.out _).mono ?_
            rintro e w2 ⟨rfl, hb2⟩
            have hbe2 : Below w.heap.size w w2 := hbe.trans (hb2.mono hbe.size)
            have hbe3 : Below w.heap.size w (w2.alloc (.cells #[.int .i64 op, .int .i64 a, .int .i64 b, .int .i64 k] 77)) := hbe2.alloc hbe2.size _
            have HD : Hid (decide (P.IsCode s.data.toList) = decide (op = 0 ∨ op = 11)) := by
              refine decide_eq_decide.2 ⟨fun h => by have := h.last; rw [HEN.out, HX.out] at this; exact this, fun h => ⟨by rw [HC.out]; exact HF.out, by rw [HC.out]; omega, by rw [HC.out]; omega, by rw [HC.out]; exact HQ.out, by rw [HEN.out, HX.out]; exact h⟩⟩
            by_cases h0 : op = 0
            · subst h0
              go_wp2_with fail
              go_ret
              exact ⟨by rw [HD.out]; simp, hbe3⟩
            · have h0' : ¬ (op : Int) = 0 := by omega
              by_cases h11 : op = 11
              · subst h11
                go_wp2_with fail
                go_ret
                exact ⟨by rw [HD.out]; rfl, hbe3⟩
              · have h11' : ¬ (op : Int) = 11 := by omega
                have HD' : Hid (decide (P.IsCode s.data.toList) = false) := by unfold Hid; rw [HD.out]; exact decide_eq_false (fun h => h.elim h0 h11)
                go_wp2_with fail
                go_ret
                exact ⟨by rw [HD'.out]; simp; omega, hbe3⟩
  · have HN : Hid (decide (P.IsCode s.data.toList) = false) := decide_eq_false (fun h => by have := h.five; omega)
    have hm : ¬ (s.size : Int) % 5 = 0 := by omega
    clear hc hlen hc3
    go_enter Try.func35, Try.ntmps35
    go_wp2_with fail
    go_ret
    exact ⟨by rw [HN.out]; rfl, Below.refl _ _⟩

set_option maxHeartbeats 400000 in
theorem rcheck_any (s : ByteArray) (w : World) (hs : s.size ≤ maxLen) :
    Calls Try.prog 18 #[.string s] w fun e w' => e = .returned (.int .i64 (if P.IsCode s.data.toList then 0 else 4)) ∧ Below w.heap.size w w' := by
  go_enter Try.func18, Try.ntmps18
  go_wp2_with fail
  refine (risCode_any s w hs).mono ?_
  rintro e w1 ⟨rfl, hb⟩
  by_cases h : P.IsCode s.data.toList
  · rw [decide_eq_true h]
    have HY := hid_m h
    clear h
    go_wp2_with fail
    go_ret
    exact ⟨by first | rfl | (rw [if_pos HY.out]; rfl), hb⟩
  · rw [decide_eq_false h]
    have HY := hid_m h
    clear h
    go_wp2_with fail
    go_ret
    exact ⟨by first | rfl | (rw [if_neg HY.out]; rfl), hb⟩
set_option maxHeartbeats 400000 in
theorem m_num_any (n : Int) (w : World) : Calls Try.prog 14 #[.int .i64 n] w fun e w' => e = .returned (.int .i64 n) ∧ w' = w := by
  go_enter Try.func14, Try.ntmps14
  go_wp2
  go_ret
  exact ⟨by simp, rfl⟩
end Go.Proofs.Ytghggcehloiemaa
