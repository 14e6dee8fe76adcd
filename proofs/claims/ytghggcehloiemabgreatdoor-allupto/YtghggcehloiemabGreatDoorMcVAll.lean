import Derived.Test.YtghggcehloiemabGreatDoorMcWAll
import Derived.Test.YtghggcehloiemabGreatDoorMcPAll
import Derived.Laws.IdiomStrings
namespace Go.Proofs.YtghggcehloiemabGreatDoor
open Go.RowKit
set_option linter.unusedVariables false
set_option maxRecDepth 16000

theorem wrap_byte (b : UInt8) : IntKind.i64.wrap (b.toNat : Int) = b.toNat := wrap_id _ (by omega) (by have := UInt8.toNat_lt b; omega)
set_option maxHeartbeats 4000000 in
theorem rat_go (s : ByteArray) (n : Nat) (w : World) (h : 5 * n + 5 ≤ s.size) (hs : s.size ≤ 1000000) :
    Calls Tryz.prog 152 #[.string s, .int .i64 n] w fun e w' => e = .returned (.agg #[.int .i64 (P.insAt s.data.toList n).op, .int .i64 (P.insAt s.data.toList n).a, .int .i64 (P.insAt s.data.toList n).b, .int .i64 (P.insAt s.data.toList n).k]) ∧ Below w.heap.size w w' := by
  have h5 : (n : Int) * 5 + 5 ≤ s.size := by omega
  have w1 : wrap64 (5 * (n : Int)) = 5 * (n : Int) := by unfold wrap64; omega
  have w2 : wrap64 (5 * (n : Int) + 5) = 5 * (n : Int) + 5 := by unfold wrap64; omega
  go_enter Tryz.func152, Tryz.ntmps152
  go_wp2_with fail
  have hbs : ∀ i (hi : i < 5), P.byteAt s.data.toList (5 * n + i) = (s.extract (5 * n) (5 * n + 5))[i]!.toNat := by
    intro i hi
    have hsz : (s.extract (5 * n) (5 * n + 5)).size = 5 := by simp; omega
    rw [getElem!_pos (s.extract (5 * n) (5 * n + 5)) i (by omega)]
    unfold P.byteAt
    have h1 : (s.extract (5 * n) (5 * n + 5)).data.toList[i]? = some ((s.extract (5 * n) (5 * n + 5))[i]'(by omega)) := get_of (by omega)
    rw [ByteArray.data_extract] at h1
    rw [show s.data.toList[5 * n + i]? = some ((s.extract (5 * n) (5 * n + 5))[i]'(by omega)) from by
      rw [← h1, Array.toList_extract, List.extract_eq_take_drop, List.getElem?_take_of_lt (by omega), List.getElem?_drop]]
    rfl
  have hsz : (s.extract (5 * n) (5 * n + 5)).size = 5 := by simp; omega
  generalize s.extract (5 * n) (5 * n + 5) = t at hbs hsz ⊢
  have HI : Hid (P.insAt s.data.toList n = ⟨t[0]!.toNat, t[1]!.toNat, t[2]!.toNat, t[3]!.toNat + t[4]!.toNat * 256⟩) := by
    unfold Hid P.insAt
    rw [← hbs 0 (by omega), ← hbs 1 (by omega), ← hbs 2 (by omega), ← hbs 3 (by omega), ← hbs 4 (by omega)]
    rfl
  clear hbs
  obtain ⟨b0, hb0⟩ : ∃ b, t[0]! = b := ⟨_, rfl⟩
  obtain ⟨b1, hb1⟩ : ∃ b, t[1]! = b := ⟨_, rfl⟩
  obtain ⟨b2, hb2⟩ : ∃ b, t[2]! = b := ⟨_, rfl⟩
  obtain ⟨b3, hb3⟩ : ∃ b, t[3]! = b := ⟨_, rfl⟩
  obtain ⟨b4, hb4⟩ : ∃ b, t[4]! = b := ⟨_, rfl⟩
  rw [hb0, hb1, hb2, hb3, hb4] at HI
  have e0 : ∀ h, t[0]'h = b0 := fun h => by rw [← hb0, getElem!_pos t 0 h]
  have e1 : ∀ h, t[1]'h = b1 := fun h => by rw [← hb1, getElem!_pos t 1 h]
  have e2 : ∀ h, t[2]'h = b2 := fun h => by rw [← hb2, getElem!_pos t 2 h]
  have e3 : ∀ h, t[3]'h = b3 := fun h => by rw [← hb3, getElem!_pos t 3 h]
  have e4 : ∀ h, t[4]'h = b4 := fun h => by rw [← hb4, getElem!_pos t 4 h]
  clear hb0 hb1 hb2 hb3 hb4 h h5 w1 w2
  go_region
  clear e0 e1 e2 e3 e4
  go_wp2_with fail
  go_returns
  have x0 : wrap64 (b0.toNat : Int) = b0.toNat := by have := UInt8.toNat_lt b0; unfold wrap64; omega
  have x1 : wrap64 (b1.toNat : Int) = b1.toNat := by have := UInt8.toNat_lt b1; unfold wrap64; omega
  have x2 : wrap64 (b2.toNat : Int) = b2.toNat := by have := UInt8.toNat_lt b2; unfold wrap64; omega
  have x3 : wrap64 (b3.toNat : Int) = b3.toNat := by have := UInt8.toNat_lt b3; unfold wrap64; omega
  have x4 : wrap64 (b4.toNat : Int) = b4.toNat := by have := UInt8.toNat_lt b4; unfold wrap64; omega
  have x5 : wrap64 (256 * (b4.toNat : Int)) = 256 * (b4.toNat : Int) := by have := UInt8.toNat_lt b4; unfold wrap64; omega
  have x6 : wrap64 ((b3.toNat : Int) + 256 * (b4.toNat : Int)) = (b3.toNat : Int) + (b4.toNat : Int) * 256 := by have := UInt8.toNat_lt b3; have := UInt8.toNat_lt b4; unfold wrap64; omega
  refine ⟨?_, ?_⟩
  · rw [HI.out]
    simp [x0, x1, x2, x3, x4, x5, x6]
  · exact ⟨rfl, rfl, rfl, by simp, fun k hk => Below.heap_alloc _ _ _ hk⟩

set_option maxHeartbeats 400000 in
theorem rgoes_any (op a b k : Nat) (w : World) : Calls Tryz.prog 153 #[.agg #[.int .i64 op, .int .i64 a, .int .i64 b, .int .i64 k]] w fun e w' => e = .returned (.bool (decide (11 ≤ op ∧ op ≤ 14))) ∧ Below w.heap.size w w' := by
  by_cases h : 11 ≤ op
  · have h' : (11 : Int) ≤ op := by omega
    go_enter Tryz.func153, Tryz.ntmps153
    go_wp2_with fail
    go_ret
    exact ⟨by rw [show decide (11 ≤ op ∧ op ≤ 14) = decide (op ≤ 14) from by simp [h]]; simp; omega, (Below.refl _ _).alloc (Nat.le_refl _) _⟩
  · have h' : ¬ (11 : Int) ≤ op := by omega
    go_enter Tryz.func153, Tryz.ntmps153
    go_wp2_with fail
    go_ret
    exact ⟨by simp, (Below.refl _ _).alloc (Nat.le_refl _) _⟩

theorem ok_next {c q : Nat} {l : List UInt8} {x : P.I} (HQ : Hid (∀ i, i < q → P.OkI c (P.insAt l i))) (HX : Hid (P.insAt l q = x)) (HOK : Hid (P.OkI c x)) : Hid (∀ i, i < q + 1 → P.OkI c (P.insAt l i)) := by
  intro i hi
  by_cases hiq : i = q
  · subst hiq; rw [HX.out]; exact HOK.out
  · exact HQ.out i (by omega)
set_option maxHeartbeats 4000000 in
theorem risCode_any (s : ByteArray) (w : World) (hs : s.size ≤ maxLen) :
    Calls Tryz.prog 150 #[.string s] w fun e w' => e = .returned (.bool (decide (P.IsCode s.data.toList))) ∧ Below w.heap.size w w' := by
  have hlen := tl_len' s
  have hs' := hs
  unfold maxLen at hs
  obtain ⟨c, hc⟩ : ∃ c, s.size / 5 = c := ⟨_, rfl⟩
  have hcc : (s.size : Int) / 5 = c := by omega
  by_cases hc3 : s.size % 5 = 0
  · by_cases hc1 : c < 1
    · have HN : Hid (decide (P.IsCode s.data.toList) = false) := decide_eq_false (fun h => by have := h.some; omega)
      have hm : (s.size : Int) % 5 = 0 := by omega
      clear hc hlen hc3
      go_enter Tryz.func150, Tryz.ntmps150
      go_wp2_with fail
      go_ret
      exact ⟨by rw [HN.out]; rfl, Below.refl _ _⟩
    · by_cases hc2 : 800 < c
      · have HN : Hid (decide (P.IsCode s.data.toList) = false) := decide_eq_false (fun h => by have := h.few; omega)
        have hm : (s.size : Int) % 5 = 0 := by omega
        have hc1' : ¬ (c : Int) < 1 := by omega
        have hc2' : (800 : Int) < c := by omega
        clear hc hlen hc3
        go_enter Tryz.func150, Tryz.ntmps150
        go_wp2_with fail
        go_ret
        exact ⟨by rw [HN.out]; rfl, Below.refl _ _⟩
      · have hm : (s.size : Int) % 5 = 0 := by omega
        have hc1' : ¬ (c : Int) < 1 := by omega
        have hc2' : ¬ (800 : Int) < c := by omega
        have HC : Hid (s.data.toList.length / 5 = c) := by unfold Hid; omega
        have HF : Hid (s.data.toList.length = 5 * c) := by unfold Hid; omega
        have hbig : s.size ≤ 4000 := by omega
        have HS5 : Hid (s.size = 5 * c) := by unfold Hid; omega
        clear hlen hc hc3
        go_enter Tryz.func150, Tryz.ntmps150
        go_wp2_with fail
        go_loopw [4] (fun j wr => ∃ (q : Nat), q ≤ c ∧ j = .int .i64 q ∧ Hid (∀ i, i < q → P.OkI c (P.insAt s.data.toList i)) ∧ Below w.heap.size w wr) (fun j _ => c - (intOf j).toNat)
        case atStart => exact ⟨0, by omega, rfl, fun i hi => absurd hi (Nat.not_lt_zero _), Below.refl _ _⟩
        case round =>
          obtain ⟨q, hq, rfl, HQ, hbe⟩ := hrel
          by_cases hlt : q < c
          · have hin := fun w => rat_go s q w (by have := HS5.out; omega) (by omega)
            have hxb := insAt_lt s.data.toList q
            obtain ⟨x, hx⟩ : ∃ x, P.insAt s.data.toList q = x := ⟨_, rfl⟩
            rw [hx] at hin hxb
            have HX : Hid (P.insAt s.data.toList q = x) := hx
            clear hx
            obtain ⟨op, a, b, k⟩ := x
            simp only at hxb
            have HI := hid_m hin
            clear hin
            go_wp2_with fail
            refine (HI.out _).mono ?_
            rintro e w2 ⟨rfl, hb2⟩
            go_wp2_with fail
            refine (rgoes_any op a b k _).mono ?_
            rintro e w3 ⟨rfl, hb3⟩
            have hb2a : Below wr.heap.size wr (w2.alloc (.cells #[.int .i64 op, .int .i64 a, .int .i64 b, .int .i64 k] 194)) := hb2.alloc hb2.size _
            have hb23 : Below wr.heap.size wr w3 := hb2a.trans (hb3.mono hb2a.size)
            have hbe3 : Below w.heap.size w w3 := hbe.trans (hb23.mono hbe.size)
            have hnew : w3.heap[w2.heap.size]? = some (.cells #[.int .i64 op, .int .i64 a, .int .i64 b, .int .i64 k] 194 (0, 0)) := by rw [hb3.block _ (by simp)]; exact heap_alloc_new _ _
            have n0 : w3.cell? ⟨w2.heap.size, 0, none⟩ = some (.int .i64 op) := by rw [cell_of_row _ _ _ _ _ _ hnew]; rfl
            have n1 : w3.cell? ⟨w2.heap.size, 1, none⟩ = some (.int .i64 a) := by rw [cell_of_row _ _ _ _ _ _ hnew]; rfl
            have n2 : w3.cell? ⟨w2.heap.size, 2, none⟩ = some (.int .i64 b) := by rw [cell_of_row _ _ _ _ _ _ hnew]; rfl
            have n3 : w3.cell? ⟨w2.heap.size, 3, none⟩ = some (.int .i64 k) := by rw [cell_of_row _ _ _ _ _ _ hnew]; rfl
            clear hb2 hb3 hb23 hb2a hnew
            by_cases h1 : 14 < op
            · have h1' : (14 : Int) < op := by omega
              have HN : Hid (decide (P.IsCode s.data.toList) = false) := decide_eq_false (fun h => by have hh := h.all q (by rw [HC.out]; exact hlt); rw [HC.out, HX.out] at hh; have : op ≤ 14 := hh.1; omega)
              go_wp2_with fail
              go_ret
              exact ⟨by rw [HN.out]; rfl, hbe3⟩
            · have h1' : ¬ (14 : Int) < op := by omega
              by_cases h2 : 15 < a
              · have h2' : (15 : Int) < a := by omega
                have HN : Hid (decide (P.IsCode s.data.toList) = false) := decide_eq_false (fun h => by have hh := h.all q (by rw [HC.out]; exact hlt); rw [HC.out, HX.out] at hh; have : a ≤ 15 := hh.2.1; omega)
                go_wp2_with fail
                go_ret
                exact ⟨by rw [HN.out]; rfl, hbe3⟩
              · have h2' : ¬ (15 : Int) < a := by omega
                by_cases h3 : 15 < b
                · have h3' : (15 : Int) < b := by omega
                  have HN : Hid (decide (P.IsCode s.data.toList) = false) := decide_eq_false (fun h => by have hh := h.all q (by rw [HC.out]; exact hlt); rw [HC.out, HX.out] at hh; have : b ≤ 15 := hh.2.2.1; omega)
                  go_wp2_with fail
                  go_ret
                  exact ⟨by rw [HN.out]; rfl, hbe3⟩
                · have h3' : ¬ (15 : Int) < b := by omega
                  by_cases h4 : 11 ≤ op
                  · rw [decide_eq_true (p := 11 ≤ op ∧ op ≤ 14) ⟨h4, by omega⟩]
                    have h8 : ¬ (op : Int) = 8 := by omega
                    by_cases h5 : c ≤ k
                    · have h5' : (c : Int) ≤ k := by omega
                      have HN : Hid (decide (P.IsCode s.data.toList) = false) := decide_eq_false (fun h => by have hh := h.all q (by rw [HC.out]; exact hlt); rw [HC.out, HX.out] at hh; have : k < c := hh.2.2.2.1 h4; omega)
                      go_wp2_with fail
                      go_ret
                      exact ⟨by rw [HN.out]; rfl, hbe3⟩
                    · have h5' : ¬ (c : Int) ≤ k := by omega
                      have HOK : Hid (P.OkI c ⟨op, a, b, k⟩) := ⟨by show op ≤ 14; omega, by show a ≤ 15; omega, by show b ≤ 15; omega, fun _ => by show k < c; omega, fun (e : op = 8) => by omega⟩
                      go_wp2_with fail
                      exact ⟨⟨q + 1, by omega, by go_num, ok_next HQ HX HOK, hbe3⟩, by simp [intOf]; omega⟩
                  · rw [decide_eq_false (p := 11 ≤ op ∧ op ≤ 14) (fun h => h4 h.1)]
                    by_cases h8 : op = 8
                    · have h8' : (op : Int) = 8 := by omega
                      by_cases h5 : 31 < k
                      · have h5' : (31 : Int) < k := by omega
                        have HN : Hid (decide (P.IsCode s.data.toList) = false) := decide_eq_false (fun h => by have hh := h.all q (by rw [HC.out]; exact hlt); rw [HC.out, HX.out] at hh; have : k ≤ 31 := hh.2.2.2.2 h8; omega)
                        go_wp2_with fail
                        go_ret
                        exact ⟨by rw [HN.out]; rfl, hbe3⟩
                      · have h5' : ¬ (31 : Int) < k := by omega
                        have HOK : Hid (P.OkI c ⟨op, a, b, k⟩) := ⟨by show op ≤ 14; omega, by show a ≤ 15; omega, by show b ≤ 15; omega, fun e => absurd e h4, fun _ => by show k ≤ 31; omega⟩
                        subst h8
                        clear h8'
                        go_wp2_with fail
                        exact ⟨⟨q + 1, by omega, by go_num, ok_next HQ HX HOK, hbe3⟩, by simp [intOf]; omega⟩
                    · have h8' : ¬ (op : Int) = 8 := by omega
                      have HOK : Hid (P.OkI c ⟨op, a, b, k⟩) := ⟨by show op ≤ 14; omega, by show a ≤ 15; omega, by show b ≤ 15; omega, fun e => absurd e h4, fun e => absurd e h8⟩
                      go_wp2_with fail
                      exact ⟨⟨q + 1, by omega, by go_num, ok_next HQ HX HOK, hbe3⟩, by simp [intOf]; omega⟩
          · obtain rfl : q = c := by omega
            have hin := fun w => rat_go s (q - 1) w (by have := HS5.out; omega) (by omega)
            have HEN : Hid (P.insAt s.data.toList (s.data.toList.length / 5 - 1) = P.insAt s.data.toList (q - 1)) := by unfold Hid; rw [HC.out]
            obtain ⟨x, hx⟩ : ∃ x, P.insAt s.data.toList (q - 1) = x := ⟨_, rfl⟩
            rw [hx] at hin
            have HX : Hid (P.insAt s.data.toList (q - 1) = x) := hx
            clear hx
            obtain ⟨op, a, b, k⟩ := x
            have hq1 : wrap64 ((q : Int) - 1) = (q : Int) - 1 := by unfold wrap64; omega
            have hin' : ∀ w, Calls Tryz.prog 152 #[.string s, .int .i64 ((q : Int) - 1)] w fun e w' => e = .returned (.agg #[.int .i64 op, .int .i64 a, .int .i64 b, .int .i64 k]) ∧ Below w.heap.size w w' := by
              intro w
              have := hin w
              rw [show (((q - 1 : Nat)) : Int) = (q : Int) - 1 by omega] at this
              exact this
            have HI := hid_m hin'
            clear hin hin'
            go_wp2_with fail
            refine (HI.out _).mono ?_
            rintro e w2 ⟨rfl, hb2⟩
            have hbe2 : Below w.heap.size w w2 := hbe.trans (hb2.mono hbe.size)
            have hbe3 : Below w.heap.size w (w2.alloc (.cells #[.int .i64 op, .int .i64 a, .int .i64 b, .int .i64 k] 194)) := hbe2.alloc hbe2.size _
            have HD : Hid (decide (P.IsCode s.data.toList) = decide (op = 0 ∨ op = 11)) := by
              refine decide_eq_decide.2 ⟨fun h => by have := h.last; rw [HEN.out, HX.out] at this; exact this, fun h => ⟨by rw [HC.out]; exact HF.out, by rw [HC.out]; omega, by rw [HC.out]; omega, by rw [HC.out]; exact HQ.out, by rw [HEN.out, HX.out]; exact h⟩⟩
            by_cases h0 : op = 0
            · subst h0
              go_wp2_with fail
              go_ret
              exact ⟨by rw [HD.out]; simp, hbe3⟩
            · have h0' : ¬ (op : Int) = 0 := by omega
              by_cases h11 : op = 11
              · subst h11
                go_wp2_with fail
                go_ret
                exact ⟨by rw [HD.out]; rfl, hbe3⟩
              · have h11' : ¬ (op : Int) = 11 := by omega
                have HD' : Hid (decide (P.IsCode s.data.toList) = false) := by unfold Hid; rw [HD.out]; exact decide_eq_false (fun h => h.elim h0 h11)
                go_wp2_with fail
                go_ret
                exact ⟨by rw [HD'.out]; simp; omega, hbe3⟩
  · have HN : Hid (decide (P.IsCode s.data.toList) = false) := decide_eq_false (fun h => by have := h.five; omega)
    have hm : ¬ (s.size : Int) % 5 = 0 := by omega
    clear hc hlen hc3
    go_enter Tryz.func150, Tryz.ntmps150
    go_wp2_with fail
    go_ret
    exact ⟨by rw [HN.out]; rfl, Below.refl _ _⟩

set_option maxHeartbeats 400000 in
theorem rcheck_any (s : ByteArray) (w : World) (hs : s.size ≤ maxLen) :
    Calls Tryz.prog 123 #[.string s] w fun e w' => e = .returned (.int .i64 (if P.IsCode s.data.toList then 0 else 4)) ∧ Below w.heap.size w w' := by
  go_enter Tryz.func123, Tryz.ntmps123
  go_wp2_with fail
  refine (risCode_any s w hs).mono ?_
  rintro e w1 ⟨rfl, hb⟩
  by_cases h : P.IsCode s.data.toList
  · rw [decide_eq_true h]
    have HY := hid_m h
    clear h
    go_wp2_with fail
    go_ret
    exact ⟨by first | rfl | (rw [if_pos HY.out]; rfl), hb⟩
  · rw [decide_eq_false h]
    have HY := hid_m h
    clear h
    go_wp2_with fail
    go_ret
    exact ⟨by first | rfl | (rw [if_neg HY.out]; rfl), hb⟩
set_option maxHeartbeats 400000 in
theorem m_num_any (n : Int) (w : World) : Calls Tryz.prog 42 #[.int .i64 n] w fun e w' => e = .returned (.int .i64 n) ∧ w' = w := by
  go_enter Tryz.func42, Tryz.ntmps42
  go_wp2
  go_ret
  exact ⟨by simp, rfl⟩
end Go.Proofs.YtghggcehloiemabGreatDoor
namespace Go.Proofs.YtghggcehloiemabGreatDoor
open Go.RowKit
set_option linter.unusedVariables false
set_option maxRecDepth 16000

theorem wrap_u32 (x : Int) : IntKind.u32.wrap x = x % 4294967296 := by
  simp only [IntKind.wrap, IntKind.signed, IntKind.bits]
  simp

theorem bits_and (x y : Nat) (hx : x < 4294967296) (hy : y < 4294967296) : bits .and .u32 (x : Int) (y : Int) = ((x &&& y : Nat) : Int) := by
  show IntKind.u32.wrap ((BitVec.ofInt 32 (x : Int) &&& BitVec.ofInt 32 (y : Int)).toNat : Int) = _
  rw [BitVec.toNat_and, wrap_u32]
  have h1 : (BitVec.ofInt 32 (x : Int)).toNat = x := by rw [BitVec.toNat_ofInt]; omega
  have h2 : (BitVec.ofInt 32 (y : Int)).toNat = y := by rw [BitVec.toNat_ofInt]; omega
  rw [h1, h2]
  have := Nat.lt_of_le_of_lt (Nat.and_le_left (n := x) (m := y)) hx
  omega
theorem bits_xor (x y : Nat) (hx : x < 4294967296) (hy : y < 4294967296) : bits .xor .u32 (x : Int) (y : Int) = ((x ^^^ y : Nat) : Int) := by
  show IntKind.u32.wrap ((BitVec.ofInt 32 (x : Int) ^^^ BitVec.ofInt 32 (y : Int)).toNat : Int) = _
  rw [BitVec.toNat_xor, wrap_u32]
  have h1 : (BitVec.ofInt 32 (x : Int)).toNat = x := by rw [BitVec.toNat_ofInt]; omega
  have h2 : (BitVec.ofInt 32 (y : Int)).toNat = y := by rw [BitVec.toNat_ofInt]; omega
  rw [h1, h2]
  have := Nat.xor_lt_two_pow (n := 32) hx hy
  omega

theorem reck_sub (a b k x y : Nat) : P.reck ⟨4, a, b, k⟩ x y = (x + P.W32 - y) % P.W32 := by simp [P.reck]
theorem reck_and (a b k x y : Nat) : P.reck ⟨6, a, b, k⟩ x y = x &&& y := by simp [P.reck]
theorem reck_xor (a b k x y : Nat) : P.reck ⟨7, a, b, k⟩ x y = x ^^^ y := by simp [P.reck]
theorem reck_shr (a b k x y : Nat) : P.reck ⟨8, a, b, k⟩ x y = y >>> k := by simp [P.reck]
theorem reck_add (a b k x y : Nat) : P.reck ⟨3, a, b, k⟩ x y = (x + y) % P.W32 := by simp [P.reck]
theorem reck_mul (a b k x y : Nat) : P.reck ⟨5, a, b, k⟩ x y = (x * y) % P.W32 := by simp [P.reck]
set_option maxHeartbeats 1000000 in
theorem reckon_any (op a b k x y : Nat) (w : World) (hop : op = 1 ∨ op = 2 ∨ op = 3 ∨ op = 4 ∨ op = 5 ∨ op = 6 ∨ op = 7 ∨ op = 8) (hx : x < 4294967296) (hy : y < 4294967296) (hk : k < 65536) (hk8 : op = 8 → k ≤ 31) :
    Calls Tryz.prog 140 #[.agg #[.int .i64 op, .int .i64 a, .int .i64 b, .int .i64 k], .int .u32 x, .int .u32 y] w fun e w' => e = .returned (.int .u32 (P.reck ⟨op, a, b, k⟩ x y)) ∧ Below w.heap.size w w' := by
  have hb : Below w.heap.size w (w.alloc (.cells #[.int .i64 op, .int .i64 a, .int .i64 b, .int .i64 k] 112)) := (Below.refl _ _).alloc (Nat.le_refl _) _
  rcases hop with rfl | rfl | rfl | rfl | rfl | rfl | rfl | rfl
  all_goals
    go_enter Tryz.func140, Tryz.ntmps140
    go_wp2_with fail
    go_ret
    refine ⟨congrArg (fun z : Int => Ending.returned (.int .u32 z)) ?_, hb⟩
  · simp [P.reck]
  · simp [P.reck]
  · rw [reck_add, P.W32]
    omega
  · rw [reck_sub, P.W32]
    omega
  · rw [reck_mul, P.W32, Int.natCast_emod, Int.natCast_mul]
    rfl
  · rw [reck_and]; exact bits_and x y hx hy
  · rw [reck_xor]; exact bits_xor x y hx hy
  · rw [reck_shr, Nat.shiftRight_eq_div_pow]; simp

set_option maxHeartbeats 1000000 in
theorem goesOn_any (op x y : Nat) (w : World) (h1 : 11 ≤ op) (h2 : op ≤ 14) :
    Calls Tryz.prog 138 #[.int .i64 op, .int .u32 x, .int .u32 y] w fun e w' => e = .returned (.bool (P.goB op x y)) ∧ w' = w := by
  have hop : op = 11 ∨ op = 12 ∨ op = 13 ∨ op = 14 := by omega
  rcases hop with rfl | rfl | rfl | rfl
  all_goals
    go_enter Tryz.func138, Tryz.ntmps138
    go_wp2_with fail
    go_ret
    refine ⟨congrArg (fun z : Bool => Ending.returned (.bool z)) ?_, rfl⟩
  · rfl
  · show ((x : Int) == (y : Int)) = (x == y)
    rw [Bool.eq_iff_iff]; simp; omega
  · show ((x : Int) != (y : Int)) = (x != y)
    rw [Bool.eq_iff_iff]; simp; omega
  · rfl

set_option maxHeartbeats 1000000 in
theorem isWord_any (n : Int) (w : World) : Calls Tryz.prog 92 #[.int .i64 n] w fun e w' => e = .returned (.bool (decide (P.Word n))) ∧ w' = w := by
  by_cases h : 0 ≤ n
  · have HD : Hid (decide (P.Word n) = decide (n ≤ 4294967295)) := by unfold Hid; rw [decide_eq_decide]; unfold P.Word; omega
    go_enter Tryz.func92, Tryz.ntmps92
    go_wp2_with fail
    go_ret
    exact ⟨by rw [HD.out]; simp, rfl⟩
  · have HD : Hid (decide (P.Word n) = false) := by unfold Hid; rw [decide_eq_false_iff_not]; unfold P.Word; omega
    go_enter Tryz.func92, Tryz.ntmps92
    go_wp2_with fail
    go_ret
    exact ⟨by rw [HD.out]; simp, rfl⟩
end Go.Proofs.YtghggcehloiemabGreatDoor
namespace Go.Proofs.YtghggcehloiemabGreatDoor
open Go.RowKit
set_option linter.unusedVariables false
set_option maxRecDepth 16000

/-- The memory's block: its bytes first. -/
def Mm (w : World) (mb : Nat) (mem : List UInt8) : Prop := ∃ (C : Array Value) (F : Nat), w.heap[mb]? = some (.cells C 5 (F, F + 1)) ∧ mem.length ≤ F ∧ ∀ (i : Nat) (b : UInt8), mem[i]? = some b → C[i]? = some (.int .u8 b.toNat)
theorem Mm.cell {w : World} {mb i : Nat} {mem : List UInt8} {b : UInt8} (h : Mm w mb mem) (hi : mem[i]? = some b) : w.cell? ⟨mb, i, none⟩ = some (.int .u8 b.toNat) := by
  obtain ⟨C, F, hb, _, hc⟩ := h
  simp only [World.cell?, hb]
  exact hc i b hi
theorem Mm.fz {w : World} {mb i : Nat} {mem : List UInt8} (h : Mm w mb mem) (hi : i < mem.length) : w.frozen? ⟨mb, i, none⟩ = false := by
  obtain ⟨C, F, hb, hl, _⟩ := h
  simp only [World.frozen?, hb]
  simp; omega
theorem Mm.set {w : World} {mb i : Nat} {mem : List UInt8} (h : Mm w mb mem) (hi : i < mem.length) (c : UInt8) : Mm (w.setCell ⟨mb, i, none⟩ (.int .u8 c.toNat)) mb (mem.set i c) := by
  obtain ⟨C, F, hb, hl, hc⟩ := h
  have hCi : i < C.size := by
    obtain ⟨b, hbi⟩ : ∃ b, mem[i]? = some b := ⟨_, List.getElem?_eq_getElem hi⟩
    have := hc i b hbi
    rcases Nat.lt_or_ge i C.size with h | h
    · exact h
    · rw [Array.getElem?_eq_none h] at this; cases this
  refine ⟨C.setIfInBounds i (.int .u8 c.toNat), F, ?_, by simpa using hl, ?_⟩
  · simp [World.setCell, Array.getElem?_modify, hb]
  · intro j b hj
    rw [List.getElem?_set] at hj
    rw [Array.getElem?_setIfInBounds]
    by_cases hij : i = j
    · subst hij
      simp [hi] at hj
      simp [hCi, hj]
    · simp [hij] at hj
      simp [hij]; exact hc j b hj
theorem Mm.of {w w' : World} {mb : Nat} {mem : List UInt8} (h : Mm w mb mem) (he : w'.heap[mb]? = w.heap[mb]?) : Mm w' mb mem := by
  obtain ⟨C, F, hb, hl, hc⟩ := h
  exact ⟨C, F, by rw [he]; exact hb, hl, hc⟩
theorem Mm.lt {w : World} {mb : Nat} {mem : List UInt8} (h : Mm w mb mem) : mb < w.heap.size := by
  obtain ⟨C, F, hb, _⟩ := h
  exact m_blk_lt hb
theorem Mm.new (w : World) (s : ByteArray) (c : Nat) : Mm (w.alloc (.cells (bytesRow s c) 5 ((bytesRow s c).size, (bytesRow s c).size + 1))) w.heap.size s.data.toList := by
  refine ⟨_, _, heap_alloc_new w _, by simp [bytesRow], ?_⟩
  intro i b hi
  have hlt : i < s.data.toList.length := (List.getElem?_eq_some_iff.1 hi).1
  have hlt' : i < s.data.size := by simpa using hlt
  unfold bytesRow
  rw [Array.getElem?_append_left (by simpa using hlt'), Array.getElem?_map]
  rw [Array.getElem?_toList] at hi
  rw [hi]; rfl

/-- The runner's block: sixteen registers, the memory, the next instruction. -/
def rnCells (m : P.M) (mv : Value) : Array Value := (m.reg.map (fun x : Nat => Value.int .u32 x) ++ [mv, .int .i64 m.pc]).toArray
def Rn (w : World) (rb : Nat) (mv : Value) (m : P.M) : Prop := w.heap[rb]? = some (.cells (rnCells m mv) 152 (0, 0))
theorem Rn.reg {w : World} {rb i n : Nat} {mv : Value} {m : P.M} (h : Rn w rb mv m) (hm : P.OkM n m) (hi : i < 16) : w.cell? ⟨rb, i, none⟩ = some (.int .u32 (P.rg m i)) := by
  rw [cell_of_row _ _ _ _ _ _ h]
  have hl := hm.sixteen
  have : (rnCells m mv)[i]? = (m.reg.map (fun x : Nat => Value.int .u32 x))[i]? := by
    unfold rnCells
    rw [List.getElem?_toArray, List.getElem?_append_left (by simp; omega)]
  rw [this, List.getElem?_map]
  unfold P.rg
  rw [List.getElem?_eq_getElem (by omega : i < m.reg.length)]
  rfl
theorem Rn.mem {w : World} {rb n : Nat} {mv : Value} {m : P.M} (h : Rn w rb mv m) (hm : P.OkM n m) : w.cell? ⟨rb, 16, none⟩ = some mv := by
  rw [cell_of_row _ _ _ _ _ _ h]
  have hl := hm.sixteen
  unfold rnCells
  rw [List.getElem?_toArray, List.getElem?_append_right (by simp; omega)]
  simp [hl]
theorem Rn.pc {w : World} {rb n : Nat} {mv : Value} {m : P.M} (h : Rn w rb mv m) (hm : P.OkM n m) : w.cell? ⟨rb, 17, none⟩ = some (.int .i64 m.pc) := by
  rw [cell_of_row _ _ _ _ _ _ h]
  have hl := hm.sixteen
  unfold rnCells
  rw [List.getElem?_toArray, List.getElem?_append_right (by simp; omega)]
  simp [hl]
theorem Rn.fz {w : World} {rb : Nat} {mv : Value} {m : P.M} (h : Rn w rb mv m) (o : Nat) : w.frozen? ⟨rb, o, none⟩ = false := by
  unfold Rn at h; simp [World.frozen?, h]
theorem Rn.setReg {w : World} {rb i : Nat} {mv : Value} {m : P.M} (h : Rn w rb mv m) (hl : m.reg.length = 16) (hi : i < 16) (v : Nat) : Rn (w.setCell ⟨rb, i, none⟩ (.int .u32 v)) rb mv { m with reg := m.reg.set i v } := by
  unfold Rn at *
  have e : (rnCells m mv).setIfInBounds i (.int .u32 v) = rnCells { m with reg := m.reg.set i v } mv := by
    unfold rnCells
    rw [← Array.toList_inj]
    simp only [Array.toList_setIfInBounds]
    rw [List.set_append_left _ _ (by simp; omega), List.map_set]
  simp [World.setCell, Array.getElem?_modify, h, e]
theorem Rn.setPc {w : World} {rb : Nat} {mv : Value} {m : P.M} (h : Rn w rb mv m) (hl : m.reg.length = 16) (v : Nat) : Rn (w.setCell ⟨rb, 17, none⟩ (.int .i64 v)) rb mv { m with pc := v } := by
  unfold Rn at *
  have e : (rnCells m mv).setIfInBounds 17 (.int .i64 v) = rnCells { m with pc := v } mv := by
    unfold rnCells
    rw [← Array.toList_inj]
    simp only [Array.toList_setIfInBounds]
    rw [List.set_append_right _ _ (by simp; omega)]
    simp [hl]
  simp [World.setCell, Array.getElem?_modify, h, e]
theorem Rn.of {w w' : World} {rb : Nat} {mv : Value} {m : P.M} (h : Rn w rb mv m) (he : w'.heap[rb]? = w.heap[rb]?) : Rn w' rb mv m := by
  unfold Rn at *; rw [he]; exact h
theorem Rn.lt {w : World} {rb : Nat} {mv : Value} {m : P.M} (h : Rn w rb mv m) : rb < w.heap.size := m_blk_lt h
theorem Rn.withMem {w : World} {rb : Nat} {mv : Value} {m : P.M} (h : Rn w rb mv m) (mem : List UInt8) : Rn w rb mv { m with mem := mem } := h
end Go.Proofs.YtghggcehloiemabGreatDoor
namespace Go.Proofs.YtghggcehloiemabGreatDoor
open Go.RowKit
set_option linter.unusedVariables false
set_option maxRecDepth 16000

/-- What a step leaves. -/
def StepPost (x : P.I) (m : P.M) (rb mb cap B : Nat) (w : World) (e : Ending) (w' : World) : Prop :=
  (match P.step x m with
    | some m' => e = .returned (.bool true) ∧ Rn w' rb (.slice (some ⟨mb, 0, none⟩) m.mem.length cap) m' ∧ Mm w' mb m'.mem
    | none => e = .returned (.bool false)) ∧ Below B w w'
theorem StepPost.some {x : P.I} {m m' : P.M} {rb mb cap B : Nat} {w w' : World} {e : Ending} (h : P.step x m = some m') (he : e = .returned (.bool true)) (hr : Rn w' rb (.slice (some ⟨mb, 0, none⟩) m.mem.length cap) m') (hm : Mm w' mb m'.mem) (hb : Below B w w') : StepPost x m rb mb cap B w e w' := by
  unfold StepPost; rw [h]; exact ⟨⟨he, hr, hm⟩, hb⟩
theorem StepPost.none {x : P.I} {m : P.M} {rb mb cap B : Nat} {w w' : World} {e : Ending} (h : P.step x m = none) (he : e = .returned (.bool false)) (hb : Below B w w') : StepPost x m rb mb cap B w e w' := by
  unfold StepPost; rw [h]; exact ⟨he, hb⟩
theorem set_other {w : World} {b o g : Nat} {u : Value} (h : g ≠ b) : (w.setCell ⟨b, o, none⟩ u).heap[g]? = w.heap[g]? := Below.heap_setCell _ _ _ _ (by simpa using h)
theorem alloc_old {w : World} {o : Obj} {g : Nat} (h : g < w.heap.size) : (w.alloc o).heap[g]? = w.heap[g]? := Below.heap_alloc _ _ _ h

theorem w64_id (x : Int) (h0 : -9223372036854775808 ≤ x) (h1 : x ≤ 9223372036854775807) : wrap64 x = x := by unfold wrap64; omega
theorem w64_nat (z : Nat) (h : z < 4294967296) : wrap64 (z : Int) = z := w64_id _ (by omega) (by omega)
theorem w64_sum (z k : Nat) (h : z < 4294967296) (hk : k < 65536) : wrap64 ((z : Int) + k) = (z : Int) + k := w64_id _ (by omega) (by omega)
theorem m_drewN {B : Nat} {w w1 : World} (h : Below B w w1) (n : Nat) : Below B w (w1.drewN n) := ⟨h.os, h.tape, h.output, h.size, h.block⟩
theorem heap_drewN (w : World) (n g : Nat) : (w.drewN n).heap[g]? = w.heap[g]? := by simp
theorem le_cast {z k l : Nat} (h : ¬ z + k < l) : (l : Int) ≤ (z : Int) + k := by omega
theorem lt_cast {z k l : Nat} (h : z + k < l) : (z : Int) + k < l := by omega
theorem nat_cast (z k : Nat) : ((z : Int) + k).toNat = z + k := by omega
theorem drew_below {B : Nat} {w w1 : World} (h : Below B w w1) : Below B w w1.drew := ⟨h.os, h.tape, h.output, h.size, h.block⟩
theorem byte_low (y : Nat) (h : y < 4294967296) : bits .and .u32 (y : Int) 255 = ((UInt8.ofNat y).toNat : Int) := by
  have := bits_and y 255 h (by decide)
  rw [show ((255 : Nat) : Int) = 255 from rfl] at this
  rw [this, show (255 : Nat) = 2 ^ 8 - 1 from rfl, Nat.and_two_pow_sub_one_eq_mod]
  simp
theorem nn_cast (z k : Nat) : (0 : Int) ≤ (z : Int) + k := by omega
set_option maxHeartbeats 4000000 in
theorem reach_bad9 (a b k z y : Nat) (m : P.M) (rb mb cap B n : Nat) (w : World) (hz : P.rg m b = z) (hy : P.rg m a = y) (ha : a < 16) (hb : b < 16) (hk : k < 65536) (hm : P.OkM n m) (hne : rb ≠ mb) (hB1 : B ≤ rb) (hB2 : B ≤ mb)
    (hr : Rn w rb (.slice (some ⟨mb, 0, none⟩) m.mem.length cap) m) (hmm : Mm w mb m.mem) (hge : ¬ z + k < m.mem.length) :
    Calls Tryz.prog 139 #[.pointer (some ⟨rb, 0, none⟩), .agg #[.int .i64 9, .int .i64 a, .int .i64 b, .int .i64 k]] w fun e w' => e = .returned (.bool false) ∧ Below B w w' := by
  have hal : Below B w (w.alloc (.cells #[.int .i64 9, .int .i64 a, .int .i64 b, .int .i64 k] 112)) := (Below.refl _ _).alloc (by have := hr.lt; omega) _
  have hr' : Rn (w.alloc (.cells #[.int .i64 9, .int .i64 a, .int .i64 b, .int .i64 k] 112)) rb (.slice (some ⟨mb, 0, none⟩) m.mem.length cap) m := hr.of (alloc_old hr.lt)
  have hm' : Mm (w.alloc (.cells #[.int .i64 9, .int .i64 a, .int .i64 b, .int .i64 k] 112)) mb m.mem := hmm.of (alloc_old hmm.lt)
  have cb := hr'.reg hm hb
  have ca := hr'.reg hm ha
  have cm := hr'.mem hm
  have hgb := P.rg_lt hm b
  have hga := P.rg_lt hm a
  unfold P.W32 at hgb hga
  rw [hz] at cb hgb
  rw [hy] at ca hga
  have HR := hid_m hr'
  have HM := hid_m hm'
  have HAL := hid_m hal
  have HOK := hid_m hm
  have HHA := hid_m ha
  have b0 : (0 : Int) ≤ (b : Int) := Int.natCast_nonneg b
  have b1 : (b : Int) < 16 := by omega
  have a0 : (0 : Int) ≤ (a : Int) := Int.natCast_nonneg a
  have a1 : (a : Int) < 16 := by omega
  have h0 : (0 : Int) ≤ (z : Int) + k := nn_cast z k
  have HNE := hid_m hne
  have HHB1 := hid_m hB1
  have HHB2 := hid_m hB2
  have HHK := hid_m hk
  have wz := w64_nat z hgb
  have wzk := w64_sum z k hgb hk
  have HGA := hid_m hga
  have HY0 := hid_m hy
  clear hr hmm hr' hm' hal hm hz hy ha hb hgb hga hk hne hB1 hB2
  have hge' := le_cast hge
  clear hge
  go_enter Tryz.func139, Tryz.ntmps139
  go_wp2_with fail
  go_quiet (fail)
  go_wp2_with fail
  go_ret
  exact ⟨rfl, m_drewN HAL.out _⟩
set_option maxHeartbeats 4000000 in
theorem reach_bad10 (a b k z y : Nat) (m : P.M) (rb mb cap B n : Nat) (w : World) (hz : P.rg m b = z) (hy : P.rg m a = y) (ha : a < 16) (hb : b < 16) (hk : k < 65536) (hm : P.OkM n m) (hne : rb ≠ mb) (hB1 : B ≤ rb) (hB2 : B ≤ mb)
    (hr : Rn w rb (.slice (some ⟨mb, 0, none⟩) m.mem.length cap) m) (hmm : Mm w mb m.mem) (hge : ¬ z + k < m.mem.length) :
    Calls Tryz.prog 139 #[.pointer (some ⟨rb, 0, none⟩), .agg #[.int .i64 10, .int .i64 a, .int .i64 b, .int .i64 k]] w fun e w' => e = .returned (.bool false) ∧ Below B w w' := by
  have hal : Below B w (w.alloc (.cells #[.int .i64 10, .int .i64 a, .int .i64 b, .int .i64 k] 112)) := (Below.refl _ _).alloc (by have := hr.lt; omega) _
  have hr' : Rn (w.alloc (.cells #[.int .i64 10, .int .i64 a, .int .i64 b, .int .i64 k] 112)) rb (.slice (some ⟨mb, 0, none⟩) m.mem.length cap) m := hr.of (alloc_old hr.lt)
  have hm' : Mm (w.alloc (.cells #[.int .i64 10, .int .i64 a, .int .i64 b, .int .i64 k] 112)) mb m.mem := hmm.of (alloc_old hmm.lt)
  have cb := hr'.reg hm hb
  have ca := hr'.reg hm ha
  have cm := hr'.mem hm
  have hgb := P.rg_lt hm b
  have hga := P.rg_lt hm a
  unfold P.W32 at hgb hga
  rw [hz] at cb hgb
  rw [hy] at ca hga
  have HR := hid_m hr'
  have HM := hid_m hm'
  have HAL := hid_m hal
  have HOK := hid_m hm
  have HHA := hid_m ha
  have b0 : (0 : Int) ≤ (b : Int) := Int.natCast_nonneg b
  have b1 : (b : Int) < 16 := by omega
  have a0 : (0 : Int) ≤ (a : Int) := Int.natCast_nonneg a
  have a1 : (a : Int) < 16 := by omega
  have h0 : (0 : Int) ≤ (z : Int) + k := nn_cast z k
  have HNE := hid_m hne
  have HHB1 := hid_m hB1
  have HHB2 := hid_m hB2
  have HHK := hid_m hk
  have wz := w64_nat z hgb
  have wzk := w64_sum z k hgb hk
  have HGA := hid_m hga
  have HY0 := hid_m hy
  clear hr hmm hr' hm' hal hm hz hy ha hb hgb hga hk hne hB1 hB2
  have hge' := le_cast hge
  clear hge
  go_enter Tryz.func139, Tryz.ntmps139
  go_wp2_with fail
  go_quiet (fail)
  go_wp2_with fail
  go_ret
  exact ⟨rfl, m_drewN HAL.out _⟩
set_option maxHeartbeats 4000000 in
theorem reach_load (a b k z y : Nat) (m : P.M) (rb mb cap B n : Nat) (w : World) (hz : P.rg m b = z) (hy : P.rg m a = y) (ha : a < 16) (hb : b < 16) (hk : k < 65536) (hm : P.OkM n m) (hne : rb ≠ mb) (hB1 : B ≤ rb) (hB2 : B ≤ mb)
    (hr : Rn w rb (.slice (some ⟨mb, 0, none⟩) m.mem.length cap) m) (hmm : Mm w mb m.mem) (c : UInt8) (hc : m.mem[z + k]? = some c) :
    Calls Tryz.prog 139 #[.pointer (some ⟨rb, 0, none⟩), .agg #[.int .i64 9, .int .i64 a, .int .i64 b, .int .i64 k]] w fun e w' => e = .returned (.bool true) ∧ Rn w' rb (.slice (some ⟨mb, 0, none⟩) m.mem.length cap) { m with reg := m.reg.set a c.toNat } ∧ Mm w' mb m.mem ∧ Below B w w' := by
  have hal : Below B w (w.alloc (.cells #[.int .i64 9, .int .i64 a, .int .i64 b, .int .i64 k] 112)) := (Below.refl _ _).alloc (by have := hr.lt; omega) _
  have hr' : Rn (w.alloc (.cells #[.int .i64 9, .int .i64 a, .int .i64 b, .int .i64 k] 112)) rb (.slice (some ⟨mb, 0, none⟩) m.mem.length cap) m := hr.of (alloc_old hr.lt)
  have hm' : Mm (w.alloc (.cells #[.int .i64 9, .int .i64 a, .int .i64 b, .int .i64 k] 112)) mb m.mem := hmm.of (alloc_old hmm.lt)
  have cb := hr'.reg hm hb
  have ca := hr'.reg hm ha
  have cm := hr'.mem hm
  have hgb := P.rg_lt hm b
  have hga := P.rg_lt hm a
  unfold P.W32 at hgb hga
  rw [hz] at cb hgb
  rw [hy] at ca hga
  have HR := hid_m hr'
  have HM := hid_m hm'
  have HAL := hid_m hal
  have HOK := hid_m hm
  have HHA := hid_m ha
  have b0 : (0 : Int) ≤ (b : Int) := Int.natCast_nonneg b
  have b1 : (b : Int) < 16 := by omega
  have a0 : (0 : Int) ≤ (a : Int) := Int.natCast_nonneg a
  have a1 : (a : Int) < 16 := by omega
  have h0 : (0 : Int) ≤ (z : Int) + k := nn_cast z k
  have HNE := hid_m hne
  have HHB1 := hid_m hB1
  have HHB2 := hid_m hB2
  have HHK := hid_m hk
  have wz := w64_nat z hgb
  have wzk := w64_sum z k hgb hk
  have HGA := hid_m hga
  have HY0 := hid_m hy
  clear hr hmm hr' hm' hal hm hz hy ha hb hgb hga hk hne hB1 hB2
  have hlt : z + k < m.mem.length := (List.getElem?_eq_some_iff.1 hc).1
  have hlt' := lt_cast hlt
  have hzk := nat_cast z k
  have HC := hid_m hc
  clear hc hlt
  go_enter Tryz.func139, Tryz.ntmps139
  go_wp2_with fail
  go_quiet (fail)
  go_wp2_with fail
  obtain ⟨wq, hwq⟩ : ∃ wq, (w.alloc (.cells #[.int .i64 9, .int .i64 a, .int .i64 b, .int .i64 k] 112)).drewN nq = wq := ⟨_, rfl⟩
  have hr2 : Rn wq rb (.slice (some ⟨mb, 0, none⟩) m.mem.length cap) m := by rw [← hwq]; exact HR.out.of (heap_drewN _ _ _)
  have hm2 : Mm wq mb m.mem := by rw [← hwq]; exact HM.out.of (heap_drewN _ _ _)
  have hb2 : Below B w wq := by rw [← hwq]; exact m_drewN HAL.out _
  have hi2 : wq.heap[w.heap.size]? = some (.cells #[.int .i64 9, .int .i64 a, .int .i64 b, .int .i64 k] 112 (0, 0)) := by rw [← hwq, heap_drewN]; exact heap_alloc_new w _
  rw [hwq]
  clear hwq cb ca cm wz wzk
  have ca := hr2.reg HOK.out HHA.out
  rw [HY0.out] at ca
  have cm := hr2.mem HOK.out
  have n1 : wq.cell? ⟨w.heap.size, 1, none⟩ = some (.int .i64 a) := by rw [cell_of_row _ _ _ _ _ _ hi2]; rfl
  have HR2 := hid_m hr2
  have HM2 := hid_m hm2
  have HB2 := hid_m hb2
  have cc := hm2.cell HC.out
  have ff := hr2.fz a
  have wc : IntKind.u32.wrap (c.toNat : Int) = c.toNat := by rw [wrap_u32]; have := UInt8.toNat_lt c; omega
  clear hi2 hr2 hm2 hb2
  go_region
  go_wp2_with fail
  go_ret
  refine ⟨rfl, ?_, ?_, ?_⟩
  · exact (HR2.out.setReg HOK.out.sixteen HHA.out c.toNat).of rfl
  · exact (HM2.out.of (set_other (fun h => HNE.out h.symm))).of rfl
  · exact drew_below (HB2.out.setCell HHB1.out _)
set_option maxHeartbeats 4000000 in
theorem reach_store (a b k z y : Nat) (m : P.M) (rb mb cap B n : Nat) (w : World) (hz : P.rg m b = z) (hy : P.rg m a = y) (ha : a < 16) (hb : b < 16) (hk : k < 65536) (hm : P.OkM n m) (hne : rb ≠ mb) (hB1 : B ≤ rb) (hB2 : B ≤ mb)
    (hr : Rn w rb (.slice (some ⟨mb, 0, none⟩) m.mem.length cap) m) (hmm : Mm w mb m.mem) (hlt : z + k < m.mem.length) :
    Calls Tryz.prog 139 #[.pointer (some ⟨rb, 0, none⟩), .agg #[.int .i64 10, .int .i64 a, .int .i64 b, .int .i64 k]] w fun e w' => e = .returned (.bool true) ∧ Rn w' rb (.slice (some ⟨mb, 0, none⟩) m.mem.length cap) m ∧ Mm w' mb (m.mem.set (z + k) (UInt8.ofNat y)) ∧ Below B w w' := by
  have hal : Below B w (w.alloc (.cells #[.int .i64 10, .int .i64 a, .int .i64 b, .int .i64 k] 112)) := (Below.refl _ _).alloc (by have := hr.lt; omega) _
  have hr' : Rn (w.alloc (.cells #[.int .i64 10, .int .i64 a, .int .i64 b, .int .i64 k] 112)) rb (.slice (some ⟨mb, 0, none⟩) m.mem.length cap) m := hr.of (alloc_old hr.lt)
  have hm' : Mm (w.alloc (.cells #[.int .i64 10, .int .i64 a, .int .i64 b, .int .i64 k] 112)) mb m.mem := hmm.of (alloc_old hmm.lt)
  have cb := hr'.reg hm hb
  have ca := hr'.reg hm ha
  have cm := hr'.mem hm
  have hgb := P.rg_lt hm b
  have hga := P.rg_lt hm a
  unfold P.W32 at hgb hga
  rw [hz] at cb hgb
  rw [hy] at ca hga
  have HR := hid_m hr'
  have HM := hid_m hm'
  have HAL := hid_m hal
  have HOK := hid_m hm
  have HHA := hid_m ha
  have b0 : (0 : Int) ≤ (b : Int) := Int.natCast_nonneg b
  have b1 : (b : Int) < 16 := by omega
  have a0 : (0 : Int) ≤ (a : Int) := Int.natCast_nonneg a
  have a1 : (a : Int) < 16 := by omega
  have h0 : (0 : Int) ≤ (z : Int) + k := nn_cast z k
  have HNE := hid_m hne
  have HHB1 := hid_m hB1
  have HHB2 := hid_m hB2
  have HHK := hid_m hk
  have wz := w64_nat z hgb
  have wzk := w64_sum z k hgb hk
  have HGA := hid_m hga
  have HY0 := hid_m hy
  clear hr hmm hr' hm' hal hm hz hy ha hb hgb hga hk hne hB1 hB2
  have hlt' := lt_cast hlt
  have hzk := nat_cast z k
  have HLT := hid_m hlt
  clear hlt
  go_enter Tryz.func139, Tryz.ntmps139
  go_wp2_with fail
  go_quiet (fail)
  go_wp2_with fail
  obtain ⟨wq, hwq⟩ : ∃ wq, (w.alloc (.cells #[.int .i64 10, .int .i64 a, .int .i64 b, .int .i64 k] 112)).drewN nq = wq := ⟨_, rfl⟩
  have hr2 : Rn wq rb (.slice (some ⟨mb, 0, none⟩) m.mem.length cap) m := by rw [← hwq]; exact HR.out.of (heap_drewN _ _ _)
  have hm2 : Mm wq mb m.mem := by rw [← hwq]; exact HM.out.of (heap_drewN _ _ _)
  have hb2 : Below B w wq := by rw [← hwq]; exact m_drewN HAL.out _
  have hi2 : wq.heap[w.heap.size]? = some (.cells #[.int .i64 10, .int .i64 a, .int .i64 b, .int .i64 k] 112 (0, 0)) := by rw [← hwq, heap_drewN]; exact heap_alloc_new w _
  rw [hwq]
  clear hwq cb ca cm wz wzk
  have ca := hr2.reg HOK.out HHA.out
  rw [HY0.out] at ca
  have cm := hr2.mem HOK.out
  have n1 : wq.cell? ⟨w.heap.size, 1, none⟩ = some (.int .i64 a) := by rw [cell_of_row _ _ _ _ _ _ hi2]; rfl
  have HR2 := hid_m hr2
  have HM2 := hid_m hm2
  have HB2 := hid_m hb2
  obtain ⟨c, hc⟩ : ∃ c, m.mem[z + k]? = some c := ⟨_, List.getElem?_eq_getElem HLT.out⟩
  have cc := hm2.cell hc
  have ff := hm2.fz HLT.out
  have wb := byte_low y HGA.out
  clear hc
  clear hi2 hr2 hm2 hb2
  go_region
  go_wp2_with fail
  go_ret
  have hv : (y : Int) % 256 = ((UInt8.ofNat y).toNat : Int) := by simp
  refine ⟨rfl, ?_, ?_, ?_⟩
  · exact (HR2.out.of (set_other (fun h => HNE.out h))).of rfl
  · have := (HM2.out.set HLT.out (UInt8.ofNat y)).of (w' := (wq.setCell ⟨mb, z + k, none⟩ (.int .u8 (UInt8.ofNat y).toNat)).drew) rfl
    rw [← hv] at this
    exact this
  · exact drew_below (HB2.out.setCell HHB2.out _)
end Go.Proofs.YtghggcehloiemabGreatDoor
