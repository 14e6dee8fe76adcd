import Derived.Test.YtghggcehloiemaaMcW
namespace Go.Proofs.Ytghggcehloiemaa
open Go.RowKit
set_option linter.unusedVariables false
set_option maxRecDepth 16000

theorem bget_of {s : ByteArray} {i : Nat} (h : i < s.size) : s[i]? = some s[i] := getElem?_pos s i h
theorem byteAt_of {s : ByteArray} {i : Nat} (h : i < s.size) : P.byteAt s.data.toList i = s[i].toNat := by
  unfold P.byteAt
  rw [get_of h]; rfl
theorem insAt_any (s : ByteArray) (n : Nat) (w : World) (h : 5 * n + 5 ≤ s.size) (hs : s.size ≤ maxLen) :
    Calls Try.prog 55 #[.string s, .int .i64 ((5 * n : Nat) : Int)] w fun e w' => e = .returned (.agg #[.int .i64 (P.insAt s.data.toList n).op, .int .i64 (P.insAt s.data.toList n).a, .int .i64 (P.insAt s.data.toList n).b, .int .i64 (P.insAt s.data.toList n).k]) ∧ Below w.heap.size w w' := by
  have e1 : (((5 * n : Nat) : Int) + 1).toNat = 5 * n + 1 := by omega
  have e2 : (((5 * n : Nat) : Int) + 2).toNat = 5 * n + 2 := by omega
  have e3 : (((5 * n : Nat) : Int) + 3).toNat = 5 * n + 3 := by omega
  have e4 : (((5 * n : Nat) : Int) + 4).toNat = 5 * n + 4 := by omega
  refine (insAt_go s (5 * n) s[5 * n] s[5 * n + 1] s[5 * n + 2] s[5 * n + 3] s[5 * n + 4] w hs (bget_of (by omega)) (by rw [e1]; exact bget_of (by omega)) (by rw [e2]; exact bget_of (by omega)) (by rw [e3]; exact bget_of (by omega)) (by rw [e4]; exact bget_of (by omega)) (by omega)).mono ?_
  rintro e w' ⟨rfl, hb⟩
  refine ⟨?_, hb⟩
  simp only [P.insAt]
  rw [byteAt_of (by omega : 5 * n < s.size), byteAt_of (by omega : 5 * n + 1 < s.size), byteAt_of (by omega : 5 * n + 2 < s.size), byteAt_of (by omega : 5 * n + 3 < s.size), byteAt_of (by omega : 5 * n + 4 < s.size)]

set_option maxHeartbeats 1000000 in
theorem allowed_any (op a b k count : Nat) (w : World) : Calls Try.prog 56 #[.agg #[.int .i64 op, .int .i64 a, .int .i64 b, .int .i64 k], .int .i64 count] w fun e w' => e = .returned (.bool (decide (P.OkI count ⟨op, a, b, k⟩))) ∧ Below w.heap.size w w' := by
  have hb : Below w.heap.size w (w.alloc (.cells #[.int .i64 op, .int .i64 a, .int .i64 b, .int .i64 k] 104)) := (Below.refl _ _).alloc (Nat.le_refl _) _
  by_cases h1 : 14 < op
  · have HF : Hid (decide (P.OkI count ⟨op, a, b, k⟩) = false) := decide_eq_false (fun h => by have : op ≤ 14 := h.1; omega)
    go_enter Try.func56, Try.ntmps56
    go_wp2_with fail
    go_ret
    exact ⟨by rw [HF.out]; rfl, hb⟩
  · by_cases h2 : 16 ≤ a
    · have HF : Hid (decide (P.OkI count ⟨op, a, b, k⟩) = false) := decide_eq_false (fun h => by have : a ≤ 15 := h.2.1; omega)
      go_enter Try.func56, Try.ntmps56
      go_wp2_with fail
      go_ret
      exact ⟨by rw [HF.out]; rfl, hb⟩
    · by_cases h3 : 16 ≤ b
      · have HF : Hid (decide (P.OkI count ⟨op, a, b, k⟩) = false) := decide_eq_false (fun h => by have : b ≤ 15 := h.2.2.1; omega)
        go_enter Try.func56, Try.ntmps56
        go_wp2_with fail
        go_ret
        exact ⟨by rw [HF.out]; rfl, hb⟩
      · have g1 : ¬ (14 : Int) < op := by omega
        have g2 : ¬ (16 : Int) ≤ a := by omega
        have g3 : ¬ (16 : Int) ≤ b := by omega
        have HS := fun w => saysWhere_any op a b k w
        by_cases h4 : 11 ≤ op
        · have HF : Hid (decide (P.OkI count ⟨op, a, b, k⟩) = decide (k < count)) := decide_eq_decide.2 ⟨fun h => h.2.2.2.1 h4, fun h => ⟨show op ≤ 14 by omega, show a ≤ 15 by omega, show b ≤ 15 by omega, fun _ => h, fun (e : op = 8) => by omega⟩⟩
          have h4' : decide (11 ≤ op) = true := by simp [h4]
          rw [h4'] at HS
          have HSS : Hid (∀ w, Calls Try.prog 65 #[.agg #[.int .i64 op, .int .i64 a, .int .i64 b, .int .i64 k]] w fun e w' => e = .returned (.bool true) ∧ Below w.heap.size w w') := HS
          clear HS
          go_enter Try.func56, Try.ntmps56
          go_wp2_with fail
          refine (HSS.out _).mono ?_
          rintro e w1 ⟨rfl, hb1⟩
          have hc := hb1.cell (p := ⟨w.heap.size, 3, none⟩) (by simp)
          go_wp2_with fail
          go_ret
          exact ⟨by rw [HF.out]; rfl, hb.trans (hb1.mono hb.size)⟩
        · have h4' : decide (11 ≤ op) = false := by simp [h4]
          rw [h4'] at HS
          have HSS : Hid (∀ w, Calls Try.prog 65 #[.agg #[.int .i64 op, .int .i64 a, .int .i64 b, .int .i64 k]] w fun e w' => e = .returned (.bool false) ∧ Below w.heap.size w w') := HS
          clear HS
          by_cases h8 : op = 8
          · have HF : Hid (decide (P.OkI count ⟨op, a, b, k⟩) = decide (k ≤ 31)) := decide_eq_decide.2 ⟨fun h => h.2.2.2.2 h8, fun h => ⟨show op ≤ 14 by omega, show a ≤ 15 by omega, show b ≤ 15 by omega, fun e => by have : 11 ≤ op := e; omega, fun _ => h⟩⟩
            subst h8
            go_enter Try.func56, Try.ntmps56
            go_wp2_with fail
            refine (HSS.out _).mono ?_
            rintro e w1 ⟨rfl, hb1⟩
            have hc := hb1.cell (p := ⟨w.heap.size, 3, none⟩) (by simp)
            have hc0 := hb1.cell (p := ⟨w.heap.size, 0, none⟩) (by simp)
            go_wp2_with fail
            go_ret
            exact ⟨by rw [HF.out]; simp; omega, hb.trans (hb1.mono hb.size)⟩
          · have HF : Hid (decide (P.OkI count ⟨op, a, b, k⟩) = true) := decide_eq_true ⟨show op ≤ 14 by omega, show a ≤ 15 by omega, show b ≤ 15 by omega, fun e => by have : 11 ≤ op := e; omega, fun e => absurd e h8⟩
            go_enter Try.func56, Try.ntmps56
            go_wp2_with fail
            refine (HSS.out _).mono ?_
            rintro e w1 ⟨rfl, hb1⟩
            have hc0 := hb1.cell (p := ⟨w.heap.size, 0, none⟩) (by simp)
            go_wp2_with fail
            go_ret
            exact ⟨by rw [HF.out]; rfl, hb.trans (hb1.mono hb.size)⟩
end Go.Proofs.Ytghggcehloiemaa
