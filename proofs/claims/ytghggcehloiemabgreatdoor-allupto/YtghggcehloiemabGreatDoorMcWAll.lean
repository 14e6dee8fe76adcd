import Derived.Test.YtghggcehloiemabGreatDoorMcPAll
import Derived.Test.YtghggcehloiemabGreatDoorBaseAll
import Derived.Deep.AppendLies
import Derived.RegionTactic
import Derived.Deep.RegionHeld3
import Derived.BigRegion
import Derived.Handy
namespace Go.Proofs.YtghggcehloiemabGreatDoor
open Go.RowKit
set_option linter.unusedVariables false
set_option maxRecDepth 16000

set_option maxHeartbeats 400000 in
theorem saysWhere_any (op a b k : Nat) (w : World) : Calls Tryz.prog 96 #[.agg #[.int .i64 op, .int .i64 a, .int .i64 b, .int .i64 k]] w fun e w' => e = .returned (.bool (decide (11 ≤ op))) ∧ Below w.heap.size w w' := by
  go_enter Tryz.func96, Tryz.ntmps96
  go_wp2_with fail
  go_ret
  exact ⟨by simp; omega, (Below.refl _ _).alloc (Nat.le_refl _) _⟩

set_option maxHeartbeats 400000 in
theorem nextFollows_any (op a b k : Nat) (w : World) : Calls Tryz.prog 67 #[.agg #[.int .i64 op, .int .i64 a, .int .i64 b, .int .i64 k]] w fun e w' => e = .returned (.bool (decide (¬ (op = 0 ∨ op = 11)))) ∧ Below w.heap.size w w' := by
  go_enter Tryz.func67, Tryz.ntmps67
  by_cases h0 : op = 0
  · subst h0
    go_wp2_with fail
    go_ret
    exact ⟨by simp, (Below.refl _ _).alloc (Nat.le_refl _) _⟩
  · have hi : ((op : Int) != 0) = true := by simp [h0]
    have hj : ((op : Int) != 11) = !decide (op = 11) := by rw [Bool.eq_iff_iff]; simp; omega
    go_wp2_with fail
    go_ret
    exact ⟨by simp [h0], (Below.refl _ _).alloc (Nat.le_refl _) _⟩

theorem wrap_id (x : Int) (h0 : -9223372036854775808 ≤ x) (h1 : x ≤ 9223372036854775807) : IntKind.i64.wrap x = x := by
  simp only [IntKind.wrap, IntKind.signed, IntKind.bits]
  simp
  omega
set_option maxHeartbeats 4000000 in
theorem insAt_go (s : ByteArray) (p : Nat) (b0 b1 b2 b3 b4 : UInt8) (w : World) (hs : s.size ≤ maxLen) (h0 : s[p]? = some b0) (h1 : s[((p : Int) + 1).toNat]? = some b1) (h2 : s[((p : Int) + 2).toNat]? = some b2) (h3 : s[((p : Int) + 3).toNat]? = some b3) (h4 : s[((p : Int) + 4).toNat]? = some b4) (h5 : p + 5 ≤ s.size) :
    Calls Tryz.prog 65 #[.string s, .int .i64 p] w fun e w' => e = .returned (.agg #[.int .i64 b0.toNat, .int .i64 b1.toNat, .int .i64 b2.toNat, .int .i64 ((b3.toNat + b4.toNat * 256 : Nat) : Int)]) ∧ Below w.heap.size w w' := by
  unfold maxLen at hs
  have hp : (p : Int) + 5 ≤ s.size := by omega
  have w1 : IntKind.i64.wrap ((p : Int) + 1) = (p : Int) + 1 := wrap_id _ (by omega) (by omega)
  have w2 : IntKind.i64.wrap ((p : Int) + 2) = (p : Int) + 2 := wrap_id _ (by omega) (by omega)
  have w3 : IntKind.i64.wrap ((p : Int) + 3) = (p : Int) + 3 := wrap_id _ (by omega) (by omega)
  have w4 : IntKind.i64.wrap ((p : Int) + 4) = (p : Int) + 4 := wrap_id _ (by omega) (by omega)
  have w5 : wrap64 ((p : Int) + 5) = (p : Int) + 5 := by unfold wrap64; omega
  have g0 : (0 : Int) ≤ (p : Int) := by omega
  have g1 : (0 : Int) ≤ (p : Int) + 1 := by omega
  have g2 : (0 : Int) ≤ (p : Int) + 2 := by omega
  have g3 : (0 : Int) ≤ (p : Int) + 3 := by omega
  have g4 : (0 : Int) ≤ (p : Int) + 4 := by omega
  have w6 : wrap64 ((b3.toNat : Int) + (b4.toNat : Int) * 256) = ((b3.toNat + b4.toNat * 256 : Nat) : Int) := by
    have := UInt8.toNat_lt b3; have := UInt8.toNat_lt b4; unfold wrap64; omega
  go_enter Tryz.func65, Tryz.ntmps65
  go_wp2_with fail
  have e0 : ∀ h, s[p]'h = b0 := fun h => by rw [getElem?_pos s _ h] at h0; exact Option.some.inj h0
  have e1 : ∀ h, s[p + 1]'h = b1 := fun h => by rw [show ((p : Int) + 1).toNat = p + 1 by omega, getElem?_pos s _ h] at h1; exact Option.some.inj h1
  have e2 : ∀ h, s[((p : Int) + 2).toNat]'h = b2 := fun h => by rw [getElem?_pos s _ h] at h2; exact Option.some.inj h2
  have e3 : ∀ h, s[((p : Int) + 3).toNat]'h = b3 := fun h => by rw [getElem?_pos s _ h] at h3; exact Option.some.inj h3
  have e4 : ∀ h, s[((p : Int) + 4).toNat]'h = b4 := fun h => by rw [getElem?_pos s _ h] at h4; exact Option.some.inj h4
  have l0 : p < s.size := by omega
  have l1 : p + 1 < s.size := by omega
  have l2 : ((p : Int) + 2).toNat < s.size := by omega
  have l3 : ((p : Int) + 3).toNat < s.size := by omega
  have l4 : ((p : Int) + 4).toNat < s.size := by omega
  clear hs h5 w5 hp h0 h1 h2 h3 h4
  have W6 : Hid (wrap64 ((b3.toNat : Int) + (b4.toNat : Int) * 256) = ((b3.toNat + b4.toNat * 256 : Nat) : Int)) := w6
  clear w6
  go_region
  clear w1 w2 w3 w4 g0 g1 g2 g3 g4 e0 e1 e2 e3 e4 l0 l1 l2 l3 l4
  go_wp2_with fail
  go_returns
  have x0 : wrap64 (b0.toNat : Int) = b0.toNat := by have := UInt8.toNat_lt b0; unfold wrap64; omega
  have x1 : wrap64 (b1.toNat : Int) = b1.toNat := by have := UInt8.toNat_lt b1; unfold wrap64; omega
  have x2 : wrap64 (b2.toNat : Int) = b2.toNat := by have := UInt8.toNat_lt b2; unfold wrap64; omega
  have x3 : wrap64 (b3.toNat : Int) = b3.toNat := by have := UInt8.toNat_lt b3; unfold wrap64; omega
  have x4 : wrap64 (b4.toNat : Int) = b4.toNat := by have := UInt8.toNat_lt b4; unfold wrap64; omega
  have x5 : wrap64 ((b4.toNat : Int) * 256) = (b4.toNat : Int) * 256 := by have := UInt8.toNat_lt b4; unfold wrap64; omega
  refine ⟨?_, ?_⟩
  · simp [x0, x1, x2, x3, x4, x5, W6.out]
  · exact ⟨rfl, rfl, rfl, by simp, fun k hk => Below.heap_alloc _ _ _ hk⟩
end Go.Proofs.YtghggcehloiemabGreatDoor
namespace Go.Proofs.YtghggcehloiemabGreatDoor
open Go.RowKit
set_option linter.unusedVariables false
set_option maxRecDepth 16000

theorem bget_of {s : ByteArray} {i : Nat} (h : i < s.size) : s[i]? = some s[i] := getElem?_pos s i h
theorem byteAt_of {s : ByteArray} {i : Nat} (h : i < s.size) : P.byteAt s.data.toList i = s[i].toNat := by
  unfold P.byteAt
  rw [get_of h]; rfl
theorem insAt_any (s : ByteArray) (n : Nat) (w : World) (h : 5 * n + 5 ≤ s.size) (hs : s.size ≤ maxLen) :
    Calls Tryz.prog 65 #[.string s, .int .i64 ((5 * n : Nat) : Int)] w fun e w' => e = .returned (.agg #[.int .i64 (P.insAt s.data.toList n).op, .int .i64 (P.insAt s.data.toList n).a, .int .i64 (P.insAt s.data.toList n).b, .int .i64 (P.insAt s.data.toList n).k]) ∧ Below w.heap.size w w' := by
  have e1 : (((5 * n : Nat) : Int) + 1).toNat = 5 * n + 1 := by omega
  have e2 : (((5 * n : Nat) : Int) + 2).toNat = 5 * n + 2 := by omega
  have e3 : (((5 * n : Nat) : Int) + 3).toNat = 5 * n + 3 := by omega
  have e4 : (((5 * n : Nat) : Int) + 4).toNat = 5 * n + 4 := by omega
  refine (insAt_go s (5 * n) s[5 * n] s[5 * n + 1] s[5 * n + 2] s[5 * n + 3] s[5 * n + 4] w hs (bget_of (by omega)) (by rw [e1]; exact bget_of (by omega)) (by rw [e2]; exact bget_of (by omega)) (by rw [e3]; exact bget_of (by omega)) (by rw [e4]; exact bget_of (by omega)) (by omega)).mono ?_
  rintro e w' ⟨rfl, hb⟩
  refine ⟨?_, hb⟩
  simp only [P.insAt]
  rw [byteAt_of (by omega : 5 * n < s.size), byteAt_of (by omega : 5 * n + 1 < s.size), byteAt_of (by omega : 5 * n + 2 < s.size), byteAt_of (by omega : 5 * n + 3 < s.size), byteAt_of (by omega : 5 * n + 4 < s.size)]

set_option maxHeartbeats 1000000 in
theorem allowed_any (op a b k count : Nat) (w : World) : Calls Tryz.prog 66 #[.agg #[.int .i64 op, .int .i64 a, .int .i64 b, .int .i64 k], .int .i64 count] w fun e w' => e = .returned (.bool (decide (P.OkI count ⟨op, a, b, k⟩))) ∧ Below w.heap.size w w' := by
  have hb : Below w.heap.size w (w.alloc (.cells #[.int .i64 op, .int .i64 a, .int .i64 b, .int .i64 k] 112)) := (Below.refl _ _).alloc (Nat.le_refl _) _
  by_cases h1 : 14 < op
  · have HF : Hid (decide (P.OkI count ⟨op, a, b, k⟩) = false) := decide_eq_false (fun h => by have : op ≤ 14 := h.1; omega)
    go_enter Tryz.func66, Tryz.ntmps66
    go_wp2_with fail
    go_ret
    exact ⟨by rw [HF.out]; rfl, hb⟩
  · by_cases h2 : 16 ≤ a
    · have HF : Hid (decide (P.OkI count ⟨op, a, b, k⟩) = false) := decide_eq_false (fun h => by have : a ≤ 15 := h.2.1; omega)
      go_enter Tryz.func66, Tryz.ntmps66
      go_wp2_with fail
      go_ret
      exact ⟨by rw [HF.out]; rfl, hb⟩
    · by_cases h3 : 16 ≤ b
      · have HF : Hid (decide (P.OkI count ⟨op, a, b, k⟩) = false) := decide_eq_false (fun h => by have : b ≤ 15 := h.2.2.1; omega)
        go_enter Tryz.func66, Tryz.ntmps66
        go_wp2_with fail
        go_ret
        exact ⟨by rw [HF.out]; rfl, hb⟩
      · have g1 : ¬ (14 : Int) < op := by omega
        have g2 : ¬ (16 : Int) ≤ a := by omega
        have g3 : ¬ (16 : Int) ≤ b := by omega
        have HS := fun w => saysWhere_any op a b k w
        by_cases h4 : 11 ≤ op
        · have HF : Hid (decide (P.OkI count ⟨op, a, b, k⟩) = decide (k < count)) := decide_eq_decide.2 ⟨fun h => h.2.2.2.1 h4, fun h => ⟨show op ≤ 14 by omega, show a ≤ 15 by omega, show b ≤ 15 by omega, fun _ => h, fun (e : op = 8) => by omega⟩⟩
          have h4' : decide (11 ≤ op) = true := by simp [h4]
          rw [h4'] at HS
          have HSS : Hid (∀ w, Calls Tryz.prog 96 #[.agg #[.int .i64 op, .int .i64 a, .int .i64 b, .int .i64 k]] w fun e w' => e = .returned (.bool true) ∧ Below w.heap.size w w') := HS
          clear HS
          go_enter Tryz.func66, Tryz.ntmps66
          go_wp2_with fail
          refine (HSS.out _).mono ?_
          rintro e w1 ⟨rfl, hb1⟩
          have hc := hb1.cell (p := ⟨w.heap.size, 3, none⟩) (by simp)
          go_wp2_with fail
          go_ret
          exact ⟨by rw [HF.out]; rfl, hb.trans (hb1.mono hb.size)⟩
        · have h4' : decide (11 ≤ op) = false := by simp [h4]
          rw [h4'] at HS
          have HSS : Hid (∀ w, Calls Tryz.prog 96 #[.agg #[.int .i64 op, .int .i64 a, .int .i64 b, .int .i64 k]] w fun e w' => e = .returned (.bool false) ∧ Below w.heap.size w w') := HS
          clear HS
          by_cases h8 : op = 8
          · have HF : Hid (decide (P.OkI count ⟨op, a, b, k⟩) = decide (k ≤ 31)) := decide_eq_decide.2 ⟨fun h => h.2.2.2.2 h8, fun h => ⟨show op ≤ 14 by omega, show a ≤ 15 by omega, show b ≤ 15 by omega, fun e => by have : 11 ≤ op := e; omega, fun _ => h⟩⟩
            subst h8
            go_enter Tryz.func66, Tryz.ntmps66
            go_wp2_with fail
            refine (HSS.out _).mono ?_
            rintro e w1 ⟨rfl, hb1⟩
            have hc := hb1.cell (p := ⟨w.heap.size, 3, none⟩) (by simp)
            have hc0 := hb1.cell (p := ⟨w.heap.size, 0, none⟩) (by simp)
            go_wp2_with fail
            go_ret
            exact ⟨by rw [HF.out]; simp; omega, hb.trans (hb1.mono hb.size)⟩
          · have HF : Hid (decide (P.OkI count ⟨op, a, b, k⟩) = true) := decide_eq_true ⟨show op ≤ 14 by omega, show a ≤ 15 by omega, show b ≤ 15 by omega, fun e => by have : 11 ≤ op := e; omega, fun e => absurd e h8⟩
            go_enter Tryz.func66, Tryz.ntmps66
            go_wp2_with fail
            refine (HSS.out _).mono ?_
            rintro e w1 ⟨rfl, hb1⟩
            have hc0 := hb1.cell (p := ⟨w.heap.size, 0, none⟩) (by simp)
            go_wp2_with fail
            go_ret
            exact ⟨by rw [HF.out]; rfl, hb.trans (hb1.mono hb.size)⟩
end Go.Proofs.YtghggcehloiemabGreatDoor
namespace Go.Proofs.YtghggcehloiemabGreatDoor
open Go.RowKit
set_option linter.unusedVariables false
set_option maxRecDepth 16000

theorem m_owns_of {w w' : World} {base : Nat} {e : TypeId} {size n : Nat} {v : Value} {xs : List Value} (h : w.ownsRow base e size v n xs) (hs : ∀ g, v.ownBlock = some g → w'.heap[g]? = w.heap[g]?) : w'.ownsRow base e size v n xs := by
  obtain ⟨h1, h2⟩ := h
  refine ⟨h1, ?_⟩
  rcases h2 with h2 | ⟨g, cap, cur, rfl, hb, hg, hr⟩
  · exact .inl h2
  · exact .inr ⟨g, cap, cur, rfl, hb, by rw [hs g rfl]; exact hg, hr⟩
theorem owns_on {w w' : World} {base : Nat} {e : TypeId} {size n : Nat} {v : Value} {xs : List Value} (h : w.ownsRow base e size v n xs) (hb : Below w.heap.size w w') : w'.ownsRow base e size v n xs :=
  m_owns_of h (fun g hg => hb.block g (h.lt g hg).2)
theorem owns_less {w : World} {base base' : Nat} {e : TypeId} {size n : Nat} {v : Value} {xs : List Value} (h : w.ownsRow base e size v n xs) (hb : base' ≤ base) : w.ownsRow base' e size v n xs := by
  obtain ⟨h1, h2⟩ := h
  refine ⟨h1, ?_⟩
  rcases h2 with h2 | ⟨g, cap, cur, rfl, hb', hr⟩
  · exact .inl h2
  · exact .inr ⟨g, cap, cur, rfl, by omega, hr⟩
theorem owns_set {b : Nat} {w : World} {e : TypeId} {size n : Nat} {v : Value} {xs : List Value} (o : Nat) (u : Value) (h : w.ownsRow (b + 1) e size v n xs) : (w.setCell ⟨b, o, none⟩ u).ownsRow (b + 1) e size v n xs :=
  m_owns_of h (fun g hg => ((Only.refl b w).setCell o u).block g (by have := (h.lt g hg).1; omega))
theorem m_owns_form {w : World} {base : Nat} {e : TypeId} {size n : Nat} {v : Value} {xs : List Value} (h : w.ownsRow base e size v n xs) : ∃ a N cap, v = .slice a N cap := by
  rcases h.2 with ⟨h, _⟩ | ⟨g, cap, cur, h, _⟩
  · exact ⟨_, _, _, h⟩
  · exact ⟨_, _, _, h⟩
theorem codeCells_get (ps : List P.I) : ∀ (i k : Nat) (x : P.I), ps[i]? = some x → k < 4 → (codeCells ps)[i * 4 + k]? = (insCells x)[k]? := by
  induction ps with
  | nil => intro i k x h; simp at h
  | cons y ps ih =>
    intro i k x h hk
    have e : codeCells (y :: ps) = insCells y ++ codeCells ps := by simp [codeCells]
    have hl : (insCells y).length = 4 := rfl
    rw [e]
    cases i with
    | zero =>
      simp at h; subst h
      rw [List.getElem?_append_left (by omega)]; simp
    | succ i =>
      simp at h
      rw [List.getElem?_append_right (by omega), hl, show (i + 1) * 4 + k - 4 = i * 4 + k by omega]
      exact ih i k x h hk
theorem ins_cell {w : World} {base g N cap k n : Nat} {ps : List P.I} {x : P.I} (h : w.ownsRow base 112 4 (.slice (some ⟨g, 0, none⟩) N cap) n (codeCells ps)) (hn : n = ps.length) (hx : ps[k]? = some x) :
    w.cell? ⟨g, k * 4, none⟩ = some (.int .i64 x.op) ∧ w.cell? ⟨g, k * 4 + 1, none⟩ = some (.int .i64 x.a) ∧ w.cell? ⟨g, k * 4 + 2, none⟩ = some (.int .i64 x.b) ∧ w.cell? ⟨g, k * 4 + 3, none⟩ = some (.int .i64 x.k) ∧ N = ps.length ∧ N ≤ cap := by
  obtain ⟨h1, h2⟩ := h
  rcases h2 with ⟨h2, _⟩ | ⟨g', cap', cur, hv, hb, hg, hn', hm, hsz, htk⟩
  · cases h2
  · cases hv
    have hk : k < ps.length := (List.getElem?_eq_some_iff.1 hx).1
    have key : ∀ j, j < 4 → w.cell? ⟨g, k * 4 + j, none⟩ = (insCells x)[j]? := by
      intro j hj
      rw [cell_of_row w g _ _ _ _ hg]
      have hget := codeCells_get ps k j x hx hj
      rw [← htk, List.getElem?_take_of_lt (by omega)] at hget
      simpa using hget
    exact ⟨key 0 (by omega), key 1 (by omega), key 2 (by omega), key 3 (by omega), hn, by omega⟩
theorem m_four_new (w : World) (a b c d : Value) (t : TypeId) : ∀ j u, [a, b, c, d][j]? = some u → (w.alloc (.cells #[a, b, c, d] t)).cell? ((⟨w.heap.size, 0, none⟩ : Addr).add j) = some u :=
  World.news_of_block (heap_alloc_new w _)
theorem m_blk_lt {w : World} {b : Nat} {o : Obj} (h : w.heap[b]? = some o) : b < w.heap.size := by
  rcases Nat.lt_or_ge b w.heap.size with hl | hl
  · exact hl
  · rw [Array.getElem?_eq_none hl] at h; cases h
theorem m_grown_blk {wr w3 : World} {base : Nat} {e : TypeId} {size n : Nat} {v : Value} {xs : List Value} {o o' : Obj} {B : Nat} (hown : wr.ownsRow base e size v n xs) (hg : (wr.alloc o).grownBy w3 v.ownBlock) (hB : B < base) (h : wr.heap[B]? = some o') : w3.heap[B]? = some o' := by
  have hl := m_blk_lt h
  rw [hg.block B (by simp; omega) (fun e => by have := (hown.lt _ e.symm).1; omega), Below.heap_alloc _ _ _ hl]; exact h
theorem m_grown_below {w wr w3 : World} {base : Nat} {e : TypeId} {size n : Nat} {v : Value} {xs : List Value} {o : Obj} (hb : Below w.heap.size w wr) (hown : wr.ownsRow base e size v n xs) (hg : (wr.alloc o).grownBy w3 v.ownBlock) (hB : w.heap.size ≤ base) : Below w.heap.size w w3 :=
  Below.grown (hb.alloc hb.size o) hg (by have := hb.size; simp; omega) (fun j hj => by have := (hown.lt _ hj).1; omega)
theorem insAt_any' (s : ByteArray) (n : Nat) (w : World) (h : 5 * n + 5 ≤ s.size) (hs : s.size ≤ maxLen) :
    Calls Tryz.prog 65 #[.string s, .int .i64 ((n : Int) * 5)] w fun e w' => e = .returned (.agg #[.int .i64 (P.insAt s.data.toList n).op, .int .i64 (P.insAt s.data.toList n).a, .int .i64 (P.insAt s.data.toList n).b, .int .i64 (P.insAt s.data.toList n).k]) ∧ Below w.heap.size w w' := by
  have e : ((5 * n : Nat) : Int) = (n : Int) * 5 := by omega
  rw [← e]; exact insAt_any s n w h hs
end Go.Proofs.YtghggcehloiemabGreatDoor
namespace Go.Proofs.YtghggcehloiemabGreatDoor
open Go.RowKit
set_option linter.unusedVariables false
set_option maxRecDepth 16000

theorem Tryz.infoIns : (Tryz.prog.info? 112).map (fun i => (i.zero, i.size, i.bytes)) = some (some (.agg #[.int .i64 0, .int .i64 0, .int .i64 0, .int .i64 0]), 4, 32) := by kernel_rfl

/-- What 'Parse' answers. -/
def PPost (s : ByteArray) (w : World) (e : Ending) (w' : World) : Prop :=
  (if P.IsCode s.data.toList then ∃ v, e = .returned (.tuple #[.agg #[v], .bool true]) ∧ w'.ownsRow w.heap.size 112 4 v (P.codeOf s.data.toList).length (codeCells (P.codeOf s.data.toList))
    else e = .returned (.tuple #[.agg #[.slice none 0 0], .bool false])) ∧ Below w.heap.size w w'
theorem PPost.no {s : ByteArray} {w w' : World} {e : Ending} (h : ¬ P.IsCode s.data.toList) (he : e = .returned (.tuple #[.agg #[.slice none 0 0], .bool false])) (hb : Below w.heap.size w w') : PPost s w e w' := by
  unfold PPost; rw [if_neg h]; exact ⟨he, hb⟩
theorem PPost.yes {s : ByteArray} {w w' : World} {e : Ending} (h : P.IsCode s.data.toList) {v : Value} (he : e = .returned (.tuple #[.agg #[v], .bool true])) (ho : w'.ownsRow w.heap.size 112 4 v (P.codeOf s.data.toList).length (codeCells (P.codeOf s.data.toList))) (hb : Below w.heap.size w w') : PPost s w e w' := by
  unfold PPost; rw [if_pos h]; exact ⟨⟨v, he, ho⟩, hb⟩
theorem tl_len' (s : ByteArray) : s.data.toList.length = s.size := by simp
theorem hid_m {p : Prop} (h : p) : Hid p := h
theorem insAt_lt (l : List UInt8) (q : Nat) : (P.insAt l q).op < 65536 ∧ (P.insAt l q).a < 65536 ∧ (P.insAt l q).b < 65536 ∧ (P.insAt l q).k < 65536 := by
  have := P.byteAt_lt l
  have h0 := this (5 * q); have h1 := this (5 * q + 1); have h2 := this (5 * q + 2); have h3 := this (5 * q + 3); have h4 := this (5 * q + 4)
  simp only [P.insAt]
  omega

set_option maxHeartbeats 4000000 in
theorem mparse_any (s : ByteArray) (w : World) (hs : s.size ≤ maxLen) :
    Calls Tryz.prog 32 #[.string s] w fun e w' => PPost s w e w' := by
  obtain ⟨i0, hi0, hz0, hz1, hz2⟩ := info_parts Tryz.infoIns
  have hlen := tl_len' s
  have hs' := hs
  unfold maxLen at hs
  obtain ⟨c, hc⟩ : ∃ c, s.size / 5 = c := ⟨_, rfl⟩
  have hcc : (s.size : Int) / 5 = c := by omega
  have hal : Below w.heap.size w (w.alloc (.cells #[.slice none 0 0] 75)) := (Below.refl _ _).alloc (Nat.le_refl _) _
  have hc5 : 5 * c ≤ s.size := by omega
  by_cases hc1 : c < 1
  · have HN : Hid (¬ P.IsCode s.data.toList) := fun h => by have := h.some; omega
    clear hc hc5 hlen
    go_enter Tryz.func32, Tryz.ntmps32
    go_wp2_with fail
    go_returns
    exact PPost.no HN.out rfl hal
  · by_cases hc2 : 800 < c
    · have HN : Hid (¬ P.IsCode s.data.toList) := fun h => by have := h.few; omega
      have hc1' : ¬ (c : Int) < 1 := by omega
      have hc2' : (800 : Int) < c := by omega
      clear hc hc5 hlen
      go_enter Tryz.func32, Tryz.ntmps32
      go_wp2_with fail
      go_returns
      exact PPost.no HN.out rfl hal
    · have hc1' : ¬ (c : Int) < 1 := by omega
      have hc2' : ¬ (800 : Int) < c := by omega
      have hwc : wrap64 ((c : Int) * 5) = (c : Int) * 5 := by unfold wrap64; omega
      by_cases hc3 : s.size = 5 * c
      · have hc3' : (s.size : Int) = (c : Int) * 5 := by omega
        have HC : Hid (s.data.toList.length / 5 = c) := by unfold Hid; omega
        have HF : Hid (s.data.toList.length = 5 * c) := by unfold Hid; omega
        have hbig : s.size ≤ 4000 := by omega
        have HS5 : Hid (s.size = 5 * c) := hc3
        clear hlen hc5 hc hcc hc3
        go_enter Tryz.func32, Tryz.ntmps32
        go_wp2_with fail
        go_loopw [5, 6] (fun l j wr => ∃ (q : Nat), q ≤ c ∧ j = .int .i64 q ∧ wr.ownsRow (w.heap.size + 1) 112 4 l q (codeCells ((P.codeOf s.data.toList).take q)) ∧ Hid (∀ i, i < q → P.OkI c (P.insAt s.data.toList i)) ∧ Below w.heap.size w wr ∧ wr.heap[w.heap.size]? = some (.cells #[.slice none 0 0] 75 (0, 0))) (fun _ j _ => c - (intOf j).toNat)
        case atStart => exact ⟨0, by omega, rfl, World.ownsRow_nil _ _ _ _, fun i hi => absurd hi (Nat.not_lt_zero _), hal, heap_alloc_new w _⟩
        case round =>
          obtain ⟨q, hq, rfl, hown, HQ, hbe, hblk⟩ := hrel
          by_cases hlt : q < c
          · have hin := fun w => insAt_any' s q w (by have := HS5.out; omega) hs'
            have hcode : Hid ((P.codeOf s.data.toList)[q]? = some (P.insAt s.data.toList q)) := P.codeOf_get _ _ (by rw [HC.out]; exact hlt)
            have hxb := insAt_lt s.data.toList q
            obtain ⟨x, hx⟩ : ∃ x, P.insAt s.data.toList q = x := ⟨_, rfl⟩
            rw [hx] at hin hxb
            have HX : Hid (P.insAt s.data.toList q = x) := hx
            clear hx
            obtain ⟨op, a, b, k⟩ := x
            simp only at hxb
            have HI := hid_m hin
            clear hin
            go_wp2_with fail
            refine (HI.out _).mono ?_
            rintro e w2 ⟨rfl, hb2⟩
            go_wp2_with fail
            refine (allowed_any op a b k c _).mono ?_
            rintro e w3 ⟨rfl, hb3⟩
            have hb2a : Below wr.heap.size wr (w2.alloc (.cells #[.int .i64 op, .int .i64 a, .int .i64 b, .int .i64 k] 112)) := hb2.alloc hb2.size _
            have hb23 : Below wr.heap.size wr w3 := hb2a.trans (hb3.mono hb2a.size)
            have hnew : w3.heap[w2.heap.size]? = some (.cells #[.int .i64 op, .int .i64 a, .int .i64 b, .int .i64 k] 112 (0, 0)) := by rw [hb3.block _ (by simp)]; exact heap_alloc_new _ _
            have n0 : w3.cell? ⟨w2.heap.size, 0, none⟩ = some (.int .i64 op) := by rw [cell_of_row _ _ _ _ _ _ hnew]; rfl
            have n1 : w3.cell? ⟨w2.heap.size, 1, none⟩ = some (.int .i64 a) := by rw [cell_of_row _ _ _ _ _ _ hnew]; rfl
            have n2 : w3.cell? ⟨w2.heap.size, 2, none⟩ = some (.int .i64 b) := by rw [cell_of_row _ _ _ _ _ _ hnew]; rfl
            have n3 : w3.cell? ⟨w2.heap.size, 3, none⟩ = some (.int .i64 k) := by rw [cell_of_row _ _ _ _ _ _ hnew]; rfl
            have hown3 := owns_on hown hb23
            have hbe3 : Below w.heap.size w w3 := hbe.trans (hb23.mono hbe.size)
            have hblk3 : w3.heap[w.heap.size]? = some (.cells #[.slice none 0 0] 75 (0, 0)) := by rw [hb23.block _ (m_blk_lt hblk)]; exact hblk
            have hlt3 := m_blk_lt hblk3
            clear hb2 hb3 hb23 hb2a hnew
            by_cases hok : P.OkI c ⟨op, a, b, k⟩
            · rw [decide_eq_true hok]
              have HOK := hid_m hok
              clear hok
              go_wp2_with (first
                | (at_builtin; refine wpList_append_lies _ rfl _ _ 73 rfl (w.heap.size + 1) 112 i0 (.agg #[.int .i64 0, .int .i64 0, .int .i64 0, .int .i64 0]) 4 32 Tryz.underlying73 hi0 hz0 hz1 hz2 rfl (by decide) u5 q (codeCells ((P.codeOf s.data.toList).take q)) rfl (hown3.alloc _) ⟨w3.heap.size, 0, none⟩ 1 1 (insCells ⟨op, a, b, k⟩) rfl rfl (m_four_new _ _ _ _ _ _) (fun x hx => by simp [insCells] at hx; rcases hx with rfl | rfl | rfl | rfl <;> rfl) (by omega) (by unfold maxLen; omega) (by omega) (by simp; omega) _ rfl ?_; intro g cap w4 hown' hgrow hat hlt'
                   have hbe4 := m_grown_below hbe3 hown3 hgrow (Nat.le_succ _)
                   have hblk4 := m_grown_blk hown3 hgrow (Nat.lt_succ_self _) hblk3))
              refine ⟨⟨q + 1, by omega, by go_num, ?_, ?_, hbe4, hblk4⟩, by simp [intOf]; omega⟩
              · have ht : (P.codeOf s.data.toList).take (q + 1) = (P.codeOf s.data.toList).take q ++ [⟨op, a, b, k⟩] := by
                  rw [List.take_add_one, hcode.out, HX.out]; rfl
                rw [ht, codeCells_append]
                have : codeCells [(⟨op, a, b, k⟩ : P.I)] = insCells ⟨op, a, b, k⟩ := by simp [codeCells]
                rw [this]; exact hown'
              · intro i hi
                by_cases hiq : i = q
                · subst hiq; rw [HX.out]; exact HOK.out
                · exact HQ.out i (by omega)
            · rw [decide_eq_false hok]
              have HN : Hid (¬ P.IsCode s.data.toList) := fun h => hok (by have := h.all q (by rw [HC.out]; exact hlt); rw [HC.out, HX.out] at this; exact this)
              clear hok
              have m0 : w3.cell? ⟨w.heap.size, 0, none⟩ = some (.slice none 0 0) := by rw [cell_of_row _ _ _ _ _ _ hblk3]; rfl
              have mf : w3.frozen? ⟨w.heap.size, 0, none⟩ = false := by simp [World.frozen?, hblk3]
              go_wp2_with fail
              have z : (w3.setCell ⟨w.heap.size, 0, none⟩ (.slice none 0 0)).cell? ⟨w.heap.size, 0, none⟩ = some (.slice none 0 0) := World.cell?_setCell_same' _ _ _ (by rw [m0]; rfl)
              refine bodyPost_ret (v := .tuple #[.agg #[.slice none 0 0], .bool false]) (by simp [results, Tryz.results32, go_sem, z]) rfl ?_
              exact PPost.no HN.out rfl (hbe3.setCell (Nat.le_refl _) _)
          · obtain rfl : q = c := by omega
            have hlast := P.codeOf_get s.data.toList (q - 1) (by rw [HC.out]; omega)
            have HTK : Hid ((P.codeOf s.data.toList).take q = P.codeOf s.data.toList) := List.take_of_length_le (by rw [P.codeOf_length, HC.out]; exact Nat.le_refl _)
            rw [HTK.out] at hown
            have HLN : Hid ((P.codeOf s.data.toList).length = q) := by unfold Hid; rw [P.codeOf_length, HC.out]
            have HEN : Hid (P.insAt s.data.toList (s.data.toList.length / 5 - 1) = P.insAt s.data.toList (q - 1)) := by unfold Hid; rw [HC.out]
            obtain ⟨g, cap, hv, hgb, hgl⟩ := hown.form (by omega)
            subst hv
            obtain ⟨x, hx⟩ : ∃ x, P.insAt s.data.toList (q - 1) = x := ⟨_, rfl⟩
            rw [hx] at hlast
            have HX : Hid (P.insAt s.data.toList (q - 1) = x) := hx
            clear hx
            obtain ⟨d0, d1, d2, d3, hN1, hN2⟩ := ins_cell hown HLN.out.symm hlast
            clear hlast hN1 hN2
            obtain ⟨op, a, b, k⟩ := x
            simp only at d0 d1 d2 d3
            have hq1 : wrap64 ((q : Int) - 1) = (q : Int) - 1 := by unfold wrap64; omega
            have hq2 : (0 : Int) ≤ (q : Int) - 1 := by omega
            have hq3 : (q : Int) - 1 < q := by omega
            have hq4 : ((q : Int) - 1).toNat = q - 1 := by omega
            have HOWN := hid_m hown
            clear hown
            go_wp2_with fail
            refine (nextFollows_any op a b k _).mono ?_
            rintro e w2 ⟨rfl, hb2⟩
            have hown2 := owns_on HOWN.out hb2
            have hbe2 : Below w.heap.size w w2 := hbe.trans (hb2.mono hbe.size)
            have hblk2 : w2.heap[w.heap.size]? = some (.cells #[.slice none 0 0] 75 (0, 0)) := by rw [hb2.block _ (m_blk_lt hblk)]; exact hblk
            have m0 : w2.cell? ⟨w.heap.size, 0, none⟩ = some (.slice none 0 0) := by rw [cell_of_row _ _ _ _ _ _ hblk2]; rfl
            have mf : w2.frozen? ⟨w.heap.size, 0, none⟩ = false := by simp [World.frozen?, hblk2]
            clear d0 d1 d2 d3 hblk hb2
            by_cases hend : op = 0 ∨ op = 11
            · have HY : Hid (P.IsCode s.data.toList) := ⟨by rw [HC.out]; exact HF.out, by rw [HC.out]; omega, by rw [HC.out]; omega, by rw [HC.out]; exact HQ.out, by rw [HEN.out, HX.out]; exact hend⟩
              rw [decide_eq_false (not_not_intro hend)]
              clear hend
              go_wp2_with fail
              have z : (w2.setCell ⟨w.heap.size, 0, none⟩ (.slice (some ⟨g, 0, none⟩) q cap)).cell? ⟨w.heap.size, 0, none⟩ = some (.slice (some ⟨g, 0, none⟩) q cap) := World.cell?_setCell_same' _ _ _ (by rw [m0]; rfl)
              refine bodyPost_ret (v := .tuple #[.agg #[.slice (some ⟨g, 0, none⟩) q cap], .bool true]) (by simp [results, Tryz.results32, go_sem, z]) rfl ?_
              exact PPost.yes HY.out rfl (by rw [HLN.out]; exact owns_less (owns_set 0 _ hown2) (Nat.le_succ _)) (hbe2.setCell (Nat.le_refl _) _)
            · have HN : Hid (¬ P.IsCode s.data.toList) := fun h => hend (by have := h.last; rw [HEN.out, HX.out] at this; exact this)
              rw [decide_eq_true hend]
              clear hend
              go_wp2_with fail
              have z : (w2.setCell ⟨w.heap.size, 0, none⟩ (.slice none 0 0)).cell? ⟨w.heap.size, 0, none⟩ = some (.slice none 0 0) := World.cell?_setCell_same' _ _ _ (by rw [m0]; rfl)
              refine bodyPost_ret (v := .tuple #[.agg #[.slice none 0 0], .bool false]) (by simp [results, Tryz.results32, go_sem, z]) rfl ?_
              exact PPost.no HN.out rfl (hbe2.setCell (Nat.le_refl _) _)
      · have hc3' : ¬ (s.size : Int) = (c : Int) * 5 := by omega
        have HN : Hid (¬ P.IsCode s.data.toList) := fun h => by have := h.five; omega
        clear hc hc5 hlen
        go_enter Tryz.func32, Tryz.ntmps32
        go_wp2_with fail
        go_returns
        exact PPost.no HN.out rfl hal

set_option maxHeartbeats 400000 in
theorem check_any (s : ByteArray) (w : World) (hs : s.size ≤ maxLen) :
    Calls Tryz.prog 122 #[.string s] w fun e w' => e = .returned (.int .i64 (if P.IsCode s.data.toList then 0 else 4)) ∧ Below w.heap.size w w' := by
  go_enter Tryz.func122, Tryz.ntmps122
  go_wp2_with fail
  refine (mparse_any s w hs).mono ?_
  rintro e w1 ⟨hpost, hb⟩
  by_cases h : P.IsCode s.data.toList
  · rw [if_pos h] at hpost
    obtain ⟨v, rfl, hown⟩ := hpost
    obtain ⟨a, N, cap, rfl⟩ := m_owns_form hown
    have HY := hid_m h
    clear h
    go_wp2_with fail
    go_ret
    exact ⟨by first | rfl | (rw [if_pos HY.out]; rfl), hb.alloc hb.size _⟩
  · rw [if_neg h] at hpost
    subst hpost
    have HY := hid_m h
    clear h
    go_wp2_with fail
    go_ret
    exact ⟨by first | rfl | (rw [if_neg HY.out]; rfl), hb.alloc hb.size _⟩
end Go.Proofs.YtghggcehloiemabGreatDoor
