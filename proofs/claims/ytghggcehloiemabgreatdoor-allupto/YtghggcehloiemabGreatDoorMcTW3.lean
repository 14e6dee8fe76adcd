import Derived.Test.YtghggcehloiemabGreatDoorMcTWAll
namespace Go.Proofs.YtghggcehloiemabGreatDoor
open Go.RowKit
set_option linter.unusedVariables false
set_option maxRecDepth 16000

set_option maxHeartbeats 4000000 in
theorem newPlaces_any (fl : List Bool) (fb : Nat) (w : World) (hn : fl.length ≤ 800) (h : Fl w fb fl) :
    Calls Tryz.prog 95 #[.slice (some ⟨fb, 0, none⟩) fl.length fl.length] w fun e w' => (∃ v, e = .returned v ∧ w'.ownsRow w.heap.size 3 1 v fl.length ((P.nplaces fl fl.length).map natV)) ∧ Below w.heap.size w w' := by
  obtain ⟨i0, hi0, hz0, hz1, hz2⟩ := info_parts Tryz.infoMInt
  have hfl := h.lt
  have H := hid_m h
  obtain ⟨n, hnn⟩ : ∃ n, fl.length = n := ⟨_, rfl⟩
  rw [hnn] at hn ⊢
  go_enter Tryz.func95, Tryz.ntmps95
  go_wp2_with fail
  go_loopw [3, 4, 9] (fun v ct i wr => ∃ (t z : Nat), t ≤ n ∧ i = .int .i64 t ∧ ct = .int .i64 z ∧ Hid (P.cnt fl t = z) ∧ wr.ownsRow w.heap.size 3 1 v t ((P.nplaces fl t).map natV) ∧ Below w.heap.size w wr) (fun _ _ i _ => n - (intOf i).toNat)
  case atStart => exact ⟨0, 0, Nat.zero_le _, rfl, rfl, P.cnt_zero fl, World.ownsRow_nil _ _ _ _, Below.refl _ _⟩
  case round =>
    obtain ⟨t, z, ht, rfl, rfl, HZ, hown, hbe⟩ := hrel
    have hsz := hbe.size
    have hzle : z ≤ t := by rw [← HZ.out]; exact P.cnt_le fl t
    by_cases hlt : t < n
    · obtain ⟨bt, hbt⟩ : ∃ bt, fl[t]? = some bt := ⟨_, List.getElem?_eq_getElem (by omega)⟩
      have cf : wr.cell? ⟨fb, t, none⟩ = some (.bool bt) := (H.out.of (hbe.block _ hfl)).cell hbt
      have i0' : (0 : Int) ≤ (t : Int) := Int.natCast_nonneg t
      have i1 : (t : Int) < (n : Int) := by omega
      have HBT := hid_m hbt
      have htw : wrap64 ((t : Int) + 1) = (t : Int) + 1 := w64_id _ (by omega) (by omega)
      have hzw : wrap64 ((z : Int) + 1) = (z : Int) + 1 := w64_id _ (by omega) (by omega)
      have HTW := hid_m htw
      have HZW := hid_m hzw
      have HBD := hid_m (And.intro hzle (And.intro ht hlt))
      clear hbt hzw htw hzle
      cases bt with
      | true =>
        go_wp2_with (first
          | (at_builtin; refine wpList_append_lies _ rfl _ _ 63 rfl w.heap.size 3 i0 (.int .i64 0) 1 8 Tryz.underlying63 hi0 hz0 hz1 hz2 rfl (by decide) u3 t ((P.nplaces fl t).map natV) rfl (hown.alloc _) ⟨wr.heap.size, 0, none⟩ 1 1 [natV z] rfl rfl (one_new _ _ _) (fun x hx => by simp at hx; subst hx; rfl) (by omega) (by unfold maxLen; omega) (by omega) (by simp; omega) _ rfl ?_; intro g cap w3 hown' hgrow hat hlt3
             have hbe3 := m_grown_below hbe hown hgrow (Nat.le_refl _)))
        refine ⟨⟨t + 1, z + 1, hlt, by first | (rw [HTW.out]; exact next_t) | exact next_t, by first | (rw [HZW.out]; exact next_t) | exact next_t, ?_, ?_, hbe3⟩, by first | (rw [HTW.out]; exact less_t HBD.out.2.2) | exact less_t HBD.out.2.2⟩
        · unfold Hid; rw [P.cnt_succ, HBT.out, if_pos rfl, HZ.out]
        · rw [P.nplaces_succ, List.map_append, HZ.out]; exact hown'
      | false =>
        go_wp2_with (first
          | (at_builtin; refine wpList_append_lies _ rfl _ _ 63 rfl w.heap.size 3 i0 (.int .i64 0) 1 8 Tryz.underlying63 hi0 hz0 hz1 hz2 rfl (by decide) u3 t ((P.nplaces fl t).map natV) rfl (hown.alloc _) ⟨wr.heap.size, 0, none⟩ 1 1 [natV z] rfl rfl (one_new _ _ _) (fun x hx => by simp at hx; subst hx; rfl) (by omega) (by unfold maxLen; omega) (by omega) (by simp; omega) _ rfl ?_; intro g cap w3 hown' hgrow hat hlt3
             have hbe3 := m_grown_below hbe hown hgrow (Nat.le_refl _)))
        refine ⟨⟨t + 1, z, hlt, by first | (rw [HTW.out]; exact next_t) | exact next_t, rfl, ?_, ?_, hbe3⟩, by first | (rw [HTW.out]; exact less_t HBD.out.2.2) | exact less_t HBD.out.2.2⟩
        · unfold Hid; rw [P.cnt_succ, HBT.out, if_neg (by simp), HZ.out]; rfl
        · rw [P.nplaces_succ, List.map_append, HZ.out]; exact hown'
    · have hte : t = n := by omega
      subst hte
      go_wp2_with fail
      go_ret
      exact ⟨⟨_, rfl, hown⟩, hbe⟩

theorem ins_keep {w w3 : World} {base ib n : Nat} {v : Value} {xs : List Value} {X : Array Value} {o : Obj} (hown : w.ownsRow base 5 1 v n xs) (hg : (w.alloc o).grownBy w3 v.ownBlock) (hi : w.heap[ib]? = some (.cells X 112 (0, 0))) : w3.heap[ib]? = some (.cells X 112 (0, 0)) := by
  have hl := m_blk_lt hi
  rw [hg.block ib (by simp; omega) (fun e => ?_), Below.heap_alloc _ _ _ hl]
  · exact hi
  · rcases hown.2 with ⟨hv, _⟩ | ⟨g, cap, cur, hv, hb, hgg, _⟩
    · subst hv; cases e
    · subst hv
      cases e
      rw [hgg] at hi
      injection hi with hi
      injection hi with _ h2 _
      cases h2
theorem grow_keeps {w wr w3 : World} {base n : Nat} {v : Value} {xs : List Value} {e : TypeId} {o : Obj} (hb : Below base w wr) (hB : base ≤ wr.heap.size) (hown : wr.ownsRow base e 1 v n xs) (hg : (wr.alloc o).grownBy w3 v.ownBlock) : Below base w w3 :=
  Below.grown (hb.alloc hB o) hg (by simp; omega) (fun j hj => (hown.lt _ hj).1)
theorem m_and_255 (z : Int) : bits .and .i64 z 255 = z % 256 := by
  have h2 : (BitVec.ofInt 64 (255 : Int)).toNat = 255 := by decide
  show IntKind.i64.wrap ((BitVec.ofInt 64 z &&& BitVec.ofInt 64 255).toNat : Int) = _
  rw [BitVec.toNat_and, h2, show (255 : Nat) = 2 ^ 8 - 1 from rfl, Nat.and_two_pow_sub_one_eq_mod, BitVec.toNat_ofInt]
  simp only [IntKind.wrap, IntKind.signed, IntKind.bits]
  simp
  omega
theorem low8 (n : Nat) : bits .and .i64 (n : Int) 255 % 256 = ((UInt8.ofNat n).toNat : Int) := by
  rw [m_and_255]; simp only [UInt8.toNat_ofNat']; omega
theorem high8 (n : Nat) : bits .and .i64 ((n : Int) / 256) 255 % 256 = ((UInt8.ofNat (n / 256)).toNat : Int) := by
  rw [m_and_255]; simp only [UInt8.toNat_ofNat']; omega
def byteV (b : UInt8) : Value := .int .u8 b.toNat
set_option maxHeartbeats 4000000 in
theorem textOf_any (c : List P.I) (g N cap base : Nat) (w : World) (hn : c.length ≤ 800) (hpos : 1 ≤ c.length) (hs : ∀ x ∈ c, P.Small x)
    (hown : w.ownsRow base 112 4 (.slice (some ⟨g, 0, none⟩) N cap) c.length (codeCells c)) :
    Calls Tryz.prog 97 #[.slice (some ⟨g, 0, none⟩) N cap] w fun e w' => e = .returned (.string ⟨(P.text c).toArray⟩) ∧ Below w.heap.size w w' := by
  obtain ⟨i0, hi0, hz0, hz1, hz2⟩ := info_parts Tryz.infoMU8
  go_enter Tryz.func97, Tryz.ntmps97
  have hl5 := fun t => P.text_length (c.take t)
  have HN : Hid (N = c.length) := by
    rcases hown.2 with ⟨h, _⟩ | ⟨g', cap', cur, hv, _⟩
    · cases h
    · cases hv; rfl
  have HO := hid_m hown
  have HS := hid_m hs
  have hgl : g < w.heap.size := (hown.lt g rfl).2
  have HG := hid_m hgl
  clear hown hs hgl
  go_wp2_with fail
  go_loopw [3, 8] (fun v i wr => ∃ (t : Nat), t ≤ c.length ∧ i = .int .i64 t ∧ wr.ownsRow w.heap.size 5 1 v (5 * t) ((P.text (c.take t)).map byteV) ∧ Below w.heap.size w wr) (fun _ i _ => c.length - (intOf i).toNat)
  case atStart => exact ⟨0, Nat.zero_le _, rfl, World.ownsRow_nil _ _ _ _, Below.refl _ _⟩
  case round =>
    obtain ⟨t, ht, rfl, hown, hbe⟩ := hrel
    have hsz := hbe.size
    by_cases hlt : t < c.length
    · obtain ⟨x, hx⟩ : ∃ x, c[t]? = some x := ⟨_, List.getElem?_eq_getElem hlt⟩
      have how : wr.ownsRow base 112 4 (.slice (some ⟨g, 0, none⟩) N cap) c.length (codeCells c) := m_owns_of HO.out (fun g' hg' => hbe.block g' (by cases hg'; exact HG.out))
      obtain ⟨d0, d1, d2, d3, hN1, hN2⟩ := ins_cell how rfl hx
      have hsm := HS.out x (List.mem_of_getElem? hx)
      have HX := hid_m hx
      have HSM := hid_m hsm
      obtain ⟨op, xa, xb, k⟩ := x
      simp only at d0 d1 d2 d3
      have j0 : (0 : Int) ≤ (t : Int) := Int.natCast_nonneg t
      have j1 : (t : Int) < (N : Int) := by omega
      clear hx how hsm hN1 hN2
      obtain ⟨b0, hb0⟩ : ∃ b, UInt8.ofNat op = b := ⟨_, rfl⟩
      obtain ⟨b1, hb1⟩ : ∃ b, UInt8.ofNat xa = b := ⟨_, rfl⟩
      obtain ⟨b2, hb2⟩ : ∃ b, UInt8.ofNat xb = b := ⟨_, rfl⟩
      obtain ⟨b3, hb3⟩ : ∃ b, UInt8.ofNat k = b := ⟨_, rfl⟩
      obtain ⟨b4, hb4⟩ : ∃ b, UInt8.ofNat (k / 256) = b := ⟨_, rfl⟩
      have v0 := low8 op
      have v1 := low8 xa
      have v2 := low8 xb
      have v3 := low8 k
      have v4 := high8 k
      rw [hb0] at v0
      rw [hb1] at v1
      rw [hb2] at v2
      rw [hb3] at v3
      rw [hb4] at v4
      have HBT : Hid (P.bytesI ⟨op, xa, xb, k⟩ = [b0, b1, b2, b3, b4]) := by unfold Hid; rw [← hb0, ← hb1, ← hb2, ← hb3, ← hb4]; rfl
      have hownA : (wr.alloc (.cells #[.int .i64 op, .int .i64 xa, .int .i64 xb, .int .i64 k] 112)).ownsRow w.heap.size 5 1 u3 (5 * t) ((P.text (c.take t)).map byteV) := hown.alloc _
      have hinA : (wr.alloc (.cells #[.int .i64 op, .int .i64 xa, .int .i64 xb, .int .i64 k] 112)).heap[wr.heap.size]? = some (.cells #[.int .i64 op, .int .i64 xa, .int .i64 xb, .int .i64 k] 112 (0, 0)) := heap_alloc_new _ _
      have hbeA : Below w.heap.size w (wr.alloc (.cells #[.int .i64 op, .int .i64 xa, .int .i64 xb, .int .i64 k] 112)) := hbe.alloc hsz _
      have hszA := hbeA.size
      have HT := hid_m (And.intro ht hlt)
      have HTW : Hid (wrap64 ((t : Int) + 1) = (t : Int) + 1) := w64_id _ (by omega) (by omega)
      clear hb0 hb1 hb2 hb3 hb4 hl5
      go_wp2_with (first
        | (at_builtin; refine wpList_append_lies _ rfl _ _ 38 rfl w.heap.size 5 i0 (.int .u8 0) 1 1 Tryz.underlying38 hi0 hz0 hz1 hz2 rfl (by decide) u3 (5 * t) ((P.text (c.take t)).map byteV) rfl (hownA.alloc _) ⟨wr.heap.size + 1, 0, none⟩ 1 1 [byteV b0] rfl rfl (one_new' (by simp) _ _) (fun x hx => by simp at hx; subst hx; rfl) (by omega) (by unfold maxLen; omega) (by omega) (by simp; omega) _ rfl ?_; intro g1 cap1 w1 hown1 hgrow1 hat1 hlt1
           have hin1 := ins_keep hownA hgrow1 hinA
           have hbe1 := grow_keeps hbeA hszA hownA hgrow1
           have hsz1 := hbe1.size
           have n10 : w1.cell? ⟨wr.heap.size, 0, none⟩ = some (.int .i64 op) := by rw [cell_of_row _ _ _ _ _ _ hin1]; rfl
           have n11 : w1.cell? ⟨wr.heap.size, 1, none⟩ = some (.int .i64 xa) := by rw [cell_of_row _ _ _ _ _ _ hin1]; rfl
           have n12 : w1.cell? ⟨wr.heap.size, 2, none⟩ = some (.int .i64 xb) := by rw [cell_of_row _ _ _ _ _ _ hin1]; rfl
           have n13 : w1.cell? ⟨wr.heap.size, 3, none⟩ = some (.int .i64 k) := by rw [cell_of_row _ _ _ _ _ _ hin1]; rfl)
        | (at_builtin; refine wpList_append_lies _ rfl _ _ 38 rfl w.heap.size 5 i0 (.int .u8 0) 1 1 Tryz.underlying38 hi0 hz0 hz1 hz2 rfl (by decide) (.slice (some ⟨g1, 0, none⟩) (5 * t + 1) cap1) (5 * t + 1) ((P.text (c.take t)).map byteV ++ [byteV b0]) rfl (hown1.alloc _) ⟨w1.heap.size, 0, none⟩ 1 1 [byteV b1] rfl rfl (one_new _ _ _) (fun x hx => by simp at hx; subst hx; rfl) (by omega) (by unfold maxLen; omega) (by omega) (by simp; omega) _ rfl ?_; intro g2 cap2 w2 hown2 hgrow2 hat2 hlt2
           have hin2 := ins_keep hown1 hgrow2 hin1
           have hbe2 := grow_keeps hbe1 hsz1 hown1 hgrow2
           have hsz2 := hbe2.size
           have n20 : w2.cell? ⟨wr.heap.size, 0, none⟩ = some (.int .i64 op) := by rw [cell_of_row _ _ _ _ _ _ hin2]; rfl
           have n21 : w2.cell? ⟨wr.heap.size, 1, none⟩ = some (.int .i64 xa) := by rw [cell_of_row _ _ _ _ _ _ hin2]; rfl
           have n22 : w2.cell? ⟨wr.heap.size, 2, none⟩ = some (.int .i64 xb) := by rw [cell_of_row _ _ _ _ _ _ hin2]; rfl
           have n23 : w2.cell? ⟨wr.heap.size, 3, none⟩ = some (.int .i64 k) := by rw [cell_of_row _ _ _ _ _ _ hin2]; rfl)
        | (at_builtin; refine wpList_append_lies _ rfl _ _ 38 rfl w.heap.size 5 i0 (.int .u8 0) 1 1 Tryz.underlying38 hi0 hz0 hz1 hz2 rfl (by decide) (.slice (some ⟨g2, 0, none⟩) (5 * t + 1 + 1) cap2) (5 * t + 1 + 1) (((P.text (c.take t)).map byteV ++ [byteV b0]) ++ [byteV b1]) rfl (hown2.alloc _) ⟨w2.heap.size, 0, none⟩ 1 1 [byteV b2] rfl rfl (one_new _ _ _) (fun x hx => by simp at hx; subst hx; rfl) (by omega) (by unfold maxLen; omega) (by omega) (by simp; omega) _ rfl ?_; intro g3 cap3 w3 hown3 hgrow3 hat3 hlt3
           have hin3 := ins_keep hown2 hgrow3 hin2
           have hbe3 := grow_keeps hbe2 hsz2 hown2 hgrow3
           have hsz3 := hbe3.size
           have n30 : w3.cell? ⟨wr.heap.size, 0, none⟩ = some (.int .i64 op) := by rw [cell_of_row _ _ _ _ _ _ hin3]; rfl
           have n31 : w3.cell? ⟨wr.heap.size, 1, none⟩ = some (.int .i64 xa) := by rw [cell_of_row _ _ _ _ _ _ hin3]; rfl
           have n32 : w3.cell? ⟨wr.heap.size, 2, none⟩ = some (.int .i64 xb) := by rw [cell_of_row _ _ _ _ _ _ hin3]; rfl
           have n33 : w3.cell? ⟨wr.heap.size, 3, none⟩ = some (.int .i64 k) := by rw [cell_of_row _ _ _ _ _ _ hin3]; rfl)
        | (at_builtin; refine wpList_append_lies _ rfl _ _ 38 rfl w.heap.size 5 i0 (.int .u8 0) 1 1 Tryz.underlying38 hi0 hz0 hz1 hz2 rfl (by decide) (.slice (some ⟨g3, 0, none⟩) (5 * t + 1 + 1 + 1) cap3) (5 * t + 1 + 1 + 1) ((((P.text (c.take t)).map byteV ++ [byteV b0]) ++ [byteV b1]) ++ [byteV b2]) rfl (hown3.alloc _) ⟨w3.heap.size, 0, none⟩ 1 1 [byteV b3] rfl rfl (one_new _ _ _) (fun x hx => by simp at hx; subst hx; rfl) (by omega) (by unfold maxLen; omega) (by omega) (by simp; omega) _ rfl ?_; intro g4 cap4 w4 hown4 hgrow4 hat4 hlt4
           have hin4 := ins_keep hown3 hgrow4 hin3
           have hbe4 := grow_keeps hbe3 hsz3 hown3 hgrow4
           have hsz4 := hbe4.size
           have n40 : w4.cell? ⟨wr.heap.size, 0, none⟩ = some (.int .i64 op) := by rw [cell_of_row _ _ _ _ _ _ hin4]; rfl
           have n41 : w4.cell? ⟨wr.heap.size, 1, none⟩ = some (.int .i64 xa) := by rw [cell_of_row _ _ _ _ _ _ hin4]; rfl
           have n42 : w4.cell? ⟨wr.heap.size, 2, none⟩ = some (.int .i64 xb) := by rw [cell_of_row _ _ _ _ _ _ hin4]; rfl
           have n43 : w4.cell? ⟨wr.heap.size, 3, none⟩ = some (.int .i64 k) := by rw [cell_of_row _ _ _ _ _ _ hin4]; rfl)
        | (at_builtin; refine wpList_append_lies _ rfl _ _ 38 rfl w.heap.size 5 i0 (.int .u8 0) 1 1 Tryz.underlying38 hi0 hz0 hz1 hz2 rfl (by decide) (.slice (some ⟨g4, 0, none⟩) (5 * t + 1 + 1 + 1 + 1) cap4) (5 * t + 1 + 1 + 1 + 1) (((((P.text (c.take t)).map byteV ++ [byteV b0]) ++ [byteV b1]) ++ [byteV b2]) ++ [byteV b3]) rfl (hown4.alloc _) ⟨w4.heap.size, 0, none⟩ 1 1 [byteV b4] rfl rfl (one_new _ _ _) (fun x hx => by simp at hx; subst hx; rfl) (by omega) (by unfold maxLen; omega) (by omega) (by simp; omega) _ rfl ?_; intro g5 cap5 w5 hown5 hgrow5 hat5 hlt5
           have hin5 := ins_keep hown4 hgrow5 hin4
           have hbe5 := grow_keeps hbe4 hsz4 hown4 hgrow5
           have hsz5 := hbe5.size
           have n50 : w5.cell? ⟨wr.heap.size, 0, none⟩ = some (.int .i64 op) := by rw [cell_of_row _ _ _ _ _ _ hin5]; rfl
           have n51 : w5.cell? ⟨wr.heap.size, 1, none⟩ = some (.int .i64 xa) := by rw [cell_of_row _ _ _ _ _ _ hin5]; rfl
           have n52 : w5.cell? ⟨wr.heap.size, 2, none⟩ = some (.int .i64 xb) := by rw [cell_of_row _ _ _ _ _ _ hin5]; rfl
           have n53 : w5.cell? ⟨wr.heap.size, 3, none⟩ = some (.int .i64 k) := by rw [cell_of_row _ _ _ _ _ _ hin5]; rfl))
      refine ⟨⟨t + 1, hlt, by first | (rw [HTW.out]; exact next_t) | exact next_t, ?_, hbe5⟩, by first | (rw [HTW.out]; exact less_t HT.out.2) | exact less_t HT.out.2⟩
      have e1 : P.text (c.take (t + 1)) = P.text (c.take t) ++ [b0, b1, b2, b3, b4] := by
        rw [List.take_add_one, HX.out]
        show P.text (c.take t ++ [_]) = _
        rw [P.text_append, P.text_cons, HBT.out]
        simp [P.text]
      rw [e1, List.map_append]
      have e2 : 5 * (t + 1) = 5 * t + 1 + 1 + 1 + 1 + 1 := by omega
      rw [e2]
      simpa using hown5
    · have hte : t = c.length := by omega
      subst hte
      rw [List.take_length] at hown
      obtain ⟨gg, cp, hv, _, _⟩ := hown.form (by omega)
      subst hv
      have hcv : (convert 38 9 (.slice (some ⟨gg, 0, none⟩) (5 * c.length) cp)).run Tryz.prog wr = .ok (.string ⟨(P.text c).toArray⟩) wr := by
        rw [← P.text_length]
        refine run_convert_bytes_back (P := Tryz.prog) wr 38 9 5 ⟨gg, 0, none⟩ cp (P.text c) Tryz.underlying38 Tryz.underlying5 Tryz.underlying9 ?_
        intro j hj
        rw [show (⟨gg, 0, none⟩ : Addr).add j = ⟨gg, j, none⟩ from by simp [Addr.add]; intro e; rw [e]]
        refine row1_cell hown (by rw [List.length_map, P.text_length]) ?_
        rw [List.getElem?_map, List.getElem?_eq_getElem hj]; rfl
      have hnl : ¬ ((c.length : Int) < (N : Int)) := by have := HN.out; omega
      clear hown hl5
      go_wp2_with fail
      go_ret
      exact ⟨rfl, hbe⟩

set_option maxHeartbeats 400000 in
theorem mtext_any (c : List P.I) (g N cap base : Nat) (w : World) (hn : c.length ≤ 800) (hpos : 1 ≤ c.length) (hs : ∀ x ∈ c, P.Small x)
    (hown : w.ownsRow base 112 4 (.slice (some ⟨g, 0, none⟩) N cap) c.length (codeCells c)) :
    Calls Tryz.prog 52 #[.agg #[.slice (some ⟨g, 0, none⟩) N cap]] w fun e w' => e = .returned (.string ⟨(P.text c).toArray⟩) ∧ Below w.heap.size w w' := by
  have hb : Below w.heap.size w (w.alloc (.cells #[.slice (some ⟨g, 0, none⟩) N cap] 75)) := (Below.refl _ _).alloc (Nat.le_refl _) _
  have HB := hid_m hb
  have HT := hid_m (textOf_any c g N cap base _ hn hpos hs (owns_on hown hb))
  clear hb hown hs
  go_enter Tryz.func52, Tryz.ntmps52
  go_wp2_with fail
  refine HT.out.mono ?_
  rintro e w1 ⟨rfl, hb1⟩
  go_wp2_with fail
  go_ret
  exact ⟨rfl, HB.out.trans (hb1.mono HB.out.size)⟩

theorem four_new' {w : World} {n : Nat} (h : w.heap.size = n) (a b c d : Value) (t : TypeId) : ∀ j u, [a, b, c, d][j]? = some u → (w.alloc (.cells #[a, b, c, d] t)).cell? ((⟨n, 0, none⟩ : Addr).add j) = some u := by rw [← h]; exact m_four_new w a b c d t
theorem Wt.head {w : World} {b fb B : Nat} {lv : Value} {n : Nat} (hb : w.heap[b]? = some (.cells #[lv, .slice (some ⟨fb, 0, none⟩) n n, .slice none 0 0] 156 (0, 0))) (hf : Fl w fb (List.replicate n false)) (hr : B ≤ w.heap.size) : Wt w b fb B lv n (List.replicate n false) [] (.slice none 0 0) :=
  ⟨hb, hf, World.ownsRow_nil _ _ _ _, hr⟩
/-- What lies there ahead of the walk. -/
structure Th (w W : World) (b fb : Nat) (lv : Value) (n : Nat) : Prop where
  wt : Wt W b fb (w.heap.size + 4) lv n (List.replicate n false) [] (.slice none 0 0)
  sd : Sd b fb (w.heap.size + 4) (w.heap.size + 2)
  code : W.heap[w.heap.size]? = some (.cells #[lv] 75 (0, 0))
  res : W.heap[w.heap.size + 1]? = some (.cells #[.slice none 0 0] 75 (0, 0))
  bel : Below w.heap.size w W
theorem Th.a (w : World) (lv : Value) (n : Nat) : Th w (((((w.alloc (.cells #[lv] 75)).alloc (.cells #[.slice none 0 0] 75)).alloc (.cells #[lv, .slice (some ⟨w.heap.size + 1 + 1 + 1, 0, none⟩) n n, .slice none 0 0] 156)).alloc (.cells (madeCells #[.bool false] n) 4)).drew) (w.heap.size + 1 + 1) (w.heap.size + 1 + 1 + 1) lv n := by
  obtain ⟨w1, h1⟩ : ∃ w1, w.alloc (.cells #[lv] 75) = w1 := ⟨_, rfl⟩
  have s1 : w1.heap.size = w.heap.size + 1 := by rw [← h1]; simp
  have k1 : w1.heap[w.heap.size]? = some (.cells #[lv] 75 (0, 0)) := by rw [← h1]; exact heap_alloc_new w _
  have e1 : Below w.heap.size w w1 := by rw [← h1]; exact (Below.refl _ _).alloc (Nat.le_refl _) _
  rw [h1]
  obtain ⟨w2, h2⟩ : ∃ w2, w1.alloc (.cells #[.slice none 0 0] 75) = w2 := ⟨_, rfl⟩
  have s2 : w2.heap.size = w.heap.size + 2 := by rw [← h2]; simp [s1]
  have k2 : w2.heap[w.heap.size + 1]? = some (.cells #[.slice none 0 0] 75 (0, 0)) := by rw [← h2, ← s1]; exact heap_alloc_new w1 _
  have k21 : w2.heap[w.heap.size]? = some (.cells #[lv] 75 (0, 0)) := by rw [← h2, alloc_old (by omega)]; exact k1
  have e2 : Below w.heap.size w w2 := by rw [← h2]; exact e1.alloc (by omega) _
  rw [h2]
  obtain ⟨w3, h3⟩ : ∃ w3, w2.alloc (.cells #[lv, .slice (some ⟨w.heap.size + 1 + 1 + 1, 0, none⟩) n n, .slice none 0 0] 156) = w3 := ⟨_, rfl⟩
  have s3 : w3.heap.size = w.heap.size + 3 := by rw [← h3]; simp [s2]
  have k3 : w3.heap[w.heap.size + 1 + 1]? = some (.cells #[lv, .slice (some ⟨w.heap.size + 1 + 1 + 1, 0, none⟩) n n, .slice none 0 0] 156 (0, 0)) := by rw [← h3, show w.heap.size + 1 + 1 = w2.heap.size by omega]; exact heap_alloc_new w2 _
  have e3 : Below (w.heap.size + 2) w2 w3 := by rw [← h3]; exact (Below.refl _ _).alloc (by omega) _
  rw [h3]
  have hf : Fl (w3.alloc (.cells (madeCells #[.bool false] n) 4)) (w.heap.size + 1 + 1 + 1) (List.replicate n false) := by rw [show w.heap.size + 1 + 1 + 1 = w3.heap.size by omega]; exact Fl.made w3 n
  have e4 : Below (w.heap.size + 3) w3 (w3.alloc (.cells (madeCells #[.bool false] n) 4)).drew := drew_below ((Below.refl _ _).alloc (by omega) _)
  have e24 : Below (w.heap.size + 2) w2 (w3.alloc (.cells (madeCells #[.bool false] n) 4)).drew := e3.trans (e4.mono (by omega))
  refine ⟨Wt.head (by rw [e4.block _ (by omega)]; exact k3) (hf.of rfl) ?_, ⟨by omega, by omega, by omega, by omega, by omega⟩, by rw [e24.block _ (by omega)]; exact k21, by rw [e24.block _ (by omega)]; exact k2, e2.trans (e24.mono (by omega))⟩
  show _ ≤ (w3.alloc (.cells (madeCells #[.bool false] n) 4)).heap.size
  simp [s3]
theorem Th.b (w : World) (lv : Value) (n : Nat) : Th w (((((w.alloc (.cells #[lv] 75)).alloc (.cells #[.slice none 0 0] 75)).alloc (.cells (madeCells #[.bool false] n) 4)).alloc (.cells #[lv, .slice (some ⟨w.heap.size + 1 + 1, 0, none⟩) n n, .slice none 0 0] 156)).drew) (w.heap.size + 1 + 1 + 1) (w.heap.size + 1 + 1) lv n := by
  obtain ⟨w1, h1⟩ : ∃ w1, w.alloc (.cells #[lv] 75) = w1 := ⟨_, rfl⟩
  have s1 : w1.heap.size = w.heap.size + 1 := by rw [← h1]; simp
  have k1 : w1.heap[w.heap.size]? = some (.cells #[lv] 75 (0, 0)) := by rw [← h1]; exact heap_alloc_new w _
  have e1 : Below w.heap.size w w1 := by rw [← h1]; exact (Below.refl _ _).alloc (Nat.le_refl _) _
  rw [h1]
  obtain ⟨w2, h2⟩ : ∃ w2, w1.alloc (.cells #[.slice none 0 0] 75) = w2 := ⟨_, rfl⟩
  have s2 : w2.heap.size = w.heap.size + 2 := by rw [← h2]; simp [s1]
  have k2 : w2.heap[w.heap.size + 1]? = some (.cells #[.slice none 0 0] 75 (0, 0)) := by rw [← h2, ← s1]; exact heap_alloc_new w1 _
  have k21 : w2.heap[w.heap.size]? = some (.cells #[lv] 75 (0, 0)) := by rw [← h2, alloc_old (by omega)]; exact k1
  have e2 : Below w.heap.size w w2 := by rw [← h2]; exact e1.alloc (by omega) _
  rw [h2]
  have hf0 : Fl (w2.alloc (.cells (madeCells #[.bool false] n) 4)) (w.heap.size + 1 + 1) (List.replicate n false) := by rw [show w.heap.size + 1 + 1 = w2.heap.size by omega]; exact Fl.made w2 n
  obtain ⟨w3, h3⟩ : ∃ w3, w2.alloc (.cells (madeCells #[.bool false] n) 4) = w3 := ⟨_, rfl⟩
  have s3 : w3.heap.size = w.heap.size + 3 := by rw [← h3]; simp [s2]
  rw [h3] at hf0
  have e3 : Below (w.heap.size + 2) w2 w3 := by rw [← h3]; exact (Below.refl _ _).alloc (by omega) _
  rw [h3]
  have k4 : (w3.alloc (.cells #[lv, .slice (some ⟨w.heap.size + 1 + 1, 0, none⟩) n n, .slice none 0 0] 156)).heap[w.heap.size + 1 + 1 + 1]? = some (.cells #[lv, .slice (some ⟨w.heap.size + 1 + 1, 0, none⟩) n n, .slice none 0 0] 156 (0, 0)) := by rw [show w.heap.size + 1 + 1 + 1 = w3.heap.size by omega]; exact heap_alloc_new w3 _
  have e4 : Below (w.heap.size + 3) w3 (w3.alloc (.cells #[lv, .slice (some ⟨w.heap.size + 1 + 1, 0, none⟩) n n, .slice none 0 0] 156)).drew := drew_below ((Below.refl _ _).alloc (by omega) _)
  have e24 : Below (w.heap.size + 2) w2 (w3.alloc (.cells #[lv, .slice (some ⟨w.heap.size + 1 + 1, 0, none⟩) n n, .slice none 0 0] 156)).drew := e3.trans (e4.mono (by omega))
  refine ⟨Wt.head k4 (hf0.of (e4.block _ (by omega))) ?_, ⟨by omega, by omega, by omega, by omega, by omega⟩, by rw [e24.block _ (by omega)]; exact k21, by rw [e24.block _ (by omega)]; exact k2, e2.trans (e24.mono (by omega))⟩
  show _ ≤ (w3.alloc (.cells #[lv, .slice (some ⟨w.heap.size + 1 + 1, 0, none⟩) n n, .slice none 0 0] 156)).heap.size
  simp [s3]

set_option maxHeartbeats 4000000 in
theorem mtrim_any (c : List P.I) (hc : P.CodeL c) (hk : ∀ x ∈ c, x.k < 65536) (g N cap base : Nat) (w : World)
    (hown : w.ownsRow base 112 4 (.slice (some ⟨g, 0, none⟩) N cap) c.length (codeCells c)) :
    Calls Tryz.prog 51 #[.agg #[.slice (some ⟨g, 0, none⟩) N cap]] w fun e w' => (∃ fl v, P.Flags c fl ∧ e = .returned (.agg #[v]) ∧ w'.ownsRow w.heap.size 112 4 v (P.trimList c fl).length (codeCells (P.trimList c fl))) ∧ Below w.heap.size w w' := by
  obtain ⟨i0, hi0, hz0, hz1, hz2⟩ := info_parts Tryz.infoIns
  have h800 := hc.few
  have h1 := hc.one
  obtain rfl : N = c.length := by
    rcases hown.2 with ⟨h, _⟩ | ⟨g', cap', cur, hv, _⟩
    · cases h
    · cases hv; rfl
  obtain ⟨n, hn⟩ : ∃ n, c.length = n := ⟨_, rfl⟩
  rw [hn] at hown h800 h1 ⊢
  have hmk := run_make_row' (P := Tryz.prog) 154 4 (.bool false) 1 Tryz.underlying154 Tryz.infoMBool rfl .i64 .i64 n (by omega) (by omega)
  have hgl : g < w.heap.size := (hown.lt g rfl).2
  have HGL := hid_m hgl
  have HN := hid_m hn
  have HC := hid_m hc
  have HK := hid_m hk
  have HO := hid_m hown
  have TA := hid_m (Th.a w (.slice (some ⟨g, 0, none⟩) n cap) n)
  have TB := hid_m (Th.b w (.slice (some ⟨g, 0, none⟩) n cap) n)
  clear hc hk hown hn hgl
  go_enter Tryz.func51, Tryz.ntmps51
  go_wp2_with fail
  go_region
  · obtain ⟨W, hW⟩ : ∃ W, (((((w.alloc (.cells #[.slice (some ⟨g, 0, none⟩) n cap] 75)).alloc (.cells #[.slice none 0 0] 75)).alloc (.cells (madeCells #[.bool false] n) 4)).alloc (.cells #[.slice (some ⟨g, 0, none⟩) n cap, .slice (some ⟨w.heap.size + 1 + 1, 0, none⟩) n n, .slice none 0 0] 156)).drew) = W := ⟨_, rfl⟩
    have HT := TB
    rw [hW] at HT ⊢
    obtain ⟨b, hb⟩ : ∃ x, w.heap.size + 1 + 1 + 1 = x := ⟨_, rfl⟩
    rw [hb] at HT ⊢
    obtain ⟨fb, hfb⟩ : ∃ x, w.heap.size + 1 + 1 = x := ⟨_, rfl⟩
    rw [hfb] at HT ⊢
    clear hW hfb hb TA TB hmk
    have c1 := HT.out.wt.c1
    go_wp2_with fail
    refine (walk_any c HC.out HK.out W b fb (w.heap.size + 4) (w.heap.size + 2) g n cap base HT.out.sd (Nat.lt_of_lt_of_le HGL.out (Nat.le_add_right _ _)) (by rw [HN.out]; exact owns_on HO.out HT.out.bel) (by rw [HN.out]; exact HT.out.wt)).mono ?_
    rintro e w1 ⟨rfl, ⟨fl, q, qv, hfl, hwt⟩, hb1⟩
    rw [HN.out] at hwt
    have d1 := hwt.c1
    have HNP : Hid (Calls Tryz.prog 95 #[.slice (some ⟨fb, 0, none⟩) n n] w1 fun e w' => (∃ v, e = .returned v ∧ w'.ownsRow w1.heap.size 3 1 v n ((P.nplaces fl n).map natV)) ∧ Below w1.heap.size w1 w') := by
      have := newPlaces_any fl fb w1 (by rw [hfl.len, HN.out]; exact h800) hwt.fl
      rw [hfl.len, HN.out] at this; exact this
    have kc1 : w1.heap[w.heap.size]? = some (.cells #[.slice (some ⟨g, 0, none⟩) n cap] 75 (0, 0)) := by rw [hb1.block _ (by omega)]; exact HT.out.code
    have kr1 : w1.heap[w.heap.size + 1]? = some (.cells #[.slice none 0 0] 75 (0, 0)) := by rw [hb1.block _ (by omega)]; exact HT.out.res
    have hbw1 : Below w.heap.size w w1 := HT.out.bel.trans (hb1.mono (by omega))
    have HFL := hid_m hfl
    have HWT := hid_m hwt
    have HKC := hid_m kc1
    have HKR := hid_m kr1
    have HBW := hid_m hbw1
    clear c1 hfl hwt kc1 kr1 hbw1 hb1
    go_wp2_with fail
    refine HNP.out.mono ?_
    rintro e w2 ⟨⟨v, rfl, hpl⟩, hb2⟩
    obtain ⟨gp, cp, hv, _, _⟩ := hpl.form (by omega)
    subst hv
    have wt2 := HWT.out.on hb2
    have kc2 : w2.heap[w.heap.size]? = some (.cells #[.slice (some ⟨g, 0, none⟩) n cap] 75 (0, 0)) := by rw [hb2.block _ (m_blk_lt HKC.out)]; exact HKC.out
    have kr2 : w2.heap[w.heap.size + 1]? = some (.cells #[.slice none 0 0] 75 (0, 0)) := by rw [hb2.block _ (m_blk_lt HKR.out)]; exact HKR.out
    have hbw2 : Below w.heap.size w w2 := HBW.out.trans (hb2.mono HBW.out.size)
    have cc : w2.cell? ⟨w.heap.size, 0, none⟩ = some (.slice (some ⟨g, 0, none⟩) n cap) := by rw [cell_of_row _ _ _ _ _ _ kc2]; rfl
    have HPL := hid_m hpl
    have HWT2 := hid_m wt2
    have HKR2 := hid_m kr2
    have HBW2 := hid_m hbw2
    clear hpl hb2 wt2 kc2 kr2 hbw2 d1 HNP HKC HKR HBW HWT
    go_wp2_with fail
    go_loopw [5, 22] (fun l j wr => ∃ (t : Nat), t ≤ n ∧ j = .int .i64 t ∧ wr.ownsRow w2.heap.size 112 4 l (P.trimTo fl c t).length (codeCells (P.trimTo fl c t)) ∧ Below w2.heap.size w2 wr) (fun _ j _ => n - (intOf j).toNat)
    case atStart => exact ⟨0, Nat.zero_le _, rfl, by rw [P.trimTo_zero]; exact World.ownsRow_nil _ _ _ _, Below.refl _ _⟩
    case round =>
      obtain ⟨t, ht, rfl, hown, hbe⟩ := hrel
      have hsz := hbe.size
      by_cases hlt : t < n
      · obtain ⟨x, hx⟩ : ∃ x, c[t]? = some x := ⟨_, List.getElem?_eq_getElem (by have := HN.out; omega)⟩
        obtain ⟨bt, hbt⟩ : ∃ bt, fl[t]? = some bt := ⟨_, List.getElem?_eq_getElem (by have := HFL.out.len; have := HN.out; omega)⟩
        have how : wr.ownsRow base 112 4 (.slice (some ⟨g, 0, none⟩) n cap) n (codeCells c) := owns_on (owns_on HO.out HBW2.out) hbe
        obtain ⟨d0, d1, d2, d3, hN1, hN2⟩ := ins_cell how HN.out.symm hx
        clear hN1 hN2
        have hok := HC.out.all t x hx
        have hkk := HK.out x (List.mem_of_getElem? hx)
        have hts := P.trimTo_succ HFL.out.len hx hbt
        have htl : (P.trimTo fl c t).length ≤ t := P.trimTo_le fl c t
        obtain ⟨tl, htl2⟩ : ∃ tl, P.trimTo fl c t = tl := ⟨_, rfl⟩
        rw [htl2] at hown htl hts
        clear htl2
        have wtr := HWT2.out.on hbe
        have q1 := wtr.c1
        have qf := wtr.fl.cell hbt
        have hwl := m_blk_lt wtr.blk
        have hfl' := wtr.fl.lt
        have HX := hid_m hx
        have HOK := hid_m hok
        have HKK := hid_m hkk
        have HTS := hid_m hts
        have j0 : (0 : Int) ≤ (t : Int) := Int.natCast_nonneg t
        have j1 : (t : Int) < (n : Int) := by omega
        have HT1 := hid_m (And.intro ht hlt)
        have HTW : Hid (wrap64 ((t : Int) + 1) = (t : Int) + 1) := w64_id _ (by omega) (by omega)
        have HWR := hid_m wtr
        have e1 : ∀ o, (wr.alloc o).cell? ⟨b, 1, none⟩ = some (.slice (some ⟨fb, 0, none⟩) n n) := fun o => by rw [cell_alloc_old hwl]; exact q1
        have e2 : ∀ o, (wr.alloc o).cell? ⟨fb, t, none⟩ = some (.bool bt) := fun o => by rw [cell_alloc_old hfl']; exact qf
        obtain ⟨op, xa, xb, k⟩ := x
        simp only at d0 d1 d2 d3
        clear hx hbt how hok hkk hts wtr q1 qf hwl hfl' ht
        cases bt with
        | false =>
          go_wp2_with fail
          refine ⟨⟨t + 1, hlt, by first | (rw [HTW.out]; exact next_t) | exact next_t, ?_, hbe.alloc hsz _⟩, by first | (rw [HTW.out]; exact less_t HT1.out.2) | exact less_t HT1.out.2⟩
          rw [HTS.out, if_neg (by simp), List.append_nil]
          exact hown.alloc _
        | true =>
          go_wp2_with fail
          refine (saysWhere_any op xa xb k _).mono ?_
          rintro e w3 ⟨rfl, hb3⟩
          have hbA : Below wr.heap.size wr (wr.alloc (.cells #[.int .i64 op, .int .i64 xa, .int .i64 xb, .int .i64 k] 112)) := (Below.refl _ _).alloc (Nat.le_refl _) _
          have hbr : Below wr.heap.size wr w3 := hbA.trans (hb3.mono hbA.size)
          have hn3 : w3.heap[wr.heap.size]? = some (.cells #[.int .i64 op, .int .i64 xa, .int .i64 xb, .int .i64 k] 112 (0, 0)) := by rw [hb3.block _ (by simp)]; exact heap_alloc_new _ _
          have hown3 := owns_on hown hbr
          have hbe3 : Below w2.heap.size w2 w3 := hbe.trans (hbr.mono hbe.size)
          have hsz3 := hbe3.size
          have hlt3 := m_blk_lt hn3
          have m0 : w3.cell? ⟨wr.heap.size, 0, none⟩ = some (.int .i64 op) := by rw [cell_of_row _ _ _ _ _ _ hn3]; rfl
          have m1 : w3.cell? ⟨wr.heap.size, 1, none⟩ = some (.int .i64 xa) := by rw [cell_of_row _ _ _ _ _ _ hn3]; rfl
          have m2 : w3.cell? ⟨wr.heap.size, 2, none⟩ = some (.int .i64 xb) := by rw [cell_of_row _ _ _ _ _ _ hn3]; rfl
          have m3 : w3.cell? ⟨wr.heap.size, 3, none⟩ = some (.int .i64 k) := by rw [cell_of_row _ _ _ _ _ _ hn3]; rfl
          have HN3 := hid_m hn3
          clear hbA hbr hb3 hn3 d0 d1 d2 d3 e1 e2
          by_cases h11 : 11 ≤ op
          · rw [decide_eq_true h11]
            have hkn : k < n := by have := HOK.out.2.2.2.1 h11; have h2 := HN.out; simp only at this; omega
            have pc : w3.cell? ⟨gp, k, none⟩ = some (.int .i64 (P.cnt fl k)) := row1_cell (owns_on HPL.out hbe3) (by simp [P.nplaces]) (by rw [List.getElem?_map, P.nplaces_get hkn]; rfl)
            obtain ⟨z, hz⟩ : ∃ z, P.cnt fl k = z := ⟨_, rfl⟩
            have HZ := hid_m hz
            rw [hz] at pc
            have HTU : Hid (P.turned fl ⟨op, xa, xb, k⟩ = ⟨op, xa, xb, z⟩) := by unfold Hid P.turned; rw [if_pos h11, hz]
            have k0 : (0 : Int) ≤ (k : Int) := Int.natCast_nonneg k
            have k1 : (k : Int) < (n : Int) := by omega
            have mf : w3.frozen? ⟨wr.heap.size, 3, none⟩ = false := by simp [World.frozen?, HN3.out]
            have hownS : (w3.setCell ⟨wr.heap.size, 3, none⟩ (.int .i64 z)).ownsRow w2.heap.size 112 4 u5 tl.length (codeCells tl) := m_owns_of hown3 (fun g' hg' => set_other (by have := (hown.lt g' hg').2; omega))
            have hbeS : Below w2.heap.size w2 (w3.setCell ⟨wr.heap.size, 3, none⟩ (.int .i64 z)) := hbe3.setCell hsz _
            have hnS : (w3.setCell ⟨wr.heap.size, 3, none⟩ (.int .i64 z)).heap[wr.heap.size]? = some (.cells #[.int .i64 op, .int .i64 xa, .int .i64 xb, .int .i64 z] 112 (0, 0)) := by simp [World.setCell, Array.getElem?_modify, HN3.out]
            have s0 : (w3.setCell ⟨wr.heap.size, 3, none⟩ (.int .i64 z)).cell? ⟨wr.heap.size, 0, none⟩ = some (.int .i64 op) := by rw [cell_of_row _ _ _ _ _ _ hnS]; rfl
            have s1 : (w3.setCell ⟨wr.heap.size, 3, none⟩ (.int .i64 z)).cell? ⟨wr.heap.size, 1, none⟩ = some (.int .i64 xa) := by rw [cell_of_row _ _ _ _ _ _ hnS]; rfl
            have s2 : (w3.setCell ⟨wr.heap.size, 3, none⟩ (.int .i64 z)).cell? ⟨wr.heap.size, 2, none⟩ = some (.int .i64 xb) := by rw [cell_of_row _ _ _ _ _ _ hnS]; rfl
            have s3 : (w3.setCell ⟨wr.heap.size, 3, none⟩ (.int .i64 z)).cell? ⟨wr.heap.size, 3, none⟩ = some (.int .i64 z) := by rw [cell_of_row _ _ _ _ _ _ hnS]; rfl
            clear hz h11 hkn hnS
            go_wp2_with (first
              | (at_builtin; refine wpList_append_lies _ rfl _ _ 73 rfl w2.heap.size 112 i0 (.agg #[.int .i64 0, .int .i64 0, .int .i64 0, .int .i64 0]) 4 32 Tryz.underlying73 hi0 hz0 hz1 hz2 rfl (by decide) u5 tl.length (codeCells tl) rfl (hownS.alloc _) ⟨w3.heap.size, 0, none⟩ 1 1 (insCells ⟨op, xa, xb, z⟩) rfl rfl (four_new' (by simp) _ _ _ _ _) (fun x hx => by simp [insCells] at hx; rcases hx with rfl | rfl | rfl | rfl <;> rfl) (by omega) (by unfold maxLen; omega) (by omega) (by simp; omega) _ rfl ?_; intro g4 cap4 w4 hown' hgrow hat hlt'
                 have hbe4 := m_grown_below hbeS hownS hgrow (Nat.le_refl _)))
            refine ⟨⟨t + 1, hlt, by first | (rw [HTW.out]; exact next_t) | exact next_t, ?_, hbe4⟩, by first | (rw [HTW.out]; exact less_t HT1.out.2) | exact less_t HT1.out.2⟩
            rw [HTS.out, if_pos (by simp), HTU.out, List.length_append, codeCells_append]
            simpa [codeCells] using hown'
          · rw [decide_eq_false h11]
            have HTU : Hid (P.turned fl ⟨op, xa, xb, k⟩ = ⟨op, xa, xb, k⟩) := P.turned_other h11
            clear h11
            go_wp2_with (first
              | (at_builtin; refine wpList_append_lies _ rfl _ _ 73 rfl w2.heap.size 112 i0 (.agg #[.int .i64 0, .int .i64 0, .int .i64 0, .int .i64 0]) 4 32 Tryz.underlying73 hi0 hz0 hz1 hz2 rfl (by decide) u5 tl.length (codeCells tl) rfl (hown3.alloc _) ⟨w3.heap.size, 0, none⟩ 1 1 (insCells ⟨op, xa, xb, k⟩) rfl rfl (m_four_new _ _ _ _ _ _) (fun x hx => by simp [insCells] at hx; rcases hx with rfl | rfl | rfl | rfl <;> rfl) (by omega) (by unfold maxLen; omega) (by omega) (by simp; omega) _ rfl ?_; intro g4 cap4 w4 hown' hgrow hat hlt'
                 have hbe4 := m_grown_below hbe3 hown3 hgrow (Nat.le_refl _)))
            refine ⟨⟨t + 1, hlt, by first | (rw [HTW.out]; exact next_t) | exact next_t, ?_, hbe4⟩, by first | (rw [HTW.out]; exact less_t HT1.out.2) | exact less_t HT1.out.2⟩
            rw [HTS.out, if_pos (by simp), HTU.out, List.length_append, codeCells_append]
            simpa [codeCells] using hown'
      · have hte : t = n := by omega
        subst hte
        have hfin : P.trimTo fl c t = P.trimList c fl := by rw [← HN.out]; exact P.trimTo_all HFL.out.len
        rw [hfin] at hown
        obtain ⟨a5, N5, cap5, rfl⟩ := m_owns_form hown
        have kr : wr.heap[w.heap.size + 1]? = some (.cells #[.slice none 0 0] 75 (0, 0)) := by rw [hbe.block _ (m_blk_lt HKR2.out)]; exact HKR2.out
        have r0 : wr.cell? ⟨w.heap.size + 1, 0, none⟩ = some (.slice none 0 0) := by rw [cell_of_row _ _ _ _ _ _ kr]; rfl
        have rf : wr.frozen? ⟨w.heap.size + 1, 0, none⟩ = false := by simp [World.frozen?, kr]
        go_wp2_with fail
        have kz : (wr.setCell ⟨w.heap.size + 1, 0, none⟩ (.slice a5 N5 cap5)).heap[w.heap.size + 1]? = some (.cells #[.slice a5 N5 cap5] 75 (0, 0)) := by simp [World.setCell, Array.getElem?_modify, kr]
        have z0 : (wr.setCell ⟨w.heap.size + 1, 0, none⟩ (.slice a5 N5 cap5)).cell? ⟨w.heap.size + 1, 0, none⟩ = some (.slice a5 N5 cap5) := by rw [cell_of_row _ _ _ _ _ _ kz]; rfl
        refine bodyPost_ret (v := .agg #[.slice a5 N5 cap5]) (by simp [results, Tryz.results51, go_sem, z0]) rfl ?_
        have hs1 := HBW2.out.size
        have hbf : Below w.heap.size w wr := HBW2.out.trans (hbe.mono hs1)
        refine ⟨⟨fl, _, HFL.out, rfl, ?_⟩, hbf.setCell (Nat.le_succ _) _⟩
        have hl2 := m_blk_lt HKR2.out
        exact owns_less (m_owns_of hown (fun g' hg' => set_other (by have := (hown.lt g' hg').1; omega))) hs1
  · obtain ⟨W, hW⟩ : ∃ W, (((((w.alloc (.cells #[.slice (some ⟨g, 0, none⟩) n cap] 75)).alloc (.cells #[.slice none 0 0] 75)).alloc (.cells #[.slice (some ⟨g, 0, none⟩) n cap, .slice (some ⟨w.heap.size + 1 + 1 + 1, 0, none⟩) n n, .slice none 0 0] 156)).alloc (.cells (madeCells #[.bool false] n) 4)).drew) = W := ⟨_, rfl⟩
    have HT := TA
    rw [hW] at HT ⊢
    obtain ⟨fb, hfb⟩ : ∃ x, w.heap.size + 1 + 1 + 1 = x := ⟨_, rfl⟩
    rw [hfb] at HT ⊢
    obtain ⟨b, hb⟩ : ∃ x, w.heap.size + 1 + 1 = x := ⟨_, rfl⟩
    rw [hb] at HT ⊢
    clear hW hfb hb TA TB hmk
    have c1 := HT.out.wt.c1
    go_wp2_with fail
    refine (walk_any c HC.out HK.out W b fb (w.heap.size + 4) (w.heap.size + 2) g n cap base HT.out.sd (Nat.lt_of_lt_of_le HGL.out (Nat.le_add_right _ _)) (by rw [HN.out]; exact owns_on HO.out HT.out.bel) (by rw [HN.out]; exact HT.out.wt)).mono ?_
    rintro e w1 ⟨rfl, ⟨fl, q, qv, hfl, hwt⟩, hb1⟩
    rw [HN.out] at hwt
    have d1 := hwt.c1
    have HNP : Hid (Calls Tryz.prog 95 #[.slice (some ⟨fb, 0, none⟩) n n] w1 fun e w' => (∃ v, e = .returned v ∧ w'.ownsRow w1.heap.size 3 1 v n ((P.nplaces fl n).map natV)) ∧ Below w1.heap.size w1 w') := by
      have := newPlaces_any fl fb w1 (by rw [hfl.len, HN.out]; exact h800) hwt.fl
      rw [hfl.len, HN.out] at this; exact this
    have kc1 : w1.heap[w.heap.size]? = some (.cells #[.slice (some ⟨g, 0, none⟩) n cap] 75 (0, 0)) := by rw [hb1.block _ (by omega)]; exact HT.out.code
    have kr1 : w1.heap[w.heap.size + 1]? = some (.cells #[.slice none 0 0] 75 (0, 0)) := by rw [hb1.block _ (by omega)]; exact HT.out.res
    have hbw1 : Below w.heap.size w w1 := HT.out.bel.trans (hb1.mono (by omega))
    have HFL := hid_m hfl
    have HWT := hid_m hwt
    have HKC := hid_m kc1
    have HKR := hid_m kr1
    have HBW := hid_m hbw1
    clear c1 hfl hwt kc1 kr1 hbw1 hb1
    go_wp2_with fail
    refine HNP.out.mono ?_
    rintro e w2 ⟨⟨v, rfl, hpl⟩, hb2⟩
    obtain ⟨gp, cp, hv, _, _⟩ := hpl.form (by omega)
    subst hv
    have wt2 := HWT.out.on hb2
    have kc2 : w2.heap[w.heap.size]? = some (.cells #[.slice (some ⟨g, 0, none⟩) n cap] 75 (0, 0)) := by rw [hb2.block _ (m_blk_lt HKC.out)]; exact HKC.out
    have kr2 : w2.heap[w.heap.size + 1]? = some (.cells #[.slice none 0 0] 75 (0, 0)) := by rw [hb2.block _ (m_blk_lt HKR.out)]; exact HKR.out
    have hbw2 : Below w.heap.size w w2 := HBW.out.trans (hb2.mono HBW.out.size)
    have cc : w2.cell? ⟨w.heap.size, 0, none⟩ = some (.slice (some ⟨g, 0, none⟩) n cap) := by rw [cell_of_row _ _ _ _ _ _ kc2]; rfl
    have HPL := hid_m hpl
    have HWT2 := hid_m wt2
    have HKR2 := hid_m kr2
    have HBW2 := hid_m hbw2
    clear hpl hb2 wt2 kc2 kr2 hbw2 d1 HNP HKC HKR HBW HWT
    go_wp2_with fail
    go_loopw [5, 22] (fun l j wr => ∃ (t : Nat), t ≤ n ∧ j = .int .i64 t ∧ wr.ownsRow w2.heap.size 112 4 l (P.trimTo fl c t).length (codeCells (P.trimTo fl c t)) ∧ Below w2.heap.size w2 wr) (fun _ j _ => n - (intOf j).toNat)
    case atStart => exact ⟨0, Nat.zero_le _, rfl, by rw [P.trimTo_zero]; exact World.ownsRow_nil _ _ _ _, Below.refl _ _⟩
    case round =>
      obtain ⟨t, ht, rfl, hown, hbe⟩ := hrel
      have hsz := hbe.size
      by_cases hlt : t < n
      · obtain ⟨x, hx⟩ : ∃ x, c[t]? = some x := ⟨_, List.getElem?_eq_getElem (by have := HN.out; omega)⟩
        obtain ⟨bt, hbt⟩ : ∃ bt, fl[t]? = some bt := ⟨_, List.getElem?_eq_getElem (by have := HFL.out.len; have := HN.out; omega)⟩
        have how : wr.ownsRow base 112 4 (.slice (some ⟨g, 0, none⟩) n cap) n (codeCells c) := owns_on (owns_on HO.out HBW2.out) hbe
        obtain ⟨d0, d1, d2, d3, hN1, hN2⟩ := ins_cell how HN.out.symm hx
        clear hN1 hN2
        have hok := HC.out.all t x hx
        have hkk := HK.out x (List.mem_of_getElem? hx)
        have hts := P.trimTo_succ HFL.out.len hx hbt
        have htl : (P.trimTo fl c t).length ≤ t := P.trimTo_le fl c t
        obtain ⟨tl, htl2⟩ : ∃ tl, P.trimTo fl c t = tl := ⟨_, rfl⟩
        rw [htl2] at hown htl hts
        clear htl2
        have wtr := HWT2.out.on hbe
        have q1 := wtr.c1
        have qf := wtr.fl.cell hbt
        have hwl := m_blk_lt wtr.blk
        have hfl' := wtr.fl.lt
        have HX := hid_m hx
        have HOK := hid_m hok
        have HKK := hid_m hkk
        have HTS := hid_m hts
        have j0 : (0 : Int) ≤ (t : Int) := Int.natCast_nonneg t
        have j1 : (t : Int) < (n : Int) := by omega
        have HT1 := hid_m (And.intro ht hlt)
        have HTW : Hid (wrap64 ((t : Int) + 1) = (t : Int) + 1) := w64_id _ (by omega) (by omega)
        have HWR := hid_m wtr
        have e1 : ∀ o, (wr.alloc o).cell? ⟨b, 1, none⟩ = some (.slice (some ⟨fb, 0, none⟩) n n) := fun o => by rw [cell_alloc_old hwl]; exact q1
        have e2 : ∀ o, (wr.alloc o).cell? ⟨fb, t, none⟩ = some (.bool bt) := fun o => by rw [cell_alloc_old hfl']; exact qf
        obtain ⟨op, xa, xb, k⟩ := x
        simp only at d0 d1 d2 d3
        clear hx hbt how hok hkk hts wtr q1 qf hwl hfl' ht
        cases bt with
        | false =>
          go_wp2_with fail
          refine ⟨⟨t + 1, hlt, by first | (rw [HTW.out]; exact next_t) | exact next_t, ?_, hbe.alloc hsz _⟩, by first | (rw [HTW.out]; exact less_t HT1.out.2) | exact less_t HT1.out.2⟩
          rw [HTS.out, if_neg (by simp), List.append_nil]
          exact hown.alloc _
        | true =>
          go_wp2_with fail
          refine (saysWhere_any op xa xb k _).mono ?_
          rintro e w3 ⟨rfl, hb3⟩
          have hbA : Below wr.heap.size wr (wr.alloc (.cells #[.int .i64 op, .int .i64 xa, .int .i64 xb, .int .i64 k] 112)) := (Below.refl _ _).alloc (Nat.le_refl _) _
          have hbr : Below wr.heap.size wr w3 := hbA.trans (hb3.mono hbA.size)
          have hn3 : w3.heap[wr.heap.size]? = some (.cells #[.int .i64 op, .int .i64 xa, .int .i64 xb, .int .i64 k] 112 (0, 0)) := by rw [hb3.block _ (by simp)]; exact heap_alloc_new _ _
          have hown3 := owns_on hown hbr
          have hbe3 : Below w2.heap.size w2 w3 := hbe.trans (hbr.mono hbe.size)
          have hsz3 := hbe3.size
          have hlt3 := m_blk_lt hn3
          have m0 : w3.cell? ⟨wr.heap.size, 0, none⟩ = some (.int .i64 op) := by rw [cell_of_row _ _ _ _ _ _ hn3]; rfl
          have m1 : w3.cell? ⟨wr.heap.size, 1, none⟩ = some (.int .i64 xa) := by rw [cell_of_row _ _ _ _ _ _ hn3]; rfl
          have m2 : w3.cell? ⟨wr.heap.size, 2, none⟩ = some (.int .i64 xb) := by rw [cell_of_row _ _ _ _ _ _ hn3]; rfl
          have m3 : w3.cell? ⟨wr.heap.size, 3, none⟩ = some (.int .i64 k) := by rw [cell_of_row _ _ _ _ _ _ hn3]; rfl
          have HN3 := hid_m hn3
          clear hbA hbr hb3 hn3 d0 d1 d2 d3 e1 e2
          by_cases h11 : 11 ≤ op
          · rw [decide_eq_true h11]
            have hkn : k < n := by have := HOK.out.2.2.2.1 h11; have h2 := HN.out; simp only at this; omega
            have pc : w3.cell? ⟨gp, k, none⟩ = some (.int .i64 (P.cnt fl k)) := row1_cell (owns_on HPL.out hbe3) (by simp [P.nplaces]) (by rw [List.getElem?_map, P.nplaces_get hkn]; rfl)
            obtain ⟨z, hz⟩ : ∃ z, P.cnt fl k = z := ⟨_, rfl⟩
            have HZ := hid_m hz
            rw [hz] at pc
            have HTU : Hid (P.turned fl ⟨op, xa, xb, k⟩ = ⟨op, xa, xb, z⟩) := by unfold Hid P.turned; rw [if_pos h11, hz]
            have k0 : (0 : Int) ≤ (k : Int) := Int.natCast_nonneg k
            have k1 : (k : Int) < (n : Int) := by omega
            have mf : w3.frozen? ⟨wr.heap.size, 3, none⟩ = false := by simp [World.frozen?, HN3.out]
            have hownS : (w3.setCell ⟨wr.heap.size, 3, none⟩ (.int .i64 z)).ownsRow w2.heap.size 112 4 u5 tl.length (codeCells tl) := m_owns_of hown3 (fun g' hg' => set_other (by have := (hown.lt g' hg').2; omega))
            have hbeS : Below w2.heap.size w2 (w3.setCell ⟨wr.heap.size, 3, none⟩ (.int .i64 z)) := hbe3.setCell hsz _
            have hnS : (w3.setCell ⟨wr.heap.size, 3, none⟩ (.int .i64 z)).heap[wr.heap.size]? = some (.cells #[.int .i64 op, .int .i64 xa, .int .i64 xb, .int .i64 z] 112 (0, 0)) := by simp [World.setCell, Array.getElem?_modify, HN3.out]
            have s0 : (w3.setCell ⟨wr.heap.size, 3, none⟩ (.int .i64 z)).cell? ⟨wr.heap.size, 0, none⟩ = some (.int .i64 op) := by rw [cell_of_row _ _ _ _ _ _ hnS]; rfl
            have s1 : (w3.setCell ⟨wr.heap.size, 3, none⟩ (.int .i64 z)).cell? ⟨wr.heap.size, 1, none⟩ = some (.int .i64 xa) := by rw [cell_of_row _ _ _ _ _ _ hnS]; rfl
            have s2 : (w3.setCell ⟨wr.heap.size, 3, none⟩ (.int .i64 z)).cell? ⟨wr.heap.size, 2, none⟩ = some (.int .i64 xb) := by rw [cell_of_row _ _ _ _ _ _ hnS]; rfl
            have s3 : (w3.setCell ⟨wr.heap.size, 3, none⟩ (.int .i64 z)).cell? ⟨wr.heap.size, 3, none⟩ = some (.int .i64 z) := by rw [cell_of_row _ _ _ _ _ _ hnS]; rfl
            clear hz h11 hkn hnS
            go_wp2_with (first
              | (at_builtin; refine wpList_append_lies _ rfl _ _ 73 rfl w2.heap.size 112 i0 (.agg #[.int .i64 0, .int .i64 0, .int .i64 0, .int .i64 0]) 4 32 Tryz.underlying73 hi0 hz0 hz1 hz2 rfl (by decide) u5 tl.length (codeCells tl) rfl (hownS.alloc _) ⟨w3.heap.size, 0, none⟩ 1 1 (insCells ⟨op, xa, xb, z⟩) rfl rfl (four_new' (by simp) _ _ _ _ _) (fun x hx => by simp [insCells] at hx; rcases hx with rfl | rfl | rfl | rfl <;> rfl) (by omega) (by unfold maxLen; omega) (by omega) (by simp; omega) _ rfl ?_; intro g4 cap4 w4 hown' hgrow hat hlt'
                 have hbe4 := m_grown_below hbeS hownS hgrow (Nat.le_refl _)))
            refine ⟨⟨t + 1, hlt, by first | (rw [HTW.out]; exact next_t) | exact next_t, ?_, hbe4⟩, by first | (rw [HTW.out]; exact less_t HT1.out.2) | exact less_t HT1.out.2⟩
            rw [HTS.out, if_pos (by simp), HTU.out, List.length_append, codeCells_append]
            simpa [codeCells] using hown'
          · rw [decide_eq_false h11]
            have HTU : Hid (P.turned fl ⟨op, xa, xb, k⟩ = ⟨op, xa, xb, k⟩) := P.turned_other h11
            clear h11
            go_wp2_with (first
              | (at_builtin; refine wpList_append_lies _ rfl _ _ 73 rfl w2.heap.size 112 i0 (.agg #[.int .i64 0, .int .i64 0, .int .i64 0, .int .i64 0]) 4 32 Tryz.underlying73 hi0 hz0 hz1 hz2 rfl (by decide) u5 tl.length (codeCells tl) rfl (hown3.alloc _) ⟨w3.heap.size, 0, none⟩ 1 1 (insCells ⟨op, xa, xb, k⟩) rfl rfl (m_four_new _ _ _ _ _ _) (fun x hx => by simp [insCells] at hx; rcases hx with rfl | rfl | rfl | rfl <;> rfl) (by omega) (by unfold maxLen; omega) (by omega) (by simp; omega) _ rfl ?_; intro g4 cap4 w4 hown' hgrow hat hlt'
                 have hbe4 := m_grown_below hbe3 hown3 hgrow (Nat.le_refl _)))
            refine ⟨⟨t + 1, hlt, by first | (rw [HTW.out]; exact next_t) | exact next_t, ?_, hbe4⟩, by first | (rw [HTW.out]; exact less_t HT1.out.2) | exact less_t HT1.out.2⟩
            rw [HTS.out, if_pos (by simp), HTU.out, List.length_append, codeCells_append]
            simpa [codeCells] using hown'
      · have hte : t = n := by omega
        subst hte
        have hfin : P.trimTo fl c t = P.trimList c fl := by rw [← HN.out]; exact P.trimTo_all HFL.out.len
        rw [hfin] at hown
        obtain ⟨a5, N5, cap5, rfl⟩ := m_owns_form hown
        have kr : wr.heap[w.heap.size + 1]? = some (.cells #[.slice none 0 0] 75 (0, 0)) := by rw [hbe.block _ (m_blk_lt HKR2.out)]; exact HKR2.out
        have r0 : wr.cell? ⟨w.heap.size + 1, 0, none⟩ = some (.slice none 0 0) := by rw [cell_of_row _ _ _ _ _ _ kr]; rfl
        have rf : wr.frozen? ⟨w.heap.size + 1, 0, none⟩ = false := by simp [World.frozen?, kr]
        go_wp2_with fail
        have kz : (wr.setCell ⟨w.heap.size + 1, 0, none⟩ (.slice a5 N5 cap5)).heap[w.heap.size + 1]? = some (.cells #[.slice a5 N5 cap5] 75 (0, 0)) := by simp [World.setCell, Array.getElem?_modify, kr]
        have z0 : (wr.setCell ⟨w.heap.size + 1, 0, none⟩ (.slice a5 N5 cap5)).cell? ⟨w.heap.size + 1, 0, none⟩ = some (.slice a5 N5 cap5) := by rw [cell_of_row _ _ _ _ _ _ kz]; rfl
        refine bodyPost_ret (v := .agg #[.slice a5 N5 cap5]) (by simp [results, Tryz.results51, go_sem, z0]) rfl ?_
        have hs1 := HBW2.out.size
        have hbf : Below w.heap.size w wr := HBW2.out.trans (hbe.mono hs1)
        refine ⟨⟨fl, _, HFL.out, rfl, ?_⟩, hbf.setCell (Nat.le_succ _) _⟩
        have hl2 := m_blk_lt HKR2.out
        exact owns_less (m_owns_of hown (fun g' hg' => set_other (by have := (hown.lt g' hg').1; omega))) hs1
end Go.Proofs.YtghggcehloiemabGreatDoor
