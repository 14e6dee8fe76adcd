import Derived.Test.YtghggcehloiemabMcTWAll
namespace Go.Proofs.Ytghggcehloiemab
open Go.RowKit
set_option linter.unusedVariables false
set_option maxRecDepth 16000

theorem ins_keep {w w3 : World} {base ib n : Nat} {v : Value} {xs : List Value} {X : Array Value} {o : Obj} (hown : w.ownsRow base 5 1 v n xs) (hg : (w.alloc o).grownBy w3 v.ownBlock) (hi : w.heap[ib]? = some (.cells X 121 (0, 0))) : w3.heap[ib]? = some (.cells X 121 (0, 0)) := by
  have hl := m_blk_lt hi
  rw [hg.block ib (by simp; omega) (fun e => ?_), Below.heap_alloc _ _ _ hl]
  · exact hi
  · rcases hown.2 with ⟨hv, _⟩ | ⟨g, cap, cur, hv, hb, hgg, _⟩
    · subst hv; cases e
    · subst hv
      cases e
      rw [hgg] at hi
      injection hi with hi
      injection hi with _ h2 _
      cases h2
theorem grow_keeps {w wr w3 : World} {base n : Nat} {v : Value} {xs : List Value} {e : TypeId} {o : Obj} (hb : Below base w wr) (hB : base ≤ wr.heap.size) (hown : wr.ownsRow base e 1 v n xs) (hg : (wr.alloc o).grownBy w3 v.ownBlock) : Below base w w3 :=
  Below.grown (hb.alloc hB o) hg (by simp; omega) (fun j hj => (hown.lt _ hj).1)
theorem m_and_255 (z : Int) : bits .and .i64 z 255 = z % 256 := by
  have h2 : (BitVec.ofInt 64 (255 : Int)).toNat = 255 := by decide
  show IntKind.i64.wrap ((BitVec.ofInt 64 z &&& BitVec.ofInt 64 255).toNat : Int) = _
  rw [BitVec.toNat_and, h2, show (255 : Nat) = 2 ^ 8 - 1 from rfl, Nat.and_two_pow_sub_one_eq_mod, BitVec.toNat_ofInt]
  simp only [IntKind.wrap, IntKind.signed, IntKind.bits]
  simp
  omega
theorem low8 (n : Nat) : bits .and .i64 (n : Int) 255 % 256 = ((UInt8.ofNat n).toNat : Int) := by
  rw [m_and_255]; simp only [UInt8.toNat_ofNat']; omega
theorem high8 (n : Nat) : bits .and .i64 ((n : Int) / 256) 255 % 256 = ((UInt8.ofNat (n / 256)).toNat : Int) := by
  rw [m_and_255]; simp only [UInt8.toNat_ofNat']; omega
def byteV (b : UInt8) : Value := .int .u8 b.toNat
set_option maxHeartbeats 4000000 in
theorem textOf_any (c : List P.I) (g N cap base : Nat) (w : World) (hn : c.length ≤ 800) (hpos : 1 ≤ c.length) (hs : ∀ x ∈ c, P.Small x)
    (hown : w.ownsRow base 121 4 (.slice (some ⟨g, 0, none⟩) N cap) c.length (codeCells c)) :
    Calls Try.prog 77 #[.slice (some ⟨g, 0, none⟩) N cap] w fun e w' => e = .returned (.string ⟨(P.text c).toArray⟩) ∧ Below w.heap.size w w' := by
  obtain ⟨i0, hi0, hz0, hz1, hz2⟩ := info_parts Try.infoMU8
  go_enter Try.func77, Try.ntmps77
  have hl5 := fun t => P.text_length (c.take t)
  have HN : Hid (N = c.length) := by
    rcases hown.2 with ⟨h, _⟩ | ⟨g', cap', cur, hv, _⟩
    · cases h
    · cases hv; rfl
  have HO := hid_m hown
  have HS := hid_m hs
  have hgl : g < w.heap.size := (hown.lt g rfl).2
  have HG := hid_m hgl
  clear hown hs hgl
  go_wp2_with fail
  go_loopw [3, 8] (fun v i wr => ∃ (t : Nat), t ≤ c.length ∧ i = .int .i64 t ∧ wr.ownsRow w.heap.size 5 1 v (5 * t) ((P.text (c.take t)).map byteV) ∧ Below w.heap.size w wr) (fun _ i _ => c.length - (intOf i).toNat)
  case atStart => exact ⟨0, Nat.zero_le _, rfl, World.ownsRow_nil _ _ _ _, Below.refl _ _⟩
  case round =>
    obtain ⟨t, ht, rfl, hown, hbe⟩ := hrel
    have hsz := hbe.size
    by_cases hlt : t < c.length
    · obtain ⟨x, hx⟩ : ∃ x, c[t]? = some x := ⟨_, List.getElem?_eq_getElem hlt⟩
      have how : wr.ownsRow base 121 4 (.slice (some ⟨g, 0, none⟩) N cap) c.length (codeCells c) := m_owns_of HO.out (fun g' hg' => hbe.block g' (by cases hg'; exact HG.out))
      obtain ⟨d0, d1, d2, d3, hN1, hN2⟩ := ins_cell how rfl hx
      have hsm := HS.out x (List.mem_of_getElem? hx)
      have HX := hid_m hx
      have HSM := hid_m hsm
      obtain ⟨op, xa, xb, k⟩ := x
      simp only at d0 d1 d2 d3
      have j0 : (0 : Int) ≤ (t : Int) := Int.natCast_nonneg t
      have j1 : (t : Int) < (N : Int) := by omega
      clear hx how hsm hN1 hN2
      obtain ⟨b0, hb0⟩ : ∃ b, UInt8.ofNat op = b := ⟨_, rfl⟩
      obtain ⟨b1, hb1⟩ : ∃ b, UInt8.ofNat xa = b := ⟨_, rfl⟩
      obtain ⟨b2, hb2⟩ : ∃ b, UInt8.ofNat xb = b := ⟨_, rfl⟩
      obtain ⟨b3, hb3⟩ : ∃ b, UInt8.ofNat k = b := ⟨_, rfl⟩
      obtain ⟨b4, hb4⟩ : ∃ b, UInt8.ofNat (k / 256) = b := ⟨_, rfl⟩
      have v0 := low8 op
      have v1 := low8 xa
      have v2 := low8 xb
      have v3 := low8 k
      have v4 := high8 k
      rw [hb0] at v0
      rw [hb1] at v1
      rw [hb2] at v2
      rw [hb3] at v3
      rw [hb4] at v4
      have HBT : Hid (P.bytesI ⟨op, xa, xb, k⟩ = [b0, b1, b2, b3, b4]) := by unfold Hid; rw [← hb0, ← hb1, ← hb2, ← hb3, ← hb4]; rfl
      have hownA : (wr.alloc (.cells #[.int .i64 op, .int .i64 xa, .int .i64 xb, .int .i64 k] 121)).ownsRow w.heap.size 5 1 u3 (5 * t) ((P.text (c.take t)).map byteV) := hown.alloc _
      have hinA : (wr.alloc (.cells #[.int .i64 op, .int .i64 xa, .int .i64 xb, .int .i64 k] 121)).heap[wr.heap.size]? = some (.cells #[.int .i64 op, .int .i64 xa, .int .i64 xb, .int .i64 k] 121 (0, 0)) := heap_alloc_new _ _
      have hbeA : Below w.heap.size w (wr.alloc (.cells #[.int .i64 op, .int .i64 xa, .int .i64 xb, .int .i64 k] 121)) := hbe.alloc hsz _
      have hszA := hbeA.size
      have HT := hid_m (And.intro ht hlt)
      have HTW : Hid (wrap64 ((t : Int) + 1) = (t : Int) + 1) := w64_id _ (by omega) (by omega)
      clear hb0 hb1 hb2 hb3 hb4 hl5
      go_wp2_with (first
        | (at_builtin; refine wpList_append_lies _ rfl _ _ 45 rfl w.heap.size 5 i0 (.int .u8 0) 1 1 Try.underlying45 hi0 hz0 hz1 hz2 rfl (by decide) u3 (5 * t) ((P.text (c.take t)).map byteV) rfl (hownA.alloc _) ⟨wr.heap.size + 1, 0, none⟩ 1 1 [byteV b0] rfl rfl (one_new' (by simp) _ _) (fun x hx => by simp at hx; subst hx; rfl) (by omega) (by unfold maxLen; omega) (by omega) (by simp; omega) _ rfl ?_; intro g1 cap1 w1 hown1 hgrow1 hat1 hlt1
           have hin1 := ins_keep hownA hgrow1 hinA
           have hbe1 := grow_keeps hbeA hszA hownA hgrow1
           have hsz1 := hbe1.size
           have n10 : w1.cell? ⟨wr.heap.size, 0, none⟩ = some (.int .i64 op) := by rw [cell_of_row _ _ _ _ _ _ hin1]; rfl
           have n11 : w1.cell? ⟨wr.heap.size, 1, none⟩ = some (.int .i64 xa) := by rw [cell_of_row _ _ _ _ _ _ hin1]; rfl
           have n12 : w1.cell? ⟨wr.heap.size, 2, none⟩ = some (.int .i64 xb) := by rw [cell_of_row _ _ _ _ _ _ hin1]; rfl
           have n13 : w1.cell? ⟨wr.heap.size, 3, none⟩ = some (.int .i64 k) := by rw [cell_of_row _ _ _ _ _ _ hin1]; rfl)
        | (at_builtin; refine wpList_append_lies _ rfl _ _ 45 rfl w.heap.size 5 i0 (.int .u8 0) 1 1 Try.underlying45 hi0 hz0 hz1 hz2 rfl (by decide) (.slice (some ⟨g1, 0, none⟩) (5 * t + 1) cap1) (5 * t + 1) ((P.text (c.take t)).map byteV ++ [byteV b0]) rfl (hown1.alloc _) ⟨w1.heap.size, 0, none⟩ 1 1 [byteV b1] rfl rfl (one_new _ _ _) (fun x hx => by simp at hx; subst hx; rfl) (by omega) (by unfold maxLen; omega) (by omega) (by simp; omega) _ rfl ?_; intro g2 cap2 w2 hown2 hgrow2 hat2 hlt2
           have hin2 := ins_keep hown1 hgrow2 hin1
           have hbe2 := grow_keeps hbe1 hsz1 hown1 hgrow2
           have hsz2 := hbe2.size
           have n20 : w2.cell? ⟨wr.heap.size, 0, none⟩ = some (.int .i64 op) := by rw [cell_of_row _ _ _ _ _ _ hin2]; rfl
           have n21 : w2.cell? ⟨wr.heap.size, 1, none⟩ = some (.int .i64 xa) := by rw [cell_of_row _ _ _ _ _ _ hin2]; rfl
           have n22 : w2.cell? ⟨wr.heap.size, 2, none⟩ = some (.int .i64 xb) := by rw [cell_of_row _ _ _ _ _ _ hin2]; rfl
           have n23 : w2.cell? ⟨wr.heap.size, 3, none⟩ = some (.int .i64 k) := by rw [cell_of_row _ _ _ _ _ _ hin2]; rfl)
        | (at_builtin; refine wpList_append_lies _ rfl _ _ 45 rfl w.heap.size 5 i0 (.int .u8 0) 1 1 Try.underlying45 hi0 hz0 hz1 hz2 rfl (by decide) (.slice (some ⟨g2, 0, none⟩) (5 * t + 1 + 1) cap2) (5 * t + 1 + 1) (((P.text (c.take t)).map byteV ++ [byteV b0]) ++ [byteV b1]) rfl (hown2.alloc _) ⟨w2.heap.size, 0, none⟩ 1 1 [byteV b2] rfl rfl (one_new _ _ _) (fun x hx => by simp at hx; subst hx; rfl) (by omega) (by unfold maxLen; omega) (by omega) (by simp; omega) _ rfl ?_; intro g3 cap3 w3 hown3 hgrow3 hat3 hlt3
           have hin3 := ins_keep hown2 hgrow3 hin2
           have hbe3 := grow_keeps hbe2 hsz2 hown2 hgrow3
           have hsz3 := hbe3.size
           have n30 : w3.cell? ⟨wr.heap.size, 0, none⟩ = some (.int .i64 op) := by rw [cell_of_row _ _ _ _ _ _ hin3]; rfl
           have n31 : w3.cell? ⟨wr.heap.size, 1, none⟩ = some (.int .i64 xa) := by rw [cell_of_row _ _ _ _ _ _ hin3]; rfl
           have n32 : w3.cell? ⟨wr.heap.size, 2, none⟩ = some (.int .i64 xb) := by rw [cell_of_row _ _ _ _ _ _ hin3]; rfl
           have n33 : w3.cell? ⟨wr.heap.size, 3, none⟩ = some (.int .i64 k) := by rw [cell_of_row _ _ _ _ _ _ hin3]; rfl)
        | (at_builtin; refine wpList_append_lies _ rfl _ _ 45 rfl w.heap.size 5 i0 (.int .u8 0) 1 1 Try.underlying45 hi0 hz0 hz1 hz2 rfl (by decide) (.slice (some ⟨g3, 0, none⟩) (5 * t + 1 + 1 + 1) cap3) (5 * t + 1 + 1 + 1) ((((P.text (c.take t)).map byteV ++ [byteV b0]) ++ [byteV b1]) ++ [byteV b2]) rfl (hown3.alloc _) ⟨w3.heap.size, 0, none⟩ 1 1 [byteV b3] rfl rfl (one_new _ _ _) (fun x hx => by simp at hx; subst hx; rfl) (by omega) (by unfold maxLen; omega) (by omega) (by simp; omega) _ rfl ?_; intro g4 cap4 w4 hown4 hgrow4 hat4 hlt4
           have hin4 := ins_keep hown3 hgrow4 hin3
           have hbe4 := grow_keeps hbe3 hsz3 hown3 hgrow4
           have hsz4 := hbe4.size
           have n40 : w4.cell? ⟨wr.heap.size, 0, none⟩ = some (.int .i64 op) := by rw [cell_of_row _ _ _ _ _ _ hin4]; rfl
           have n41 : w4.cell? ⟨wr.heap.size, 1, none⟩ = some (.int .i64 xa) := by rw [cell_of_row _ _ _ _ _ _ hin4]; rfl
           have n42 : w4.cell? ⟨wr.heap.size, 2, none⟩ = some (.int .i64 xb) := by rw [cell_of_row _ _ _ _ _ _ hin4]; rfl
           have n43 : w4.cell? ⟨wr.heap.size, 3, none⟩ = some (.int .i64 k) := by rw [cell_of_row _ _ _ _ _ _ hin4]; rfl)
        | (at_builtin; refine wpList_append_lies _ rfl _ _ 45 rfl w.heap.size 5 i0 (.int .u8 0) 1 1 Try.underlying45 hi0 hz0 hz1 hz2 rfl (by decide) (.slice (some ⟨g4, 0, none⟩) (5 * t + 1 + 1 + 1 + 1) cap4) (5 * t + 1 + 1 + 1 + 1) (((((P.text (c.take t)).map byteV ++ [byteV b0]) ++ [byteV b1]) ++ [byteV b2]) ++ [byteV b3]) rfl (hown4.alloc _) ⟨w4.heap.size, 0, none⟩ 1 1 [byteV b4] rfl rfl (one_new _ _ _) (fun x hx => by simp at hx; subst hx; rfl) (by omega) (by unfold maxLen; omega) (by omega) (by simp; omega) _ rfl ?_; intro g5 cap5 w5 hown5 hgrow5 hat5 hlt5
           have hin5 := ins_keep hown4 hgrow5 hin4
           have hbe5 := grow_keeps hbe4 hsz4 hown4 hgrow5
           have hsz5 := hbe5.size
           have n50 : w5.cell? ⟨wr.heap.size, 0, none⟩ = some (.int .i64 op) := by rw [cell_of_row _ _ _ _ _ _ hin5]; rfl
           have n51 : w5.cell? ⟨wr.heap.size, 1, none⟩ = some (.int .i64 xa) := by rw [cell_of_row _ _ _ _ _ _ hin5]; rfl
           have n52 : w5.cell? ⟨wr.heap.size, 2, none⟩ = some (.int .i64 xb) := by rw [cell_of_row _ _ _ _ _ _ hin5]; rfl
           have n53 : w5.cell? ⟨wr.heap.size, 3, none⟩ = some (.int .i64 k) := by rw [cell_of_row _ _ _ _ _ _ hin5]; rfl))
      refine ⟨⟨t + 1, hlt, by first | (rw [HTW.out]; exact next_t) | exact next_t, ?_, hbe5⟩, by first | (rw [HTW.out]; exact less_t HT.out.2) | exact less_t HT.out.2⟩
      have e1 : P.text (c.take (t + 1)) = P.text (c.take t) ++ [b0, b1, b2, b3, b4] := by
        rw [List.take_add_one, HX.out]
        show P.text (c.take t ++ [_]) = _
        rw [P.text_append, P.text_cons, HBT.out]
        simp [P.text]
      rw [e1, List.map_append]
      have e2 : 5 * (t + 1) = 5 * t + 1 + 1 + 1 + 1 + 1 := by omega
      rw [e2]
      simpa using hown5
    · have hte : t = c.length := by omega
      subst hte
      rw [List.take_length] at hown
      obtain ⟨gg, cp, hv, _, _⟩ := hown.form (by omega)
      subst hv
      have hcv : (convert 45 9 (.slice (some ⟨gg, 0, none⟩) (5 * c.length) cp)).run Try.prog wr = .ok (.string ⟨(P.text c).toArray⟩) wr := by
        rw [← P.text_length]
        refine run_convert_bytes_back (P := Try.prog) wr 45 9 5 ⟨gg, 0, none⟩ cp (P.text c) Try.underlying45 Try.underlying5 Try.underlying9 ?_
        intro j hj
        rw [show (⟨gg, 0, none⟩ : Addr).add j = ⟨gg, j, none⟩ from by simp [Addr.add]; intro e; rw [e]]
        refine row1_cell hown (by rw [List.length_map, P.text_length]) ?_
        rw [List.getElem?_map, List.getElem?_eq_getElem hj]; rfl
      have hnl : ¬ ((c.length : Int) < (N : Int)) := by have := HN.out; omega
      clear hown hl5
      go_wp2_with fail
      go_ret
      exact ⟨rfl, hbe⟩

theorem four_new' {w : World} {n : Nat} (h : w.heap.size = n) (a b c d : Value) (t : TypeId) : ∀ j u, [a, b, c, d][j]? = some u → (w.alloc (.cells #[a, b, c, d] t)).cell? ((⟨n, 0, none⟩ : Addr).add j) = some u := by rw [← h]; exact m_four_new w a b c d t
end Go.Proofs.Ytghggcehloiemab
