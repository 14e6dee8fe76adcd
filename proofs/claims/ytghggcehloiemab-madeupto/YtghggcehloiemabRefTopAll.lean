import Derived.Test.YtghggcehloiemabRefStruct
import Derived.Test.YtghggcehloiemabLiePAll
import Derived.Test.YtghggcehloiemabEncWAll
namespace Go.Proofs.Ytghggcehloiemab
open Go.RowKit
set_option linter.unusedVariables false
set_option maxRecDepth 16000

namespace P
/-- The type that a text is, by the reference. -/
def rtyOf (l : List UInt8) : Option (Ty 4) := if 80 < l.length then none else rp 4 l
end P

set_option maxHeartbeats 1000000 in
theorem rParse_any (s : ByteArray) (w : World) (hs : s.size ≤ maxLen) :
    Calls Try.prog 9 #[.string s] w fun e w' => RpPost 4 (P.rtyOf s.data.toList) w e w' := by
  unfold maxLen at hs
  have hl := tl_len s
  by_cases hlong : 80 < s.size
  · have HT : Hid (P.rtyOf s.data.toList = none) := by unfold Hid P.rtyOf; rw [if_pos (by omega)]
    go_enter Try.func9, Try.ntmps9
    go_wp2_with fail
    refine bodyPost_ret (v := .tuple #[zeroTyp, .bool false]) (by simp [results, Try.results9, go_sem, zeroTyp]) rfl ?_
    exact RpPost.no HT.out rfl isTyp_zero ((Below.refl _ _).alloc (Nat.le_refl _) _)
  · have HT : Hid (P.rtyOf s.data.toList = P.rp 4 s.data.toList) := by unfold Hid P.rtyOf; rw [if_neg (by omega)]
    go_enter Try.func9, Try.ntmps9
    go_wp2_with fail
    refine (rparse_all 4 0 s _ rfl (by omega)).mono ?_
    rintro e w2 ⟨hpost, hbe⟩
    have hres : w2.heap[w.heap.size]? = some (.cells #[.int .u8 0, .int .i64 0, .int .i64 0, .slice none 0 0, .slice none 0 0] 33 (0, 0)) := by
      rw [hbe.block _ (by simp)]; exact heap_alloc_new _ _
    obtain ⟨c0, c1, c2, c3, c4⟩ := cells5a hres
    have cf := froz5a hres
    have hsz := hbe.size
    simp at hsz
    have hbw : Below w.heap.size w w2 := ((Below.refl _ _).alloc (Nat.le_refl _) _).trans (hbe.mono (by simp))
    clear hres
    cases hr : P.rp 4 s.data.toList with
    | none =>
      rw [hr] at hpost
      obtain ⟨v, rfl, a1, a2, a3, x', n1, k1, y, m1, j1, rfl⟩ := hpost
      have HR : Hid (P.rp 4 s.data.toList = none) := hr
      clear hr
      go_wp2_with fail
      refine bodyPost_ret (v := .tuple #[.agg #[.int .u8 a1, .int .i64 a2, .int .i64 a3, .slice x' n1 k1, .slice y m1 j1], .bool false]) (by simp [results, Try.results9, go_sem, c0, c1, c2, c3, c4]) rfl ?_
      exact RpPost.no (by rw [HT.out, HR.out]) rfl ⟨_, _, _, _, _, _, _, _, _, rfl⟩ (Below.setCell (Below.setCell (Below.setCell (Below.setCell (Below.setCell (hbw.alloc (by omega) _) (Nat.le_refl _) _) (Nat.le_refl _) _) (Nat.le_refl _) _) (Nat.le_refl _) _) (Nat.le_refl _) _)
    | some t =>
      rw [hr] at hpost
      obtain ⟨v, S, rfl, hT, hS⟩ := hpost
      obtain ⟨a1, x', n1, k1, y, m1, j1, rfl⟩ := hT.is
      obtain ⟨fs, hfs⟩ : ∃ fs, (P.sz 4 t).1 = fs := ⟨_, rfl⟩
      obtain ⟨fp, hfp⟩ : ∃ fp, (P.sz 4 t).2 = fp := ⟨_, rfl⟩
      rw [hfs, hfp] at hT ⊢
      have HR : Hid (P.rp 4 s.data.toList = some t) := hr
      clear hr hfs hfp
      go_wp2_with fail
      have hh5 := set5_heap (w2.alloc (.cells #[.int .u8 a1, .int .i64 fs, .int .i64 fp, .slice x' n1 k1, .slice y m1 j1] 33)) w.heap.size (.int .u8 a1) (.int .i64 fs) (.int .i64 fp) (.slice x' n1 k1) (.slice y m1 j1)
      refine bodyPost_ret (v := .tuple #[.agg #[.int .u8 a1, .int .i64 fs, .int .i64 fp, .slice x' n1 k1, .slice y m1 j1], .bool true]) (by simp [results, Try.results9, go_sem, c0, c1, c2, c3, c4]) rfl ?_
      refine RpPost.yes (S := S) (t := t) (by rw [HT.out, HR.out]) rfl (hT.of (fun g hg => ?_) (fun g hg => hg)) (fun g hg => ?_) (Below.setCell (Below.setCell (Below.setCell (Below.setCell (Below.setCell (hbw.alloc (by omega) _) (Nat.le_refl _) _) (Nat.le_refl _) _) (Nat.le_refl _) _) (Nat.le_refl _) _) (Nat.le_refl _) _)
      · have hg' := hS g hg
        simp at hg'
        rw [hh5.1 g (by omega), Below.heap_alloc _ _ _ hg'.2]
      · have hg' := hS g hg
        simp at hg'
        rw [hh5.2]; simp; omega

end Go.Proofs.Ytghggcehloiemab
namespace Go.Proofs.Ytghggcehloiemab
open Go.RowKit
set_option linter.unusedVariables false
set_option maxRecDepth 16000

namespace P
def filled (f : UInt8) (L : List (Option UInt8)) : List UInt8 := L.map fun x => x.getD f
def rencOf (lt lv : List UInt8) (fill : Int) : List UInt8 × Nat := match rtyOf lt with
  | none => ([], 1)
  | some t => match lieP 4 t lv with
    | none => ([], 2)
    | some L => if fill < 0 ∨ 255 < fill then ([], 6) else (filled (fillB fill) L, 0)
end P

set_option maxHeartbeats 1000000 in
theorem isValue_any {n : Nat} (t : P.Ty n) (v : Value) (S : Nat → Prop) (s : ByteArray) (w : World) (hsm : P.Sm n t) (hT : TypAt w n t v S) (hS : ∀ g, S g → g < w.heap.size) (hs : s.size ≤ 1099511627776) :
    Calls Try.prog 10 #[v, .string s] w fun e w' => e = .returned (.bool (P.lieP n t s.data.toList).isSome) ∧ Below w.heap.size w w' := by
  obtain ⟨a0, x', n1, k1, y, m1, j1, rfl⟩ := hT.is
  obtain ⟨f1, hf1⟩ : ∃ f1, (P.sz n t).1 = f1 := ⟨_, rfl⟩
  obtain ⟨f2, hf2⟩ : ∃ f2, (P.sz n t).2 = f2 := ⟨_, rfl⟩
  rw [hf1, hf2] at hT ⊢
  have hT2 : TypAt (w.alloc (.cells #[.int .u8 a0, .int .i64 f1, .int .i64 f2, .slice x' n1 k1, .slice y m1 j1] 33)) n t (.agg #[.int .u8 a0, .int .i64 f1, .int .i64 f2, .slice x' n1 k1, .slice y m1 j1]) S := hT.of (fun g hg => Below.heap_alloc _ _ _ (hS g hg)) (fun g hg => hg)
  have hS2 : ∀ g, S g → g < (w.alloc (.cells #[.int .u8 a0, .int .i64 f1, .int .i64 f2, .slice x' n1 k1, .slice y m1 j1] 33)).heap.size := fun g hg => by have := hS g hg; simp; omega
  have HC : Hid (Calls Try.prog 24 #[.agg #[.int .u8 a0, .int .i64 f1, .int .i64 f2, .slice x' n1 k1, .slice y m1 j1], .string s] (w.alloc (.cells #[.int .u8 a0, .int .i64 f1, .int .i64 f2, .slice x' n1 k1, .slice y m1 j1] 33)) fun e w' => LiePost (P.lieP n t s.data.toList) (w.alloc (.cells #[.int .u8 a0, .int .i64 f1, .int .i64 f2, .slice x' n1 k1, .slice y m1 j1] 33)) e w') := lie_all n t _ S s _ hsm hT2 hS2 hs
  clear hT hT2 hS hS2 hf1 hf2
  go_enter Try.func10, Try.ntmps10
  go_wp2_with fail
  refine Calls.mono HC.out ?_
  intro e w2 hp
  obtain ⟨af, Nf, cf, zf, rfl, hcase⟩ := lie_shape hp
  have hbe : Below w.heap.size w w2 := ((Below.refl _ _).alloc (Nat.le_refl _) _).trans (hp.2.mono (by simp))
  have hz : zf = (P.lieP n t s.data.toList).isSome := by
    rcases hcase with ⟨rfl, y, hy, _⟩ | ⟨rfl, hy⟩
    · rw [hy]; rfl
    · rw [hy]; rfl
  have HZ : Hid (zf = (P.lieP n t s.data.toList).isSome) := hz
  clear hcase hz hp
  go_wp2_with fail
  go_ret
  exact ⟨by rw [← HZ.out]; rfl, hbe⟩

theorem u8_row_cell {w : World} {base g N cap k : Nat} {bs : List UInt8} (h : w.ownsRow base 5 1 (.slice (some ⟨g, 0, none⟩) N cap) bs.length (bs.map u8v)) (hk : k < bs.length) : w.cell? ⟨g, k, none⟩ = some (u8v bs[k]) := by
  obtain ⟨h1, h2⟩ := h
  rcases h2 with ⟨h2, _⟩ | ⟨g', cap', cur, hv, hb, hg, hn, hm, hsz, htk⟩
  · cases h2
  · cases hv
    rw [cell_of_row w g _ _ _ _ hg]
    have hget : (bs.map u8v)[k]? = some (u8v bs[k]) := by simp [List.getElem?_eq_getElem hk]
    rw [← htk, List.getElem?_take_of_lt (by omega)] at hget
    simpa using hget

set_option maxHeartbeats 2000000 in
theorem bytes_any {n : Nat} (t : P.Ty n) (v : Value) (S : Nat → Prop) (s : ByteArray) (fill : Int) (L : List (Option UInt8)) (w : World) (hsm : P.Sm n t) (hT : TypAt w n t v S) (hS : ∀ g, S g → g < w.heap.size) (hs : s.size ≤ 1099511627776) (hf0 : 0 ≤ fill) (hf1 : fill ≤ 255) (hL : P.lieP n t s.data.toList = some L) :
    Calls Try.prog 12 #[v, .string s, .int .i64 fill] w fun e w' => e = .returned (.string ⟨(P.filled (P.fillB fill) L).toArray⟩) ∧ Below w.heap.size w w' := by
  obtain ⟨i0, hi0, hz0, hz1, hz2⟩ := info_parts Try.infoU8
  have hlen := P.lie_len n t _ L hsm hL
  have hsz := P.sm_size n t hsm
  rw [← hlen] at hsz
  obtain ⟨a0, x', n1, k1, y, m1, j1, rfl⟩ := hT.is
  obtain ⟨f1, hf1'⟩ : ∃ f1, (P.sz n t).1 = f1 := ⟨_, rfl⟩
  obtain ⟨f2, hf2'⟩ : ∃ f2, (P.sz n t).2 = f2 := ⟨_, rfl⟩
  rw [hf1', hf2'] at hT ⊢
  have hT2 : TypAt (w.alloc (.cells #[.int .u8 a0, .int .i64 f1, .int .i64 f2, .slice x' n1 k1, .slice y m1 j1] 33)) n t (.agg #[.int .u8 a0, .int .i64 f1, .int .i64 f2, .slice x' n1 k1, .slice y m1 j1]) S := hT.of (fun g hg => Below.heap_alloc _ _ _ (hS g hg)) (fun g hg => hg)
  have hS2 : ∀ g, S g → g < (w.alloc (.cells #[.int .u8 a0, .int .i64 f1, .int .i64 f2, .slice x' n1 k1, .slice y m1 j1] 33)).heap.size := fun g hg => by have := hS g hg; simp; omega
  have hC := lie_all n t _ S s _ hsm hT2 hS2 hs
  rw [hL] at hC
  have HC : Hid (Calls Try.prog 24 #[.agg #[.int .u8 a0, .int .i64 f1, .int .i64 f2, .slice x' n1 k1, .slice y m1 j1], .string s] (w.alloc (.cells #[.int .u8 a0, .int .i64 f1, .int .i64 f2, .slice x' n1 k1, .slice y m1 j1] 33)) fun e w' => LiePost (some L) (w.alloc (.cells #[.int .u8 a0, .int .i64 f1, .int .i64 f2, .slice x' n1 k1, .slice y m1 j1] 33)) e w') := hC
  have hfb : ((P.fillB fill).toNat : Int) = fill := by unfold P.fillB; simp; omega
  have HFB : Hid (((P.fillB fill).toNat : Int) = fill) := hfb
  clear hT hT2 hS hS2 hf1' hf2' hC hlen hfb hL
  go_enter Try.func12, Try.ntmps12
  go_wp2_with fail
  refine Calls.mono HC.out ?_
  rintro e w2 ⟨⟨vL, rfl, hownL⟩, hbe0⟩
  have hbe : Below w.heap.size w w2 := ((Below.refl _ _).alloc (Nat.le_refl _) _).trans (hbe0.mono (by simp))
  have hs0 := hbe.size
  obtain ⟨gL, capL, hvL, _, hgL⟩ := hownL.form (by omega)
  obtain ⟨N, hN⟩ : ∃ N, N = L.length := ⟨_, rfl⟩
  rw [← hN] at hvL
  subst hvL
  have HNL : Hid (N = L.length) := hN
  have hN32 : N ≤ 32 := by omega
  have hN1 : 1 ≤ N := by omega
  clear hN hbe0 HC hsz
  go_wp2_with fail
  go_loopw [9, 10] (fun b i wr => ∃ k : Nat, k ≤ N ∧ i = .int .i64 k ∧ wr.ownsRow w2.heap.size 5 1 b k ((P.filled (P.fillB fill) (L.take k)).map u8v) ∧ Below w2.heap.size w2 wr) (fun _ i _ => N - (intOf i).toNat)
  case atStart => exact ⟨0, by omega, rfl, World.ownsRow_nil _ _ _ _, Below.refl _ _⟩
  case round =>
    obtain ⟨k, hk, rfl, hown, hb2⟩ := hrel
    have hb2s := hb2.size
    have hbw : Below w.heap.size w wr := hbe.trans (hb2.mono hs0)
    by_cases hlt : k < N
    · obtain ⟨x, hx⟩ : ∃ x, L[k]? = some x := ⟨_, List.getElem?_eq_getElem (by have := HNL.out; omega)⟩
      have hcl := (int_cell (i := k) (x := i64v (gapI x)) (xs := L.map fun x => i64v (gapI x)) (by rw [List.length_map]; exact hownL) (by rw [List.getElem?_map, hx]; rfl))
      have p0 := hcl.1
      have hcc := hcl.2
      rw [← hb2.cell (p := ⟨gL, k, none⟩) hgL] at p0
      have HTK : Hid ((P.filled (P.fillB fill) (L.take (k + 1))).map u8v = (P.filled (P.fillB fill) (L.take k)).map u8v ++ [u8v (x.getD (P.fillB fill))]) := by
        unfold Hid P.filled; rw [List.take_add_one, hx]; simp
      unfold i64v at p0
      have hkN : (k : Int) < (N : Int) := by omega
      have h0k : (0 : Int) ≤ (k : Int) := by omega
      clear hcl hx
      cases x with
      | none =>
        simp only [gapI] at p0
        go_wp2_with (first
          | (at_builtin; refine wpList_append_lies _ rfl _ _ 45 rfl w2.heap.size 5 i0 (.int .u8 0) 1 1 Try.underlying45 hi0 hz0 hz1 hz2 rfl (by decide) u9 k ((P.filled (P.fillB fill) (L.take k)).map u8v) rfl (hown.alloc _) ⟨wr.heap.size, 0, none⟩ 1 1 [.int .u8 fill] rfl rfl (cell_one_new _ _ _) (fun x hx => by simp at hx; subst hx; rfl) (by omega) (by unfold maxLen; omega) (by omega) (by simp; omega) _ rfl ?_; intro g cap3 w3 hown' hgrow hat hlt3
             have hb3 : Below w2.heap.size w2 w3 := Below.grown (hb2.alloc hb2s _) hgrow (by simp; omega) (fun j hj => (hown.lt _ hj).1)))
        refine ⟨⟨k + 1, by omega, by go_num, ?_, hb3⟩, by simp [intOf]; omega⟩
        rw [HTK.out]
        simp only [Option.getD_none, u8v, HFB.out]
        exact hown'
      | some c =>
        simp only [gapI] at p0
        have hc255 : (c.toNat : Int) ≤ 255 := by have := c.toNat_lt; omega
        have hcne : ((c.toNat : Int) == -1) = false := by rw [beq_eq_false_iff_ne]; omega
        go_wp2_with (first
          | (at_builtin; refine wpList_append_lies _ rfl _ _ 45 rfl w2.heap.size 5 i0 (.int .u8 0) 1 1 Try.underlying45 hi0 hz0 hz1 hz2 rfl (by decide) u9 k ((P.filled (P.fillB fill) (L.take k)).map u8v) rfl (hown.alloc _) ⟨wr.heap.size, 0, none⟩ 1 1 [.int .u8 c.toNat] rfl rfl (cell_one_new _ _ _) (fun x hx => by simp at hx; subst hx; rfl) (by omega) (by unfold maxLen; omega) (by omega) (by simp; omega) _ rfl ?_; intro g cap3 w3 hown' hgrow hat hlt3
             have hb3 : Below w2.heap.size w2 w3 := Below.grown (hb2.alloc hb2s _) hgrow (by simp; omega) (fun j hj => (hown.lt _ hj).1)))
        refine ⟨⟨k + 1, by omega, by go_num, ?_, hb3⟩, by simp [intOf]; omega⟩
        rw [HTK.out]
        exact hown'
    · have hke : k = L.length := by have := HNL.out; omega
      have hlf : (P.filled (P.fillB fill) L).length = k := by unfold P.filled; simp [hke]
      rw [hke, List.take_length, ← hke] at hown
      rw [← hlf] at hown
      obtain ⟨g, capb, hvb, _, _⟩ := hown.form (by omega)
      subst hvb
      have hcv : (convert 45 9 (.slice (some ⟨g, 0, none⟩) (P.filled (P.fillB fill) L).length capb)).run Try.prog wr = .ok (.string ⟨(P.filled (P.fillB fill) L).toArray⟩) wr := by
        have := run_convert_bytes_arg (P := Try.prog) wr 45 5 Try.underlying45 Try.underlying5 g 0 (P.filled (P.fillB fill) L).length capb ((P.filled (P.fillB fill) L).map fun c => (c.toNat : Int)) (by simp) (by
          intro j hj
          rw [Nat.zero_add]
          have := u8_row_cell hown (k := j) hj
          simpa [List.getD, List.getElem?_eq_getElem hj, u8v] using this) 9 Try.underlying9
        rw [this]
        congr 2
        simp [strOfNums, Function.comp_def]
      obtain ⟨bs, hbs⟩ : ∃ bs, P.filled (P.fillB fill) L = bs := ⟨_, rfl⟩
      rw [hbs] at hown hcv hlf ⊢
      have HBS : Hid (P.filled (P.fillB fill) L = bs) := hbs
      have HLF : Hid (bs.length = k) := hlf
      clear hlf hbs hke
      go_wp2_with fail
      go_ret
      exact ⟨by rw [HBS.out]; rfl, hbw⟩

end Go.Proofs.Ytghggcehloiemab
