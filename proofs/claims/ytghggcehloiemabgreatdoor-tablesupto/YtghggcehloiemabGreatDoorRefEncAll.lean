import Derived.Test.YtghggcehloiemabGreatDoorRefLieSAll
import Derived.Test.YtghggcehloiemabGreatDoorLayWAll
import Derived.Test.YtghggcehloiemabGreatDoorParseWAll
import Derived.Lib.ItoaNum
namespace Go.Proofs.YtghggcehloiemabGreatDoor
open Go.RowKit
set_option linter.unusedVariables false
set_option maxRecDepth 16000

namespace P
def filled (f : UInt8) (L : List (Option UInt8)) : List UInt8 := L.map fun x => x.getD f
def rencOf (lt lv : List UInt8) (fill : Int) : List UInt8 × Nat := match rtyOf lt with
  | none => ([], 1)
  | some t => match lieP 4 t lv with
    | none => ([], 2)
    | some L => if fill < 0 ∨ 255 < fill then ([], 6) else (filled (fillB fill) L, 0)
end P

set_option maxHeartbeats 1000000 in
theorem isValue_any {n : Nat} (t : P.Ty n) (v : Value) (S : Nat → Prop) (s : ByteArray) (w : World) (hsm : P.Sm n t) (hT : TypAt w n t v S) (hS : ∀ g, S g → g < w.heap.size) (hs : s.size ≤ 1099511627776) :
    Calls Tryz.prog 127 #[v, .string s] w fun e w' => e = .returned (.bool (P.lieP n t s.data.toList).isSome) ∧ Below w.heap.size w w' := by
  obtain ⟨a0, x', n1, k1, y, m1, j1, rfl⟩ := hT.is
  obtain ⟨f1, hf1⟩ : ∃ f1, (P.sz n t).1 = f1 := ⟨_, rfl⟩
  obtain ⟨f2, hf2⟩ : ∃ f2, (P.sz n t).2 = f2 := ⟨_, rfl⟩
  rw [hf1, hf2] at hT ⊢
  have hT2 : TypAt (w.alloc (.cells #[.int .u8 a0, .int .i64 f1, .int .i64 f2, .slice x' n1 k1, .slice y m1 j1] 121)) n t (.agg #[.int .u8 a0, .int .i64 f1, .int .i64 f2, .slice x' n1 k1, .slice y m1 j1]) S := hT.of (fun g hg => Below.heap_alloc _ _ _ (hS g hg)) (fun g hg => hg)
  have hS2 : ∀ g, S g → g < (w.alloc (.cells #[.int .u8 a0, .int .i64 f1, .int .i64 f2, .slice x' n1 k1, .slice y m1 j1] 121)).heap.size := fun g hg => by have := hS g hg; simp; omega
  have HC : Hid (Calls Tryz.prog 158 #[.agg #[.int .u8 a0, .int .i64 f1, .int .i64 f2, .slice x' n1 k1, .slice y m1 j1], .string s] (w.alloc (.cells #[.int .u8 a0, .int .i64 f1, .int .i64 f2, .slice x' n1 k1, .slice y m1 j1] 121)) fun e w' => LiePost (P.lieP n t s.data.toList) (w.alloc (.cells #[.int .u8 a0, .int .i64 f1, .int .i64 f2, .slice x' n1 k1, .slice y m1 j1] 121)) e w') := lie_all n t _ S s _ hsm hT2 hS2 hs
  clear hT hT2 hS hS2 hf1 hf2
  go_enter Tryz.func127, Tryz.ntmps127
  go_wp2_with fail
  refine Calls.mono HC.out ?_
  intro e w2 hp
  obtain ⟨af, Nf, cf, zf, rfl, hcase⟩ := lie_shape hp
  have hbe : Below w.heap.size w w2 := ((Below.refl _ _).alloc (Nat.le_refl _) _).trans (hp.2.mono (by simp))
  have hz : zf = (P.lieP n t s.data.toList).isSome := by
    rcases hcase with ⟨rfl, y, hy, _⟩ | ⟨rfl, hy⟩
    · rw [hy]; rfl
    · rw [hy]; rfl
  have HZ : Hid (zf = (P.lieP n t s.data.toList).isSome) := hz
  clear hcase hz hp
  go_wp2_with fail
  go_ret
  exact ⟨by rw [← HZ.out]; rfl, hbe⟩

theorem u8_row_cell {w : World} {base g N cap k : Nat} {bs : List UInt8} (h : w.ownsRow base 5 1 (.slice (some ⟨g, 0, none⟩) N cap) bs.length (bs.map u8v)) (hk : k < bs.length) : w.cell? ⟨g, k, none⟩ = some (u8v bs[k]) := by
  obtain ⟨h1, h2⟩ := h
  rcases h2 with ⟨h2, _⟩ | ⟨g', cap', cur, hv, hb, hg, hn, hm, hsz, htk⟩
  · cases h2
  · cases hv
    rw [cell_of_row w g _ _ _ _ hg]
    have hget : (bs.map u8v)[k]? = some (u8v bs[k]) := by simp [List.getElem?_eq_getElem hk]
    rw [← htk, List.getElem?_take_of_lt (by omega)] at hget
    simpa using hget

set_option maxHeartbeats 2000000 in
theorem bytes_any {n : Nat} (t : P.Ty n) (v : Value) (S : Nat → Prop) (s : ByteArray) (fill : Int) (L : List (Option UInt8)) (w : World) (hsm : P.Sm n t) (hT : TypAt w n t v S) (hS : ∀ g, S g → g < w.heap.size) (hs : s.size ≤ 1099511627776) (hf0 : 0 ≤ fill) (hf1 : fill ≤ 255) (hL : P.lieP n t s.data.toList = some L) :
    Calls Tryz.prog 148 #[v, .string s, .int .i64 fill] w fun e w' => e = .returned (.string ⟨(P.filled (P.fillB fill) L).toArray⟩) ∧ Below w.heap.size w w' := by
  obtain ⟨i0, hi0, hz0, hz1, hz2⟩ := info_parts Tryz.infoU8
  have hlen := P.lie_len n t _ L hsm hL
  have hsz := P.sm_size n t hsm
  rw [← hlen] at hsz
  obtain ⟨a0, x', n1, k1, y, m1, j1, rfl⟩ := hT.is
  obtain ⟨f1, hf1'⟩ : ∃ f1, (P.sz n t).1 = f1 := ⟨_, rfl⟩
  obtain ⟨f2, hf2'⟩ : ∃ f2, (P.sz n t).2 = f2 := ⟨_, rfl⟩
  rw [hf1', hf2'] at hT ⊢
  have hT2 : TypAt (w.alloc (.cells #[.int .u8 a0, .int .i64 f1, .int .i64 f2, .slice x' n1 k1, .slice y m1 j1] 121)) n t (.agg #[.int .u8 a0, .int .i64 f1, .int .i64 f2, .slice x' n1 k1, .slice y m1 j1]) S := hT.of (fun g hg => Below.heap_alloc _ _ _ (hS g hg)) (fun g hg => hg)
  have hS2 : ∀ g, S g → g < (w.alloc (.cells #[.int .u8 a0, .int .i64 f1, .int .i64 f2, .slice x' n1 k1, .slice y m1 j1] 121)).heap.size := fun g hg => by have := hS g hg; simp; omega
  have hC := lie_all n t _ S s _ hsm hT2 hS2 hs
  rw [hL] at hC
  have HC : Hid (Calls Tryz.prog 158 #[.agg #[.int .u8 a0, .int .i64 f1, .int .i64 f2, .slice x' n1 k1, .slice y m1 j1], .string s] (w.alloc (.cells #[.int .u8 a0, .int .i64 f1, .int .i64 f2, .slice x' n1 k1, .slice y m1 j1] 121)) fun e w' => LiePost (some L) (w.alloc (.cells #[.int .u8 a0, .int .i64 f1, .int .i64 f2, .slice x' n1 k1, .slice y m1 j1] 121)) e w') := hC
  have hfb : ((P.fillB fill).toNat : Int) = fill := by unfold P.fillB; simp; omega
  have HFB : Hid (((P.fillB fill).toNat : Int) = fill) := hfb
  clear hT hT2 hS hS2 hf1' hf2' hC hlen hfb hL
  go_enter Tryz.func148, Tryz.ntmps148
  go_wp2_with fail
  refine Calls.mono HC.out ?_
  rintro e w2 ⟨⟨vL, rfl, hownL⟩, hbe0⟩
  have hbe : Below w.heap.size w w2 := ((Below.refl _ _).alloc (Nat.le_refl _) _).trans (hbe0.mono (by simp))
  have hs0 := hbe.size
  obtain ⟨gL, capL, hvL, _, hgL⟩ := hownL.form (by omega)
  obtain ⟨N, hN⟩ : ∃ N, N = L.length := ⟨_, rfl⟩
  rw [← hN] at hvL
  subst hvL
  have HNL : Hid (N = L.length) := hN
  have hN32 : N ≤ 32 := by omega
  have hN1 : 1 ≤ N := by omega
  clear hN hbe0 HC hsz
  go_wp2_with fail
  go_loopw [9, 10] (fun b i wr => ∃ k : Nat, k ≤ N ∧ i = .int .i64 k ∧ wr.ownsRow w2.heap.size 5 1 b k ((P.filled (P.fillB fill) (L.take k)).map u8v) ∧ Below w2.heap.size w2 wr) (fun _ i _ => N - (intOf i).toNat)
  case atStart => exact ⟨0, by omega, rfl, World.ownsRow_nil _ _ _ _, Below.refl _ _⟩
  case round =>
    obtain ⟨k, hk, rfl, hown, hb2⟩ := hrel
    have hb2s := hb2.size
    have hbw : Below w.heap.size w wr := hbe.trans (hb2.mono hs0)
    by_cases hlt : k < N
    · obtain ⟨x, hx⟩ : ∃ x, L[k]? = some x := ⟨_, List.getElem?_eq_getElem (by have := HNL.out; omega)⟩
      have hcl := (int_cell (i := k) (x := i64v (gapI x)) (xs := L.map fun x => i64v (gapI x)) (by rw [List.length_map]; exact hownL) (by rw [List.getElem?_map, hx]; rfl))
      have p0 := hcl.1
      have hcc := hcl.2
      rw [← hb2.cell (p := ⟨gL, k, none⟩) hgL] at p0
      have HTK : Hid ((P.filled (P.fillB fill) (L.take (k + 1))).map u8v = (P.filled (P.fillB fill) (L.take k)).map u8v ++ [u8v (x.getD (P.fillB fill))]) := by
        unfold Hid P.filled; rw [List.take_add_one, hx]; simp
      unfold i64v at p0
      have hkN : (k : Int) < (N : Int) := by omega
      have h0k : (0 : Int) ≤ (k : Int) := by omega
      clear hcl hx
      cases x with
      | none =>
        simp only [gapI] at p0
        go_wp2_with (first
          | (at_builtin; refine wpList_append_lies _ rfl _ _ 38 rfl w2.heap.size 5 i0 (.int .u8 0) 1 1 Tryz.underlying38 hi0 hz0 hz1 hz2 rfl (by decide) u9 k ((P.filled (P.fillB fill) (L.take k)).map u8v) rfl (hown.alloc _) ⟨wr.heap.size, 0, none⟩ 1 1 [.int .u8 fill] rfl rfl (cell_one_new _ _ _) (fun x hx => by simp at hx; subst hx; rfl) (by omega) (by unfold maxLen; omega) (by omega) (by simp; omega) _ rfl ?_; intro g cap3 w3 hown' hgrow hat hlt3
             have hb3 : Below w2.heap.size w2 w3 := Below.grown (hb2.alloc hb2s _) hgrow (by simp; omega) (fun j hj => (hown.lt _ hj).1)))
        refine ⟨⟨k + 1, by omega, by go_num, ?_, hb3⟩, by simp [intOf]; omega⟩
        rw [HTK.out]
        simp only [Option.getD_none, u8v, HFB.out]
        exact hown'
      | some c =>
        simp only [gapI] at p0
        have hc255 : (c.toNat : Int) ≤ 255 := by have := c.toNat_lt; omega
        have hcne : ((c.toNat : Int) == -1) = false := by rw [beq_eq_false_iff_ne]; omega
        go_wp2_with (first
          | (at_builtin; refine wpList_append_lies _ rfl _ _ 38 rfl w2.heap.size 5 i0 (.int .u8 0) 1 1 Tryz.underlying38 hi0 hz0 hz1 hz2 rfl (by decide) u9 k ((P.filled (P.fillB fill) (L.take k)).map u8v) rfl (hown.alloc _) ⟨wr.heap.size, 0, none⟩ 1 1 [.int .u8 c.toNat] rfl rfl (cell_one_new _ _ _) (fun x hx => by simp at hx; subst hx; rfl) (by omega) (by unfold maxLen; omega) (by omega) (by simp; omega) _ rfl ?_; intro g cap3 w3 hown' hgrow hat hlt3
             have hb3 : Below w2.heap.size w2 w3 := Below.grown (hb2.alloc hb2s _) hgrow (by simp; omega) (fun j hj => (hown.lt _ hj).1)))
        refine ⟨⟨k + 1, by omega, by go_num, ?_, hb3⟩, by simp [intOf]; omega⟩
        rw [HTK.out]
        exact hown'
    · have hke : k = L.length := by have := HNL.out; omega
      have hlf : (P.filled (P.fillB fill) L).length = k := by unfold P.filled; simp [hke]
      rw [hke, List.take_length, ← hke] at hown
      rw [← hlf] at hown
      obtain ⟨g, capb, hvb, _, _⟩ := hown.form (by omega)
      subst hvb
      have hcv : (convert 38 9 (.slice (some ⟨g, 0, none⟩) (P.filled (P.fillB fill) L).length capb)).run Tryz.prog wr = .ok (.string ⟨(P.filled (P.fillB fill) L).toArray⟩) wr := by
        have := run_convert_bytes_arg (P := Tryz.prog) wr 38 5 Tryz.underlying38 Tryz.underlying5 g 0 (P.filled (P.fillB fill) L).length capb ((P.filled (P.fillB fill) L).map fun c => (c.toNat : Int)) (by simp) (by
          intro j hj
          rw [Nat.zero_add]
          have := u8_row_cell hown (k := j) hj
          simpa [List.getD, List.getElem?_eq_getElem hj, u8v] using this) 9 Tryz.underlying9
        rw [this]
        congr 2
        simp [strOfNums, Function.comp_def]
      obtain ⟨bs, hbs⟩ : ∃ bs, P.filled (P.fillB fill) L = bs := ⟨_, rfl⟩
      rw [hbs] at hown hcv hlf ⊢
      have HBS : Hid (P.filled (P.fillB fill) L = bs) := hbs
      have HLF : Hid (bs.length = k) := hlf
      clear hlf hbs hke
      go_wp2_with fail
      go_ret
      exact ⟨by rw [HBS.out]; rfl, hbw⟩

set_option maxHeartbeats 1000000 in
theorem rencode_any (s v : ByteArray) (fill : Int) (w : World) (hs : s.size ≤ maxLen) (hv : v.size ≤ 1099511627776) :
    Calls Tryz.prog 120 #[.string s, .string v, .int .i64 fill] w fun e w' => e = .returned (.tuple #[.string ⟨(P.rencOf s.data.toList v.data.toList fill).1.toArray⟩, .int .i64 (P.rencOf s.data.toList v.data.toList fill).2]) ∧ Below w.heap.size w w' := by
  go_enter Tryz.func120, Tryz.ntmps120
  go_wp2_with fail
  refine (rParse_any s w hs).mono ?_
  rintro e w1 ⟨hpost, hbe⟩
  cases ht : P.rtyOf s.data.toList with
  | none =>
    rw [ht] at hpost
    obtain ⟨vv, rfl, a1, a2, a3, x', n1, k1, y, m1, j1, rfl⟩ := hpost
    have HT : Hid (P.rencOf s.data.toList v.data.toList fill = ([], 1)) := by unfold Hid P.rencOf; rw [ht]
    clear ht
    go_wp2_with fail
    go_ret2
    exact ⟨by rw [HT.out]; rfl, hbe.alloc hbe.size _⟩
  | some t =>
    rw [ht] at hpost
    obtain ⟨vv, S, rfl, hT, hS⟩ := hpost
    have hrp : P.rp 4 s.data.toList = some t := by
      unfold P.rtyOf at ht
      split at ht
      · cases ht
      · exact ht
    have hsm := P.rp_sm 4 _ t hrp
    obtain ⟨a0, x', n1, k1, y, m1, j1, rfl⟩ := hT.is
    have HT : Hid (P.rencOf s.data.toList v.data.toList fill = match P.lieP 4 t v.data.toList with
      | none => ([], 2)
      | some L => if fill < 0 ∨ 255 < fill then ([], 6) else (P.filled (P.fillB fill) L, 0)) := by unfold Hid P.rencOf; rw [ht]
    obtain ⟨f1, hf1⟩ : ∃ f1, (P.sz 4 t).1 = f1 := ⟨_, rfl⟩
    obtain ⟨f2, hf2⟩ : ∃ f2, (P.sz 4 t).2 = f2 := ⟨_, rfl⟩
    rw [hf1, hf2] at hT ⊢
    have hsz1 := hbe.size
    have hT2 : TypAt (w1.alloc (.cells #[.int .u8 a0, .int .i64 f1, .int .i64 f2, .slice x' n1 k1, .slice y m1 j1] 121)) 4 t (.agg #[.int .u8 a0, .int .i64 f1, .int .i64 f2, .slice x' n1 k1, .slice y m1 j1]) S := hT.of (fun g hg => Below.heap_alloc _ _ _ (hS g hg).2) (fun g hg => hg)
    have hS2 : ∀ g, S g → g < w1.heap.size := fun g hg => (hS g hg).2
    have HC : Hid (Calls Tryz.prog 127 #[.agg #[.int .u8 a0, .int .i64 f1, .int .i64 f2, .slice x' n1 k1, .slice y m1 j1], .string v] (w1.alloc (.cells #[.int .u8 a0, .int .i64 f1, .int .i64 f2, .slice x' n1 k1, .slice y m1 j1] 121)) fun e w' => e = .returned (.bool (P.lieP 4 t v.data.toList).isSome) ∧ Below (w1.alloc (.cells #[.int .u8 a0, .int .i64 f1, .int .i64 f2, .slice x' n1 k1, .slice y m1 j1] 121)).heap.size (w1.alloc (.cells #[.int .u8 a0, .int .i64 f1, .int .i64 f2, .slice x' n1 k1, .slice y m1 j1] 121)) w') :=
      isValue_any t _ S v _ hsm hT2 (fun g hg => by have := hS2 g hg; simp; omega) hv
    have HT2 : Hid (TypAt (w1.alloc (.cells #[.int .u8 a0, .int .i64 f1, .int .i64 f2, .slice x' n1 k1, .slice y m1 j1] 121)) 4 t (.agg #[.int .u8 a0, .int .i64 f1, .int .i64 f2, .slice x' n1 k1, .slice y m1 j1]) S) := hT2
    have HSM : Hid (P.Sm 4 t) := hsm
    clear hT hT2 hS hf1 hf2 ht hrp hsm
    go_wp2_with fail
    refine Calls.mono HC.out ?_
    rintro e w2 ⟨rfl, hbe2⟩
    have hbe3 : Below w.heap.size w w2 := (hbe.alloc hsz1 _).trans (hbe2.mono (by simp; omega))
    have hvar : w2.heap[w1.heap.size]? = some (.cells #[.int .u8 a0, .int .i64 f1, .int .i64 f2, .slice x' n1 k1, .slice y m1 j1] 121 (0, 0)) := by
      rw [hbe2.block _ (by simp)]; exact heap_alloc_new _ _
    obtain ⟨c0, c1, c2, c3, c4⟩ := cells5 hvar
    cases hl : P.lieP 4 t v.data.toList with
    | none =>
      have HE : Hid (P.rencOf s.data.toList v.data.toList fill = ([], 2)) := by unfold Hid; rw [HT.out, hl]
      clear hl
      simp only [Option.isSome_none]
      go_wp2_with fail
      go_ret2
      exact ⟨by rw [HE.out]; rfl, hbe3⟩
    | some L =>
      have HE0 : Hid (P.rencOf s.data.toList v.data.toList fill = if fill < 0 ∨ 255 < fill then ([], 6) else (P.filled (P.fillB fill) L, 0)) := by unfold Hid; rw [HT.out, hl]
      have HLL : Hid (P.lieP 4 t v.data.toList = some L) := hl
      clear hl
      simp only [Option.isSome_some]
      by_cases hneg : fill < 0
      · have HE : Hid (P.rencOf s.data.toList v.data.toList fill = ([], 6)) := by unfold Hid; rw [HE0.out, if_pos (Or.inl hneg)]
        go_wp2_with fail
        go_ret2
        exact ⟨by rw [HE.out]; rfl, hbe3⟩
      · by_cases hbig : 255 < fill
        · have HE : Hid (P.rencOf s.data.toList v.data.toList fill = ([], 6)) := by unfold Hid; rw [HE0.out, if_pos (Or.inr hbig)]
          go_wp2_with fail
          go_ret2
          exact ⟨by rw [HE.out]; rfl, hbe3⟩
        · have HE : Hid (P.rencOf s.data.toList v.data.toList fill = (P.filled (P.fillB fill) L, 0)) := by unfold Hid; rw [HE0.out, if_neg (by omega)]
          have hT3 : TypAt w2 4 t (.agg #[.int .u8 a0, .int .i64 f1, .int .i64 f2, .slice x' n1 k1, .slice y m1 j1]) S := HT2.out.of (fun g hg => hbe2.block g (by have := hS2 g hg; simp; omega)) (fun g hg => hg)
          have hs2 := hbe2.size
          simp at hs2
          have HB : Hid (Calls Tryz.prog 148 #[.agg #[.int .u8 a0, .int .i64 f1, .int .i64 f2, .slice x' n1 k1, .slice y m1 j1], .string v, .int .i64 fill] w2 fun e w' => e = .returned (.string ⟨(P.filled (P.fillB fill) L).toArray⟩) ∧ Below w2.heap.size w2 w') :=
            bytes_any t _ S v fill L w2 HSM.out hT3 (fun g hg => by have := hS2 g hg; omega) hv (by omega) (by omega) HLL.out
          clear hT3
          go_wp2_with fail
          refine Calls.mono HB.out ?_
          rintro e w4 ⟨rfl, hbe4⟩
          go_wp2_with fail
          go_ret2
          exact ⟨by rw [HE.out]; rfl, hbe3.trans (hbe4.mono (by have := hbe3.size; omega))⟩
end Go.Proofs.YtghggcehloiemabGreatDoor
namespace Go.Proofs.YtghggcehloiemabGreatDoor
open Go.RowKit
set_option linter.unusedVariables false
set_option maxRecDepth 16000
/-- The reference's table in memory: the two types and the map. -/
def Rt (w : World) (b M sl : Nat) (k0 k1 k2 k3 k4 v0 v1 v2 v3 v4 lv : Value) (L : List (ByteArray × ByteArray)) : Prop := Mp w b 10 M sl #[k0, k1, k2, k3, k4, v0, v1, v2, v3, v4, .int .i64 sl, lv] 128 lv L
theorem Nx.up {w w1 : World} {v v' : Value} (h : Nx w1 v v') (hs : w.heap.size ≤ w1.heap.size) : Nx w v v' := fun g hg => (h g hg).imp_right (fun x => Nat.le_trans hs x)
def DropP (w w' : World) (e : Ending) (b M sl : Nat) (k0 k1 k2 k3 k4 v0 v1 v2 v3 v4 lv : Value) (L : List (ByteArray × ByteArray)) (k u : ByteArray) (t : P.Ty 4) : Prop := ((P.lieP 4 t k.data.toList).isSome = false ∧ e = .returned (.int .i64 2) ∧ Rt w' b M sl k0 k1 k2 k3 k4 v0 v1 v2 v3 v4 lv L ∧ Fr b lv.ownBlock w w') ∨
      ((P.lieP 4 t k.data.toList).isSome = true ∧ e = .returned (.int .i64 (if (P.mapDo sl 3 k u L).1 = 0 then 0 else 10)) ∧ (∃ lv', Rt w' b M sl k0 k1 k2 k3 k4 v0 v1 v2 v3 v4 lv' (P.mapDo sl 3 k u L).2 ∧ Nx w lv lv') ∧ Fr b lv.ownBlock w w')
/-- The reference's Drop. -/
theorem rtDrop_any {w : World} (b M sl : Nat) (k0 k1 k2 k3 k4 v0 v1 v2 v3 v4 : Value) (lv : Value) (L : List (ByteArray × ByteArray)) (k u : ByteArray) (t : P.Ty 4) (S : Nat → Prop) (h : Rt w b M sl k0 k1 k2 k3 k4 v0 v1 v2 v3 v4 lv L) (hsm : P.Sm 4 t) (hT : TypAt w 4 t (.agg #[k0, k1, k2, k3, k4]) S) (hS : ∀ g, S g → g < w.heap.size) (hs : k.size ≤ 1099511627776) :
    Calls Tryz.prog 84 #[.pointer (some ⟨b, 0, none⟩), .string k] w fun e w' => DropP w w' e b M sl k0 k1 k2 k3 k4 v0 v1 v2 v3 v4 lv L k u t := by
  have c0 : w.cell? ⟨b, 0, none⟩ = some k0 := by rw [cell_of_row _ _ _ _ _ _ h.blk]; rfl
  have c1 : w.cell? ⟨b, 1, none⟩ = some k1 := by rw [cell_of_row _ _ _ _ _ _ h.blk]; rfl
  have c2 : w.cell? ⟨b, 2, none⟩ = some k2 := by rw [cell_of_row _ _ _ _ _ _ h.blk]; rfl
  have c3 : w.cell? ⟨b, 3, none⟩ = some k3 := by rw [cell_of_row _ _ _ _ _ _ h.blk]; rfl
  have c4 : w.cell? ⟨b, 4, none⟩ = some k4 := by rw [cell_of_row _ _ _ _ _ _ h.blk]; rfl
  have HI := hid_m (isValue_any t _ S k w hsm hT hS hs)
  have HM := hid_m h
  clear hsm hT hS hs h
  go_enter Tryz.func84, Tryz.ntmps84
  go_wp2_with fail
  refine HI.out.mono ?_
  rintro e w1 ⟨rfl, hb1⟩
  have B1 := hid_m hb1
  have HM1 := hid_m (Mp.on HM.out hb1)
  clear hb1 c0 c1 c2 c3 c4 HI
  cases hq : (P.lieP 4 t k.data.toList).isSome with
  | false =>
    go_wp2_with fail
    go_ret
    exact Or.inl ⟨hq, rfl, HM1.out, Fr.of B1.out⟩
  | true =>
    go_wp2_with fail
    refine (rDrop_any b 10 M sl _ _ lv L k u HM1.out).mono ?_
    rintro e w2 ⟨rfl, ⟨lv', hm, hn⟩, hf⟩
    have HM2 : Hid (Rt w2 b M sl k0 k1 k2 k3 k4 v0 v1 v2 v3 v4 lv' (P.mapDo sl 3 k u L).2) := hm
    have HN := hid_m (hn.up B1.out.size)
    have HF := hid_m ((Fr.of (b := b) (r := lv.ownBlock) B1.out).trans hf (fun g hg => .inl hg))
    clear hm hn hf
    by_cases h0 : (P.mapDo sl 3 k u L).1 = 0
    · have h1 : decide ((P.mapDo sl 3 k u L).1 = 0) = true := decide_eq_true h0
      rw [h1]
      clear h1
      go_wp2_with fail
      go_ret
      exact Or.inr ⟨hq, by rw [if_pos h0]; rfl, ⟨lv', HM2.out, HN.out⟩, HF.out⟩
    · have h1 : decide ((P.mapDo sl 3 k u L).1 = 0) = false := decide_eq_false h0
      rw [h1]
      clear h1
      go_wp2_with fail
      go_ret
      exact Or.inr ⟨hq, by rw [if_neg h0]; rfl, ⟨lv', HM2.out, HN.out⟩, HF.out⟩
def GetP (w w' : World) (e : Ending) (b M sl : Nat) (k0 k1 k2 k3 k4 v0 v1 v2 v3 v4 lv : Value) (L : List (ByteArray × ByteArray)) (k : ByteArray) (t : P.Ty 4) : Prop :=
  (((P.lieP 4 t k.data.toList).isSome = false ∧ e = .returned (.tuple #[.string ⟨#[]⟩, .int .i64 2])) ∨ ((P.lieP 4 t k.data.toList).isSome = true ∧ P.atK L k = none ∧ e = .returned (.tuple #[.string ⟨#[]⟩, .int .i64 10])) ∨ ((P.lieP 4 t k.data.toList).isSome = true ∧ ∃ i v, P.atK L k = some i ∧ L[i]? = some (k, v) ∧ e = .returned (.tuple #[.string v, .int .i64 0]))) ∧ Rt w' b M sl k0 k1 k2 k3 k4 v0 v1 v2 v3 v4 lv L ∧ Below w.heap.size w w'
/-- The reference's Get. -/
theorem rtGet_any {w : World} (b M sl : Nat) (k0 k1 k2 k3 k4 v0 v1 v2 v3 v4 : Value) (lv : Value) (L : List (ByteArray × ByteArray)) (k : ByteArray) (t : P.Ty 4) (S : Nat → Prop) (h : Rt w b M sl k0 k1 k2 k3 k4 v0 v1 v2 v3 v4 lv L) (hsm : P.Sm 4 t) (hT : TypAt w 4 t (.agg #[k0, k1, k2, k3, k4]) S) (hS : ∀ g, S g → g < w.heap.size) (hs : k.size ≤ 1099511627776) :
    Calls Tryz.prog 83 #[.pointer (some ⟨b, 0, none⟩), .string k] w fun e w' => GetP w w' e b M sl k0 k1 k2 k3 k4 v0 v1 v2 v3 v4 lv L k t := by
  have c0 : w.cell? ⟨b, 0, none⟩ = some k0 := by rw [cell_of_row _ _ _ _ _ _ h.blk]; rfl
  have c1 : w.cell? ⟨b, 1, none⟩ = some k1 := by rw [cell_of_row _ _ _ _ _ _ h.blk]; rfl
  have c2 : w.cell? ⟨b, 2, none⟩ = some k2 := by rw [cell_of_row _ _ _ _ _ _ h.blk]; rfl
  have c3 : w.cell? ⟨b, 3, none⟩ = some k3 := by rw [cell_of_row _ _ _ _ _ _ h.blk]; rfl
  have c4 : w.cell? ⟨b, 4, none⟩ = some k4 := by rw [cell_of_row _ _ _ _ _ _ h.blk]; rfl
  have HI := hid_m (isValue_any t _ S k w hsm hT hS hs)
  have HM := hid_m h
  clear hsm hT hS hs h
  go_enter Tryz.func83, Tryz.ntmps83
  go_wp2_with fail
  refine HI.out.mono ?_
  rintro e w1 ⟨rfl, hb1⟩
  have B1 := hid_m hb1
  have HM1 : Hid (Mp w1 b 10 M sl #[k0, k1, k2, k3, k4, v0, v1, v2, v3, v4, .int .i64 sl, lv] 128 lv L) := Mp.on HM.out hb1
  clear hb1 c0 c1 c2 c3 c4 HI
  cases hq : (P.lieP 4 t k.data.toList).isSome with
  | false =>
    go_wp2_with fail
    go_ret2
    exact ⟨Or.inl ⟨hq, rfl⟩, HM1.out, B1.out⟩
  | true =>
    go_wp2_with fail
    have ha := rAt_any (w := w1) b 10 M lv L k HM1.out.c1 HM1.out.lt2 HM1.out.own (by have := HM1.out.few; have := HM1.out.sl16; omega)
    rcases hat : P.atK L k with _ | i
    · rw [hat] at ha
      refine ha.mono ?_
      rintro e w2 ⟨rfl, hb2⟩
      have B2 := hid_m (B1.out.trans (hb2.mono B1.out.size))
      have HM2 := hid_m (Mp.on HM1.out hb2)
      clear hb2 ha
      simp only [atI]
      go_wp2_with fail
      go_ret2
      exact ⟨Or.inr (Or.inl ⟨hq, hat, rfl⟩), HM2.out, B2.out⟩
    · rw [hat] at ha
      obtain ⟨u, hu⟩ := P.atK_some hat
      refine ha.mono ?_
      rintro e w2 ⟨rfl, hb2⟩
      have B2 := hid_m (B1.out.trans (hb2.mono B1.out.size))
      have HM2 := hid_m (Mp.on HM1.out hb2)
      clear hb2 ha
      simp only [atI]
      have HVAL : Hid (i < L.length) := (List.getElem?_eq_some_iff.1 hu).1
      have d := HM2.out.c1
      obtain ⟨gg, cc, hvf, _, hgl⟩ := HM2.out.own.form (by have := HVAL.out; omega)
      subst hvf
      obtain ⟨e1, e2, _, e4⟩ := pair_cell HM2.out.own hu
      have i0 : (0 : Int) ≤ (i : Int) := Int.natCast_nonneg _
      have i1 : (i : Int) < (L.length : Int) := by have := HVAL.out; omega
      have HE := hid_m (And.intro hat hu)
      clear hat hu hgl
      go_wp2_with fail
      go_ret2
      exact ⟨Or.inr (Or.inr ⟨hq, i, u, HE.out.1, HE.out.2, rfl⟩), HM2.out, B2.out⟩
end Go.Proofs.YtghggcehloiemabGreatDoor
namespace Go.Proofs.YtghggcehloiemabGreatDoor
open Go.RowKit
set_option linter.unusedVariables false
set_option maxRecDepth 16000
def PutP (w w' : World) (e : Ending) (b M sl : Nat) (k0 k1 k2 k3 k4 v0 v1 v2 v3 v4 lv : Value) (L : List (ByteArray × ByteArray)) (k v : ByteArray) (tk tv : P.Ty 4) : Prop :=
  (((P.lieP 4 tk k.data.toList).isSome && (P.lieP 4 tv v.data.toList).isSome) = false ∧ e = .returned (.int .i64 2) ∧ Rt w' b M sl k0 k1 k2 k3 k4 v0 v1 v2 v3 v4 lv L ∧ Fr b lv.ownBlock w w') ∨
  (((P.lieP 4 tk k.data.toList).isSome && (P.lieP 4 tv v.data.toList).isSome) = true ∧ e = .returned (.int .i64 (if (P.mapDo sl 2 k v L).1 = 0 then 0 else 9)) ∧ (∃ lv', Rt w' b M sl k0 k1 k2 k3 k4 v0 v1 v2 v3 v4 lv' (P.mapDo sl 2 k v L).2 ∧ Nx w lv lv') ∧ Fr b lv.ownBlock w w')
/-- The reference's Put. -/
theorem rtPut_any {w : World} (b M sl : Nat) (k0 k1 k2 k3 k4 v0 v1 v2 v3 v4 : Value) (lv : Value) (L : List (ByteArray × ByteArray)) (k v : ByteArray) (tk tv : P.Ty 4) (S : Nat → Prop) (h : Rt w b M sl k0 k1 k2 k3 k4 v0 v1 v2 v3 v4 lv L) (hsk : P.Sm 4 tk) (hsv : P.Sm 4 tv) (hTk : TypAt w 4 tk (.agg #[k0, k1, k2, k3, k4]) S) (hTv : ∀ w', Below w.heap.size w w' → TypAt w' 4 tv (.agg #[v0, v1, v2, v3, v4]) S) (hS : ∀ g, S g → g < w.heap.size) (hk : k.size ≤ 1099511627776) (hv : v.size ≤ 1099511627776) :
    Calls Tryz.prog 82 #[.pointer (some ⟨b, 0, none⟩), .string k, .string v] w fun e w' => PutP w w' e b M sl k0 k1 k2 k3 k4 v0 v1 v2 v3 v4 lv L k v tk tv := by
  have c0 : w.cell? ⟨b, 0, none⟩ = some k0 := by rw [cell_of_row _ _ _ _ _ _ h.blk]; rfl
  have c1 : w.cell? ⟨b, 1, none⟩ = some k1 := by rw [cell_of_row _ _ _ _ _ _ h.blk]; rfl
  have c2 : w.cell? ⟨b, 2, none⟩ = some k2 := by rw [cell_of_row _ _ _ _ _ _ h.blk]; rfl
  have c3 : w.cell? ⟨b, 3, none⟩ = some k3 := by rw [cell_of_row _ _ _ _ _ _ h.blk]; rfl
  have c4 : w.cell? ⟨b, 4, none⟩ = some k4 := by rw [cell_of_row _ _ _ _ _ _ h.blk]; rfl
  have HI := hid_m (isValue_any tk _ S k w hsk hTk hS hk)
  have HJ : Hid (∀ w', Below w.heap.size w w' → Calls Tryz.prog 127 #[.agg #[v0, v1, v2, v3, v4], .string v] w' fun e w'' => e = .returned (.bool (P.lieP 4 tv v.data.toList).isSome) ∧ Below w'.heap.size w' w'') := fun w' hb => isValue_any tv _ S v w' hsv (hTv w' hb) (fun g hg => Nat.lt_of_lt_of_le (hS g hg) hb.size) hv
  have HM := hid_m h
  clear hsk hsv hTk hTv hS hk hv h
  go_enter Tryz.func82, Tryz.ntmps82
  go_wp2_with fail
  refine HI.out.mono ?_
  rintro e w1 ⟨rfl, hb1⟩
  have B1 := hid_m hb1
  have HM1 : Hid (Mp w1 b 10 M sl #[k0, k1, k2, k3, k4, v0, v1, v2, v3, v4, .int .i64 sl, lv] 128 lv L) := Mp.on HM.out hb1
  clear hb1 c0 c1 c2 c3 c4 HI
  have c0 : w1.cell? ⟨b, 5, none⟩ = some v0 := by rw [cell_of_row _ _ _ _ _ _ HM1.out.blk]; rfl
  have c1 : w1.cell? ⟨b, 6, none⟩ = some v1 := by rw [cell_of_row _ _ _ _ _ _ HM1.out.blk]; rfl
  have c2 : w1.cell? ⟨b, 7, none⟩ = some v2 := by rw [cell_of_row _ _ _ _ _ _ HM1.out.blk]; rfl
  have c3 : w1.cell? ⟨b, 8, none⟩ = some v3 := by rw [cell_of_row _ _ _ _ _ _ HM1.out.blk]; rfl
  have c4 : w1.cell? ⟨b, 9, none⟩ = some v4 := by rw [cell_of_row _ _ _ _ _ _ HM1.out.blk]; rfl
  go_wp2_with fail
  refine (HJ.out w1 B1.out).mono ?_
  rintro e w2 ⟨rfl, hb2⟩
  have B2 := hid_m (B1.out.trans (hb2.mono B1.out.size))
  have HM2 : Hid (Mp w2 b 10 M sl #[k0, k1, k2, k3, k4, v0, v1, v2, v3, v4, .int .i64 sl, lv] 128 lv L) := Mp.on HM1.out hb2
  clear hb2 c0 c1 c2 c3 c4 HJ
  cases hq : (P.lieP 4 tk k.data.toList).isSome with
  | false =>
    go_wp2_with fail
    go_ret
    exact Or.inl ⟨by rw [hq]; rfl, rfl, HM2.out, Fr.of B2.out⟩
  | true =>
  cases hr : (P.lieP 4 tv v.data.toList).isSome with
  | false =>
    go_wp2_with fail
    go_ret
    exact Or.inl ⟨by rw [hq, hr]; rfl, rfl, HM2.out, Fr.of B2.out⟩
  | true =>
    go_wp2_with fail
    refine (rPut_any b 10 M sl _ _ lv L k v HM2.out).mono ?_
    rintro e w3 ⟨rfl, ⟨lv', hm, hn⟩, hf⟩
    have HM3 : Hid (Rt w3 b M sl k0 k1 k2 k3 k4 v0 v1 v2 v3 v4 lv' (P.mapDo sl 2 k v L).2) := hm
    have HN := hid_m (hn.up B2.out.size)
    have HF := hid_m ((Fr.of (b := b) (r := lv.ownBlock) B2.out).trans hf (fun g hg => .inl hg))
    clear hm hn hf
    by_cases h0 : (P.mapDo sl 2 k v L).1 = 0
    · have h1 : decide ((P.mapDo sl 2 k v L).1 = 0) = true := decide_eq_true h0
      rw [h1]
      clear h1
      go_wp2_with fail
      go_ret
      exact Or.inr ⟨by rw [hq, hr]; rfl, by rw [if_pos h0]; rfl, ⟨lv', HM3.out, HN.out⟩, HF.out⟩
    · have h1 : decide ((P.mapDo sl 2 k v L).1 = 0) = false := decide_eq_false h0
      rw [h1]
      clear h1
      go_wp2_with fail
      go_ret
      exact Or.inr ⟨by rw [hq, hr]; rfl, by rw [if_neg h0]; rfl, ⟨lv', HM3.out, HN.out⟩, HF.out⟩
end Go.Proofs.YtghggcehloiemabGreatDoor
namespace Go.Proofs.YtghggcehloiemabGreatDoor
open Go.RowKit
set_option linter.unusedVariables false
set_option maxRecDepth 16000
namespace P
def pickQ (c : Int) (n : Nat) : Nat := (if c < 0 then -(c + 1) else c).toNat % n
/-- Bytes laid into a memory. -/
def laidL (m : List UInt8) (at0 : Nat) (s : List UInt8) : List UInt8 := m.take at0 ++ s ++ m.drop (at0 + s.length)
end P
theorem pickQ_lt (c : Int) (n : Nat) (hn : 1 ≤ n) : P.pickQ c n < n := Nat.mod_lt _ (by omega)
set_option maxHeartbeats 400000 in
theorem lpick_any (c : Int) (n : Nat) (w : World) (hn : 1 ≤ n) (hn2 : n ≤ 4294967296) (h0 : -9223372036854775808 ≤ c) (h1 : c ≤ 9223372036854775807) :
    Calls Tryz.prog 44 #[.int .i64 c, .int .i64 n] w fun e w' => e = .returned (.int .i64 (P.pickQ c n)) ∧ w' = w := by
  have hnz : ((n : Int) == 0) = false := by rw [beq_eq_false_iff_ne]; omega
  by_cases h : c < 0
  · have HP : Hid (((P.pickQ c n : Nat) : Int) = -((c + 1).tmod n)) := by
      unfold Hid P.pickQ; rw [if_pos h, Int.natCast_emod, Int.toNat_of_nonneg (by omega), ← Int.tmod_eq_emod_of_nonneg (by omega), Int.neg_tmod]
    go_enter Tryz.func44, Tryz.ntmps44
    go_wp2_with fail
    go_ret
    exact ⟨by rw [HP.out]; rfl, rfl⟩
  · have HP : Hid (((P.pickQ c n : Nat) : Int) = c % n) := by
      unfold Hid P.pickQ; rw [if_neg h, Int.natCast_emod, Int.toNat_of_nonneg (by omega)]
    go_enter Tryz.func44, Tryz.ntmps44
    go_wp2_with fail
    go_ret
    exact ⟨by rw [HP.out]; rfl, rfl⟩
theorem str_of (x : ByteArray) : x = ⟨x.data.toList.toArray⟩ := by cases x; simp
theorem cut_data (m : ByteArray) (a b : Nat) : (m.extract a b).data.toList = (m.data.toList.drop a).take (b - a) := by
  rw [ByteArray.data_extract, Array.toList_extract]
theorem join_data (a b : ByteArray) : (a ++ b).data.toList = a.data.toList ++ b.data.toList := by rw [ByteArray.data_append, Array.toList_append]
theorem laid_data (m s : ByteArray) (p : Nat) : m.extract 0 p ++ s ++ m.extract (p + s.size) m.size = ⟨(P.laidL m.data.toList p s.data.toList).toArray⟩ := by
  rw [str_of (m.extract 0 p ++ s ++ m.extract (p + s.size) m.size)]
  congr 2
  unfold P.laidL
  rw [join_data, join_data, cut_data, cut_data]
  have e : s.data.toList.length = s.size := by simp
  rw [e, List.drop_zero, Nat.sub_zero, List.take_of_length_le (l := m.data.toList.drop (p + s.size)) (by simp)]
end Go.Proofs.YtghggcehloiemabGreatDoor
namespace Go.Proofs.YtghggcehloiemabGreatDoor.P
set_option linter.unusedVariables false

/-- The number that lies in bytes, the lowest first. -/
def leval : List UInt8 → Nat
  | [] => 0
  | c :: r => leval r * 256 + c.toNat
def hx (n : Nat) : UInt8 := if n < 10 then UInt8.ofNat (48 + n) else UInt8.ofNat (87 + n)
def hexT (l : List UInt8) : List UInt8 := l.flatMap fun c => [hx (c.toNat / 16), hx (c.toNat % 16)]
def sub (bs : List UInt8) (p k : Nat) : List UInt8 := (bs.drop p).take k
def tell1 (bs : List UInt8) (x : Pt) : List UInt8 :=
  if x.kind = 1 then Lib.decDigits (leval (sub bs x.place x.size)) else if x.kind = 2 then hexT (sub bs x.place x.size) else [UInt8.ofNat x.mark]
def tellAll (ps : List Pt) (bs : List UInt8) : List UInt8 := ps.flatMap (tell1 bs)

theorem hexT_length (l : List UInt8) : (hexT l).length = 2 * l.length := by
  induction l with
  | nil => rfl
  | cons c r ih => unfold hexT at *; rw [List.flatMap_cons, List.length_append, ih]; simp; omega

theorem leval_lt (l : List UInt8) : leval l < 256 ^ l.length := by
  induction l with
  | nil => simp [leval]
  | cons c r ih =>
    have := c.toNat_lt
    rw [leval, List.length_cons, Nat.pow_succ]
    omega
theorem sub_sub (bs : List UInt8) (p q k m : Nat) (h : q + k ≤ m) : sub (sub bs p m) q k = sub bs (p + q) k := by
  unfold sub
  rw [List.drop_take, List.drop_drop, List.take_take, Nat.min_eq_left (by omega)]
theorem sub_all (bs : List UInt8) (k : Nat) (h : bs.length = k) : sub bs 0 k = bs := by
  unfold sub; rw [List.drop_zero, List.take_of_length_le (by omega)]

theorem tellAll_append (A B : List Pt) (bs : List UInt8) : tellAll (A ++ B) bs = tellAll A bs ++ tellAll B bs := by simp [tellAll]
theorem tell_mark (bs : List UInt8) (c : Nat) (p : Nat) : tell1 bs ((markP c).sh p) = [UInt8.ofNat c] := by simp [tell1, markP, Pt.sh]
end Go.Proofs.YtghggcehloiemabGreatDoor.P
