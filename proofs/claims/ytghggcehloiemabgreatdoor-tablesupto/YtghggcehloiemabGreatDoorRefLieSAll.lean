import Derived.Test.YtghggcehloiemabGreatDoorRefLie2All
import Derived.Test.YtghggcehloiemabGreatDoorEquiv2All
import Derived.Test.YtghggcehloiemabGreatDoorRefStruct
import Derived.Test.YtghggcehloiemabGreatDoorHexAll
import Derived.Test.YtghggcehloiemabGreatDoorGoodAll
import Derived.Laws.BytesArg
namespace Go.Proofs.YtghggcehloiemabGreatDoor
open Go.RowKit
set_option linter.unusedVariables false

namespace P
def lieS (n : Nat) (ts : List (Ty n)) (ps : List (List UInt8)) : Option (List (Option UInt8)) := if ps.length = ts.length then (lieF (List.zip (List.zipWith (lieP n) ts ps) (places (0, 1) (ts.map (sz n)))) []).map (fun L => padTo L (sz (n + 1) (.inr ts)).1) else none
theorem lieP_struct {n : Nat} (ts : List (Ty n)) (s : List UInt8) : lieP (n + 1) (.inr ts) s = (cut s).bind (lieS n ts) := by
  simp only [lieP]; cases cut s <;> rfl
end P

/-- 'lie' for a type that lies in w. -/
def LIE (n : Nat) : Prop := ∀ (t : P.Ty n) (v : Value) (S : Nat → Prop) (s : ByteArray) (w : World), P.Sm n t → TypAt w n t v S → (∀ g, S g → g < w.heap.size) → s.size ≤ 1099511627776 →
  Calls Tryz.prog 158 #[v, .string s] w fun e w' => LiePost (P.lieP n t s.data.toList) w e w'

def slen (v : Value) : Nat := match v with
  | .slice _ n _ => n
  | _ => 0
theorem own_at {w : World} {base g n N cap : Nat} {e : TypeId} {size : Nat} {xs : List Value} (h : w.ownsRow base e size (.slice (some ⟨g, 0, none⟩) N cap) n xs) : w.ownsRow g e size (.slice (some ⟨g, 0, none⟩) N cap) n xs := by
  obtain ⟨h1, h2⟩ := h
  refine ⟨h1, ?_⟩
  rcases h2 with ⟨h2, _⟩ | ⟨g', cap', cur, hv, hb', hr⟩
  · cases h2
  · cases hv; exact .inr ⟨g, cap, cur, rfl, Nat.le_refl _, hr⟩
theorem news_own {w : World} {base g N cap : Nat} {xs : List (Option UInt8)} (h : w.ownsRow base 3 1 (.slice (some ⟨g, 0, none⟩) N cap) xs.length (xs.map fun x => i64v (gapI x))) : ∀ k u, (xs.map fun x => i64v (gapI x))[k]? = some u → w.cell? ((⟨g, 0, none⟩ : Addr).add k) = some u := by
  intro k u hu
  have hadd : (⟨g, 0, none⟩ : Addr).add k = ⟨g, k, none⟩ := by unfold Addr.add; split <;> simp_all
  rw [hadd]
  exact (int_cell (xs := xs.map fun x => i64v (gapI x)) (by rw [List.length_map]; exact h) hu).1
theorem lie_shape {o : Option (List (Option UInt8))} {w w' : World} {e : Ending} (h : LiePost o w e w') : ∃ a N c z, e = .returned (.tuple #[.slice a N c, .bool z]) ∧ ((z = true ∧ ∃ y, o = some y ∧ w'.ownsRow w.heap.size 3 1 (.slice a N c) y.length (y.map fun x => i64v (gapI x))) ∨ (z = false ∧ o = none)) := by
  obtain ⟨h1, _⟩ := h
  cases o with
  | none => obtain ⟨a, N, c, he⟩ := h1; exact ⟨a, N, c, false, he, Or.inr ⟨rfl, rfl⟩⟩
  | some L =>
    obtain ⟨v, he, hown⟩ := h1
    obtain ⟨a, N, c, rfl⟩ := owns_form hown
    exact ⟨a, N, c, true, he, Or.inl ⟨rfl, L, rfl, hown⟩⟩
theorem keep7 {wr w3 : World} {b0 b1 b2 o0 o1 o2 o3 o4 o5 o6 : Nat} {v0 v1 v2 v3 v4 v5 v6 : Value} (h : Below wr.drew.heap.size wr.drew w3) (h0 : wr.cell? ⟨b0, o0, none⟩ = some v0) (h1 : wr.cell? ⟨b1, o1, none⟩ = some v1) (h2 : wr.cell? ⟨b1, o2, none⟩ = some v2) (h3 : wr.cell? ⟨b1, o3, none⟩ = some v3) (h4 : wr.cell? ⟨b1, o4, none⟩ = some v4) (h5 : wr.cell? ⟨b1, o5, none⟩ = some v5) (h6 : wr.cell? ⟨b2, o6, none⟩ = some v6) :
    w3.cell? ⟨b0, o0, none⟩ = some v0 ∧ w3.cell? ⟨b1, o1, none⟩ = some v1 ∧ w3.cell? ⟨b1, o2, none⟩ = some v2 ∧ w3.cell? ⟨b1, o3, none⟩ = some v3 ∧ w3.cell? ⟨b1, o4, none⟩ = some v4 ∧ w3.cell? ⟨b1, o5, none⟩ = some v5 ∧ w3.cell? ⟨b2, o6, none⟩ = some v6 := by
  have key : ∀ a v, wr.cell? a = some v → w3.cell? a = some v := fun a v hv => by
    have hl := World.block_lt_of_cell? wr a hv
    exact (h.cell (p := a) hl).trans hv
  exact ⟨key _ _ h0, key _ _ h1, key _ _ h2, key _ _ h3, key _ _ h4, key _ _ h5, key _ _ h6⟩

set_option maxRecDepth 100000 in
set_option maxHeartbeats 4000000 in
theorem lie_struct {n : Nat} (hIH : LIE n) (ts : List (P.Ty n)) (v : Value) (S : Nat → Prop) (s : ByteArray) (w : World) (hsm : P.Sm (n + 1) (.inr ts)) (hT : TypAt w (n + 1) (.inr ts) v S) (hS : ∀ g, S g → g < w.heap.size) (hs : s.size ≤ 1099511627776) :
    Calls Tryz.prog 158 #[v, .string s] w fun e w' => LiePost (P.lieP (n + 1) (.inr ts) s.data.toList) w e w' := by
  obtain ⟨i1, hi1, hy0, hy1, hy2⟩ := info_parts Tryz.infoInt
  have hsize := P.sm_size _ _ hsm
  obtain ⟨hz32, ht8, htne, hkids⟩ := hsm
  obtain ⟨vF, vA, fs, rfl, hF, hA, hfl, hfk⟩ := hT
  obtain ⟨Z, hZ⟩ : ∃ Z, (P.sz (n + 1) (.inr ts)).1 = Z := ⟨_, rfl⟩
  obtain ⟨Z2, hZ2⟩ : ∃ Z2, (P.sz (n + 1) (.inr ts)).2 = Z2 := ⟨_, rfl⟩
  have HL : Hid (P.lieP (n + 1) (.inr ts) s.data.toList = (P.cut s.data.toList).bind (P.lieS n ts)) := P.lieP_struct ts _
  have HZ : Hid ((P.sz (n + 1) (.inr ts)).1 = Z) := hZ
  rw [hZ] at hsize hz32
  rw [hZ, hZ2]
  have hpos : 0 < ts.length := List.length_pos_iff.2 htne
  obtain ⟨gF, capF, hvF, _, hgF⟩ := hF.1.form hpos
  obtain ⟨gA, capA, hvA, _, hgA⟩ := hA.1.form hpos
  obtain ⟨NT, hNT⟩ : ∃ NT, NT = ts.length := ⟨_, rfl⟩
  rw [← hNT] at hvF hvA
  subst hvF hvA
  have HNT : Hid (NT = ts.length) := hNT
  have hNT8 : NT ≤ 8 := by omega
  clear hZ hZ2 hpos hNT
  go_enter Tryz.func158, Tryz.ntmps158
  go_wp2_with fail
  refine (cut_any s _ hs).mono ?_
  rintro e w2 ⟨hpost, hbe⟩
  have hbe' : Below w.heap.size w w2 := ((Below.refl _ _).alloc (Nat.le_refl _) _).trans (hbe.mono (by simp))
  have hbx : w2.heap[w.heap.size]? = some (.cells #[.int .u8 123, .int .i64 Z, .int .i64 Z2, .slice (some ⟨gF, 0, none⟩) NT capF, .slice (some ⟨gA, 0, none⟩) NT capA] 121 (0, 0)) := by
    rw [hbe.block _ (by simp)]; exact heap_alloc_new _ _
  have hw2 := blk_lt hbx
  obtain ⟨c0, c1, c2, c3, c4⟩ := cells5 hbx
  cases hcut : P.cut s.data.toList with
  | none =>
    rw [hcut] at hpost
    simp only at hpost
    subst hpost
    have HR : Hid (P.lieP (n + 1) (.inr ts) s.data.toList = none) := by unfold Hid; rw [HL.out, hcut]; rfl
    clear hcut
    go_wp2_with fail
    go_ret2
    exact LiePost.no HR.out rfl hbe'
  | some ps =>
    rw [hcut] at hpost
    obtain ⟨ss, vS, rfl, hss, hown⟩ := hpost
    have hown' : w2.ownsRow (w.heap.size + 1) 9 1 vS ss.length (ss.map Value.string) := by simpa [Strs] using hown
    obtain ⟨aS, N, capS, rfl⟩ := owns_form hown'
    have hN : N = ss.length := by
      rcases hown'.2 with ⟨h, h'⟩ | ⟨g, cap', cur, h, _⟩
      · cases h; omega
      · cases h; rfl
    have HN : Hid (N = ss.length) := hN
    have hlen : ps.length = ss.length := by rw [← hss]; simp
    have hsmall : ∀ x ∈ ss, x.size ≤ 1099511627776 := by
      intro x hx
      have := P.cut_len hcut x.data.toList (by rw [← hss]; exact List.mem_map_of_mem hx)
      have h1 := tl_len s
      have h2 := tl_len x
      omega
    have HSM : Hid (∀ x ∈ ss, x.size ≤ 1099511627776) := hsmall
    clear hsmall hown
    by_cases hne : N = NT
    · have HR : Hid (P.lieP (n + 1) (.inr ts) s.data.toList = (P.lieF (List.zip (List.zipWith (P.lieP n) ts ps) (P.places (0, 1) (ts.map (P.sz n)))) []).map (fun L => P.padTo L Z)) := by
        unfold Hid; rw [HL.out, hcut, Option.bind_some, P.lieS, if_pos (by have := HNT.out; omega), HZ.out]
      have hneb : ((N : Int) != (NT : Int)) = false := by rw [bne_eq_false_iff_eq]; omega
      have HNE : Hid (N = NT) := hne
      have hN8 : N ≤ 8 := by omega
      have HPS : Hid (ss.map (fun x => x.data.toList) = ps) := hss
      have HOW : Hid (w2.ownsRow (w.heap.size + 1) 9 1 (.slice aS N capS) ss.length (ss.map Value.string)) := hown'
      clear hcut hne hN hlen hss hown' HL
      have HIT : Hid (∀ (q : Nat) (t : P.Ty n) (x : ByteArray), ts[q]? = some t → ss[q]? = some x → ∃ pl, (P.places (0, 1) (ts.map (P.sz n)))[q]? = some pl ∧ pl ≤ 32 ∧ (List.zip (List.zipWith (P.lieP n) ts ps) (P.places (0, 1) (ts.map (P.sz n))))[q]? = some (P.lieP n t x.data.toList, pl)) := by
        intro q t x h1 h2
        have hst : ∀ x ∈ ts.map (P.sz n), 1 ≤ x.2 ∧ x.2 ≤ 4 := by
          intro x hx
          obtain ⟨t, ht, rfl⟩ := List.mem_map.1 hx
          exact (hkids t ht).2
        have hq : q < (P.places (0, 1) (ts.map (P.sz n))).length := by
          rw [P.places_length]; simpa using (List.getElem?_eq_some_iff.1 h1).1
        refine ⟨_, List.getElem?_eq_getElem hq, ?_, ?_⟩
        · have h3 := P.places_bd (ts.map (P.sz n)) (0, 1) hst (by simp) (by simp) _ (List.getElem_mem hq)
          obtain ⟨g1, _, _⟩ := P.fold_step hst (0, 1) (by simp) (by simp)
          have hup := P.le_up (P.fold (ts.map (P.sz n))).1 (P.fold (ts.map (P.sz n))).2 g1
          have hz := HZ.out
          simp only [P.sz, P.closed] at hz
          rw [hz] at hup
          exact Nat.le_trans h3 (Nat.le_trans hup hz32)
        · rw [List.getElem?_zip_eq_some]
          refine ⟨?_, List.getElem?_eq_getElem hq⟩
          rw [List.getElem?_zipWith, h1, ← HPS.out, List.getElem?_map, h2]; rfl
      have hall5 : ∀ x ∈ fs, x.size = 5 := by
        intro x hx
        obtain ⟨i, hi, he⟩ := List.getElem_of_mem hx
        have hi2 : i < ts.length := by omega
        exact (hfk i ts[i] x (List.getElem?_eq_getElem hi2) (by rw [List.getElem?_eq_getElem hi, he])).1
      have HALL : Hid (∀ x ∈ fs, x.size = 5) := hall5
      have HFR : Hid (w.ownsRow 0 121 5 (.slice (some ⟨gF, 0, none⟩) NT capF) ts.length (fs.flatMap Array.toList)) := hF.1
      have HAR : Hid (w.ownsRow 0 3 1 (.slice (some ⟨gA, 0, none⟩) NT capA) ts.length ((P.places (0, 1) (ts.map (P.sz n))).map fun x : Nat => Value.int .i64 (x : Int))) := hA.1
      have HFK : Hid (∀ (i : Nat) (t : P.Ty n) (c : Array Value), ts[i]? = some t → fs[i]? = some c → c.size = 5 ∧ TypAt w n t (.agg c) S) := hfk
      have HKD : Hid (∀ t ∈ ts, P.Sm n t) := fun t ht => (hkids t ht).1
      have HFL : Hid (fs.length = ts.length) := hfl
      clear hall5 hF hA hfk hkids hfl htne
      go_wp2_with fail
      go_loopw [6, 14] (fun l i wr => ∃ (q : Nat) (L : List (Option UInt8)), q ≤ N ∧ i = .int .i64 q ∧ Hid (P.lieF (List.zip (List.zipWith (P.lieP n) ts ps) (P.places (0, 1) (ts.map (P.sz n)))) [] = P.lieF ((List.zip (List.zipWith (P.lieP n) ts ps) (P.places (0, 1) (ts.map (P.sz n)))).drop q) L) ∧ L.length ≤ 64 * q ∧ wr.ownsRow w2.heap.size 3 1 l L.length (L.map fun x => i64v (gapI x)) ∧ Below w2.heap.size w2 wr) (fun _ i _ => N - (intOf i).toNat)
      case atStart => exact ⟨0, [], by omega, rfl, rfl, by simp, World.ownsRow_nil _ _ _ _, Below.refl _ _⟩
      case round =>
        obtain ⟨q, L, hq, rfl, HI, hLl, hown, hb2⟩ := hrel
        have hb2s := hb2.size
        have hbw : Below w.heap.size w wr := hbe'.trans (hb2.mono (by omega))
        have hbxr : wr.heap[w.heap.size]? = some (.cells #[.int .u8 123, .int .i64 Z, .int .i64 Z2, .slice (some ⟨gF, 0, none⟩) NT capF, .slice (some ⟨gA, 0, none⟩) NT capA] 121 (0, 0)) := by rw [hb2.block _ hw2]; exact hbx
        clear c0 c1 c2 c3 c4
        obtain ⟨c0, c1, c2, c3, c4⟩ := cells5 hbxr
        by_cases hlt : q < N
        · obtain ⟨t, ht⟩ : ∃ t, ts[q]? = some t := ⟨_, List.getElem?_eq_getElem (by have := HNT.out; have := HNE.out; omega)⟩
          obtain ⟨x, hx⟩ : ∃ x, ss[q]? = some x := ⟨_, List.getElem?_eq_getElem (by have := HN.out; omega)⟩
          obtain ⟨c, hc⟩ : ∃ c, fs[q]? = some c := ⟨_, List.getElem?_eq_getElem (by have := HNT.out; have := HNE.out; have := HFL.out; omega)⟩
          obtain ⟨pl, hpl, hpl32, hit⟩ := HIT.out q t x ht hx
          obtain ⟨_, hTc⟩ := HFK.out q t c ht hc
          have hTr : TypAt wr n t (.agg c) S := hTc.of (fun g hg => hbw.block g (hS g hg)) (fun g hg => hg)
          obtain ⟨a0, x', n1, k1, y, m1, j1, hvv⟩ := hTc.is
          have hcc : c = #[.int .u8 a0, .int .i64 (P.sz n t).1, .int .i64 (P.sz n t).2, .slice x' n1 k1, .slice y m1 j1] := by injection hvv
          obtain ⟨f1, hf1⟩ : ∃ f1, (P.sz n t).1 = f1 := ⟨_, rfl⟩
          obtain ⟨f2, hf2⟩ : ∃ f2, (P.sz n t).2 = f2 := ⟨_, rfl⟩
          rw [hf1, hf2] at hcc
          subst hcc
          obtain ⟨d0, d1, d2, d3, d4, hcF⟩ := typ_cell HFR.out HALL.out HFL.out hc
          rw [← hbw.cell (p := ⟨gF, q * 5, none⟩) hgF] at d0
          rw [← hbw.cell (p := ⟨gF, q * 5 + 1, none⟩) hgF] at d1
          rw [← hbw.cell (p := ⟨gF, q * 5 + 2, none⟩) hgF] at d2
          rw [← hbw.cell (p := ⟨gF, q * 5 + 3, none⟩) hgF] at d3
          rw [← hbw.cell (p := ⟨gF, q * 5 + 4, none⟩) hgF] at d4
          have hAl : ((P.places (0, 1) (ts.map (P.sz n))).map fun x : Nat => Value.int .i64 (x : Int)).length = ts.length := by rw [List.length_map, P.places_length, List.length_map]
          obtain ⟨p0, hcA⟩ := int_cell (i := q) (x := .int .i64 pl) (by rw [hAl]; exact HAR.out) (by rw [List.getElem?_map, hpl]; rfl)
          rw [← hbw.cell (p := ⟨gA, q, none⟩) hgA] at p0
          obtain ⟨gS, capS', hvS, _, hgS⟩ := HOW.out.form (by have := HN.out; omega)
          have haS : aS = some ⟨gS, 0, none⟩ := by injection hvS
          subst haS
          clear hvS hAl
          have s0 := (str_cell HOW.out hx).1
          have hcS := (str_cell HOW.out hx).2.2
          rw [← hb2.cell (p := ⟨gS, q, none⟩) hgS] at s0
          have HTX : Hid (ts[q]? = some t) := ht
          have HITQ : Hid ((List.zip (List.zipWith (P.lieP n) ts ps) (P.places (0, 1) (ts.map (P.sz n))))[q]? = some (P.lieP n t x.data.toList, pl)) := hit
          have hxs : x.size ≤ 1099511627776 := HSM.out x (List.mem_of_getElem? hx)
          have HSMt : Hid (P.Sm n t) := HKD.out t (List.mem_of_getElem? ht)
          have HF1 : Hid ((P.sz n t).1 = f1) := hf1
          have hqF : (q : Int) < (NT : Int) := by have := HNE.out; omega
          have hqS : (q : Int) < (N : Int) := by omega
          have h0q : (0 : Int) ≤ (q : Int) := by omega
          have hcont : ∀ wx, wx.heap = wr.heap → Calls Tryz.prog 158 #[.agg #[.int .u8 a0, .int .i64 f1, .int .i64 f2, .slice x' n1 k1, .slice y m1 j1], .string x] wx fun e w' => LiePost (P.lieP n t x.data.toList) wx e w' := by
            intro wx hwx
            refine hIH t _ S x wx HSMt.out (hTr.of (fun g hg => by rw [hwx]) (fun g hg => hg)) (fun g hg => ?_) hxs
            rw [hwx]; have := hS g hg; omega
          have HCT : Hid _ := hcont
          clear hcont ht hx hc hpl hit hTr hTc hvv hf1 hf2
          go_wp2_with fail
          go_region_held3 (fun w' => w'.cell? ⟨w.heap.size, 3, none⟩ = some (.slice (some ⟨gF, 0, none⟩) NT capF) ∧ w'.cell? ⟨gF, q * 5, none⟩ = some (.int .u8 a0) ∧ w'.cell? ⟨gF, q * 5 + 1, none⟩ = some (.int .i64 f1) ∧ w'.cell? ⟨gF, q * 5 + 2, none⟩ = some (.int .i64 f2) ∧ w'.cell? ⟨gF, q * 5 + 3, none⟩ = some (.slice x' n1 k1) ∧ w'.cell? ⟨gF, q * 5 + 4, none⟩ = some (.slice y m1 j1) ∧ w'.cell? ⟨gS, q, none⟩ = some (.string x)) (first | (simp [go_sem, c3, d0, d1, d2, d3, d4, s0]; done) | (exact kk)) (first | (go_at_call 158; refine (HCT.out wr.drew rfl).mono ?_; rintro e w3 hp3; obtain ⟨af, Nf, cf, zf, rfl, hcase⟩ := lie_shape hp3; have kk := keep7 hp3.2 c3 d0 d1 d2 d3 d4 s0))
          have hbe3 : Below wr.heap.size wr w3 := ⟨hp3.2.os, hp3.2.tape, hp3.2.output, hp3.2.size, hp3.2.block⟩
          have hwr3 := hbe3.size
          clear hp3
          rcases hcase with ⟨rfl, y, hy, hownf⟩ | ⟨rfl, hy⟩
          · have hyl := P.lie_len n t _ y HSMt.out hy
            rw [HF1.out] at hyl
            have hf := P.sm_size n t HSMt.out
            rw [HF1.out] at hf
            have HYL : Hid (y.length = f1) := hyl
            have HN2 : Hid (P.lieF (List.zip (List.zipWith (P.lieP n) ts ps) (P.places (0, 1) (ts.map (P.sz n)))) [] = P.lieF ((List.zip (List.zipWith (P.lieP n) ts ps) (P.places (0, 1) (ts.map (P.sz n)))).drop (q + 1)) (P.padTo L pl ++ y)) := by
              unfold Hid; rw [HI.out, P.drop_at' HITQ.out, hy]; rfl
            obtain ⟨gf, capf, hvf, hgf0, hgf⟩ := hownf.form (by omega)
            have haf : af = some ⟨gf, 0, none⟩ := by injection hvf
            have hNf : Nf = y.length := by injection hvf
            subst haf
            rw [hNf]
            have HOF : Hid (w3.ownsRow wr.heap.size 3 1 (.slice (some ⟨gf, 0, none⟩) y.length cf) y.length (y.map fun x => i64v (gapI x))) := by rw [hNf] at hownf; exact hownf
            clear hvf hNf hownf hy hyl HI HITQ HCT kk
            have hgf1 : wr.heap.size ≤ gf := hgf0
            have hown3 : w3.ownsRow w2.heap.size 3 1 u6 L.length (L.map fun x => i64v (gapI x)) := owns_of hown (fun g hg => hbe3.block g (hown.lt _ hg).2)
            have hlb : ∀ g, u6.ownBlock = some g → g < wr.heap.size := fun g hg => (hown.lt _ hg).2
            have hb3 : Below w2.heap.size w2 w3 := hb2.trans (hbe3.mono hb2s)
            have HP0 : Hid (w.cell? ⟨gA, q, none⟩ = some (.int .i64 pl)) := by rw [← hbw.cell (p := ⟨gA, q, none⟩) hgA]; exact p0
            have hofr : w3.ownsRow gf 3 1 (.slice (some ⟨gf, 0, none⟩) y.length cf) y.length (y.map fun x => i64v (gapI x)) := own_at HOF.out
            have hlf : ∀ g, u6.ownBlock = some g → g ≠ gf := fun g hg => by have := hlb g hg; omega
            clear HOF hlb d0 d1 d2 d3 d4 s0 p0 hgf0 hown hb2 hb2s hbw hbxr c0 c1 c2 c3 c4 hbe3 hwr3 hgf1
            go_wp2_with fail
            go_loopw [6] (fun l wq => ∃ (j : Nat), j ≤ pl - L.length ∧ wq.ownsRow w2.heap.size 3 1 l (L ++ List.replicate j none).length ((L ++ List.replicate j none).map fun x => i64v (gapI x)) ∧ Below w2.heap.size w2 wq ∧ wq.ownsRow gf 3 1 (.slice (some ⟨gf, 0, none⟩) y.length cf) y.length (y.map fun x => i64v (gapI x)) ∧ (∀ g, l.ownBlock = some g → g ≠ gf)) (fun l _ => pl - slen l)
            case atStart => exact ⟨0, by omega, by simpa using hown3, hb3, hofr, hlf⟩
            case round =>
              clear hown3 hb3 hofr hlf
              obtain ⟨j, hj, hownj, hbj, hofj, hnej⟩ := hrel
              have hbwj : Below w.heap.size w wr := hbe'.trans (hbj.mono (by omega))
              have hbxj : wr.heap[w.heap.size]? = some (.cells #[.int .u8 123, .int .i64 Z, .int .i64 Z2, .slice (some ⟨gF, 0, none⟩) NT capF, .slice (some ⟨gA, 0, none⟩) NT capA] 121 (0, 0)) := by rw [hbj.block _ hw2]; exact hbx
              obtain ⟨c0, c1, c2, c3, c4⟩ := cells5 hbxj
              have p0 : wr.cell? ⟨gA, q, none⟩ = some (.int .i64 pl) := by rw [hbwj.cell (p := ⟨gA, q, none⟩) hgA]; exact HP0.out
              obtain ⟨al, Nl, cl, hul⟩ := owns_form hownj
              have hNl : Nl = (L ++ List.replicate j none).length := by
                rcases hownj.2 with ⟨h, h'⟩ | ⟨g, cap', cur, h, _⟩
                · rw [hul] at h; cases h; omega
                · rw [hul] at h; cases h; rfl
              have HNL : Hid (Nl = L.length + j) := by unfold Hid; simpa using hNl
              have hNlb : Nl ≤ 1000 := by have := HNL.out; omega
              have hbjs := hbj.size
              have hgfl : gf < wr.heap.size := (hofj.lt gf rfl).2
              have HOJ : Hid (wr.ownsRow w2.heap.size 3 1 u6 Nl ((L ++ List.replicate j none).map fun x => i64v (gapI x))) := by rw [← hNl] at hownj; exact hownj
              clear hownj hNl
              subst hul
              by_cases hlt4 : Nl < pl
              · go_wp2_with (first
                  | (at_builtin; refine wpList_append_lies _ rfl _ _ 63 rfl w2.heap.size 3 i1 (.int .i64 0) 1 8 Tryz.underlying63 hi1 hy0 hy1 hy2 rfl (by decide) (.slice al Nl cl) Nl ((L ++ List.replicate j none).map fun x => i64v (gapI x)) rfl (HOJ.out.alloc _) ⟨wr.heap.size, 0, none⟩ 1 1 [.int .i64 (-1)] rfl rfl (cell_one_new _ _ _) (fun x hx => by simp at hx; subst hx; rfl) (by omega) (by unfold maxLen; omega) (by omega) (by simp; omega) (wr.heap.size + 1) (by simp) ?_; intro g5 cap5 w5 hown5 hgrow5 hat5 hlt5
                     have hb5 : Below w2.heap.size w2 w5 := Below.grown (hbj.alloc hbjs _) hgrow5 (by simp; omega) (fun k hk => (HOJ.out.lt _ hk).1)
                     have hof5 : w5.ownsRow gf 3 1 (.slice (some ⟨gf, 0, none⟩) y.length cf) y.length (y.map fun x => i64v (gapI x)) := owns_of hofj (fun g hg => by
                       have hgg : g = gf := by simpa [Value.ownBlock] using hg.symm
                       subst hgg
                       rw [hgrow5.block g (by simp; omega) (fun e => hnej g e.symm rfl), Below.heap_alloc _ _ _ hgfl])
                     have hne5 : ∀ g, (Value.slice (some ⟨g5, 0, none⟩) (Nl + 1) cap5).ownBlock = some g → g ≠ gf := fun g hg => by
                       have hgg : g5 = g := by simpa [Value.ownBlock] using hg
                       subst hgg
                       rcases hat5 with h | h
                       · exact hnej _ h
                       · omega))
                refine ⟨⟨j + 1, ?_, ?_, hb5, hof5, hne5⟩, ?_⟩
                · have := HNL.out; omega
                · have e : L ++ List.replicate (j + 1) none = (L ++ List.replicate j none) ++ [(none : Option UInt8)] := by rw [List.replicate_succ', List.append_assoc]
                  have e2 : (L ++ List.replicate (j + 1) (none : Option UInt8)).length = Nl + 1 := by have := HNL.out; simp; omega
                  rw [e2, e, List.map_append]
                  exact hown5
                · have := HNL.out; simp only [slen]; omega
              · have HPAD : Hid (L ++ List.replicate j none = P.padTo L pl) := by
                  unfold Hid P.padTo; congr 2; have := HNL.out; omega
                have HOP : Hid (wr.ownsRow w2.heap.size 3 1 (.slice al Nl cl) Nl ((P.padTo L pl).map fun x => i64v (gapI x))) := by
                  have := HOJ.out; rw [HPAD.out] at this; exact this
                have HPL : Hid ((P.padTo L pl ++ y).length = Nl + y.length) := by
                  unfold Hid; rw [List.length_append, ← HPAD.out]; have := HNL.out; simp; omega
                have hPl : Nl ≤ L.length + 32 := by have := HNL.out; omega
                have HYL2 := HYL.out
                have hyl32 : y.length ≤ 32 := by omega
                have hyl1 : 1 ≤ y.length := by omega
                have HNW : Hid (∀ k u, (y.map fun x => i64v (gapI x))[k]? = some u → wr.cell? ((⟨gf, 0, none⟩ : Addr).add k) = some u) := news_own hofj
                clear HYL2 HOJ HPAD
                go_wp2_with (first
                  | (at_builtin; refine wpList_append_lies _ rfl _ _ 63 rfl w2.heap.size 3 i1 (.int .i64 0) 1 8 Tryz.underlying63 hi1 hy0 hy1 hy2 rfl (by decide) (.slice al Nl cl) Nl ((P.padTo L pl).map fun x => i64v (gapI x)) rfl HOP.out ⟨gf, 0, none⟩ y.length cf (y.map fun x => i64v (gapI x)) rfl (by simp) HNW.out (fun x hx => by obtain ⟨z, _, rfl⟩ := List.mem_map.1 hx; rfl) (by omega) (by unfold maxLen; omega) (by omega) (by omega) wr.heap.size rfl ?_; intro g5 cap5 w5 hown5 hgrow5 hat5 hlt5
                     have hb5 : Below w2.heap.size w2 w5 := Below.grown hbj hgrow5 hbjs (fun k hk => (HOP.out.lt _ hk).1)))
                refine ⟨⟨q + 1, P.padTo L pl ++ y, by omega, by go_num, HN2, ?_, ?_, hb5⟩, by simp [intOf]; omega⟩
                · rw [HPL.out]; omega
                · rw [HPL.out, List.map_append]; exact hown5
          · have HE : Hid (P.lieP (n + 1) (.inr ts) s.data.toList = none) := by
              unfold Hid; rw [HR.out, HI.out, P.drop_at' HITQ.out, hy]; rfl
            clear hy
            go_wp2_with fail
            go_ret2
            exact LiePost.no HE.out rfl (hbw.trans (hbe3.mono (by have := hbw.size; omega)))
        · have hqe : q = N := by omega
          have HFIN : Hid (P.lieP (n + 1) (.inr ts) s.data.toList = some (P.padTo L Z)) := by
            unfold Hid
            have hl : (List.zip (List.zipWith (P.lieP n) ts ps) (P.places (0, 1) (ts.map (P.sz n)))).length ≤ q := by
              rw [List.length_zip, List.length_zipWith]
              have := HNT.out; have := HNE.out; omega
            rw [HR.out, HI.out, List.drop_eq_nil_of_le hl]; rfl
          clear hqe HI
          have hown0 : wr.ownsRow w2.heap.size 3 1 u6 (L ++ List.replicate 0 none).length ((L ++ List.replicate 0 none).map fun x => i64v (gapI x)) := by simpa using hown
          clear hown
          go_wp2_with fail
          go_loopw [6] (fun l wq => ∃ (j : Nat), j ≤ Z - L.length ∧ wq.ownsRow w2.heap.size 3 1 l (L ++ List.replicate j none).length ((L ++ List.replicate j none).map fun x => i64v (gapI x)) ∧ Below w2.heap.size w2 wq) (fun l _ => Z - slen l)
          case atStart => exact ⟨0, by omega, hown0, hb2⟩
          case round =>
            clear hown0 hb2 hb2s hbw hbxr c0 c1 c2 c3 c4
            obtain ⟨j, hj, hownj, hbj⟩ := hrel
            have hbwj : Below w.heap.size w wr := hbe'.trans (hbj.mono (by omega))
            have hbxj : wr.heap[w.heap.size]? = some (.cells #[.int .u8 123, .int .i64 Z, .int .i64 Z2, .slice (some ⟨gF, 0, none⟩) NT capF, .slice (some ⟨gA, 0, none⟩) NT capA] 121 (0, 0)) := by rw [hbj.block _ hw2]; exact hbx
            obtain ⟨c0, c1, c2, c3, c4⟩ := cells5 hbxj
            obtain ⟨al, Nl, cl, hul⟩ := owns_form hownj
            have hNl : Nl = (L ++ List.replicate j none).length := by
              rcases hownj.2 with ⟨h, h'⟩ | ⟨g, cap', cur, h, _⟩
              · rw [hul] at h; cases h; omega
              · rw [hul] at h; cases h; rfl
            have HNL : Hid (Nl = L.length + j) := by unfold Hid; simpa using hNl
            have hNlb : Nl ≤ 1000 := by have := HNL.out; omega
            have hbjs := hbj.size
            have HOJ : Hid (wr.ownsRow w2.heap.size 3 1 u6 Nl ((L ++ List.replicate j none).map fun x => i64v (gapI x))) := by rw [← hNl] at hownj; exact hownj
            clear hownj hNl
            subst hul
            by_cases hlt4 : Nl < Z
            · go_wp2_with (first
                | (at_builtin; refine wpList_append_lies _ rfl _ _ 63 rfl w2.heap.size 3 i1 (.int .i64 0) 1 8 Tryz.underlying63 hi1 hy0 hy1 hy2 rfl (by decide) (.slice al Nl cl) Nl ((L ++ List.replicate j none).map fun x => i64v (gapI x)) rfl (HOJ.out.alloc _) ⟨wr.heap.size, 0, none⟩ 1 1 [.int .i64 (-1)] rfl rfl (cell_one_new _ _ _) (fun x hx => by simp at hx; subst hx; rfl) (by omega) (by unfold maxLen; omega) (by omega) (by simp; omega) (wr.heap.size + 1) (by simp) ?_; intro g5 cap5 w5 hown5 hgrow5 hat5 hlt5
                   have hb5 : Below w2.heap.size w2 w5 := Below.grown (hbj.alloc hbjs _) hgrow5 (by simp; omega) (fun k hk => (HOJ.out.lt _ hk).1)))
              refine ⟨⟨j + 1, ?_, ?_, hb5⟩, ?_⟩
              · have := HNL.out; omega
              · have e : L ++ List.replicate (j + 1) none = (L ++ List.replicate j none) ++ [(none : Option UInt8)] := by rw [List.replicate_succ', List.append_assoc]
                have e2 : (L ++ List.replicate (j + 1) (none : Option UInt8)).length = Nl + 1 := by have := HNL.out; simp; omega
                rw [e2, e, List.map_append]
                exact hown5
              · have := HNL.out; simp only [slen]; omega
            · have HPAD : Hid (L ++ List.replicate j none = P.padTo L Z) := by
                unfold Hid P.padTo; congr 2; have := HNL.out; omega
              have HOP : Hid (wr.ownsRow w2.heap.size 3 1 (.slice al Nl cl) (P.padTo L Z).length ((P.padTo L Z).map fun x => i64v (gapI x))) := by
                have := HOJ.out
                rw [HPAD.out] at this
                have e : (P.padTo L Z).length = Nl := by rw [← HPAD.out]; have := HNL.out; simp; omega
                rw [e]; exact this
              clear HPAD
              go_wp2_with fail
              go_ret2
              exact LiePost.yes HFIN.out rfl (own_base HOP.out (by omega)) hbwj
    · have HR : Hid (P.lieP (n + 1) (.inr ts) s.data.toList = none) := by
        unfold Hid; rw [HL.out, hcut, Option.bind_some, P.lieS, if_neg (by have := HNT.out; omega)]
      have hneb : ((N : Int) != (NT : Int)) = true := by rw [bne_iff_ne]; omega
      clear hcut hne hN hlen hss hown' HL
      go_wp2_with fail
      go_ret2
      exact LiePost.no HR.out rfl hbe'

theorem lie_leaf (n : Nat) (l : Bool × Nat) (s : ByteArray) (w : World) (h : 1 ≤ l.2 ∧ l.2 ≤ 16) (hs : s.size ≤ 1099511627776) : Calls Tryz.prog 158 #[typV l, .string s] w fun e w' => LiePost (P.lieLeaf l s.data.toList) w e w' := by
  obtain ⟨b, k⟩ := l
  cases b with
  | true => exact lie_num k s w h.2 (by unfold maxLen; omega)
  | false => exact lie_bytes k s w h.2 (by unfold maxLen; omega)
theorem lie_all (n : Nat) : LIE n := by
  induction n with
  | zero =>
    intro t v S s w hsm hT hS hs
    have hv : v = typV t := hT
    subst hv
    exact lie_leaf 0 t s w hsm hs
  | succ n ih =>
    intro t v S s w hsm hT hS hs
    cases t with
    | inl l =>
      have hv : v = typV l := hT
      subst hv
      exact lie_leaf (n + 1) l s w hsm hs
    | inr ts => exact lie_struct ih ts v S s w hsm hT hS hs
end Go.Proofs.YtghggcehloiemabGreatDoor
namespace Go.Proofs.YtghggcehloiemabGreatDoor
open Go.RowKit
set_option linter.unusedVariables false
set_option maxRecDepth 16000

namespace P
/-- The type that a text is, by the reference. -/
def rtyOf (l : List UInt8) : Option (Ty 4) := if 80 < l.length then none else rp 4 l
end P

set_option maxHeartbeats 1000000 in
theorem rParse_any (s : ByteArray) (w : World) (hs : s.size ≤ maxLen) :
    Calls Tryz.prog 74 #[.string s] w fun e w' => RpPost 4 (P.rtyOf s.data.toList) w e w' := by
  unfold maxLen at hs
  have hl := tl_len s
  by_cases hlong : 80 < s.size
  · have HT : Hid (P.rtyOf s.data.toList = none) := by unfold Hid P.rtyOf; rw [if_pos (by omega)]
    go_enter Tryz.func74, Tryz.ntmps74
    go_wp2_with fail
    refine bodyPost_ret (v := .tuple #[zeroTyp, .bool false]) (by simp [results, Tryz.results74, go_sem, zeroTyp]) rfl ?_
    exact RpPost.no HT.out rfl isTyp_zero ((Below.refl _ _).alloc (Nat.le_refl _) _)
  · have HT : Hid (P.rtyOf s.data.toList = P.rp 4 s.data.toList) := by unfold Hid P.rtyOf; rw [if_neg (by omega)]
    go_enter Tryz.func74, Tryz.ntmps74
    go_wp2_with fail
    refine (rparse_all 4 0 s _ rfl (by omega)).mono ?_
    rintro e w2 ⟨hpost, hbe⟩
    have hres : w2.heap[w.heap.size]? = some (.cells #[.int .u8 0, .int .i64 0, .int .i64 0, .slice none 0 0, .slice none 0 0] 121 (0, 0)) := by
      rw [hbe.block _ (by simp)]; exact heap_alloc_new _ _
    obtain ⟨c0, c1, c2, c3, c4⟩ := cells5a hres
    have cf := froz5a hres
    have hsz := hbe.size
    simp at hsz
    have hbw : Below w.heap.size w w2 := ((Below.refl _ _).alloc (Nat.le_refl _) _).trans (hbe.mono (by simp))
    clear hres
    cases hr : P.rp 4 s.data.toList with
    | none =>
      rw [hr] at hpost
      obtain ⟨v, rfl, a1, a2, a3, x', n1, k1, y, m1, j1, rfl⟩ := hpost
      have HR : Hid (P.rp 4 s.data.toList = none) := hr
      clear hr
      go_wp2_with fail
      refine bodyPost_ret (v := .tuple #[.agg #[.int .u8 a1, .int .i64 a2, .int .i64 a3, .slice x' n1 k1, .slice y m1 j1], .bool false]) (by simp [results, Tryz.results74, go_sem, c0, c1, c2, c3, c4]) rfl ?_
      exact RpPost.no (by rw [HT.out, HR.out]) rfl ⟨_, _, _, _, _, _, _, _, _, rfl⟩ (Below.setCell (Below.setCell (Below.setCell (Below.setCell (Below.setCell (hbw.alloc (by omega) _) (Nat.le_refl _) _) (Nat.le_refl _) _) (Nat.le_refl _) _) (Nat.le_refl _) _) (Nat.le_refl _) _)
    | some t =>
      rw [hr] at hpost
      obtain ⟨v, S, rfl, hT, hS⟩ := hpost
      obtain ⟨a1, x', n1, k1, y, m1, j1, rfl⟩ := hT.is
      obtain ⟨fs, hfs⟩ : ∃ fs, (P.sz 4 t).1 = fs := ⟨_, rfl⟩
      obtain ⟨fp, hfp⟩ : ∃ fp, (P.sz 4 t).2 = fp := ⟨_, rfl⟩
      rw [hfs, hfp] at hT ⊢
      have HR : Hid (P.rp 4 s.data.toList = some t) := hr
      clear hr hfs hfp
      go_wp2_with fail
      have hh5 := set5_heap (w2.alloc (.cells #[.int .u8 a1, .int .i64 fs, .int .i64 fp, .slice x' n1 k1, .slice y m1 j1] 121)) w.heap.size (.int .u8 a1) (.int .i64 fs) (.int .i64 fp) (.slice x' n1 k1) (.slice y m1 j1)
      refine bodyPost_ret (v := .tuple #[.agg #[.int .u8 a1, .int .i64 fs, .int .i64 fp, .slice x' n1 k1, .slice y m1 j1], .bool true]) (by simp [results, Tryz.results74, go_sem, c0, c1, c2, c3, c4]) rfl ?_
      refine RpPost.yes (S := S) (t := t) (by rw [HT.out, HR.out]) rfl (hT.of (fun g hg => ?_) (fun g hg => hg)) (fun g hg => ?_) (Below.setCell (Below.setCell (Below.setCell (Below.setCell (Below.setCell (hbw.alloc (by omega) _) (Nat.le_refl _) _) (Nat.le_refl _) _) (Nat.le_refl _) _) (Nat.le_refl _) _) (Nat.le_refl _) _)
      · have hg' := hS g hg
        simp at hg'
        rw [hh5.1 g (by omega), Below.heap_alloc _ _ _ hg'.2]
      · have hg' := hS g hg
        simp at hg'
        rw [hh5.2]; simp; omega

end Go.Proofs.YtghggcehloiemabGreatDoor
namespace Go.Proofs.YtghggcehloiemabGreatDoor
open Go.RowKit
set_option linter.unusedVariables false
set_option maxRecDepth 16000

namespace P
/-- One part of a value: how much of the text it takes, the bytes behind it. -/
def stepP (x : Pt) (l bs : List UInt8) : Option (Nat × List UInt8) :=
  if x.kind = 1 then (rdnum (256 ^ x.size - 1) l).map (fun y => (y.2, put bs x.place (le x.size y.1)))
  else if x.kind = 2 then (rdhex x.size l).map (fun xs => (2 * x.size, put bs x.place xs))
  else match l with
    | [] => none
    | c :: _ => if c.toNat = x.mark then some (1, bs) else none
def layAll : List Pt → List UInt8 → List UInt8 → Option (List UInt8 × List UInt8)
  | [], l, bs => some (l, bs)
  | x :: xs, l, bs => match stepP x l bs with
    | none => none
    | some (k, bs') => layAll xs (l.drop k) bs'
def PtOk (n : Nat) (x : Pt) : Prop := (x.kind = 1 ∧ x.mark = 0 ∧ 1 ≤ x.size ∧ x.size ≤ 4 ∧ x.place + x.size ≤ n) ∨ (x.kind = 2 ∧ x.mark = 0 ∧ 1 ≤ x.size ∧ x.size ≤ 16 ∧ x.place + x.size ≤ n) ∨ (x.kind = 0 ∧ x.mark < 256)
theorem stepP_length {x : Pt} {l bs bs' : List UInt8} {k : Nat} (hok : PtOk bs.length x) (h : stepP x l bs = some (k, bs')) : bs'.length = bs.length := by
  unfold stepP at h
  rcases hok with ⟨h1, _, _, _, h5⟩ | ⟨h1, _, _, _, h5⟩ | ⟨h1, _⟩
  · rw [if_pos h1] at h
    cases hr : rdnum (256 ^ x.size - 1) l with
    | none => rw [hr] at h; cases h
    | some y => rw [hr] at h; simp at h; obtain ⟨_, rfl⟩ := h; exact put_length _ _ _ (by rw [le_length]; omega)
  · rw [if_neg (by omega), if_pos h1] at h
    cases hr : rdhex x.size l with
    | none => rw [hr] at h; cases h
    | some y => rw [hr] at h; simp at h; obtain ⟨_, rfl⟩ := h; exact put_length _ _ _ (by rw [rdhex_length _ _ _ hr]; omega)
  · rw [if_neg (by omega), if_neg (by omega)] at h
    cases l with
    | nil => cases h
    | cons c r =>
      simp only at h
      split at h
      · cases h; rfl
      · cases h
end P

theorem hit_drop {s : ByteArray} {i : Nat} {m : UInt8} (h : hit s i m = true) : s.data.toList.drop i = m :: s.data.toList.drop (i + 1) := by
  have h' : s.data.toList[i]? = some m := by simpa [hit] using h
  obtain ⟨hl, he⟩ := List.getElem?_eq_some_iff.1 h'
  rw [List.drop_eq_getElem_cons hl, he]

def LPost (o : Option (Nat × List UInt8)) (s : ByteArray) (i b : Nat) (v : Value) (w : World) (e : Ending) (w' : World) : Prop :=
  (match o with
    | some (k, bs') => e = .returned (.bool true) ∧ Wr w' b s (i + k) v bs'
    | none => e = .returned (.bool false)) ∧ Below b w w'

theorem wlay_skip {b i : Nat} {s : ByteArray} {w : World} {v : Value} {bs : List UInt8} (m : UInt8) (pl sz : Nat) (h : Wr w b s i v bs) :
    Calls Tryz.prog 131 #[.pointer (some ⟨b, 0, none⟩), .int .u8 m.toNat] ((w.alloc (.cells #[.int .i64 0, .int .u8 m.toNat, .int .i64 pl, .int .i64 sz] 145)).drew) fun e w' => ∃ z, e = .returned (.bool z) ∧ LPost (P.stepP ⟨0, m.toNat, pl, sz⟩ (s.data.toList.drop i) bs) s i b v w e w' ∧ w'.cell? ⟨w.heap.size, 1, none⟩ = some (.int .u8 m.toNat) := by
  have hbl := h.cur.lt
  have hwb := h.below ((Below.refl _ _).alloc (Nat.le_refl w.heap.size) (.cells #[.int .i64 0, .int .u8 m.toNat, .int .i64 pl, .int .i64 sz] 145))
  have hbe1 : Below b w (w.alloc (.cells #[.int .i64 0, .int .u8 m.toNat, .int .i64 pl, .int .i64 sz] 145)) := (Below.refl _ _).alloc (by omega) _
  have hbox : ∀ w', Only b ((w.alloc (.cells #[.int .i64 0, .int .u8 m.toNat, .int .i64 pl, .int .i64 sz] 145)).drew) w' → w'.cell? ⟨w.heap.size, 1, none⟩ = some (.int .u8 m.toNat) := by
    intro w' ho
    have hh : w'.heap[w.heap.size]? = some (.cells #[.int .i64 0, .int .u8 m.toNat, .int .i64 pl, .int .i64 sz] 145 (0, 0)) := by
      rw [ho.block _ (by omega)]; exact heap_alloc_new w _
    exact (cells4 hh).2.1
  by_cases hh : hit s i m = true
  · refine (skip_yes (v := v) (T := 143) (by exact hwb.cur) h.long hh).mono ?_
    rintro e w' ⟨rfl, hi, hc, ho⟩
    refine ⟨true, rfl, ⟨?_, hbe1.trans ((⟨ho.os, ho.tape, ho.output, ho.size, ho.block⟩ : Only b (w.alloc _) w').below (Nat.le_refl _))⟩, hbox w' ho⟩
    rw [hit_drop hh]
    simp only [P.stepP]
    rw [if_neg (by omega), if_neg (by omega), if_pos trivial]
    exact ⟨trivial, hwb.only hc ⟨ho.os, ho.tape, ho.output, ho.size, ho.block⟩ hi⟩
  · refine (skip_no (v := v) (T := 143) (by exact hwb.cur) (by simpa using hh)).mono ?_
    rintro e w' ⟨rfl, hc, ho⟩
    refine ⟨false, rfl, ⟨?_, hbe1.trans ((⟨ho.os, ho.tape, ho.output, ho.size, ho.block⟩ : Only b (w.alloc _) w').below (Nat.le_refl _))⟩, hbox w' ho⟩
    have hn : P.stepP ⟨0, m.toNat, pl, sz⟩ (s.data.toList.drop i) bs = none := by
      simp only [P.stepP]
      rw [if_neg (by omega), if_neg (by omega)]
      cases hl : s.data.toList.drop i with
      | nil => rfl
      | cons c r =>
        simp only
        rw [if_neg]
        intro hcm
        apply hh
        have : s.data.toList[i]? = some c := by
          have h0 : (s.data.toList.drop i)[0]? = some c := by rw [hl]; rfl
          rwa [List.getElem?_drop, Nat.add_zero] at h0
        simp [hit, this, UInt8.toNat_inj.1 hcm]
    rw [hn]

set_option maxHeartbeats 1000000 in
theorem wlay_any {b i : Nat} {s : ByteArray} {w : World} {v : Value} {bs : List UInt8} (x : P.Pt) (h : Wr w b s i v bs) (hok : P.PtOk bs.length x) :
    Calls Tryz.prog 89 #[.pointer (some ⟨b, 0, none⟩), .agg #[.int .i64 x.kind, .int .u8 x.mark, .int .i64 x.place, .int .i64 x.size]] w fun e w' => LPost (P.stepP x (s.data.toList.drop i) bs) s i b v w e w' := by
  have hbl := h.cur.lt
  obtain ⟨kd, mk, pl, sz⟩ := x
  have hwb := h.below ((Below.refl _ _).alloc (Nat.le_refl w.heap.size) (.cells #[.int .i64 kd, .int .u8 mk, .int .i64 pl, .int .i64 sz] 145))
  have hbe1 : Below b w (w.alloc (.cells #[.int .i64 kd, .int .u8 mk, .int .i64 pl, .int .i64 sz] 145)) := (Below.refl _ _).alloc (by omega) _
  rcases hok with ⟨h1, h2, h3, h4, h5⟩ | ⟨h1, h2, h3, h4, h5⟩ | ⟨h1, h2⟩
  · simp only at h1 h2 h3 h4 h5
    subst h1 h2
    go_enter Tryz.func89, Tryz.ntmps89
    go_wp2_with fail
    refine (layNumber_any sz pl 1 hwb h3 h4 h5).mono ?_
    rintro e w2 ⟨hpost, hbe⟩
    have hfin : LPost (P.stepP ⟨1, 0, pl, sz⟩ (s.data.toList.drop i) bs) s i b v w e w2 := by
      refine ⟨?_, hbe1.trans hbe⟩
      simp only [P.stepP, if_true]
      cases hr : P.rdnum (256 ^ sz - 1) (s.data.toList.drop i) with
      | none => rw [hr] at hpost; exact hpost
      | some y => rw [hr] at hpost; exact hpost
    obtain ⟨z, rfl⟩ : ∃ z, e = .returned (.bool z) := by
      cases hr : P.rdnum (256 ^ sz - 1) (s.data.toList.drop i) with
      | none => rw [hr] at hpost; exact ⟨_, hpost⟩
      | some y => rw [hr] at hpost; exact ⟨_, hpost.1⟩
    have HF : Hid _ := hfin
    clear hfin hpost
    go_wp2_with fail
    go_ret
    exact HF.out
  · simp only at h1 h2 h3 h4 h5
    subst h1 h2
    go_enter Tryz.func89, Tryz.ntmps89
    go_wp2_with fail
    refine (layBytes_any sz pl 2 hwb h3 h4 h5).mono ?_
    rintro e w2 ⟨hpost, hbe⟩
    have hfin : LPost (P.stepP ⟨2, 0, pl, sz⟩ (s.data.toList.drop i) bs) s i b v w e w2 := by
      refine ⟨?_, hbe1.trans hbe⟩
      simp only [P.stepP]
      rw [if_neg (by omega), if_pos trivial]
      cases hr : P.rdhex sz (s.data.toList.drop i) with
      | none => rw [hr] at hpost; exact hpost
      | some y => rw [hr] at hpost; exact hpost
    obtain ⟨z, rfl⟩ : ∃ z, e = .returned (.bool z) := by
      cases hr : P.rdhex sz (s.data.toList.drop i) with
      | none => rw [hr] at hpost; exact ⟨_, hpost⟩
      | some y => rw [hr] at hpost; exact ⟨_, hpost.1⟩
    have HF : Hid _ := hfin
    clear hfin hpost
    go_wp2_with fail
    go_ret
    exact HF.out
  · simp only at h1 h2
    subst h1
    obtain ⟨m, hm⟩ : ∃ m : UInt8, m.toNat = mk := ⟨UInt8.ofNat mk, by simp; omega⟩
    subst hm
    go_enter Tryz.func89, Tryz.ntmps89
    go_wp2_with fail
    go_region_held3 (fun w' => w'.cell? ⟨w.heap.size, 1, none⟩ = some (.int .u8 m.toNat)) (first | (simp [go_sem]; done) | (exact hkk)) (first | (go_at_call 131; refine (wlay_skip (bs := bs) m pl sz h).mono ?_; rintro e w1 ⟨z, rfl, hp1, hkk⟩))
    go_wp2_with fail
    go_ret
    exact hp1
end Go.Proofs.YtghggcehloiemabGreatDoor
