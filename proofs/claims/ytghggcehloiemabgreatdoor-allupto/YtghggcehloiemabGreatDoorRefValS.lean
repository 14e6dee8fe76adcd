import Derived.Test.YtghggcehloiemabGreatDoorValPAll
import Derived.Deep.RegionHeld3
import Derived.Deep.DrawnRows
namespace Go.Proofs.YtghggcehloiemabGreatDoor
open Go.RowKit
set_option linter.unusedVariables false
set_option maxRecDepth 16000

namespace P
def vals (n : Nat) (ts : List (Ty n)) (b : List UInt8) : List (List UInt8) := List.zipWith (fun t p => valueP n t (sub b p (sz n t).1)) ts (places (0, 1) (ts.map (sz n)))
theorem valueP_struct {n : Nat} (ts : List (Ty n)) (b : List UInt8) : valueP (n + 1) (.inr ts) b = 123 :: commas true (vals n ts b) ++ [125] := by
  simp only [valueP, vals]
theorem vals_at {n : Nat} {ts : List (Ty n)} (b : List UInt8) (hsm : Sm (n + 1) (.inr ts)) {q : Nat} {t : Ty n} (h : ts[q]? = some t) : ∃ pl, (places (0, 1) (ts.map (sz n)))[q]? = some pl ∧ pl + (sz n t).1 ≤ (sz (n + 1) (.inr ts)).1 ∧ (vals n ts b)[q]? = some (valueP n t (sub b pl (sz n t).1)) := by
  obtain ⟨hz32, ht8, htne, hkids⟩ := hsm
  have hst : ∀ x ∈ ts.map (sz n), 1 ≤ x.2 ∧ x.2 ≤ 4 := by
    intro x hx
    obtain ⟨t, ht, rfl⟩ := List.mem_map.1 hx
    exact (hkids t ht).2
  have hq : q < (places (0, 1) (ts.map (sz n))).length := by
    rw [places_length]; simpa using (List.getElem?_eq_some_iff.1 h).1
  refine ⟨_, List.getElem?_eq_getElem hq, ?_, ?_⟩
  · have h3 := places_end (ts.map (sz n)) (0, 1) hst (by simp) (by simp) q (sz n t) _ (by rw [List.getElem?_map, h]; rfl) (List.getElem?_eq_getElem hq)
    obtain ⟨g1, _, _⟩ := fold_step hst (0, 1) (by simp) (by simp)
    have hup := le_up (fold (ts.map (sz n))).1 (fold (ts.map (sz n))).2 g1
    simp only [sz, closed]
    exact Nat.le_trans h3 hup
  · unfold vals
    rw [List.getElem?_zipWith, h, List.getElem?_eq_getElem hq]
theorem commas_len {M : Nat} : ∀ (l : List (List UInt8)) (f : Bool), (∀ x ∈ l, x.length ≤ M) → (commas f l).length ≤ l.length * (M + 1) := by
  intro l
  induction l with
  | nil => intro f _; simp [commas]
  | cons x l ih =>
    intro f h
    have h1 := h x (by simp)
    have h2 := ih false (fun y hy => h y (by simp [hy]))
    simp only [commas, List.length_append, List.length_cons, Nat.add_mul, Nat.one_mul]
    have : (if f = true then ([] : List UInt8) else [44]).length ≤ 1 := by cases f <;> simp
    rw [Nat.mul_add, Nat.mul_one] at h2
    rw [Nat.mul_add, Nat.mul_one]
    omega
theorem sub_length (b : List UInt8) (p k : Nat) (h : p + k ≤ b.length) : (sub b p k).length = k := by
  unfold sub; simp; omega
theorem leaf_len {l : Bool × Nat} {b : List UInt8} (h : 1 ≤ l.2 ∧ l.2 ≤ 16) (h4 : l.1 = true → l.2 ≤ 4) (hb : b.length = l.2) : (valLeaf l b).length ≤ 64 := by
  unfold valLeaf
  split
  · rename_i h1
    have hle := leval_lt b
    have h2 : 256 ^ b.length ≤ 256 ^ 4 := Nat.pow_le_pow_right (by omega) (by have := h4 h1; omega)
    have := Lib.itoa_length_le ((leval b : Nat) : Int) (by omega) (by omega)
    rw [Lib.itoa_nonneg] at this
    omega
  · rw [hexT_length]; omega
theorem val_len : ∀ (n : Nat) (t : Ty n) (b : List UInt8), Sm n t → Nm n t → b.length = (sz n t).1 → (valueP n t b).length ≤ 64 * 16 ^ n := by
  intro n
  induction n with
  | zero => intro t b hs hn hb; exact leaf_len hs hn hb
  | succ n ih =>
    intro t b hs hn hb
    have hp : 0 < 16 ^ n := Nat.pow_pos (by omega)
    cases t with
    | inl l =>
      have := leaf_len (l := l) (b := b) hs hn hb
      rw [Nat.pow_succ]
      show (valLeaf l b).length ≤ _
      omega
    | inr ts =>
      have hv : ∀ x ∈ vals n ts b, x.length ≤ 64 * 16 ^ n := by
        intro x hx
        obtain ⟨q, hq, he⟩ := List.getElem_of_mem hx
        have hq2 : q < ts.length := by unfold vals at hq; rw [List.length_zipWith] at hq; omega
        obtain ⟨pl, _, hle, hat⟩ := vals_at b hs (List.getElem?_eq_getElem hq2)
        rw [List.getElem?_eq_getElem hq, he] at hat
        cases hat
        have hm := List.getElem_mem hq2
        exact ih _ _ (hs.2.2.2 _ hm).1 (hn _ hm) (sub_length _ _ _ (by omega))
      have h1 := commas_len (vals n ts b) true hv
      have h2 : (vals n ts b).length ≤ 8 := by unfold vals; rw [List.length_zipWith]; have := hs.2.1; omega
      have h3 := Nat.mul_le_mul_right (64 * 16 ^ n + 1) h2
      rw [valueP_struct, Nat.pow_succ]
      simp only [List.length_cons, List.length_append, List.length_nil]
      omega
end P

theorem wrap_sum (x : Int) (h0 : 0 ≤ x) (h1 : x ≤ 1000) : IntKind.i64.wrap x = x := by
  simp only [IntKind.wrap, IntKind.signed, IntKind.bits]
  simp
  omega
theorem sub_ext (s : ByteArray) (p k : Nat) : (s.extract p (p + k)).data.toList = P.sub s.data.toList p k := by
  unfold P.sub
  rw [ByteArray.data_extract]
  simp
theorem keep8 {wr w3 : World} {b0 b1 b2 o0 p0 o1 o2 o3 o4 o5 o6 : Nat} {v0 z0 v1 v2 v3 v4 v5 v6 : Value} (h : Below wr.drew.heap.size wr.drew w3) (h0 : wr.cell? ⟨b0, o0, none⟩ = some v0) (g0 : wr.cell? ⟨b0, p0, none⟩ = some z0) (h1 : wr.cell? ⟨b1, o1, none⟩ = some v1) (h2 : wr.cell? ⟨b1, o2, none⟩ = some v2) (h3 : wr.cell? ⟨b1, o3, none⟩ = some v3) (h4 : wr.cell? ⟨b1, o4, none⟩ = some v4) (h5 : wr.cell? ⟨b1, o5, none⟩ = some v5) (h6 : wr.cell? ⟨b2, o6, none⟩ = some v6) :
    w3.cell? ⟨b0, o0, none⟩ = some v0 ∧ w3.cell? ⟨b0, p0, none⟩ = some z0 ∧ w3.cell? ⟨b1, o1, none⟩ = some v1 ∧ w3.cell? ⟨b1, o2, none⟩ = some v2 ∧ w3.cell? ⟨b1, o3, none⟩ = some v3 ∧ w3.cell? ⟨b1, o4, none⟩ = some v4 ∧ w3.cell? ⟨b1, o5, none⟩ = some v5 ∧ w3.cell? ⟨b2, o6, none⟩ = some v6 := by
  have key : ∀ a v, wr.cell? a = some v → w3.cell? a = some v := fun a v hv => by
    have hl := World.block_lt_of_cell? wr a hv
    exact (h.cell (p := a) hl).trans hv
  exact ⟨key _ _ h0, key _ _ g0, key _ _ h1, key _ _ h2, key _ _ h3, key _ _ h4, key _ _ h5, key _ _ h6⟩

def VAL (n : Nat) : Prop := ∀ (t : P.Ty n) (v : Value) (S : Nat → Prop) (s : ByteArray) (w : World), P.Sm n t → P.Nm n t → TypAt w n t v S → (∀ g, S g → g < w.heap.size) → s.size = (P.sz n t).1 → n ≤ 4 →
  Calls Tryz.prog 149 #[v, .string s] w fun e w' => e = .returned (.string ⟨(P.valueP n t s.data.toList).toArray⟩) ∧ Below w.heap.size w w'

set_option maxHeartbeats 4000000 in
theorem value_struct {n : Nat} (hIH : VAL n) (ts : List (P.Ty n)) (v : Value) (S : Nat → Prop) (s : ByteArray) (w : World) (hsm : P.Sm (n + 1) (.inr ts)) (hnm : P.Nm (n + 1) (.inr ts)) (hT : TypAt w (n + 1) (.inr ts) v S) (hS : ∀ g, S g → g < w.heap.size) (hs : s.size = (P.sz (n + 1) (.inr ts)).1) (hn4 : n + 1 ≤ 4) :
    Calls Tryz.prog 149 #[v, .string s] w fun e w' => e = .returned (.string ⟨(P.valueP (n + 1) (.inr ts) s.data.toList).toArray⟩) ∧ Below w.heap.size w w' := by
  have HV : Hid (∀ (q : Nat) (t : P.Ty n), ts[q]? = some t → ∃ pl, (P.places (0, 1) (ts.map (P.sz n)))[q]? = some pl ∧ pl + (P.sz n t).1 ≤ (P.sz (n + 1) (.inr ts)).1 ∧ (P.vals n ts s.data.toList)[q]? = some (P.valueP n t (P.sub s.data.toList pl (P.sz n t).1))) := fun q t h => P.vals_at _ hsm h
  have hVl : (P.vals n ts s.data.toList).length = ts.length := by unfold P.vals; rw [List.length_zipWith, P.places_length]; simp
  obtain ⟨hz32, ht8, htne, hkids⟩ := hsm
  obtain ⟨vF, vA, fs, rfl, hF, hA, hfl, hfk⟩ := hT
  obtain ⟨Z, hZ⟩ : ∃ Z, (P.sz (n + 1) (.inr ts)).1 = Z := ⟨_, rfl⟩
  obtain ⟨Z2, hZ2⟩ : ∃ Z2, (P.sz (n + 1) (.inr ts)).2 = Z2 := ⟨_, rfl⟩
  rw [hZ] at HV hz32 hs
  rw [hZ, hZ2]
  have hpos : 0 < ts.length := List.length_pos_iff.2 htne
  obtain ⟨gF, capF, hvF, _, hgF⟩ := hF.1.form hpos
  obtain ⟨gA, capA, hvA, _, hgA⟩ := hA.1.form hpos
  obtain ⟨NT, hNT⟩ : ∃ NT, NT = ts.length := ⟨_, rfl⟩
  rw [← hNT] at hvF hvA
  subst hvF hvA
  have HNT : Hid (NT = ts.length) := hNT
  have HVL : Hid ((P.vals n ts s.data.toList).length = NT) := by unfold Hid; rw [hVl, hNT]
  have hNT8 : NT ≤ 8 := by omega
  have hall5 : ∀ x ∈ fs, x.size = 5 := by
    intro x hx
    obtain ⟨i, hi, he⟩ := List.getElem_of_mem hx
    have hi2 : i < ts.length := by omega
    exact (hfk i ts[i] x (List.getElem?_eq_getElem hi2) (by rw [List.getElem?_eq_getElem hi, he])).1
  have HALL : Hid (∀ x ∈ fs, x.size = 5) := hall5
  have HFR : Hid (w.ownsRow 0 121 5 (.slice (some ⟨gF, 0, none⟩) NT capF) ts.length (fs.flatMap Array.toList)) := hF.1
  have HAR : Hid (w.ownsRow 0 3 1 (.slice (some ⟨gA, 0, none⟩) NT capA) ts.length ((P.places (0, 1) (ts.map (P.sz n))).map fun x : Nat => Value.int .i64 (x : Int))) := hA.1
  have HFK : Hid (∀ (i : Nat) (t : P.Ty n) (c : Array Value), ts[i]? = some t → fs[i]? = some c → c.size = 5 ∧ TypAt w n t (.agg c) S) := hfk
  have HKD : Hid (∀ t ∈ ts, P.Sm n t ∧ P.Nm n t) := fun t ht => ⟨(hkids t ht).1, hnm t ht⟩
  have HFL : Hid (fs.length = ts.length) := hfl
  have HRES : Hid (P.valueP (n + 1) (.inr ts) s.data.toList = 123 :: P.commas true (P.vals n ts s.data.toList) ++ [125]) := P.valueP_struct ts _
  clear hall5 hF hA hfk hkids hfl htne hnm hVl hpos hNT hZ hZ2 ht8
  subst hs
  go_enter Tryz.func149, Tryz.ntmps149
  go_wp2_with fail
  go_loopw [5, 11] (fun o i wr => ∃ (q : Nat) (tb : ByteArray), q ≤ NT ∧ i = .int .i64 q ∧ o = .string tb ∧ tb.size ≤ q * 262145 ∧ Hid (tb.data.toList = P.commas true ((P.vals n ts s.data.toList).take q)) ∧ wr.heap[w.heap.size]? = some (.cells #[.int .u8 123, .int .i64 s.size, .int .i64 Z2, .slice (some ⟨gF, 0, none⟩) NT capF, .slice (some ⟨gA, 0, none⟩) NT capA] 121 (0, 0)) ∧ Below w.heap.size w wr) (fun _ i _ => NT - (intOf i).toNat)
  case atStart => exact ⟨0, ⟨#[]⟩, by omega, rfl, rfl, Nat.zero_le _, by simp [Hid, P.commas], heap_alloc_new w _, (Below.refl _ _).alloc (Nat.le_refl _) _⟩
  case round =>
    obtain ⟨q, tb, hq, rfl, rfl, htb, HI, hbx, hbw⟩ := hrel
    have hbs := hbw.size
    have hwl := blk_lt hbx
    obtain ⟨c0, c1, c2, c3, c4⟩ := cells5 hbx
    by_cases hlt : q < NT
    · obtain ⟨t, ht⟩ : ∃ t, ts[q]? = some t := ⟨_, List.getElem?_eq_getElem (by have := HNT.out; omega)⟩
      obtain ⟨c, hc⟩ : ∃ c, fs[q]? = some c := ⟨_, List.getElem?_eq_getElem (by have := HNT.out; have := HFL.out; omega)⟩
      obtain ⟨pl, hpl, hpl32, hit⟩ := HV.out q t ht
      obtain ⟨_, hTc⟩ := HFK.out q t c ht hc
      have hTr : TypAt wr n t (.agg c) S := hTc.of (fun g hg => hbw.block g (hS g hg)) (fun g hg => hg)
      obtain ⟨a0, x', n1, k1, y, m1, j1, hvv⟩ := hTc.is
      have hcc : c = #[.int .u8 a0, .int .i64 (P.sz n t).1, .int .i64 (P.sz n t).2, .slice x' n1 k1, .slice y m1 j1] := by injection hvv
      obtain ⟨f1, hf1⟩ : ∃ f1, (P.sz n t).1 = f1 := ⟨_, rfl⟩
      obtain ⟨f2, hf2⟩ : ∃ f2, (P.sz n t).2 = f2 := ⟨_, rfl⟩
      rw [hf1, hf2] at hcc
      rw [hf1] at hpl32 hit
      subst hcc
      obtain ⟨d0, d1, d2, d3, d4, hcF⟩ := typ_cell HFR.out HALL.out HFL.out hc
      rw [← hbw.cell (p := ⟨gF, q * 5, none⟩) hgF] at d0
      rw [← hbw.cell (p := ⟨gF, q * 5 + 1, none⟩) hgF] at d1
      rw [← hbw.cell (p := ⟨gF, q * 5 + 2, none⟩) hgF] at d2
      rw [← hbw.cell (p := ⟨gF, q * 5 + 3, none⟩) hgF] at d3
      rw [← hbw.cell (p := ⟨gF, q * 5 + 4, none⟩) hgF] at d4
      have hAl : ((P.places (0, 1) (ts.map (P.sz n))).map fun x : Nat => Value.int .i64 (x : Int)).length = ts.length := by rw [List.length_map, P.places_length, List.length_map]
      obtain ⟨p0, hcA⟩ := int_cell (i := q) (x := .int .i64 pl) (by rw [hAl]; exact HAR.out) (by rw [List.getElem?_map, hpl]; rfl)
      rw [← hbw.cell (p := ⟨gA, q, none⟩) hgA] at p0
      have HSMt : Hid (P.Sm n t ∧ P.Nm n t) := HKD.out t (List.mem_of_getElem? ht)
      have hqF : (q : Int) < (NT : Int) := by omega
      have h0q : (0 : Int) ≤ (q : Int) := by omega
      have hb1 : (0 : Int) ≤ (pl : Int) := by omega
      have hb2 : (pl : Int) ≤ (pl : Int) + (f1 : Int) := by omega
      have hb3 : (pl : Int) + (f1 : Int) ≤ (s.size : Int) := by omega
      have hwp : IntKind.i64.wrap ((pl : Int) + (f1 : Int)) = (pl : Int) + (f1 : Int) := wrap_sum _ (by omega) (by omega)
      obtain ⟨tx, htx⟩ : ∃ tx, P.valueP n t (P.sub s.data.toList pl f1) = tx := ⟨_, rfl⟩
      rw [htx] at hit
      have hxl : tx.length ≤ 262144 := by
        rw [← htx]
        have h1 := P.val_len n t (P.sub s.data.toList pl f1) HSMt.out.1 HSMt.out.2 (by rw [hf1]; exact P.sub_length _ _ _ (by simp; omega))
        have h2 : 16 ^ n ≤ 16 ^ 3 := Nat.pow_le_pow_right (by omega) (by omega)
        omega
      have hxs : (ByteArray.mk tx.toArray).size ≤ 262144 := by simpa [ByteArray.size] using hxl
      have HTK : Hid (P.commas true ((P.vals n ts s.data.toList).take (q + 1)) = P.commas true ((P.vals n ts s.data.toList).take q) ++ (if q = 0 then [] else [44]) ++ tx) := by
        unfold Hid
        rw [List.take_add_one, hit, Option.toList_some, P.commas_snoc]
        congr 2
        by_cases h0 : q = 0
        · rw [if_pos h0, if_pos ⟨rfl, by rw [h0]; rfl⟩]
        · rw [if_neg h0, if_neg]
          rintro ⟨_, h⟩
          have := congrArg List.length h
          rw [List.length_take, HVL.out] at this
          simp at this
          omega
      have hcont : ∀ wx, wx.heap = wr.heap → Calls Tryz.prog 149 #[.agg #[.int .u8 a0, .int .i64 f1, .int .i64 f2, .slice x' n1 k1, .slice y m1 j1], .string (s.extract pl (pl + f1))] wx fun e w' => e = .returned (.string ⟨tx.toArray⟩) ∧ Below wx.heap.size wx w' := by
        intro wx hwx
        have hh := hIH t _ S (s.extract pl (pl + f1)) wx HSMt.out.1 HSMt.out.2 (hTr.of (w' := wx) (fun g hg => by rw [hwx]) (fun g hg => hg)) (fun g hg => by rw [hwx]; have := hS g hg; omega) (by rw [hf1]; simp; omega) (by omega)
        rw [sub_ext, htx] at hh
        exact hh
      have HCT : Hid _ := hcont
      clear hcont ht hc hpl hit hTr hTc hvv hf1 hf2 htx hAl
      go_wp2_with fail
      go_region_held3 (fun w' => w'.cell? ⟨w.heap.size, 3, none⟩ = some (.slice (some ⟨gF, 0, none⟩) NT capF) ∧ w'.cell? ⟨w.heap.size, 4, none⟩ = some (.slice (some ⟨gA, 0, none⟩) NT capA) ∧ w'.cell? ⟨gF, q * 5, none⟩ = some (.int .u8 a0) ∧ w'.cell? ⟨gF, q * 5 + 1, none⟩ = some (.int .i64 f1) ∧ w'.cell? ⟨gF, q * 5 + 2, none⟩ = some (.int .i64 f2) ∧ w'.cell? ⟨gF, q * 5 + 3, none⟩ = some (.slice x' n1 k1) ∧ w'.cell? ⟨gF, q * 5 + 4, none⟩ = some (.slice y m1 j1) ∧ w'.cell? ⟨gA, q, none⟩ = some (.int .i64 pl)) (first | (simp [go_sem, c3, c4, d0, d1, d2, d3, d4, p0]; done) | (exact kk)) (first | (go_at_call 149; refine (HCT.out wr.drew rfl).mono ?_; rintro e w3 ⟨rfl, hp3⟩; have kk := keep8 hp3 c3 c4 d0 d1 d2 d3 d4 p0))
      have hbe3 : Below wr.heap.size wr w3 := ⟨hp3.os, hp3.tape, hp3.output, hp3.size, hp3.block⟩
      have hbx3 : w3.heap[w.heap.size]? = some (.cells #[.int .u8 123, .int .i64 s.size, .int .i64 Z2, .slice (some ⟨gF, 0, none⟩) NT capF, .slice (some ⟨gA, 0, none⟩) NT capA] 121 (0, 0)) := by rw [hbe3.block _ hwl]; exact hbx
      have hb4 : Below w.heap.size w w3 := hbw.trans (hbe3.mono hbs)
      clear hp3 kk d0 d1 d2 d3 d4 p0 HCT hwp c0 c1 c2 c3 c4 hb1 hb2 hb3
      by_cases h0 : q = 0
      · have HK : Hid (P.commas true ((P.vals n ts s.data.toList).take (q + 1)) = tb.data.toList ++ tx) := by
          unfold Hid; rw [HTK.out, HI.out, if_pos h0]; simp
        clear HTK HI
        subst h0
        go_wp2_with fail
        refine ⟨⟨1, tb ++ ⟨tx.toArray⟩, by omega, by go_num, rfl, by rw [ByteArray.size_append]; omega, ?_, hbx3, hb4⟩, by simp [intOf]; omega⟩
        have := HK.out
        rw [Nat.zero_add] at this
        unfold Hid
        rw [this]
        simp
      · have HK : Hid (P.commas true ((P.vals n ts s.data.toList).take (q + 1)) = tb.data.toList ++ [44] ++ tx) := by
          unfold Hid; rw [HTK.out, HI.out, if_neg h0]
        clear HTK HI
        have h0i : (0 : Int) < (q : Int) := by omega
        go_wp2_with fail
        refine ⟨⟨q + 1, tb ++ ⟨#[44]⟩ ++ ⟨tx.toArray⟩, by omega, by go_num, rfl, by rw [ByteArray.size_append, ByteArray.size_append]; have : (ByteArray.mk #[44]).size = 1 := rfl; omega, ?_, hbx3, hb4⟩, by simp [intOf]; omega⟩
        unfold Hid
        rw [HK.out]
        simp
    · have HE : Hid (tb.data.toList = P.commas true (P.vals n ts s.data.toList)) := by
        unfold Hid; rw [HI.out, List.take_of_length_le (by rw [HVL.out]; omega)]
      clear HI
      go_wp2_with fail
      go_ret
      refine ⟨?_, hbw⟩
      rw [HRES.out, ← HE.out]
      have e : (⟨(123 :: tb.data.toList ++ [125]).toArray⟩ : ByteArray) = ByteArray.mk #[123] ++ tb ++ ByteArray.mk #[125] := by
        apply ByteArray.ext; apply Array.toList_inj.1; simp
      rw [e]
      rfl

theorem value_leaf (n : Nat) (l : Bool × Nat) (s : ByteArray) (w : World) (h : 1 ≤ l.2 ∧ l.2 ≤ 16) (h4 : l.1 = true → l.2 ≤ 4) (hs : s.size = l.2) : Calls Tryz.prog 149 #[typV l, .string s] w fun e w' => e = .returned (.string ⟨(P.valLeaf l s.data.toList).toArray⟩) ∧ Below w.heap.size w w' := by
  obtain ⟨b, k⟩ := l
  cases b with
  | true => exact value_num k s w hs (h4 rfl)
  | false => exact value_bytes k s w hs h.2
theorem value_all (n : Nat) : VAL n := by
  induction n with
  | zero =>
    intro t v S s w hsm hnm hT hS hs hn4
    have hv : v = typV t := hT
    subst hv
    exact value_leaf 0 t s w hsm hnm hs
  | succ n ih =>
    intro t v S s w hsm hnm hT hS hs hn4
    cases t with
    | inl l =>
      have hv : v = typV l := hT
      subst hv
      exact value_leaf (n + 1) l s w hsm hnm hs
    | inr ts => exact value_struct ih ts v S s w hsm hnm hT hS hs hn4
end Go.Proofs.YtghggcehloiemabGreatDoor
