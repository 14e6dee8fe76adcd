import Derived.Test.YtghggcehloiemabGreatDoorSizeWAll
import Derived.Test.YtghggcehloiemabGreatDoorKeepW3
import Derived.ProofKit
import Derived.OpenShut
import Derived.Carry
import Derived.Laws.IdiomArrays
namespace Go.Proofs.YtghggcehloiemabGreatDoor
open Go.RowKit
set_option linter.unusedVariables false
set_option maxRecDepth 16000

set_option maxHeartbeats 1000000 in
theorem laying_any (w : World) (htab : Lib.TabIs Tryz.prog w "internal/strconv.uint64pow10" .u64 Lib.pow10Tab) :
    Calls Tryz.prog 7 #[] w fun e w' => e = .returned (.bool true) ∧ Below w.heap.size w w' := by
  have HTB : Hid (Lib.TabIs Tryz.prog w "internal/strconv.uint64pow10" .u64 Lib.pow10Tab) := htab
  clear htab
  go_enter Tryz.func7, Tryz.ntmps7
  go_wp2_with fail
  refine (encode_any _ _ _ _ (by decide) (by decide)).mono ?_
  rintro e w1 ⟨he, hb1⟩
  have he' : e = .returned (.tuple #[.string ⟨(P.encOf P.exT P.exV 255).1.toArray⟩, .int .i64 (P.encOf P.exT P.exV 255).2]) := he
  rw [P.ex_enc] at he'
  clear he
  subst he'
  have HT1 : Hid (Lib.TabIs Tryz.prog w1 "internal/strconv.uint64pow10" .u64 Lib.pow10Tab) := tab_on hb1 HTB.out
  go_wp2_with fail
  refine (decode_any _ _ _ (by decide) HT1.out).mono ?_
  rintro e w2 ⟨he, hb2⟩
  have he' : e = .returned (.tuple #[.string ⟨(P.decOf P.exT P.exB).1.toArray⟩, .int .i64 (P.decOf P.exT P.exB).2]) := he
  rw [P.ex_dec] at he'
  clear he
  subst he'
  go_wp2_with fail
  go_ret
  exact ⟨by simp [P.exV], hb1.trans (hb2.mono hb1.size)⟩

/-- The world at the head of Back and Apart: the shape's block, the array's. -/
theorem start9 (h l0 l1 l2 l3 c0 c1 c2 c3 : Int) (w : World) (htab : Lib.TabIs Tryz.prog w "internal/strconv.uint64pow10" .u64 Lib.pow10Tab) :
    Nine ((w.alloc (.cells #[.int .i64 h, .int .i64 l0, .int .i64 l1, .int .i64 l2, .int .i64 l3] 24)).alloc (.cells #[.int .i64 c0, .int .i64 c1, .int .i64 c2, .int .i64 c3] 22)) w.heap.size (w.heap.size + 1) (.int .i64 h) (.int .i64 l0) (.int .i64 l1) (.int .i64 l2) (.int .i64 l3) (.int .i64 c0) (.int .i64 c1) (.int .i64 c2) (.int .i64 c3)
    ∧ Below w.heap.size w ((w.alloc (.cells #[.int .i64 h, .int .i64 l0, .int .i64 l1, .int .i64 l2, .int .i64 l3] 24)).alloc (.cells #[.int .i64 c0, .int .i64 c1, .int .i64 c2, .int .i64 c3] 22))
    ∧ Lib.TabIs Tryz.prog ((w.alloc (.cells #[.int .i64 h, .int .i64 l0, .int .i64 l1, .int .i64 l2, .int .i64 l3] 24)).alloc (.cells #[.int .i64 c0, .int .i64 c1, .int .i64 c2, .int .i64 c3] 22)) "internal/strconv.uint64pow10" .u64 Lib.pow10Tab := by
  have kk0 : Five (w.alloc (.cells #[.int .i64 h, .int .i64 l0, .int .i64 l1, .int .i64 l2, .int .i64 l3] 24)) w.heap.size (.int .i64 h) (.int .i64 l0) (.int .i64 l1) (.int .i64 l2) (.int .i64 l3) := Five.new w _ _ _ _ _ _
  have hb0 : Below w.heap.size w (w.alloc (.cells #[.int .i64 h, .int .i64 l0, .int .i64 l1, .int .i64 l2, .int .i64 l3] 24)) := (Below.refl _ _).alloc (Nat.le_refl _) _
  have hal : Below (w.alloc (.cells #[.int .i64 h, .int .i64 l0, .int .i64 l1, .int .i64 l2, .int .i64 l3] 24)).heap.size (w.alloc (.cells #[.int .i64 h, .int .i64 l0, .int .i64 l1, .int .i64 l2, .int .i64 l3] 24)) ((w.alloc (.cells #[.int .i64 h, .int .i64 l0, .int .i64 l1, .int .i64 l2, .int .i64 l3] 24)).alloc (.cells #[.int .i64 c0, .int .i64 c1, .int .i64 c2, .int .i64 c3] 22)) := (Below.refl _ _).alloc (Nat.le_refl _) _
  have hb : Below w.heap.size w ((w.alloc (.cells #[.int .i64 h, .int .i64 l0, .int .i64 l1, .int .i64 l2, .int .i64 l3] 24)).alloc (.cells #[.int .i64 c0, .int .i64 c1, .int .i64 c2, .int .i64 c3] 22)) := below_on hal hb0
  refine ⟨?_, hb, ((Lib.tabBelow_of_tabIs htab).on hb).here⟩
  have f := kk0.on hal
  have g := Four.new (w.alloc (.cells #[.int .i64 h, .int .i64 l0, .int .i64 l1, .int .i64 l2, .int .i64 l3] 24)) (.int .i64 c0) (.int .i64 c1) (.int .i64 c2) (.int .i64 c3) 22
  have hsz : (w.alloc (.cells #[.int .i64 h, .int .i64 l0, .int .i64 l1, .int .i64 l2, .int .i64 l3] 24)).heap.size = w.heap.size + 1 := by simp
  rw [hsz] at g
  exact ⟨f.1, f.2.1, f.2.2.1, f.2.2.2.1, f.2.2.2.2, g⟩

theorem bytes_get (l : List UInt8) (k : Nat) : (bytesOf l)[k]? = l[k]? := by
  by_cases h : k < l.length
  · rw [getElem?_pos (bytesOf l) k (by rw [bytes_len]; exact h), getElem?_pos l k h]; rfl
  · rw [getElem?_neg (bytesOf l) k (by rw [bytes_len]; exact h), getElem?_neg l k h]
theorem below_drewN {B : Nat} {w w1 : World} (h : Below B w w1) (n : Nat) : Below B w (w1.drewN n) := ⟨h.os, h.tape, h.output, h.size, h.block⟩
theorem tab_drewN {w : World} (h : Lib.TabIs Tryz.prog w "internal/strconv.uint64pow10" .u64 Lib.pow10Tab) (n : Nat) : Hid (Lib.TabIs Tryz.prog (w.drewN n) "internal/strconv.uint64pow10" .u64 Lib.pow10Tab) := h
theorem hid_of {p : Prop} (h : p) : Hid p := h
theorem joinP_len (how : Nat) (a b c d : List UInt8) (ha : a.length ≤ 40) (hb : b.length ≤ 40) (hc : c.length ≤ 40) (hd : d.length ≤ 40) : (P.joinP how a b c d).length ≤ 1000 := by
  unfold P.joinP
  repeat' split
  all_goals (first | omega | (simp only [List.length_append, List.length_cons, List.length_nil]; omega))

end Go.Proofs.YtghggcehloiemabGreatDoor
namespace Go.Proofs.YtghggcehloiemabGreatDoor
open Go.ChangeShapes Go.WideShapes Go.ChangeAt Go.RowKit
set_option linter.unusedVariables false
set_option maxRecDepth 16000

theorem cellsA4 : Tryz.prog.cellsOf 22 = 4 := by kernel_rfl
theorem cellsSh : Tryz.prog.cellsOf 24 = 5 := by kernel_rfl
theorem cellsI : Tryz.prog.cellsOf 3 = 1 := by kernel_rfl
theorem list4 {l : List Value} (h : l.length = 4) : ∃ a b c d, l = [a, b, c, d] := by
  match l, h with
  | [a, b, c, d], _ => exact ⟨a, b, c, d, rfl⟩
theorem list5 {l : List Value} (h : l.length = 5) : ∃ a b c d e, l = [a, b, c, d, e] := by
  match l, h with
  | [a, b, c, d, e], _ => exact ⟨a, b, c, d, e, rfl⟩
theorem one_cell {H : Type} {enc : TypeId × Value → H} {w : World} {base : Nat} {spare : Nat → Bool} {held : Bool} {n : Nat} {c : Value} {y : DataW H × List MemPlace} (h : DataW.trod enc Tryz.prog w base spare held n 3 [c] = some y) : ∃ z, c = .int .i64 z ∧ I64 z ∧ y.2 = [] := by
  obtain ⟨z, h1, h2, h3⟩ := DataW.trod_int Tryz.underlying3 h
  refine ⟨z, by simpa using h1, bounds_i64 h3, by rw [h2]⟩
theorem four_cells {H : Type} {enc : TypeId × Value → H} {w : World} {base : Nat} {spare : Nat → Bool} {held : Bool} {n : Nat} {a b c d : Value} {y : DataW H × List MemPlace} (h : DataW.trod enc Tryz.prog w base spare held n 22 [a, b, c, d] = some y) :
    ∃ c0 c1 c2 c3, a = .int .i64 c0 ∧ b = .int .i64 c1 ∧ c = .int .i64 c2 ∧ d = .int .i64 c3 ∧ (I64 c0 ∧ I64 c1 ∧ I64 c2 ∧ I64 c3) ∧ y.2 = [] := by
  obtain ⟨y0, y1, y2, y3, m, rfl, h0, h1, h2, h3⟩ := trod_array4 Tryz.underlying22 cellsI h
  obtain ⟨c0, rfl, b0, e0⟩ := one_cell h0
  obtain ⟨c1, rfl, b1, e1⟩ := one_cell h1
  obtain ⟨c2, rfl, b2, e2⟩ := one_cell h2
  obtain ⟨c3, rfl, b3, e3⟩ := one_cell h3
  exact ⟨c0, c1, c2, c3, rfl, rfl, rfl, rfl, ⟨b0, b1, b2, b3⟩, by simp [e0, e1, e2, e3]⟩
theorem open_a4 {H : Type} {enc : TypeId × Value → H} {W : World} {base : Nat} {v : Value} {d : DataW H} {p : List MemPlace} (hv : Value.okWide Tryz.prog W .any base 22 v) (h : DataW.Trod enc Tryz.prog W 0 (fun _ => true) true 22 v d p) :
    ∃ c0 c1 c2 c3 : Int, v = .agg #[.int .i64 c0, .int .i64 c1, .int .i64 c2, .int .i64 c3] ∧ (I64 c0 ∧ I64 c1 ∧ I64 c2 ∧ I64 c3) ∧ p = [] := by
  unfold Value.okWide at hv
  rw [Tryz.underlying22] at hv
  obtain ⟨cs, rfl, hsz, _⟩ := hv
  rw [cellsA4] at hsz
  obtain ⟨a, b, c, e, hl⟩ := list4 (l := cs.toList) (by simpa using hsz)
  obtain ⟨fuel, hf⟩ := h
  have hf' : DataW.trod enc Tryz.prog W 0 (fun _ => true) true fuel 22 cs.toList = some (d, p) := hf
  rw [hl] at hf'
  obtain ⟨c0, c1, c2, c3, rfl, rfl, rfl, rfl, hb, hp⟩ := four_cells hf'
  refine ⟨c0, c1, c2, c3, ?_, hb, hp⟩
  have : cs = #[.int .i64 c0, .int .i64 c1, .int .i64 c2, .int .i64 c3] := by rw [← Array.toList_inj, hl]
  rw [this]
theorem open_shape {H : Type} {enc : TypeId × Value → H} {W : World} {base : Nat} {v : Value} {d : DataW H} {p : List MemPlace} (hv : Value.okWide Tryz.prog W .any base 24 v) (h : DataW.Trod enc Tryz.prog W 0 (fun _ => true) true 24 v d p) :
    ∃ h0 c0 c1 c2 c3 : Int, v = .agg #[.int .i64 h0, .int .i64 c0, .int .i64 c1, .int .i64 c2, .int .i64 c3] ∧ I64 h0 ∧ (I64 c0 ∧ I64 c1 ∧ I64 c2 ∧ I64 c3) ∧ p = [] := by
  unfold Value.okWide at hv
  rw [Tryz.underlying24] at hv
  obtain ⟨cs, rfl, hsz, _⟩ := hv
  rw [cellsSh] at hsz
  obtain ⟨a0, a, b, c, e, hl⟩ := list5 (l := cs.toList) (by simpa using hsz)
  obtain ⟨fuel, hf⟩ := h
  have hf' : DataW.trod enc Tryz.prog W 0 (fun _ => true) true fuel 24 cs.toList = some (d, p) := hf
  rw [hl] at hf'
  obtain ⟨y0, y1, n, hx, _, g0, g1⟩ := trod_struct2 Tryz.underlying24 hf'
  simp only [cellsI, cellsA4, List.drop_zero, List.take_succ_cons, List.take_zero, List.drop_succ_cons] at g0 g1
  obtain ⟨h0, rfl, b0, e0⟩ := one_cell g0
  obtain ⟨c0, c1, c2, c3, rfl, rfl, rfl, rfl, hb, e1⟩ := four_cells g1
  refine ⟨h0, c0, c1, c2, c3, ?_, b0, hb, ?_⟩
  · have : cs = #[.int .i64 h0, .int .i64 c0, .int .i64 c1, .int .i64 c2, .int .i64 c3] := by rw [← Array.toList_inj, hl]
    rw [this]
  · have := congrArg Prod.snd hx
    simpa [e0, e1] using this
end Go.Proofs.YtghggcehloiemabGreatDoor
