import Derived.Test.YtghggcehloiemabGreatDoorCards
import Derived.Test.YtghggcehloiemabGreatDoorTie
import Derived.WalkKit
import Derived.ProofKit
import Derived.OpenShut
import Derived.ShutString
import Derived.Below
import Derived.Carry
import Derived.Deep.DeepHandedRow
import Derived.Lib.LaidTab
import Derived.Stop.LaidErr
import Derived.Deep.Slices
import Derived.Test.YtghggcehloiemabGreatDoorBackWAll
import Derived.Test.YtghggcehloiemabGreatDoorTbAAll
namespace Go.Proofs.YtghggcehloiemabGreatDoor
namespace same
open Go.ChangeShapes Go.WideShapes Go.ChangeAt Go.RowKit
set_option linter.unusedVariables false
set_option maxRecDepth 16000
set_option linter.unusedSimpArgs false

theorem own : ownKnob Tryz.prog.godebug = none := by kernel_rfl
theorem gTab : Tryz.prog.globalNamed "internal/strconv.uint64pow10" = some 0 := by kernel_rfl
theorem gTabType : (Tryz.prog.globals[0]?).map (·.type) = some 216 := by kernel_rfl
theorem cellsT : Tryz.prog.cellsOf 216 = 20 := by kernel_rfl
theorem cellsE : Tryz.prog.cellsOf 208 = 1 := by kernel_rfl
theorem datum : (Rows.laid_internal_strconv_uint64pow10 : DataW Unit) = Lib.tabData .u64 Lib.pow10Tab := by kernel_rfl
theorem table {W : World} (h : laidMetH Tryz.prog Rows.sameRow.laid W) : Lib.TabIs Tryz.prog W "internal/strconv.uint64pow10" .u64 Lib.pow10Tab := by
  have h1 : laidMet Tryz.prog [("math/bits.deBruijn32tab", Rows.laid_math_bits_deBruijn32tab), ("math/bits.deBruijn64tab", Rows.laid_math_bits_deBruijn64tab), ("internal/strconv.uint64pow10", Rows.laid_internal_strconv_uint64pow10)] W := h
  have h2 := h1.tail.tail
  rw [datum] at h2
  exact Lib.tabIs_of_head (rest := []) gTab gTabType Tryz.underlying216 Tryz.underlying208 cellsE cellsT h2

theorem laidOut : laidOutB Tryz.prog = true := by kernel_rfl
theorem cellsStep : Tryz.prog.cellsOf 41 = 10 := by kernel_rfl
theorem list10 {l : List Value} (h : l.length = 10) : ∃ a b c d e f g i j k, l = [a, b, c, d, e, f, g, i, j, k] := by
  match l, h with
  | [a, b, c, d, e, f, g, i, j, k], _ => exact ⟨a, b, c, d, e, f, g, i, j, k, rfl⟩
theorem addp (b o n : Nat) : (⟨b, o, none⟩ : Addr).add n = ⟨b, o + n, none⟩ := by unfold Addr.add; split <;> simp_all
theorem spot_none {w : World} {b o : Nat} {s : Option Nat} {v : Value} (h : w.cell? ⟨b, o, s⟩ = some v) : s = none := by
  unfold World.cell? at h
  cases s with
  | none => rfl
  | some n => simp only at h; split at h <;> simp at h
theorem step_cells {H : Type} {enc : TypeId × Value → H} {w : World} {base : Nat} {spare : Nat → Bool} {held : Bool} {n : Nat} {cs : List Value} {y : DataW H × List MemPlace} (h : DataW.trod enc Tryz.prog w base spare held n 41 cs = some y) :
    ∃ (t c0 c1 c2 c3 d0 d1 d2 d3 f : Int), cs = [.int .i64 t, .int .i64 c0, .int .i64 c1, .int .i64 c2, .int .i64 c3, .int .i64 d0, .int .i64 d1, .int .i64 d2, .int .i64 d3, .int .i64 f] ∧ I64 t ∧ (I64 c0 ∧ I64 c1 ∧ I64 c2 ∧ I64 c3) ∧ (I64 d0 ∧ I64 d1 ∧ I64 d2 ∧ I64 d3) ∧ I64 f := by
  obtain ⟨xs, m, _, hy, hl, hxl, hf⟩ := DataW.trod_struct Tryz.underlying41 h
  rw [cellsStep] at hl
  obtain ⟨e0, e1, e2, e3, e4, e5, e6, e7, e8, e9, rfl⟩ := list10 hl
  obtain ⟨y0, y1, y2, y3, hx⟩ : ∃ y0 y1 y2 y3, xs = [y0, y1, y2, y3] := by
    have : xs.length = 4 := by rw [hxl]; rfl
    match xs, this with
    | [y0, y1, y2, y3], _ => exact ⟨y0, y1, y2, y3, rfl⟩
  subst hx
  have g0 := hf 0 _ rfl
  have g1 := hf 1 _ rfl
  have g2 := hf 2 _ rfl
  have g3 := hf 3 _ rfl
  simp only [cellsI, cellsA4, List.drop_zero, List.take_succ_cons, List.take_zero, List.drop_succ_cons, List.getElem?_cons_zero, List.getElem?_cons_succ] at g0 g1 g2 g3
  obtain ⟨t, rfl, b0, _⟩ := one_cell g0
  obtain ⟨c0, c1, c2, c3, rfl, rfl, rfl, rfl, b1, _⟩ := four_cells g1
  obtain ⟨d0, d1, d2, d3, rfl, rfl, rfl, rfl, b2, _⟩ := four_cells g2
  obtain ⟨f, rfl, b3, _⟩ := one_cell g3
  exact ⟨t, c0, c1, c2, c3, d0, d1, d2, d3, f, rfl, b0, b1, b2, b3⟩
theorem contract (H : Type) (enc : TypeId × Value → H) (W : World) (base : Nat) (args : Array Value) (ds gs : List (DataW H)) (before : List MemPlace)
    (hval : ∀ (j : Nat) t v, Tryz.f4.params[j]? = some t → args[j]? = some v → Value.okWide Tryz.prog W .any base t v)
    (hW : DataW.Whole enc Tryz.prog Tryz.f4.params.toList Rows.sameSpec.vars false W args.toList ds gs before) (hL : laidMetH Tryz.prog Rows.sameRow.laid W) :
    Calls Tryz.prog 4 args W fun e W' => ∃ v, e = .returned v ∧ Rows.sameSpec.post enc Tryz.prog Tryz.f4 false true false false W args v W' := by
  have hW' := hW
  obtain ⟨p, q, hA0, hV, rfl, hfz, hnd⟩ := hW
  have hA : DataW.TrodAll enc Tryz.prog W 0 (fun _ => true) true Tryz.f4.params.toList args.toList ds p := hA0
  rw [Tryz.params4] at hA hval
  obtain ⟨v0, vs0, d0, ds0, p0, q0, hargs, rfl, rfl, h0, r0⟩ := trodAll_cons hA
  obtain ⟨v1, vs1, d1, ds1, p1, q1, rfl, rfl, rfl, h1, r1⟩ := trodAll_cons r0
  obtain ⟨v2, vs2, d2, ds2, p2, q2, rfl, rfl, rfl, h2, r2⟩ := trodAll_cons r1
  obtain ⟨v3, vs3, d3, ds3, p3, q3, rfl, rfl, rfl, h3, r3⟩ := trodAll_cons r2
  obtain ⟨rfl, rfl, rfl⟩ := trodAll_nil r3
  obtain rfl : args = #[v0, v1, v2, v3] := by cases args; simp_all
  obtain ⟨rfl, rfl⟩ := trodVars_none hV
  obtain ⟨x0, l0, l1, l2, l3, rfl, bx, bl, rfl⟩ := open_shape (hval 0 24 v0 rfl rfl) h0
  obtain ⟨y0, m0, m1, m2, m3, rfl, by0, bm, rfl⟩ := open_shape (hval 1 24 v1 rfl rfl) h1
  have h2' : ∃ z, v2 = .int .i64 z ∧ I64 z ∧ p2 = [] := by
    obtain ⟨n, rfl⟩ := okWide_int Tryz.underlying3 (hval 2 3 v2 rfl rfl)
    obtain ⟨fuel, hf⟩ := h2
    obtain ⟨z, e1, e2, e3⟩ := one_cell hf
    exact ⟨z, e1, e2, e3⟩
  obtain ⟨z2, rfl, b2, rfl⟩ := h2'
  obtain ⟨x, N, cap, rfl⟩ := okWide_slice Tryz.underlying25 (hval 3 25 v3 rfl rfl)
  clear hA0
  simp only [List.append_nil, List.nil_append] at hW'
  have hts : StepsAt W x N ∧ N ≤ maxLen := by
    obtain ⟨fuel, hf⟩ := h3
    have hf' : DataW.trod enc Tryz.prog W 0 (fun _ => true) true fuel 25 [.slice x N cap] = some (d3, p3) := hf
    rcases Go.Deep.open_slice Tryz.underlying25 hf' with ⟨hcs, _⟩ | ⟨a, len, cp, m, n, D, Pl, hcs, hb, hl, hcm, hm, hx, hall⟩
    · simp only [List.cons.injEq, Value.slice.injEq, and_true] at hcs
      obtain ⟨rfl, rfl, rfl⟩ := hcs
      exact ⟨fun i hi => absurd hi (Nat.not_lt_zero _), Nat.zero_le _⟩
    · simp only [List.cons.injEq, Value.slice.injEq, and_true] at hcs
      obtain ⟨rfl, rfl, rfl⟩ := hcs
      refine ⟨fun i hi => ?_, by omega⟩
      have him : i < m := by rw [hm]; simp; omega
      obtain ⟨cs, hcells, htr⟩ := hall i him
      rw [cellsStep] at hcells
      obtain ⟨_, hlen, hcell⟩ := World.cells?_some hcells
      obtain ⟨t, c0, c1, c2, c3, e0, e1, e2, e3, f, rfl, i1, i2, i3, i4⟩ := step_cells htr
      obtain ⟨bl', o, spot⟩ := a
      have hsp : spot = none := by
        obtain ⟨cs', hc', htr'⟩ := hall 0 (by omega)
        rw [cellsStep] at hc'
        obtain ⟨_, hl', hcell'⟩ := World.cells?_some hc'
        obtain ⟨t', _, _, _, _, _, _, _, _, _, rfl, _⟩ := step_cells htr'
        have := hcell' 0 (by omega)
        rw [Nat.zero_mul] at this
        exact spot_none (v := .int .i64 t') this
      subst hsp
      have cc : ∀ j u, [Value.int .i64 t, .int .i64 c0, .int .i64 c1, .int .i64 c2, .int .i64 c3, .int .i64 e0, .int .i64 e1, .int .i64 e2, .int .i64 e3, .int .i64 f][j]? = some u → j < 10 → W.cell? ⟨bl', o + i * 10 + j, none⟩ = some u := by
        intro j u hj h7
        have := hcell j h7
        rw [hj, addp, addp] at this
        exact this
      exact ⟨bl', o, t, c0, c1, c2, c3, e0, e1, e2, e3, f, rfl, World.block_lt_of_cell? W ⟨bl', _, none⟩ (cc 0 _ rfl (by omega)), ⟨cc 0 _ rfl (by omega), cc 1 _ rfl (by omega), cc 2 _ rfl (by omega), cc 3 _ rfl (by omega), cc 4 _ rfl (by omega), cc 5 _ rfl (by omega), cc 6 _ rfl (by omega), cc 7 _ rfl (by omega), cc 8 _ rfl (by omega), cc 9 _ rfl (by omega)⟩, i1, i2, i3, i4⟩
  have hlt3 : ∀ y ∈ p3, y.block < W.heap.size := by
    obtain ⟨fuel, hf⟩ := h3
    exact DataW.trod_lt fuel _ _ _ hf
  have all4 : ∀ {a b c d : Int}, I64 a ∧ I64 b ∧ I64 c ∧ I64 d → ∀ x ∈ [a, b, c, d], I64 x := by
    intro a b c d h x hx
    simp only [List.mem_cons, List.not_mem_nil, or_false] at hx
    rcases hx with rfl | rfl | rfl | rfl
    · exact h.1
    · exact h.2.1
    · exact h.2.2.1
    · exact h.2.2.2
  have kept : ∀ {W' : World}, Below W.heap.size W W' → ∀ {t : TypeId} {v : Value} {d : DataW H}, Tryz.prog.readableRec t = true → t < Tryz.prog.types.size → DataW.Trod enc Tryz.prog W 0 (fun _ => true) true t v d [] → DataW.Trod enc Tryz.prog W' 0 (fun b => decide (b < W.heap.size)) true t v d [] :=
    fun hb _ _ _ hr hrow h => Below.trod laidOut hr hrow h hb (fun x hx => by cases hx)
  refine (same_any x0 l0 l1 l2 l3 y0 m0 m1 m2 m3 z2 x N cap W bx (all4 bl) by0 (all4 bm) b2 hts.2 hts.1 (table hL)).mono fun e W' ⟨he, bel⟩ => ?_
  subst he
  exact ⟨_, rfl, _, _, _, [], _, [], hW', trodAll_mk1 (shut_bool Tryz.underlying4 _), (trodAll_cons_mk (kept bel (by kernel_rfl) (of_decide_eq_true (by kernel_rfl)) h0) (trodAll_cons_mk (kept bel (by kernel_rfl) (of_decide_eq_true (by kernel_rfl)) h1) (trodAll_cons_mk (kept bel (by kernel_rfl) (of_decide_eq_true (by kernel_rfl)) h2) (trodAll_cons_mk (Below.trod laidOut (by kernel_rfl) (of_decide_eq_true (by kernel_rfl)) h3 bel hlt3) trodAll_mk0)))), rfl, bel.frame _, fun h => by cases h⟩

/-- A listed datum's numbers, as cells. -/
def cellOf : DataW Unit → Value
  | .lit (.int k z) => .int k z
  | _ => .bool false
def cellsOf : DataW Unit → Array Value
  | .agg l => (l.map cellOf).toArray
  | _ => #[]
def put (n : Nat) (d : DataW Unit) (h : Array Obj) : Array Obj := h.modify n fun
  | .cells _ t frozen => .cells (cellsOf d) t frozen
  | o => o
noncomputable def laidWorld (os : Os) : World :=
  { World.holding Tryz.prog os ⟨#[], #[], []⟩ with heap := put 0 Rows.laid_internal_strconv_uint64pow10 (put 1 Rows.laid_math_bits_deBruijn32tab (put 2 Rows.laid_math_bits_deBruijn64tab (World.holding Tryz.prog os ⟨#[], #[], []⟩).heap)) }
theorem laid_met (os : Os) : laidMet Tryz.prog Rows.sameRow.laid ((laidWorld os).forCall (fun _ _ => 0) ⟨#[], #[.agg #[.int .i64 0, .int .i64 0, .int .i64 0, .int .i64 0, .int .i64 0], .agg #[.int .i64 0, .int .i64 0, .int .i64 0, .int .i64 0, .int .i64 0], .int .i64 0, .slice none 0 0], []⟩).memory :=
  laidMet_of_run' 8 (by kernel_rfl) (by kernel_rfl)
theorem reads (os : Os) {H : Type} (enc : TypeId × Value → H) : ∃ places, DataW.whole enc Tryz.prog ((laidWorld os).forCall (fun _ _ => 0) ⟨#[], #[.agg #[.int .i64 0, .int .i64 0, .int .i64 0, .int .i64 0, .int .i64 0], .agg #[.int .i64 0, .int .i64 0, .int .i64 0, .int .i64 0, .int .i64 0], .int .i64 0, .slice none 0 0], []⟩).memory Tryz.f4.params.toList Rows.sameSpec.vars false #[Value.agg #[Value.int .i64 0, Value.int .i64 0, Value.int .i64 0, Value.int .i64 0, Value.int .i64 0], Value.agg #[Value.int .i64 0, Value.int .i64 0, Value.int .i64 0, Value.int .i64 0, Value.int .i64 0], Value.int .i64 0, Value.slice none 0 0].toList 8 = some ([.agg [.lit (.int .i64 0), .agg [.lit (.int .i64 0), .lit (.int .i64 0), .lit (.int .i64 0), .lit (.int .i64 0)]], .agg [.lit (.int .i64 0), .agg [.lit (.int .i64 0), .lit (.int .i64 0), .lit (.int .i64 0), .lit (.int .i64 0)]], .lit (.int .i64 0), .nil], [], places) :=
  ⟨[], by kernel_rfl⟩

set_option maxRecDepth 100000 in
theorem lifted (os : Os) (started : os.Started) (H : Type) (enc : TypeId × Value → H) (F : Stop.Interp) :
    ReturnsInHanded {} Tryz.checked os 4 .any ((OpenSpec.ofChange Rows.sameSpec).preRow enc Tryz.prog Tryz.f4 Rows.sameRow.domain false Rows.sameRow.laid) (((OpenSpec.ofChange Rows.sameSpec).at F).post enc Tryz.prog Tryz.f4 false true false false) := by
  obtain ⟨places, hx⟩ := reads os enc
  refine returnsInHanded_of_row (C := Tryz.checked) (s := OpenSpec.ofChange Rows.sameSpec) own started (by kernel_rfl) Tryz.func4
    (witness_row_at (enc := enc) (C := Tryz.checked) false (laidWorld os) #[.agg #[.int .i64 0, .int .i64 0, .int .i64 0, .int .i64 0, .int .i64 0], .agg #[.int .i64 0, .int .i64 0, .int .i64 0, .int .i64 0, .int .i64 0], .int .i64 0, .slice none 0 0] rfl (by kernel_rfl) (by kernel_rfl) (by kernel_rfl)
      (OpenSpec.preRow_of_cond 8 hx (by kernel_rfl) (fun k hk => by cases hk) (by kernel_rfl) (laid_met os))) ?_
  intro W base args ds gs before hval hW _ _ _ hL _ _
  exact contract H enc W base args ds gs before hval hW hL

theorem said : Rows.SameSaid :=
  OpenClaim.holds_of_cond 4 Tryz.f4 rfl rfl rfl rfl rfl rfl rfl ⟨rfl, rfl, rfl, rfl, rfl⟩ rfl rfl rfl rfl rfl (by kernel_rfl) Tryz.func4 (by kernel_rfl)
    (of_decide_eq_true (by kernel_rfl)) (by unfold Func.isWrapper; first | (rw [if_pos (by decide +kernel)]; kernel_rfl) | (rw [if_neg (by decide +kernel)]; exact ⟨rfl, rfl⟩))
    (fun os started H enc _ F => by rw [OpenClaim.pre_eq_preRow]; exact lifted os started H enc F)

theorem plain (f : FuncId) (fn : Func) (hf : Tryz.pinned.checked.prog.funcNamed "bespoke/bespokekeep.Same" = some f) (hfn : Tryz.pinned.checked.prog.funcs[f]? = some fn) :
    false = Tryz.pinned.checked.prog.looks [] ∧ ∀ (j : Nat) t, fn.params[j]? = some t → Tryz.pinned.checked.prog.wantsStandIn t = false := by
  obtain rfl : f = 4 := Option.some.inj ((show Tryz.prog.funcNamed "bespoke/bespokekeep.Same" = some 4 by kernel_rfl).symm.trans hf) |>.symm
  obtain rfl : fn = Tryz.f4 := (Option.some.inj (Tryz.func4.symm.trans hfn)).symm
  refine ⟨by kernel_rfl, fun j t ht => ?_⟩
  rw [Tryz.params4] at ht
  have : t = 24 ∨ t = 3 ∨ t = 25 := by simpa using Array.mem_of_getElem? ht
  rcases this with rfl | rfl | rfl
  · exact (show Tryz.prog.wantsStandIn 24 = false by kernel_rfl)
  · exact (show Tryz.prog.wantsStandIn 3 = false by kernel_rfl)
  · exact (show Tryz.prog.wantsStandIn 25 = false by kernel_rfl)

theorem card : Rows.SameCardSaid :=
  Claim7.holds_tied_plain_at .later [] _ _ _ _ said (fun _ h => by cases h) (by kernel_rfl) (fun _ h => by cases h) same_row_tie rfl ⟨rfl, rfl⟩ (by kernel_rfl) rfl plain (by kernel_rfl)
end same
theorem same_holds : Rows.SameCardSaid := same.card
#print axioms same_holds
end Go.Proofs.YtghggcehloiemabGreatDoor
