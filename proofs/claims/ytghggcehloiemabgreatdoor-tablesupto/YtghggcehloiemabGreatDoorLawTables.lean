import Derived.Test.YtghggcehloiemabGreatDoorCards
import Derived.Test.YtghggcehloiemabGreatDoorTie
import Derived.WalkKit
import Derived.ProofKit
import Derived.OpenShut
import Derived.ShutString
import Derived.Below
import Derived.Carry
import Derived.Deep.DeepHandedRow
import Derived.Lib.LaidTab
import Derived.Stop.LaidErr
import Derived.Deep.Slices
import Derived.Test.YtghggcehloiemabGreatDoorOpenO
import Derived.Test.YtghggcehloiemabGreatDoorTwT
namespace Go.Proofs.YtghggcehloiemabGreatDoor
namespace tables
open Go.ChangeShapes Go.WideShapes Go.ChangeAt Go.RowKit
set_option linter.unusedVariables false
set_option maxRecDepth 16000
set_option linter.unusedSimpArgs false

theorem own : ownKnob Tryz.prog.godebug = none := by kernel_rfl
theorem gTab : Tryz.prog.globalNamed "internal/strconv.uint64pow10" = some 0 := by kernel_rfl
theorem gTabType : (Tryz.prog.globals[0]?).map (·.type) = some 216 := by kernel_rfl
theorem cellsT : Tryz.prog.cellsOf 216 = 20 := by kernel_rfl
theorem cellsE : Tryz.prog.cellsOf 208 = 1 := by kernel_rfl
theorem datum : (Rows.laid_internal_strconv_uint64pow10 : DataW Unit) = Lib.tabData .u64 Lib.pow10Tab := by kernel_rfl
theorem table {W : World} (h : laidMetH Tryz.prog Rows.tablesUptoRow.laid W) : Lib.TabIs Tryz.prog W "internal/strconv.uint64pow10" .u64 Lib.pow10Tab := by
  have h1 : laidMet Tryz.prog [("math/bits.deBruijn32tab", Rows.laid_math_bits_deBruijn32tab), ("math/bits.deBruijn64tab", Rows.laid_math_bits_deBruijn64tab), ("internal/strconv.uint64pow10", Rows.laid_internal_strconv_uint64pow10)] W := h
  have h2 := h1.tail.tail
  rw [datum] at h2
  exact Lib.tabIs_of_head (rest := []) gTab gTabType Tryz.underlying216 Tryz.underlying208 cellsE cellsT h2

theorem laidOut : laidOutB Tryz.prog = true := by kernel_rfl
theorem bulk_mem {H : Type} {d : DataW H} : ∀ {l : List (DataW H)}, d ∈ l → Rows.uptoBulk d ≤ Rows.uptoBulkAll l
  | [], h => by simp at h
  | x :: l, h => by
    simp only [Rows.uptoBulkAll]
    rcases List.mem_cons.1 h with rfl | h
    · omega
    · have := bulk_mem h; omega
theorem bulk_len {H : Type} : ∀ {l : List (DataW H)}, (∀ d ∈ l, 1 ≤ Rows.uptoBulk d) → l.length ≤ Rows.uptoBulkAll l
  | [], _ => Nat.zero_le _
  | x :: l, h => by
    simp only [Rows.uptoBulkAll, List.length_cons]
    have h1 := h x (List.mem_cons_self ..)
    have h2 := bulk_len (l := l) (fun d hd => h d (List.mem_cons_of_mem _ hd))
    omega
theorem bulk_of {H : Type} {elems spare : List (DataW H)} (hk : Rows.uptoSmall H [.slice elems spare] = true) : Rows.uptoBulkAll elems ≤ 1048576 := by
  have h := of_decide_eq_true hk
  simp only [Rows.uptoBulkAll, Rows.uptoBulk] at h
  omega
theorem op_short {H : Type} {e0 e1 e2 e3 e4 e5 : DataW H} {k v : List UInt8} (h : Rows.uptoBulk (.agg [e0, e1, e2, e3, e4, e5, .lit (.string k), .lit (.string v)]) ≤ 1048576) : k.length ≤ 1048576 ∧ v.length ≤ 1048576 := by
  simp only [Rows.uptoBulkAll, Rows.uptoBulk] at h
  omega
theorem op_one {H : Type} {l : List (DataW H)} : 1 ≤ Rows.uptoBulk (.agg l) := by
  simp only [Rows.uptoBulk]
  omega
theorem addp (b o n : Nat) : (⟨b, o, none⟩ : Addr).add n = ⟨b, o + n, none⟩ := by unfold Addr.add; split <;> simp_all
theorem spot_none {w : World} {b o : Nat} {s : Option Nat} {v : Value} (h : w.cell? ⟨b, o, s⟩ = some v) : s = none := by
  unfold World.cell? at h
  cases s with
  | none => rfl
  | some n => simp only at h; split at h <;> simp at h
theorem contract (H : Type) (enc : TypeId × Value → H) (W : World) (base : Nat) (args : Array Value) (ds gs : List (DataW H)) (before : List MemPlace)
    (hval : ∀ (j : Nat) t v, Tryz.f5.params[j]? = some t → args[j]? = some v → Value.okWide Tryz.prog W .any base t v)
    (hW : DataW.Whole enc Tryz.prog Tryz.f5.params.toList Rows.tablesSpec.vars false W args.toList ds gs before) (hk : Rows.uptoSmall H (ds ++ gs) = true) (hL : laidMetH Tryz.prog Rows.tablesUptoRow.laid W) :
    Calls Tryz.prog 5 args W fun e W' => ∃ v, e = .returned v ∧ Rows.tablesSpec.post enc Tryz.prog Tryz.f5 false true false false W args v W' := by
  have hW' := hW
  obtain ⟨p, q, hA0, hV, rfl, hfz, hnd⟩ := hW
  have hA : DataW.TrodAll enc Tryz.prog W 0 (fun _ => true) true Tryz.f5.params.toList args.toList ds p := hA0
  rw [Tryz.params5] at hA hval
  obtain ⟨v3, vs3, d3, ds3, p3, q3, hargs, rfl, rfl, h3, r3⟩ := trodAll_cons hA
  obtain ⟨rfl, rfl, rfl⟩ := trodAll_nil r3
  obtain rfl : args = #[v3] := by cases args; simp_all
  obtain ⟨rfl, rfl⟩ := trodVars_none hV
  obtain ⟨x, N, cap, rfl⟩ := okWide_slice Tryz.underlying51 (hval 0 51 v3 rfl rfl)
  clear hA0
  simp only [List.append_nil, List.nil_append] at hW' hk
  have hts : OpsAt W x N ∧ N ≤ 1048576 := by
    obtain ⟨fuel, hf⟩ := h3
    have hf' : DataW.trod enc Tryz.prog W 0 (fun _ => true) true fuel 51 [.slice x N cap] = some (d3, p3) := hf
    rcases Go.Deep.open_slice Tryz.underlying51 hf' with ⟨hcs, _⟩ | ⟨a, len, cp, m, n, D, Pl, hcs, hb, hl, hcm, hm, hx, hall⟩
    · simp only [List.cons.injEq, Value.slice.injEq, and_true] at hcs
      obtain ⟨rfl, rfl, rfl⟩ := hcs
      exact ⟨fun i hi => absurd hi (Nat.not_lt_zero _), Nat.zero_le _⟩
    · simp only [List.cons.injEq, Value.slice.injEq, and_true] at hcs
      obtain ⟨rfl, rfl, rfl⟩ := hcs
      simp only [Prod.mk.injEq] at hx
      obtain ⟨rfl, _⟩ := hx
      have hbk := bulk_of hk
      have each : ∀ i, i < N → ∃ (kd on a0 b c d : Int) (s t : ByteArray) (cs : List Value), W.cells? 0 (a.add (i * 8)) 8 = some cs ∧ cs = [.int .i64 kd, .int .i64 on, .int .i64 a0, .int .i64 b, .int .i64 c, .int .i64 d, .string s, .string t] ∧ (I6o kd ∧ I6o on ∧ I6o a0 ∧ I6o b ∧ I6o c ∧ I6o d) ∧ s.size ≤ 1048576 ∧ t.size ≤ 1048576 ∧ 1 ≤ Rows.uptoBulk (D i) := by
        intro i hi
        have him : i < m := by rw [hm]; simp; omega
        obtain ⟨cs, hcells, htr⟩ := hall i him
        rw [cellsOp] at hcells
        obtain ⟨kd, on, a0, b, c, d, s, t, hcs, _, _, i1, i2, i3, i4, i5, i6, e0, e1, e2, e3, e4, e5, he⟩ := op_cells htr
        have hsh : Rows.uptoBulk (D i) ≤ 1048576 := by have := bulk_mem (List.mem_map.2 ⟨i, List.mem_range.2 hi, rfl⟩ : D i ∈ (List.range N).map D); omega
        simp only at he
        rw [he] at hsh
        obtain ⟨hk1, hv1⟩ := op_short hsh
        have ek : s.data.toList.length = s.size := by simp
        have ev : t.data.toList.length = t.size := by simp
        exact ⟨kd, on, a0, b, c, d, s, t, cs, hcells, hcs, ⟨i1, i2, i3, i4, i5, i6⟩, by omega, by omega, by rw [he]; exact op_one⟩
      refine ⟨fun i hi => ?_, ?_⟩
      · obtain ⟨kd, on, a0, b, c, d, s, t, cs, hcells, rfl, hI, hs, ht, _⟩ := each i hi
        obtain ⟨_, hlen, hcell⟩ := World.cells?_some hcells
        obtain ⟨bl', o, spot⟩ := a
        have hsp : spot = none := by
          obtain ⟨kd', _, _, _, _, _, _, _, cs', hc', rfl, _⟩ := each 0 (by omega)
          obtain ⟨_, hl', hcell'⟩ := World.cells?_some hc'
          have := hcell' 0 (by omega)
          rw [Nat.zero_mul] at this
          exact spot_none (v := .int .i64 kd') this
        subst hsp
        have cc : ∀ j u, [Value.int .i64 kd, .int .i64 on, .int .i64 a0, .int .i64 b, .int .i64 c, .int .i64 d, .string s, .string t][j]? = some u → j < 8 → W.cell? ⟨bl', o + i * 8 + j, none⟩ = some u := by
          intro j u hj h7
          have := hcell j h7
          rw [hj, addp, addp] at this
          exact this
        exact ⟨bl', o, kd, on, a0, b, c, d, s, t, rfl, World.block_lt_of_cell? W ⟨bl', _, none⟩ (cc 0 _ rfl (by omega)), ⟨cc 0 _ rfl (by omega), cc 1 _ rfl (by omega), cc 2 _ rfl (by omega), cc 3 _ rfl (by omega), cc 4 _ rfl (by omega), cc 5 _ rfl (by omega), cc 6 _ rfl (by omega), cc 7 _ rfl (by omega)⟩, hI, hs, ht⟩
      · have := bulk_len (l := (List.range N).map D) (fun d hd => by
          obtain ⟨i, hi, rfl⟩ := List.mem_map.1 hd
          obtain ⟨_, _, _, _, _, _, _, _, _, _, _, _, _, _, h1⟩ := each i (List.mem_range.1 hi)
          exact h1)
        rw [List.length_map, List.length_range] at this
        omega
  have hlt3 : ∀ y ∈ p3, y.block < W.heap.size := by
    obtain ⟨fuel, hf⟩ := h3
    exact DataW.trod_lt fuel _ _ _ hf
  refine (tables_any x N cap W hts.2 hts.1 (table hL)).mono fun e W' ⟨he, bel⟩ => ?_
  subst he
  exact ⟨_, rfl, _, _, _, [], _, [], hW', trodAll_mk1 (shut_bool Tryz.underlying4 _), (trodAll_cons_mk (Below.trod laidOut (by kernel_rfl) (of_decide_eq_true (by kernel_rfl)) h3 bel hlt3) trodAll_mk0), rfl, bel.frame _, fun h => by cases h⟩

/-- A listed datum's numbers, as cells. -/
def cellOf : DataW Unit → Value
  | .lit (.int k z) => .int k z
  | _ => .bool false
def cellsOf : DataW Unit → Array Value
  | .agg l => (l.map cellOf).toArray
  | _ => #[]
def put (n : Nat) (d : DataW Unit) (h : Array Obj) : Array Obj := h.modify n fun
  | .cells _ t frozen => .cells (cellsOf d) t frozen
  | o => o
noncomputable def laidWorld (os : Os) : World :=
  { World.holding Tryz.prog os ⟨#[], #[], []⟩ with heap := put 0 Rows.laid_internal_strconv_uint64pow10 (put 1 Rows.laid_math_bits_deBruijn32tab (put 2 Rows.laid_math_bits_deBruijn64tab (World.holding Tryz.prog os ⟨#[], #[], []⟩).heap)) }
theorem laid_met (os : Os) : laidMet Tryz.prog Rows.tablesUptoRow.laid ((laidWorld os).forCall (fun _ _ => 0) ⟨#[], #[.slice none 0 0], []⟩).memory :=
  laidMet_of_run' 8 (by kernel_rfl) (by kernel_rfl)
theorem reads (os : Os) {H : Type} (enc : TypeId × Value → H) : ∃ places, DataW.whole enc Tryz.prog ((laidWorld os).forCall (fun _ _ => 0) ⟨#[], #[.slice none 0 0], []⟩).memory Tryz.f5.params.toList Rows.tablesSpec.vars false #[Value.slice none 0 0].toList 8 = some ([.nil], [], places) :=
  ⟨[], by kernel_rfl⟩

set_option maxRecDepth 100000 in
theorem lifted (os : Os) (started : os.Started) (H : Type) (enc : TypeId × Value → H) (F : Stop.Interp) :
    ReturnsInHanded {} Tryz.checked os 5 .any ((Rows.OpenSpec.upto Rows.tablesSpec).preRow enc Tryz.prog Tryz.f5 Rows.tablesUptoRow.domain false Rows.tablesUptoRow.laid) (((Rows.OpenSpec.upto Rows.tablesSpec).at F).post enc Tryz.prog Tryz.f5 false true false false) := by
  obtain ⟨places, hx⟩ := reads os enc
  refine returnsInHanded_of_row (C := Tryz.checked) (s := Rows.OpenSpec.upto Rows.tablesSpec) own started (by kernel_rfl) Tryz.func5
    (witness_row_at (enc := enc) (C := Tryz.checked) false (laidWorld os) #[.slice none 0 0] rfl (by kernel_rfl) (by kernel_rfl) (by kernel_rfl)
      (OpenSpec.preRow_of_cond 8 hx (by kernel_rfl) (fun k hk => by cases hk; rfl) (by kernel_rfl) (laid_met os))) ?_
  intro W base args ds gs before hval hW _ hk _ hL _ _
  exact contract H enc W base args ds gs before hval hW (hk _ rfl) hL

theorem said : Rows.TablesUptoSaid :=
  OpenClaim.holds_of_cond 5 Tryz.f5 rfl rfl rfl rfl rfl rfl rfl ⟨rfl, rfl, rfl, rfl, rfl⟩ rfl rfl rfl rfl rfl (by kernel_rfl) Tryz.func5 (by kernel_rfl)
    (of_decide_eq_true (by kernel_rfl)) (by unfold Func.isWrapper; first | (rw [if_pos (by decide +kernel)]; kernel_rfl) | (rw [if_neg (by decide +kernel)]; exact ⟨rfl, rfl⟩))
    (fun os started H enc _ F => by rw [OpenClaim.pre_eq_preRow]; exact lifted os started H enc F)

theorem plain (f : FuncId) (fn : Func) (hf : Tryz.pinned.checked.prog.funcNamed "bespoke/bespokelaw.Tables" = some f) (hfn : Tryz.pinned.checked.prog.funcs[f]? = some fn) :
    false = Tryz.pinned.checked.prog.looks [] ∧ ∀ (j : Nat) t, fn.params[j]? = some t → Tryz.pinned.checked.prog.wantsStandIn t = false := by
  obtain rfl : f = 5 := Option.some.inj ((show Tryz.prog.funcNamed "bespoke/bespokelaw.Tables" = some 5 by kernel_rfl).symm.trans hf) |>.symm
  obtain rfl : fn = Tryz.f5 := (Option.some.inj (Tryz.func5.symm.trans hfn)).symm
  refine ⟨by kernel_rfl, fun j t ht => ?_⟩
  rw [Tryz.params5] at ht
  obtain rfl : t = 51 := by simpa using Array.mem_of_getElem? ht
  exact (show Tryz.prog.wantsStandIn 51 = false by kernel_rfl)

theorem card : Rows.TablesUptoCardSaid :=
  Claim7.holds_tied_plain_at .later [] _ _ _ _ said (fun _ h => by cases h) (by kernel_rfl) (fun _ h => by cases h) tablesUpto_row_tie rfl ⟨rfl, rfl⟩ (by kernel_rfl) rfl plain (by kernel_rfl)
end tables
theorem tables_holds : Rows.TablesUptoCardSaid := tables.card
#print axioms tables_holds
end Go.Proofs.YtghggcehloiemabGreatDoor
