import Derived.Test.YtghggcehloiemabRows
import Derived.WalkKit
import Derived.ProofKit
import Derived.OpenShut
import Derived.ShutString
import Derived.Below
import Derived.Carry
import Derived.JoinedCond
import Derived.Deep.Slices
import Derived.Test.YtghggcehloiemabOpenTAll
import Derived.Test.YtghggcehloiemabMdWAll
namespace Go.Proofs.Ytghggcehloiemab
namespace made
open Go.ChangeShapes Go.WideShapes Go.ChangeAt Go.RowKit
open Go.ChangeMaps (open_string shut_string)
set_option linter.unusedVariables false
set_option maxRecDepth 16000

theorem own : ownKnob Try.prog.godebug = none := by kernel_rfl
theorem laidOut : laidOutB Try.prog = true := by kernel_rfl

theorem bulk_mem {H : Type} {d : DataW H} : ∀ {l : List (DataW H)}, d ∈ l → Rows.uptoBulk d ≤ Rows.uptoBulkAll l
  | [], h => by simp at h
  | x :: l, h => by
    simp only [Rows.uptoBulkAll]
    rcases List.mem_cons.1 h with rfl | h
    · omega
    · have := bulk_mem h; omega
theorem short {H : Type} {d0 d1 d2 : DataW H} {elems spare : List (DataW H)} (hk : Rows.uptoSmall H [d0, d1, d2, .slice elems spare] = true) {d : DataW H} (hd : d ∈ elems) : Rows.uptoBulk d ≤ 1048576 := by
  have h := of_decide_eq_true hk
  have h2 := bulk_mem hd
  simp only [Rows.uptoBulkAll, Rows.uptoBulk] at h
  omega
theorem task_short {H : Type} {e0 e3 e4 e5 e6 : DataW H} {k v : List UInt8} (h : Rows.uptoBulk (.agg [e0, .lit (.string k), .lit (.string v), e3, e4, e5, e6]) ≤ 1048576) : k.length ≤ 1048576 ∧ v.length ≤ 1048576 := by
  simp only [Rows.uptoBulkAll, Rows.uptoBulk] at h
  omega

theorem addp (b o n : Nat) : (⟨b, o, none⟩ : Addr).add n = ⟨b, o + n, none⟩ := by unfold Addr.add; split <;> simp_all
theorem spot_none {w : World} {b o : Nat} {s : Option Nat} {v : Value} (h : w.cell? ⟨b, o, s⟩ = some v) : s = none := by
  unfold World.cell? at h
  cases s with
  | none => rfl
  | some n => simp only at h; split at h <;> simp at h
theorem contract (H : Type) (enc : TypeId × Value → H) (W : World) (base : Nat) (args : Array Value) (ds gs : List (DataW H)) (before : List MemPlace)
    (hval : ∀ (j : Nat) t v, Try.f3.params[j]? = some t → args[j]? = some v → Value.okWide Try.prog W .any base t v)
    (hW : DataW.Whole enc Try.prog Try.f3.params.toList Rows.madeSpec.vars false W args.toList ds gs before) (hk : Rows.uptoSmall H (ds ++ gs) = true) :
    Calls Try.prog 3 args W fun e W' => ∃ v, e = .returned v ∧ Rows.madeSpec.post enc Try.prog Try.f3 false true false false W args v W' := by
  have hW' := hW
  obtain ⟨p, q, hA0, hV, rfl, hfz, hnd⟩ := hW
  have hA : DataW.TrodAll enc Try.prog W 0 (fun _ => true) true Try.f3.params.toList args.toList ds p := hA0
  rw [Try.params3] at hA hval
  obtain ⟨v0, vs0, d0, ds0, p0, q0, hargs, rfl, rfl, h0, r0⟩ := trodAll_cons hA
  obtain ⟨v1, vs1, d1, ds1, p1, q1, rfl, rfl, rfl, h1, r1⟩ := trodAll_cons r0
  obtain ⟨v2, vs2, d2, ds2, p2, q2, rfl, rfl, rfl, h2, r2⟩ := trodAll_cons r1
  obtain ⟨v3, vs3, d3, ds3, p3, q3, rfl, rfl, rfl, h3, r3⟩ := trodAll_cons r2
  obtain ⟨rfl, rfl, rfl⟩ := trodAll_nil r3
  obtain rfl : args = #[v0, v1, v2, v3] := by cases args; simp_all
  obtain ⟨rfl, rfl⟩ := trodVars_none hV
  obtain ⟨a0, rfl, rfl, rfl, w0⟩ := open_string Try.underlying9 (hval 0 9 v0 rfl rfl) h0
  obtain ⟨a1, rfl, rfl, rfl, w1⟩ := open_string Try.underlying9 (hval 1 9 v1 rfl rfl) h1
  obtain ⟨a2, rfl, rfl, rfl, w2⟩ := open_int Try.underlying3 (hval 2 3 v2 rfl rfl) h2
  obtain ⟨x, N, cap, rfl⟩ := okWide_slice Try.underlying22 (hval 3 22 v3 rfl rfl)
  clear hA0
  simp only [List.append_nil] at hW' hk
  have hts : TasksAt W x N ∧ N ≤ maxLen := by
    obtain ⟨fuel, hf⟩ := h3
    have hf' : DataW.trod enc Try.prog W 0 (fun _ => true) true fuel 22 [.slice x N cap] = some (d3, p3) := hf
    rcases Go.Deep.open_slice Try.underlying22 hf' with ⟨hcs, _⟩ | ⟨a, len, cp, m, n, D, Pl, hcs, hb, hl, hcm, hm, hx, hall⟩
    · simp only [List.cons.injEq, Value.slice.injEq, and_true] at hcs
      obtain ⟨rfl, rfl, rfl⟩ := hcs
      exact ⟨fun i hi => absurd hi (Nat.not_lt_zero _), Nat.zero_le _⟩
    · simp only [List.cons.injEq, Value.slice.injEq, and_true] at hcs
      obtain ⟨rfl, rfl, rfl⟩ := hcs
      simp only [Prod.mk.injEq] at hx
      obtain ⟨rfl, _⟩ := hx
      refine ⟨fun i hi => ?_, by omega⟩
      have him : i < m := by rw [hm]; simp; omega
      obtain ⟨cs, hcells, htr⟩ := hall i him
      rw [cellsTask] at hcells
      obtain ⟨_, hlen, hcell⟩ := World.cells?_some hcells
      obtain ⟨t, k, v, f, g, b, s, rfl, _, _, bf, bg, ba, bs, bt, e0, e3, e4, e5, e6, he⟩ := task_cells htr
      have hsh := short hk (List.mem_map.2 ⟨i, List.mem_range.2 hi, rfl⟩ : D i ∈ (List.range N).map D)
      simp only at he
      rw [he] at hsh
      obtain ⟨hk1, hv1⟩ := task_short hsh
      obtain ⟨bl, o, spot⟩ := a
      have hsp : spot = none := by
        obtain ⟨cs', hc', htr'⟩ := hall 0 (by omega)
        rw [cellsTask] at hc'
        obtain ⟨_, hl', hcell'⟩ := World.cells?_some hc'
        obtain ⟨t', k', v', f', g', b', s', rfl, _⟩ := task_cells htr'
        have := hcell' 0 (by omega)
        rw [Nat.zero_mul] at this
        exact spot_none (v := .int .i64 t') this
      subst hsp
      have cc : ∀ j u, [Value.int .i64 t, Value.string k, Value.string v, Value.int .i64 f, Value.int .i64 g, Value.int .i64 b, Value.int .i64 s][j]? = some u → j < 7 → W.cell? ⟨bl, o + i * 7 + j, none⟩ = some u := by
        intro j u hj h7
        have := hcell j h7
        rw [hj, addp, addp] at this
        exact this
      exact ⟨bl, o, t, k, v, f, g, b, s, rfl, World.block_lt_of_cell? W ⟨bl, _, none⟩ (cc 0 _ rfl (by omega)), ⟨cc 0 _ rfl (by omega), cc 1 _ rfl (by omega), cc 2 _ rfl (by omega), cc 3 _ rfl (by omega), cc 4 _ rfl (by omega), cc 5 _ rfl (by omega), cc 6 _ rfl (by omega)⟩, by rw [tl_len] at hk1; omega, by rw [tl_len] at hv1; omega, bf, bg, ba⟩
  have hlt3 : ∀ y ∈ p3, y.block < W.heap.size := by
    obtain ⟨fuel, hf⟩ := h3
    exact DataW.trod_lt fuel _ _ _ hf
  have fin : ∀ {e : Ending} {W' : World}, e = .returned (.bool true) ∧ Below W.heap.size W W' → ∃ v, e = .returned v ∧ Rows.madeSpec.post enc Try.prog Try.f3 false true false false W #[.string a0, .string a1, .int .i64 a2, .slice x N cap] v W' := by
    rintro e W' ⟨rfl, bel⟩
    exact ⟨_, rfl, _, _, _, [], _, [], hW', trodAll_mk1 (shut_bool Try.underlying4 _), (trodAll_cons_mk (shut_string Try.underlying9 w0) (trodAll_cons_mk (shut_string Try.underlying9 w1) (trodAll_cons_mk (shut_int Try.underlying3 w2) (trodAll_cons_mk (Below.trod laidOut (by kernel_rfl) (of_decide_eq_true (by kernel_rfl)) h3 bel hlt3) trodAll_mk0)))), rfl, bel.frame _, fun h => by cases h⟩
  by_cases he : P.errOf a0.data.toList a1.data.toList a2 = 0
  · exact (made_yes a0 a1 a2 x N cap W w0 w1 hts.2 hts.1 he).mono fun e W' h => fin h
  · exact (made_no a0 a1 a2 x N cap W w0 w1 he).mono fun e W' h => fin h

set_option maxRecDepth 100000 in
theorem lifted (os : Os) (started : os.Started) (H : Type) (enc : TypeId × Value → H) (F : Stop.Interp) :
    ReturnsInHanded {} Try.checked os 3 .any ((Rows.OpenSpec.upto Rows.madeSpec).pre6 enc Try.prog Try.f3 Rows.madeUptoRow.domain false) (((Rows.OpenSpec.upto Rows.madeSpec).at F).post enc Try.prog Try.f3 false true false false) := by
  refine returnsInHanded_of_cond (C := Try.checked) (s := Rows.OpenSpec.upto Rows.madeSpec) (k := Rows.uptoSmall) rfl own started (by kernel_rfl) Try.func3
    (OpenSpec.witness (enc := enc) (C := Try.checked) (s := Rows.OpenSpec.upto Rows.madeSpec) (k := Rows.uptoSmall) rfl false ⟨#[], #[.string .empty, .string .empty, .int .i64 0, .slice none 0 0], []⟩ 8 (by kernel_rfl) (by kernel_rfl) (by kernel_rfl)
      (x := ([.lit (.string []), .lit (.string []), .lit (.int .i64 0), .nil], [], [])) (by kernel_rfl) rfl (by kernel_rfl)) ?_
  intro W base args ds gs before hval hW _ hk _
  exact contract H enc W base args ds gs before hval hW hk

theorem proved : Rows.MadeUptoSaid :=
  OpenClaim.holds_of_cond 3 Try.f3 rfl rfl rfl rfl rfl rfl rfl ⟨rfl, rfl, rfl, rfl, rfl⟩ rfl rfl rfl rfl rfl (by kernel_rfl) Try.func3 (by kernel_rfl)
    (of_decide_eq_true (by kernel_rfl)) (by unfold Func.isWrapper; first | (rw [if_pos (by decide +kernel)]; kernel_rfl) | (rw [if_neg (by decide +kernel)]; exact ⟨rfl, rfl⟩))
    (fun os started H enc _ F => lifted os started H enc F)
end made
theorem made_holds : Rows.MadeUptoSaid := made.proved
#print axioms made_holds
end Go.Proofs.Ytghggcehloiemab
