import Derived.Test.YtghggcehloiemaaRows
import Derived.WalkKit
import Derived.ProofKit
import Derived.OpenShut
import Derived.ShutString
import Derived.Below
import Derived.JoinedCond
import Derived.Test.YtghggcehloiemaaRefEnc
import Derived.Test.YtghggcehloiemaaLayEq2
namespace Go.Proofs.Ytghggcehloiemaa
namespace encodes
open Go.ChangeShapes Go.WideShapes Go.ChangeAt Go.RowKit
open Go.ChangeMaps (open_string shut_string)
set_option linter.unusedVariables false
set_option maxRecDepth 16000

theorem own : ownKnob Try.prog.godebug = none := by kernel_rfl

theorem ty_eq (l : List UInt8) : P.tyOf l = P.rtyOf l := by
  unfold P.tyOf P.rtyOf
  by_cases h : 80 < l.length
  · rw [if_pos h, if_pos h]
  · rw [if_neg h, if_neg h]; exact P.rd_rp l
theorem enc_eq (lt lv : List UInt8) (fill : Int) : P.encOf lt lv fill = P.rencOf lt lv fill := by
  unfold P.encOf P.rencOf
  rw [ty_eq]
  cases ht : P.rtyOf lt with
  | none => rfl
  | some t =>
    have hrp : P.rp 4 lt = some t := by
      unfold P.rtyOf at ht
      split at ht
      · cases ht
      · exact ht
    have key := P.lay_lie t lv (P.fillB fill) (P.rp_sm 4 _ t hrp) (P.rp_nm 4 _ t hrp)
    simp only
    cases hl : P.layAll (P.parts 4 t) lv (List.replicate (P.sz 4 t).1 (P.fillB fill)) with
    | none =>
      rw [hl] at key
      cases hq : P.lieP 4 t lv with
      | none => rfl
      | some L => rw [hq] at key; cases key
    | some y =>
      obtain ⟨l', bs⟩ := y
      rw [hl] at key
      cases l' with
      | nil =>
        cases hq : P.lieP 4 t lv with
        | none => rw [hq] at key; cases key
        | some L =>
          rw [hq] at key
          simp only [Option.map_some] at key
          have hb := Option.some.inj key
          simp only [P.filled, hb]
      | cons c r =>
        cases hq : P.lieP 4 t lv with
        | none => rfl
        | some L => rw [hq] at key; cases key

set_option maxHeartbeats 400000 in
theorem num_any (n : Int) (w : World) : Calls Try.prog 14 #[.int .i64 n] w fun e w' => e = .returned (.int .i64 n) ∧ w' = w := by
  go_enter Try.func14, Try.ntmps14
  go_wp2
  go_ret
  exact ⟨by simp, rfl⟩

set_option maxHeartbeats 1000000 in
theorem walk (a0 a1 : ByteArray) (a2 : Int) (w0 : a0.size ≤ maxLen) (w1 : a1.size ≤ 1048576) (w : World) :
    Calls Try.prog 4 #[.string a0, .string a1, .int .i64 a2] w fun e w' => e = .returned (.bool true) ∧ Below w.heap.size w w' := by
  have he := enc_eq a0.data.toList a1.data.toList a2
  obtain ⟨x, hx⟩ : ∃ x, P.encOf a0.data.toList a1.data.toList a2 = x := ⟨_, rfl⟩
  have HX : Hid (P.encOf a0.data.toList a1.data.toList a2 = x) := hx
  have HR : Hid (P.rencOf a0.data.toList a1.data.toList a2 = x) := by unfold Hid; rw [← he]; exact hx
  clear he hx
  obtain ⟨x1, x2⟩ := x
  go_enter Try.func4, Try.ntmps4
  go_wp2_with fail
  refine (encode_any a0 a1 a2 _ w0 (by unfold maxLen; omega)).mono ?_
  rintro e w1 ⟨rfl, hb1⟩
  rw [HX.out]
  go_wp2_with fail
  refine (rencode_any a0 a1 a2 _ w0 (by omega)).mono ?_
  rintro e w2 ⟨rfl, hb2⟩
  rw [HR.out]
  go_wp2_with fail
  refine (num_any _ _).mono ?_
  rintro e w3 ⟨rfl, rfl⟩
  go_wp2_with fail
  go_ret
  exact ⟨by simp, hb1.trans (hb2.mono hb1.size)⟩

theorem short {H : Type} {l0 l1 : List UInt8} {d : DataW H} (hk : Rows.uptoSmall H [.lit (.string l0), .lit (.string l1), d] = true) : l1.length ≤ 1048576 := by
  have h := of_decide_eq_true hk
  simp only [Rows.uptoBulkAll, Rows.uptoBulk] at h
  omega

theorem contract (H : Type) (enc : TypeId × Value → H) (W : World) (base : Nat) (args : Array Value) (ds gs : List (DataW H)) (before : List MemPlace)
    (hval : ∀ (j : Nat) t v, Try.f4.params[j]? = some t → args[j]? = some v → Value.okWide Try.prog W .any base t v)
    (hW : DataW.Whole enc Try.prog Try.f4.params.toList Rows.encodesSpec.vars false W args.toList ds gs before) (hk : Rows.uptoSmall H (ds ++ gs) = true) :
    Calls Try.prog 4 args W fun e W' => ∃ v, e = .returned v ∧ Rows.encodesSpec.post enc Try.prog Try.f4 false true false false W args v W' := by
  have hW' := hW
  obtain ⟨p, q, hA0, hV, rfl, hfz, hnd⟩ := hW
  have hA : DataW.TrodAll enc Try.prog W 0 (fun _ => true) true Try.f4.params.toList args.toList ds p := hA0
  rw [Try.params4] at hA hval
  obtain ⟨v0, vs0, d0, ds0, p0, q0, hargs, rfl, rfl, h0, r0⟩ := trodAll_cons hA
  obtain ⟨v1, vs1, d1, ds1, p1, q1, rfl, rfl, rfl, h1, r1⟩ := trodAll_cons r0
  obtain ⟨v2, vs2, d2, ds2, p2, q2, rfl, rfl, rfl, h2, r2⟩ := trodAll_cons r1
  obtain ⟨rfl, rfl, rfl⟩ := trodAll_nil r2
  obtain rfl : args = #[v0, v1, v2] := by cases args; simp_all
  obtain ⟨rfl, rfl⟩ := trodVars_none hV
  obtain ⟨a0, rfl, rfl, rfl, w0⟩ := open_string Try.underlying9 (hval 0 9 v0 rfl rfl) h0
  obtain ⟨a1, rfl, rfl, rfl, w1⟩ := open_string Try.underlying9 (hval 1 9 v1 rfl rfl) h1
  obtain ⟨a2, rfl, rfl, rfl, w2⟩ := open_int Try.underlying3 (hval 2 3 v2 rfl rfl) h2
  clear hA0
  simp only [List.append_nil] at hW' hk
  have hsh : a1.size ≤ 1048576 := by have := short hk; rwa [tl_len] at this
  refine (walk a0 a1 a2 w0 hsh W).mono fun e W' ⟨he, bel⟩ => ?_
  subst he
  exact ⟨_, rfl, _, _, _, [], _, [], hW', trodAll_mk1 (shut_bool Try.underlying4 _), (trodAll_cons_mk (shut_string Try.underlying9 w0) (trodAll_cons_mk (shut_string Try.underlying9 w1) (trodAll_cons_mk (shut_int Try.underlying3 w2) trodAll_mk0))), rfl, bel.frame _, fun h => by cases h⟩

set_option maxRecDepth 100000 in
theorem lifted (os : Os) (started : os.Started) (H : Type) (enc : TypeId × Value → H) (F : Stop.Interp) :
    ReturnsInHanded {} Try.checked os 4 .any ((Rows.OpenSpec.upto Rows.encodesSpec).pre6 enc Try.prog Try.f4 Rows.encodesUptoRow.domain false) (((Rows.OpenSpec.upto Rows.encodesSpec).at F).post enc Try.prog Try.f4 false true false false) := by
  refine returnsInHanded_of_cond (C := Try.checked) (s := Rows.OpenSpec.upto Rows.encodesSpec) (k := Rows.uptoSmall) rfl own started (by kernel_rfl) Try.func4
    (OpenSpec.witness (enc := enc) (C := Try.checked) (s := Rows.OpenSpec.upto Rows.encodesSpec) (k := Rows.uptoSmall) rfl false ⟨#[], #[.string .empty, .string .empty, .int .i64 0], []⟩ 8 (by kernel_rfl) (by kernel_rfl) (by kernel_rfl)
      (x := ([.lit (.string []), .lit (.string []), .lit (.int .i64 0)], [], [])) (by kernel_rfl) rfl (by kernel_rfl)) ?_
  intro W base args ds gs before hval hW _ hk _
  exact contract H enc W base args ds gs before hval hW hk

theorem proved : Rows.EncodesUptoSaid :=
  OpenClaim.holds_of_cond 4 Try.f4 rfl rfl rfl rfl rfl rfl rfl ⟨rfl, rfl, rfl, rfl, rfl⟩ rfl rfl rfl rfl rfl (by kernel_rfl) Try.func4 (by kernel_rfl)
    (of_decide_eq_true (by kernel_rfl)) (by unfold Func.isWrapper; first | (rw [if_pos (by decide +kernel)]; kernel_rfl) | (rw [if_neg (by decide +kernel)]; exact ⟨rfl, rfl⟩))
    (fun os started H enc _ F => lifted os started H enc F)
end encodes
theorem encodes_holds : Rows.EncodesUptoSaid := encodes.proved
#print axioms encodes_holds
end Go.Proofs.Ytghggcehloiemaa
