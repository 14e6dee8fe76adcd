import Derived.Test.YtghggcehloiemaaRows
import Derived.WalkKit
import Derived.ProofKit
import Derived.OpenShut
import Derived.ShutString
import Derived.Below
import Derived.Test.YtghggcehloiemaaMcKeep
namespace Go.Proofs.Ytghggcehloiemaa
namespace trimmed
open Go.ChangeShapes Go.WideShapes Go.ChangeAt Go.RowKit
open Go.ChangeMaps (open_string shut_string)
set_option linter.unusedVariables false      -- a walk need not use every 'w<i>' (that an integer argument fits its kind)

theorem own : ownKnob Try.prog.godebug = none := by kernel_rfl

theorem copy_out {w0 w : World} {v0 v1 v2 v3 : Value} (hb : Below (w0.alloc (.cells #[v0, v1, v2, v3] 37)).heap.size (w0.alloc (.cells #[v0, v1, v2, v3] 37)) w) : w.heap[w0.heap.size]? = some (.cells #[v0, v1, v2, v3] 37 (0, 0)) := by
  rw [hb.block _ (by simp)]; exact heap_alloc_new _ _
theorem copy_bel {w0 w : World} {v0 v1 v2 v3 : Value} (hb : Below (w0.alloc (.cells #[v0, v1, v2, v3] 37)).heap.size (w0.alloc (.cells #[v0, v1, v2, v3] 37)) w) : Below w0.heap.size w0 w :=
  ((Below.refl _ _).alloc (Nat.le_refl _) _).trans (hb.mono (by simp))

set_option maxHeartbeats 2000000 in
theorem walk (a0 a1 : ByteArray) (a2 a3 a4 a5 : Int) (w0 : a0.size ≤ maxLen) (w1 : a1.size ≤ maxLen) (w2 : (Lit.int .i64 a2).wf = true) (w3 : (Lit.int .i64 a3).wf = true) (w4 : (Lit.int .i64 a4).wf = true) (w5 : (Lit.int .i64 a5).wf = true) (w : World) :
    Calls Try.prog 9 #[.string a0, .string a1, .int .i64 a2, .int .i64 a3, .int .i64 a4, .int .i64 a5] w fun e w' => e = .returned (.bool true) ∧ Below w.heap.size w w' := by
  have hck := fun w => check_any a0 w w0
  have htr := fun w => trim_any a0 w w0
  by_cases hc : P.IsCode a0.data.toList
  · rw [if_pos hc] at hck
    have htr' : ∀ w, Calls Try.prog 21 #[.string a0] w fun e w' => (∃ r, P.IsTrim a0.data.toList r ∧ e = .returned (.tuple #[.string ⟨r.toArray⟩, .int .i64 0])) ∧ Below w.heap.size w w' := fun w => by
      refine (htr w).mono ?_
      rintro e w' ⟨⟨r, er, ht, rfl⟩, hb⟩
      rcases ht with ⟨_, h2, rfl⟩ | ⟨h1, _⟩
      · exact ⟨⟨r, h2, rfl⟩, hb⟩
      · exact absurd hc h1
    have HCK := hid_m hck
    have HTR := hid_m htr'
    have HC := hid_m hc
    obtain ⟨x, hx⟩ : ∃ x, P.runOf a0.data.toList a1.data.toList a2 a3 a4 a5 = x := ⟨_, rfl⟩
    have HR := hid_m (fun w => run_any a0 a1 a2 a3 a4 a5 w w0 x hx)
    have HX := hid_m hx
    have HS0 := hid_m w0
    clear hx w1 w2 w3 w4 w5 hck htr htr' hc w0
    obtain ⟨xm, xr, xs, xn, xe⟩ := x
    simp only [outV] at HR
    go_enter Try.func9, Try.ntmps9
    go_wp2_with fail
    refine (running_any _).mono ?_
    rintro e w1 ⟨rfl, hb1⟩
    have HB1 := hid_m hb1
    clear hb1
    go_wp2_with fail
    refine (HCK.out _).mono ?_
    rintro e w2 ⟨rfl, hb2⟩
    have HB2 := hid_m (HB1.out.trans (hb2.mono HB1.out.size))
    clear hb2
    go_wp2_with fail
    refine (HTR.out _).mono ?_
    rintro e w3 ⟨⟨r, ht, rfl⟩, hb3⟩
    have HB3 := hid_m (HB2.out.trans (hb3.mono HB2.out.size))
    have hl := P.IsTrim.len HC.out ht
    have hrc := P.IsTrim.code HC.out ht
    have hsz : (⟨r.toArray⟩ : ByteArray).size = r.length := rfl
    have hle : (⟨r.toArray⟩ : ByteArray).size ≤ a0.size := by rw [hsz]; have := tl_len' a0; omega
    have hlt : (0 : Int) < ((⟨r.toArray⟩ : ByteArray).size : Int) := by rw [hsz]; omega
    have hle' : ((⟨r.toArray⟩ : ByteArray).size : Int) ≤ (a0.size : Int) := by omega
    have hrun := P.IsTrim.run HC.out ht a1.data.toList a2 a3 a4 a5
    rw [HX.out] at hrun
    have hdl : (⟨r.toArray⟩ : ByteArray).data.toList = r := by simp
    have hm2 : (⟨r.toArray⟩ : ByteArray).size ≤ maxLen := Nat.le_trans hle HS0.out
    have hck2 := fun w => check_any ⟨r.toArray⟩ w hm2
    rw [hdl, if_pos hrc] at hck2
    have htr2 : ∀ w, Calls Try.prog 21 #[.string ⟨r.toArray⟩] w fun e w' => e = .returned (.tuple #[.string ⟨r.toArray⟩, .int .i64 0]) ∧ Below w.heap.size w w' := fun w => by
      refine (trim_any ⟨r.toArray⟩ w hm2).mono ?_
      rintro e w' ⟨⟨r2, er, ht2, rfl⟩, hb⟩
      rw [hdl] at ht2
      rcases ht2 with ⟨_, h2, rfl⟩ | ⟨h1, _⟩
      · rw [P.IsTrim.again HC.out ht h2]; exact ⟨rfl, hb⟩
      · exact absurd hrc h1
    have HR2 := hid_m (fun w => run_any ⟨r.toArray⟩ a1 a2 a3 a4 a5 w hm2 ⟨xm, xr, xs, xn, xe⟩ (by rw [hdl]; exact hrun))
    simp only [outV] at HR2
    have HCK2 := hid_m hck2
    have HTR2 := hid_m htr2
    have HLE := hid_m hle'
    have HLT := hid_m hlt
    obtain ⟨rs, hrs⟩ : ∃ rs : ByteArray, (⟨r.toArray⟩ : ByteArray) = rs := ⟨_, rfl⟩
    rw [hrs] at HR2 HCK2 HTR2 HLE HLT ⊢
    clear hb3 hl hrc hsz hle hlt hle' hrun hdl hm2 hck2 htr2 hrs ht
    go_wp2_with fail
    refine (HR.out _).mono ?_
    rintro e w4 ⟨rfl, hb4⟩
    have HB4 := hid_m (HB3.out.trans (hb4.mono HB3.out.size))
    clear hb4
    go_wp2_with fail
    refine (HCK2.out _).mono ?_
    rintro e w5 ⟨rfl, hb5⟩
    have kx5 := copy_out hb5
    have HKX5 := hid_m kx5
    have HB5 := hid_m (HB4.out.trans ((copy_bel hb5).mono HB4.out.size))
    clear hb5 kx5
    go_wp2_with fail
    refine (HTR2.out _).mono ?_
    rintro e w6 ⟨rfl, hb6⟩
    have kx6 : w6.heap[w4.heap.size]? = some (.cells #[.string ⟨xm.toArray⟩, .int .i64 xr, .int .i64 xs, .int .i64 xn] 37 (0, 0)) := by rw [hb6.block _ (m_blk_lt HKX5.out)]; exact HKX5.out
    have HKX6 := hid_m kx6
    have HB6 := hid_m (HB5.out.trans (hb6.mono HB5.out.size))
    clear hb6 kx6
    go_wp2_with fail
    refine (HR2.out _).mono ?_
    rintro e w7 ⟨rfl, hb7⟩
    have kx : w7.heap[w4.heap.size]? = some (.cells #[.string ⟨xm.toArray⟩, .int .i64 xr, .int .i64 xs, .int .i64 xn] 37 (0, 0)) := by rw [hb7.block _ (m_blk_lt HKX6.out)]; exact HKX6.out
    have HB7 := hid_m (HB6.out.trans (hb7.mono HB6.out.size))
    have kxo : ∀ o, (w7.alloc o).heap[w4.heap.size]? = some (.cells #[.string ⟨xm.toArray⟩, .int .i64 xr, .int .i64 xs, .int .i64 xn] 37 (0, 0)) := fun o => by rw [alloc_old (m_blk_lt kx)]; exact kx
    have x0 : ∀ o, (w7.alloc o).cell? ⟨w4.heap.size, 0, none⟩ = some (.string ⟨xm.toArray⟩) := fun o => (out_facts (kxo o)).1
    have x1 : ∀ o, (w7.alloc o).cell? ⟨w4.heap.size, 1, none⟩ = some (.int .i64 xr) := fun o => (out_facts (kxo o)).2.1
    have x2 : ∀ o, (w7.alloc o).cell? ⟨w4.heap.size, 2, none⟩ = some (.int .i64 xs) := fun o => (out_facts (kxo o)).2.2.1
    have x3 : ∀ o, (w7.alloc o).cell? ⟨w4.heap.size, 3, none⟩ = some (.int .i64 xn) := fun o => (out_facts (kxo o)).2.2.2.1
    have hle := HLE.out
    have hlt := HLT.out
    clear kx kxo hb7
    go_wp2_with fail
    go_ret
    exact ⟨by simp, HB7.out.alloc HB7.out.size _⟩
  · rw [if_neg hc] at hck
    have htr' : ∀ w, Calls Try.prog 21 #[.string a0] w fun e w' => e = .returned (.tuple #[.string ⟨#[]⟩, .int .i64 4]) ∧ Below w.heap.size w w' := fun w => by
      refine (htr w).mono ?_
      rintro e w' ⟨⟨r, er, ht, rfl⟩, hb⟩
      rcases ht with ⟨h1, _⟩ | ⟨_, rfl, rfl⟩
      · exact absurd h1 hc
      · exact ⟨rfl, hb⟩
    have HCK := hid_m hck
    have HTR := hid_m htr'
    have HR := hid_m (fun w => run_any a0 a1 a2 a3 a4 a5 w w0 _ (runOfP_code hc))
    simp only [outV] at HR
    clear w1 w2 w3 w4 w5 hck htr htr' hc w0
    go_enter Try.func9, Try.ntmps9
    go_wp2_with fail
    refine (running_any _).mono ?_
    rintro e w1 ⟨rfl, hb1⟩
    have HB1 := hid_m hb1
    clear hb1
    go_wp2_with fail
    refine (HCK.out _).mono ?_
    rintro e w2 ⟨rfl, hb2⟩
    have HB2 := hid_m (HB1.out.trans (hb2.mono HB1.out.size))
    clear hb2
    go_wp2_with fail
    refine (HTR.out _).mono ?_
    rintro e w3 ⟨rfl, hb3⟩
    have HB3 := hid_m (HB2.out.trans (hb3.mono HB2.out.size))
    clear hb3
    go_wp2_with fail
    refine (HR.out _).mono ?_
    rintro e w4 ⟨rfl, hb4⟩
    have HB4 := hid_m (HB3.out.trans (hb4.mono HB3.out.size))
    clear hb4
    go_wp2_with fail
    go_ret
    exact ⟨by simp, HB4.out.alloc HB4.out.size _⟩

set_option maxRecDepth 100000 in
theorem lifted (os : Os) (started : os.Started) (H : Type) (enc : TypeId × Value → H) :
    ReturnsInHanded {} Try.checked os 9 .any (Rows.trimmedSpec.pre6 enc Try.prog Try.f9 Rows.trimmedRow.domain false) (Rows.trimmedSpec.post enc Try.prog Try.f9 false true false false) := by
  refine returnsInHanded_of_change (C := Try.checked) own started (by kernel_rfl) Try.func9
    (ChangeSpec.witness6 (enc := enc) (C := Try.checked) false ⟨#[], #[.string ByteArray.empty, .string ByteArray.empty, .int .i64 0, .int .i64 0, .int .i64 0, .int .i64 0], []⟩ 8 (by kernel_rfl) (by kernel_rfl) (by kernel_rfl) (by kernel_rfl)) ?_
  intro W base args ds gs before hval0 hW hcnd _
  have hval : ∀ (j : Nat) t v, Try.f9.params[j]? = some t → args[j]? = some v → Value.okWide Try.prog W .any base t v := hval0
  have hW' := hW
  obtain ⟨p, q, hA0, hV, rfl, hfz, hnd⟩ := hW
  have hA : DataW.TrodAll enc Try.prog W 0 (fun _ => true) true Try.f9.params.toList args.toList ds p := hA0
  rw [Try.params9] at hA hval
  obtain ⟨v0, vs0, d0, ds0, p0, q0, hargs, rfl, rfl, h0, r0⟩ := trodAll_cons hA
  obtain ⟨v1, vs1, d1, ds1, p1, q1, rfl, rfl, rfl, h1, r1⟩ := trodAll_cons r0
  obtain ⟨v2, vs2, d2, ds2, p2, q2, rfl, rfl, rfl, h2, r2⟩ := trodAll_cons r1
  obtain ⟨v3, vs3, d3, ds3, p3, q3, rfl, rfl, rfl, h3, r3⟩ := trodAll_cons r2
  obtain ⟨v4, vs4, d4, ds4, p4, q4, rfl, rfl, rfl, h4, r4⟩ := trodAll_cons r3
  obtain ⟨v5, vs5, d5, ds5, p5, q5, rfl, rfl, rfl, h5, r5⟩ := trodAll_cons r4
  obtain ⟨rfl, rfl, rfl⟩ := trodAll_nil r5
  obtain rfl : args = #[v0, v1, v2, v3, v4, v5] := by cases args; simp_all
  obtain ⟨rfl, rfl⟩ := trodVars_none hV
  obtain ⟨a0, rfl, rfl, rfl, w0⟩ := open_string Try.underlying9 (hval 0 9 v0 rfl rfl) h0
  obtain ⟨a1, rfl, rfl, rfl, w1⟩ := open_string Try.underlying9 (hval 1 9 v1 rfl rfl) h1
  obtain ⟨a2, rfl, rfl, rfl, w2⟩ := open_int Try.underlying3 (hval 2 3 v2 rfl rfl) h2
  obtain ⟨a3, rfl, rfl, rfl, w3⟩ := open_int Try.underlying3 (hval 3 3 v3 rfl rfl) h3
  obtain ⟨a4, rfl, rfl, rfl, w4⟩ := open_int Try.underlying3 (hval 4 3 v4 rfl rfl) h4
  obtain ⟨a5, rfl, rfl, rfl, w5⟩ := open_int Try.underlying3 (hval 5 3 v5 rfl rfl) h5
  clear hA0 hval0
  simp only [List.append_nil] at hW'
  refine (walk a0 a1 a2 a3 a4 a5 w0 w1 w2 w3 w4 w5 W).mono fun e W' ⟨he, bel⟩ => ?_
  subst he
  exact ⟨_, rfl, _, _, _, [], _, [], hW', trodAll_mk1 (shut_bool Try.underlying4 _), (trodAll_cons_mk (shut_string Try.underlying9 w0) (trodAll_cons_mk (shut_string Try.underlying9 w1) (trodAll_cons_mk (shut_int Try.underlying3 w2) (trodAll_cons_mk (shut_int Try.underlying3 w3) (trodAll_cons_mk (shut_int Try.underlying3 w4) (trodAll_cons_mk (shut_int Try.underlying3 w5) trodAll_mk0)))))), rfl, bel.frame _, fun h => by cases h⟩

theorem over : Rows.trimmedRow.holds Try.pinned (OpenSpec.ofChange Rows.trimmedSpec) :=
  OpenClaim.holds_of_wide 9 Try.f9 rfl rfl rfl rfl rfl rfl rfl ⟨rfl, rfl, rfl, rfl, rfl⟩ rfl rfl rfl rfl rfl (by kernel_rfl) Try.func9 (by kernel_rfl)
    (of_decide_eq_true (by kernel_rfl)) (by unfold Func.isWrapper; first | (rw [if_pos (by decide +kernel)]; kernel_rfl) | (rw [if_neg (by decide +kernel)]; exact ⟨rfl, rfl⟩))
    (fun os started H enc _ => lifted os started H enc)

theorem proved : Rows.TrimmedSaid := over
end trimmed
theorem trimmed_holds : Rows.TrimmedSaid := trimmed.proved
#print axioms trimmed_holds
end Go.Proofs.Ytghggcehloiemaa
