import Derived.Test.YtghggcehloiemaaRows
import Derived.WalkKit
import Derived.ProofKit
import Derived.OpenShut
import Derived.ShutString
import Derived.Below
import Derived.Test.YtghggcehloiemaaMcSums
namespace Go.Proofs.Ytghggcehloiemaa
namespace sums
open Go.ChangeShapes Go.WideShapes Go.ChangeAt Go.RowKit
open Go.ChangeMaps (open_string shut_string)
set_option linter.unusedVariables false      -- a walk need not use every 'w<i>' (that an integer argument fits its kind)

theorem own : ownKnob Try.prog.godebug = none := by kernel_rfl

theorem lit_fits {n : Int} (h : (Lit.int .i64 n).wf = true) : -9223372036854775808 ≤ n ∧ n ≤ 9223372036854775807 := by
  simp only [Lit.wf, Bool.and_eq_true, decide_eq_true_eq] at h
  exact ⟨h.1, h.2⟩

set_option maxHeartbeats 4000000 in
theorem walk (a0 a1 a2 : Int) (w0 : (Lit.int .i64 a0).wf = true) (w1 : (Lit.int .i64 a1).wf = true) (w2 : (Lit.int .i64 a2).wf = true) (w : World) :
    Calls Try.prog 8 #[.int .i64 a0, .int .i64 a1, .int .i64 a2] w fun e w' => e = .returned (.bool true) ∧ Below w.heap.size w w' := by
  have b0 := lit_fits w0
  have b1 := lit_fits w1
  have b2 := lit_fits w2
  have hA : ∀ w, Calls Try.prog 23 #[.int .i64 a0, .int .i64 4294967296] w fun e w' => e = .returned (.int .i64 (P.pickN a0 4294967296)) ∧ w' = w := fun w => mpick_any a0 4294967296 w (by decide) (by decide) b0.1 b0.2
  have hB : ∀ w, Calls Try.prog 23 #[.int .i64 a1, .int .i64 4294967296] w fun e w' => e = .returned (.int .i64 (P.pickN a1 4294967296)) ∧ w' = w := fun w => mpick_any a1 4294967296 w (by decide) (by decide) b1.1 b1.2
  have hC : ∀ w, Calls Try.prog 23 #[.int .i64 a2, .int .i64 65536] w fun e w' => e = .returned (.int .i64 (P.pickN a2 65536)) ∧ w' = w := fun w => mpick_any a2 65536 w (by decide) (by decide) b2.1 b2.2
  have lx := mpick_lt a0 4294967296 (by decide)
  have ly := mpick_lt a1 4294967296 (by decide)
  have lk := mpick_lt a2 65536 (by decide)
  obtain ⟨x, hx⟩ : ∃ x, P.pickN a0 4294967296 = x := ⟨_, rfl⟩
  obtain ⟨y, hy⟩ : ∃ y, P.pickN a1 4294967296 = y := ⟨_, rfl⟩
  obtain ⟨k, hk⟩ : ∃ k, P.pickN a2 65536 = k := ⟨_, rfl⟩
  rw [hx] at hA lx
  rw [hy] at hB ly
  rw [hk] at hC lk
  have HA := hid_m hA
  have HB := hid_m hB
  have HC := hid_m hC
  have HL := hid_m (And.intro lx (And.intro ly lk))
  clear hA hB hC hx hy hk b0 b1 b2 w0 w1 w2 lx ly lk
  go_enter Try.func8, Try.ntmps8
  go_wp2_with fail
  refine (HA.out _).mono ?_
  rintro e wx ⟨rfl, hwx⟩
  subst wx
  go_wp2_with fail
  refine (HB.out _).mono ?_
  rintro e wx ⟨rfl, hwx⟩
  subst wx
  go_wp2_with fail
  refine (HC.out _).mono ?_
  rintro e wx ⟨rfl, hwx⟩
  subst wx
  go_wp2_with fail
  refine (running_any _).mono ?_
  rintro e w1 ⟨rfl, hb1⟩
  have HB1 := hid_m hb1
  clear hb1
  go_wp2_with fail
  go_region
  have hrow := sums_row x y k HL.out.1 HL.out.2.1
  rw [hrow]
  have hk1 : (w1.alloc (.cells #[.int .i64 0, natV (sumW x y k 1), natV (sumW x y k 2), natV (sumW x y k 3), natV (sumW x y k 4), natV (sumW x y k 5), natV (sumW x y k 6), natV (sumW x y k 7), natV (sumW x y k 8)] 3)).drew.heap[w1.heap.size]? = some (.cells #[.int .i64 0, natV (sumW x y k 1), natV (sumW x y k 2), natV (sumW x y k 3), natV (sumW x y k 4), natV (sumW x y k 5), natV (sumW x y k 6), natV (sumW x y k 7), natV (sumW x y k 8)] 3 (0, 0)) := heap_alloc_new w1 _
  have hbe1 : Below w.heap.size w (w1.alloc (.cells #[.int .i64 0, natV (sumW x y k 1), natV (sumW x y k 2), natV (sumW x y k 3), natV (sumW x y k 4), natV (sumW x y k 5), natV (sumW x y k 6), natV (sumW x y k 7), natV (sumW x y k 8)] 3)).drew := drew_below (HB1.out.alloc HB1.out.size _)
  generalize (w1.alloc (.cells #[.int .i64 0, natV (sumW x y k 1), natV (sumW x y k 2), natV (sumW x y k 3), natV (sumW x y k 4), natV (sumW x y k 5), natV (sumW x y k 6), natV (sumW x y k 7), natV (sumW x y k 8)] 3)).drew = W at hk1 hbe1 ⊢
  have HK1 := hid_m hk1
  have HBE := hid_m hbe1
  have HGL := hid_m (m_blk_lt hk1)
  clear hrow hk1 hbe1
  go_wp2_with fail
  go_loopw [9, 11] (fun okv opv wr => ∃ q : Nat, 1 ≤ q ∧ q ≤ 9 ∧ okv = .bool true ∧ opv = .int .i64 q ∧ Hid (Below W.heap.size W wr)) (fun _ opv _ => 9 - (intOf opv).toNat)
  case atStart => exact ⟨1, by decide, by decide, rfl, rfl, Below.refl _ _⟩
  case round =>
    obtain ⟨q, hq1, hq9, rfl, rfl, HBR⟩ := hrel
    by_cases hlt : q ≤ 8
    · have hle : (q : Int) ≤ 8 := by omega
      have hqw : wrap64 ((q : Int) + 1) = (q : Int) + 1 := w64_id _ (by omega) (by omega)
      have HQW := hid_m hqw
      obtain ⟨hh, hhe⟩ : ∃ hh, (if q = 8 then k % 32 else k) = hh := ⟨_, rfl⟩
      have hhl : hh < 65536 := by rw [← hhe]; have := HL.out.2.2; split <;> omega
      have h31 : q = 8 → hh ≤ 31 := fun e => by rw [← hhe, if_pos e]; omega
      have HCD := hid_m (fun w => kcode_any q hh w hlt hhl)
      have hrun := P.one_sum q hh x y hq1 hlt hhl h31 HL.out.1 HL.out.2.1
      have hsum : P.reck ⟨q, 0, 1, hh⟩ x y = sumW x y k q := by unfold sumW; rw [hhe]
      rw [hsum] at hrun
      have hc1 : ∀ w', Below W.heap.size W w' → ∀ o, (w'.alloc o).cell? ⟨w1.heap.size, q, none⟩ = some (.int .i64 (sumW x y k q)) := fun w' hb o => by
        have hk' : w'.heap[w1.heap.size]? = _ := (hb.block _ HGL.out).trans HK1.out
        rw [cell_alloc_old (m_blk_lt hk')]; exact sums_cell hk' hq1 hlt
      have HC1 := hid_m hc1
      have ht : (P.text [⟨q, 0, 1, hh⟩, ⟨0, 0, 0, 0⟩]).length = 10 := by rw [P.text_length]; rfl
      obtain ⟨cs, hcs⟩ : ∃ cs : ByteArray, (⟨(P.text [⟨q, 0, 1, hh⟩, ⟨0, 0, 0, 0⟩]).toArray⟩ : ByteArray) = cs := ⟨_, rfl⟩
      have hcl : cs.data.toList = P.text [⟨q, 0, 1, hh⟩, ⟨0, 0, 0, 0⟩] := by rw [← hcs]
      have hcz : cs.size ≤ maxLen := by have : cs.size = 10 := by rw [← hcs]; exact ht
                                        unfold maxLen; omega
      rw [hcs] at HCD
      obtain ⟨S1, hS1⟩ : ∃ S1, sumW x y k q = S1 := ⟨_, rfl⟩
      rw [hS1] at hrun HC1
      have HR := hid_m (fun w => run_any cs ⟨#[109]⟩ x y 9 2 w hcz ⟨[109], S1, 0, 2, 0⟩ (by rw [hcl]; exact hrun))
      simp only [outV] at HR
      have q0 : (0 : Int) ≤ (q : Int) := by omega
      have q1 : (q : Int) < 9 := by omega
      have HQ := hid_m (And.intro hq1 hlt)
      have HHE := hid_m hhe
      clear hhl h31 hrun hsum hc1 ht hcs hcl hcz hS1 hqw hhe
      by_cases h8 : q = 8
      · subst h8
        have hh8 : k % 32 = hh := by have := HHE.out; rwa [if_pos rfl] at this
        subst hh8
        have e32 : ((k % 32 : Nat) : Int) = (k : Int) % 32 := by omega
        rw [e32] at HCD
        clear e32
        go_wp2_with fail
        refine (HCD.out _).mono ?_
        rintro e w2 ⟨rfl, hb2⟩
        have HB2 := hid_m (HBR.out.trans (hb2.mono HBR.out.size))
        clear hb2
        go_wp2_with fail
        refine (HR.out _).mono ?_
        rintro e w3 ⟨rfl, hb3⟩
        have hb3' := HB2.out.trans (hb3.mono HB2.out.size)
        have HB3 := hid_m hb3'
        have cq := HC1.out w3 hb3'
        clear hb3 hb3'
        go_wp2_with fail
        have cz := cq (.cells #[.string ⟨#[109]⟩, .int .i64 S1, .int .i64 0, .int .i64 2] 37)
        clear cq
        go_region
        have hqw := HQW.out
        go_wp2_with fail
        exact ⟨⟨9, by decide, by decide, rfl, rfl, drew_below (HB3.out.alloc HB3.out.size _)⟩, by decide⟩
      · have hh8 : k = hh := by have := HHE.out; rwa [if_neg h8] at this
        subst hh8
        have h8' : ((q : Int) == 8) = false := by rw [beq_eq_false_iff_ne]; omega
        clear h8
        go_wp2_with fail
        refine (HCD.out _).mono ?_
        rintro e w2 ⟨rfl, hb2⟩
        have HB2 := hid_m (HBR.out.trans (hb2.mono HBR.out.size))
        clear hb2
        go_wp2_with fail
        refine (HR.out _).mono ?_
        rintro e w3 ⟨rfl, hb3⟩
        have hb3' := HB2.out.trans (hb3.mono HB2.out.size)
        have HB3 := hid_m hb3'
        have cq := HC1.out w3 hb3'
        clear hb3 hb3'
        go_wp2_with fail
        have cz := cq (.cells #[.string ⟨#[109]⟩, .int .i64 S1, .int .i64 0, .int .i64 2] 37)
        clear cq
        go_region
        have hqw := HQW.out
        go_wp2_with fail
        refine ⟨⟨q + 1, Nat.le_succ_of_le HQ.out.1, Nat.succ_le_succ HQ.out.2, rfl, by first | (rw [HQW.out]; exact next_t) | exact next_t, drew_below (HB3.out.alloc HB3.out.size _)⟩, by first | (rw [HQW.out]; exact less_t (Nat.lt_succ_of_le HQ.out.2)) | exact less_t (Nat.lt_succ_of_le HQ.out.2)⟩
    · have hq : q = 9 := by omega
      subst hq
      go_wp2_with fail
      go_ret
      exact ⟨rfl, HBE.out.trans (HBR.out.mono HBE.out.size)⟩

set_option maxRecDepth 100000 in
theorem lifted (os : Os) (started : os.Started) (H : Type) (enc : TypeId × Value → H) :
    ReturnsInHanded {} Try.checked os 8 .any (Rows.sumsSpec.pre6 enc Try.prog Try.f8 Rows.sumsRow.domain false) (Rows.sumsSpec.post enc Try.prog Try.f8 false true false false) := by
  refine returnsInHanded_of_change (C := Try.checked) own started (by kernel_rfl) Try.func8
    (ChangeSpec.witness6 (enc := enc) (C := Try.checked) false ⟨#[], #[.int .i64 0, .int .i64 0, .int .i64 0], []⟩ 8 (by kernel_rfl) (by kernel_rfl) (by kernel_rfl) (by kernel_rfl)) ?_
  intro W base args ds gs before hval0 hW hcnd _
  have hval : ∀ (j : Nat) t v, Try.f8.params[j]? = some t → args[j]? = some v → Value.okWide Try.prog W .any base t v := hval0
  have hW' := hW
  obtain ⟨p, q, hA0, hV, rfl, hfz, hnd⟩ := hW
  have hA : DataW.TrodAll enc Try.prog W 0 (fun _ => true) true Try.f8.params.toList args.toList ds p := hA0
  rw [Try.params8] at hA hval
  obtain ⟨v0, vs0, d0, ds0, p0, q0, hargs, rfl, rfl, h0, r0⟩ := trodAll_cons hA
  obtain ⟨v1, vs1, d1, ds1, p1, q1, rfl, rfl, rfl, h1, r1⟩ := trodAll_cons r0
  obtain ⟨v2, vs2, d2, ds2, p2, q2, rfl, rfl, rfl, h2, r2⟩ := trodAll_cons r1
  obtain ⟨rfl, rfl, rfl⟩ := trodAll_nil r2
  obtain rfl : args = #[v0, v1, v2] := by cases args; simp_all
  obtain ⟨rfl, rfl⟩ := trodVars_none hV
  obtain ⟨a0, rfl, rfl, rfl, w0⟩ := open_int Try.underlying3 (hval 0 3 v0 rfl rfl) h0
  obtain ⟨a1, rfl, rfl, rfl, w1⟩ := open_int Try.underlying3 (hval 1 3 v1 rfl rfl) h1
  obtain ⟨a2, rfl, rfl, rfl, w2⟩ := open_int Try.underlying3 (hval 2 3 v2 rfl rfl) h2
  clear hA0 hval0
  simp only [List.append_nil] at hW'
  refine (walk a0 a1 a2 w0 w1 w2 W).mono fun e W' ⟨he, bel⟩ => ?_
  subst he
  exact ⟨_, rfl, _, _, _, [], _, [], hW', trodAll_mk1 (shut_bool Try.underlying4 _), (trodAll_cons_mk (shut_int Try.underlying3 w0) (trodAll_cons_mk (shut_int Try.underlying3 w1) (trodAll_cons_mk (shut_int Try.underlying3 w2) trodAll_mk0))), rfl, bel.frame _, fun h => by cases h⟩

theorem over : Rows.sumsRow.holds Try.pinned (OpenSpec.ofChange Rows.sumsSpec) :=
  OpenClaim.holds_of_wide 8 Try.f8 rfl rfl rfl rfl rfl rfl rfl ⟨rfl, rfl, rfl, rfl, rfl⟩ rfl rfl rfl rfl rfl (by kernel_rfl) Try.func8 (by kernel_rfl)
    (of_decide_eq_true (by kernel_rfl)) (by unfold Func.isWrapper; first | (rw [if_pos (by decide +kernel)]; kernel_rfl) | (rw [if_neg (by decide +kernel)]; exact ⟨rfl, rfl⟩))
    (fun os started H enc _ => lifted os started H enc)

theorem proved : Rows.SumsSaid := over
end sums
theorem sums_holds : Rows.SumsSaid := sums.proved
#print axioms sums_holds
end Go.Proofs.Ytghggcehloiemaa
