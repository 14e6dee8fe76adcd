import Derived.Test.YtghggcehloiemabGreatDoorLayEqAll
import Derived.Test.YtghggcehloiemabGreatDoorSizeWAll
import Derived.Test.YtghggcehloiemabGreatDoorTellEqAll
import Derived.Test.YtghggcehloiemabGreatDoorTellWAll
import Derived.Test.YtghggcehloiemabGreatDoorMcRun3
import Derived.Test.YtghggcehloiemabGreatDoorMcRR2
import Derived.Test.YtghggcehloiemabGreatDoorMcTR2
import Derived.Test.YtghggcehloiemabGreatDoorPrJ
import Derived.Test.YtghggcehloiemabGreatDoorRefEncAll
namespace Go.Proofs.YtghggcehloiemabGreatDoor
open Go.RowKit
set_option linter.unusedVariables false
set_option maxRecDepth 16000
theorem al_size_eq (l : List UInt8) : P.sizeOf l = P.rsizeOf l := by
  unfold P.sizeOf P.rsizeOf; rw [p_ty_eq]; cases P.rtyOf l <;> rfl
set_option maxHeartbeats 1000000 in
theorem al_sizes (a0 : ByteArray) (w0 : a0.size ≤ maxLen) (w : World) :
    Calls Tryz.prog 75 #[.string a0] w fun e w' => e = .returned (.bool true) ∧ Below w.heap.size w w' := by
  have he := al_size_eq a0.data.toList
  obtain ⟨x, hx⟩ : ∃ x, P.sizeOf a0.data.toList = x := ⟨_, rfl⟩
  have HX : Hid (P.sizeOf a0.data.toList = x) := hx
  have HR : Hid (P.rsizeOf a0.data.toList = x) := by unfold Hid; rw [← he]; exact hx
  clear he hx
  obtain ⟨x1, x2, x3⟩ := x
  go_enter Tryz.func75, Tryz.ntmps75
  go_wp2_with fail
  refine (size_any a0 _ w0).mono ?_
  rintro e w1 ⟨rfl, hb1⟩
  rw [HX.out]
  go_wp2_with fail
  refine (rSize_any a0 _ w0).mono ?_
  rintro e w2 ⟨rfl, hb2⟩
  rw [HR.out]
  go_wp2_with fail
  refine (p_num_any _ _).mono ?_
  rintro e w3 ⟨rfl, rfl⟩
  go_wp2_with fail
  go_ret
  exact ⟨by simp, hb1.trans (hb2.mono hb1.size)⟩
theorem al_enc_eq (lt lv : List UInt8) (fill : Int) : P.encOf lt lv fill = P.rencOf lt lv fill := by
  unfold P.encOf P.rencOf
  rw [p_ty_eq]
  cases ht : P.rtyOf lt with
  | none => rfl
  | some t =>
    have hrp : P.rp 4 lt = some t := by
      unfold P.rtyOf at ht
      split at ht
      · cases ht
      · exact ht
    have key := P.lay_lie t lv (P.fillB fill) (P.rp_sm 4 _ t hrp) (P.rp_nm 4 _ t hrp)
    simp only
    cases hl : P.layAll (P.parts 4 t) lv (List.replicate (P.sz 4 t).1 (P.fillB fill)) with
    | none =>
      rw [hl] at key
      cases hq : P.lieP 4 t lv with
      | none => rfl
      | some L => rw [hq] at key; cases key
    | some y =>
      obtain ⟨l', bs⟩ := y
      rw [hl] at key
      cases l' with
      | nil =>
        cases hq : P.lieP 4 t lv with
        | none => rw [hq] at key; cases key
        | some L =>
          rw [hq] at key
          simp only [Option.map_some] at key
          have hb := Option.some.inj key
          simp only [P.filled, hb]
      | cons c r =>
        cases hq : P.lieP 4 t lv with
        | none => rfl
        | some L => rw [hq] at key; cases key
set_option maxHeartbeats 1000000 in
theorem al_encodes (a0 a1 : ByteArray) (a2 : Int) (w0 : a0.size ≤ maxLen) (w1 : a1.size ≤ 1048576) (w : World) :
    Calls Tryz.prog 76 #[.string a0, .string a1, .int .i64 a2] w fun e w' => e = .returned (.bool true) ∧ Below w.heap.size w w' := by
  have he := al_enc_eq a0.data.toList a1.data.toList a2
  obtain ⟨x, hx⟩ : ∃ x, P.encOf a0.data.toList a1.data.toList a2 = x := ⟨_, rfl⟩
  have HX : Hid (P.encOf a0.data.toList a1.data.toList a2 = x) := hx
  have HR : Hid (P.rencOf a0.data.toList a1.data.toList a2 = x) := by unfold Hid; rw [← he]; exact hx
  clear he hx
  obtain ⟨x1, x2⟩ := x
  go_enter Tryz.func76, Tryz.ntmps76
  go_wp2_with fail
  refine (encode_any a0 a1 a2 _ w0 (by unfold maxLen; omega)).mono ?_
  rintro e w1 ⟨rfl, hb1⟩
  rw [HX.out]
  go_wp2_with fail
  refine (rencode_any a0 a1 a2 _ w0 (by omega)).mono ?_
  rintro e w2 ⟨rfl, hb2⟩
  rw [HR.out]
  go_wp2_with fail
  refine (p_num_any _ _).mono ?_
  rintro e w3 ⟨rfl, rfl⟩
  go_wp2_with fail
  go_ret
  exact ⟨by simp, hb1.trans (hb2.mono hb1.size)⟩
theorem al_dec_eq (lt bs : List UInt8) : P.decOf lt bs = P.rdecOf lt bs := by
  unfold P.decOf P.rdecOf
  rw [p_ty_eq]
  cases ht : P.rtyOf lt with
  | none => rfl
  | some t =>
    have hrp : P.rp 4 lt = some t := by
      unfold P.rtyOf at ht
      split at ht
      · cases ht
      · exact ht
    simp only
    split
    · rename_i hl
      rw [P.tell_value 4 t bs (P.rp_sm 4 _ t hrp) (P.rp_nm 4 _ t hrp) hl]
    · rfl
set_option maxHeartbeats 1000000 in
theorem al_decodes (a0 a1 : ByteArray) (w0 : a0.size ≤ maxLen) (w : World) (htab : Lib.TabIs Tryz.prog w "internal/strconv.uint64pow10" .u64 Lib.pow10Tab) :
    Calls Tryz.prog 77 #[.string a0, .string a1] w fun e w' => e = .returned (.bool true) ∧ Below w.heap.size w w' := by
  have he := al_dec_eq a0.data.toList a1.data.toList
  obtain ⟨x, hx⟩ : ∃ x, P.decOf a0.data.toList a1.data.toList = x := ⟨_, rfl⟩
  have HX : Hid (P.decOf a0.data.toList a1.data.toList = x) := hx
  have HR : Hid (P.rdecOf a0.data.toList a1.data.toList = x) := by unfold Hid; rw [← he]; exact hx
  have HTB : Hid (Lib.TabIs Tryz.prog w "internal/strconv.uint64pow10" .u64 Lib.pow10Tab) := htab
  clear he hx htab
  obtain ⟨x1, x2⟩ := x
  go_enter Tryz.func77, Tryz.ntmps77
  go_wp2_with fail
  refine (decode_any a0 a1 _ w0 HTB.out).mono ?_
  rintro e w1 ⟨rfl, hb1⟩
  rw [HX.out]
  go_wp2_with fail
  refine (rdecode_any a0 a1 _ w0).mono ?_
  rintro e w2 ⟨rfl, hb2⟩
  rw [HR.out]
  go_wp2_with fail
  refine (p_num_any _ _).mono ?_
  rintro e w3 ⟨rfl, rfl⟩
  go_wp2_with fail
  go_ret
  exact ⟨by simp, hb1.trans (hb2.mono hb1.size)⟩
set_option maxHeartbeats 1000000 in
theorem al_checks (a0 : ByteArray) (w0 : a0.size ≤ maxLen) (w : World) :
    Calls Tryz.prog 78 #[.string a0] w fun e w' => e = .returned (.bool true) ∧ Below w.heap.size w w' := by
  obtain ⟨x, hx⟩ : ∃ x : Int, (if P.IsCode a0.data.toList then (0 : Int) else 4) = x := ⟨_, rfl⟩
  have hc := fun w => check_any a0 w w0
  have hr := fun w => rcheck_any a0 w w0
  rw [hx] at hc hr
  have HC := hid_m hc
  have HR := hid_m hr
  clear hc hr hx
  go_enter Tryz.func78, Tryz.ntmps78
  go_wp2_with fail
  refine (HC.out _).mono ?_
  rintro e w1 ⟨rfl, hb1⟩
  go_wp2_with fail
  refine (HR.out _).mono ?_
  rintro e w2 ⟨rfl, hb2⟩
  go_wp2_with fail
  refine (m_num_any _ _).mono ?_
  rintro e w3 ⟨rfl, rfl⟩
  go_wp2_with fail
  go_ret
  exact ⟨by simp, hb1.trans (hb2.mono hb1.size)⟩
theorem copy_out2 {w0 w : World} {v0 v1 v2 v3 : Value} (hb : Below (w0.alloc (.cells #[v0, v1, v2, v3] 56)).heap.size (w0.alloc (.cells #[v0, v1, v2, v3] 56)) w) : w.heap[w0.heap.size]? = some (.cells #[v0, v1, v2, v3] 56 (0, 0)) := by
  rw [hb.block _ (by simp)]; exact heap_alloc_new _ _
theorem copy_bel2 {w0 w : World} {v0 v1 v2 v3 : Value} (hb : Below (w0.alloc (.cells #[v0, v1, v2, v3] 56)).heap.size (w0.alloc (.cells #[v0, v1, v2, v3] 56)) w) : Below w0.heap.size w0 w :=
  ((Below.refl _ _).alloc (Nat.le_refl _) _).trans (hb.mono (by simp))
set_option maxHeartbeats 1000000 in
theorem al_runs (a0 a1 : ByteArray) (a2 a3 a4 a5 : Int) (w0 : a0.size ≤ maxLen) (w1 : a1.size ≤ maxLen) (w : World) :
    Calls Tryz.prog 79 #[.string a0, .string a1, .int .i64 a2, .int .i64 a3, .int .i64 a4, .int .i64 a5] w fun e w' => e = .returned (.bool true) ∧ Below w.heap.size w w' := by
  obtain ⟨x, hx⟩ : ∃ x, P.runOf a0.data.toList a1.data.toList a2 a3 a4 a5 = x := ⟨_, rfl⟩
  have HC := hid_m (fun w => run_any a0 a1 a2 a3 a4 a5 w w0 x hx)
  have HR := hid_m (fun w => rrun_any a0 a1 a2 a3 a4 a5 w w0 x hx)
  clear hx
  obtain ⟨xm, xr, xs, xn, xe⟩ := x
  simp only [outV] at HC HR
  go_enter Tryz.func79, Tryz.ntmps79
  go_wp2_with fail
  refine (HC.out _).mono ?_
  rintro e w1 ⟨rfl, hb1⟩
  go_wp2_with fail
  refine (HR.out _).mono ?_
  rintro e w2 ⟨rfl, hb2⟩
  have HB2 := hid_m (hb1.trans ((copy_bel2 hb2).mono hb1.size))
  have kx := copy_out2 hb2
  have kxo : ∀ o, (w2.alloc o).heap[w1.heap.size]? = some (.cells #[.string ⟨xm.toArray⟩, .int .i64 xr, .int .i64 xs, .int .i64 xn] 56 (0, 0)) := fun o => by rw [alloc_old (m_blk_lt kx)]; exact kx
  have x0 : ∀ o, (w2.alloc o).cell? ⟨w1.heap.size, 0, none⟩ = some (.string ⟨xm.toArray⟩) := fun o => (out_facts (kxo o)).1
  have x1 : ∀ o, (w2.alloc o).cell? ⟨w1.heap.size, 1, none⟩ = some (.int .i64 xr) := fun o => (out_facts (kxo o)).2.1
  have x2 : ∀ o, (w2.alloc o).cell? ⟨w1.heap.size, 2, none⟩ = some (.int .i64 xs) := fun o => (out_facts (kxo o)).2.2.1
  have x3 : ∀ o, (w2.alloc o).cell? ⟨w1.heap.size, 3, none⟩ = some (.int .i64 xn) := fun o => (out_facts (kxo o)).2.2.2.1
  clear kx kxo hb1 hb2
  go_wp2_with fail
  refine (m_num_any _ _).mono ?_
  rintro e w3 ⟨rfl, hw3⟩
  subst w3
  go_wp2_with fail
  go_ret
  exact ⟨by simp, HB2.out.alloc HB2.out.size _⟩
set_option maxHeartbeats 1000000 in
theorem al_trims (a0 : ByteArray) (w0 : a0.size ≤ maxLen) (w : World) :
    Calls Tryz.prog 80 #[.string a0] w fun e w' => e = .returned (.bool true) ∧ Below w.heap.size w w' := by
  have HC := hid_m (fun w => trim_any a0 w w0)
  have HR := hid_m (fun w => rtrim_any a0 w w0)
  go_enter Tryz.func80, Tryz.ntmps80
  go_wp2_with fail
  refine (HC.out _).mono ?_
  rintro e w1 ⟨⟨r, er, ht, rfl⟩, hb1⟩
  have HT := hid_m ht
  clear ht
  go_wp2_with fail
  refine (HR.out _).mono ?_
  rintro e w2 ⟨⟨r2, er2, ht2, rfl⟩, hb2⟩
  obtain ⟨rfl, rfl⟩ := HT.out.only ht2
  clear ht2
  go_wp2_with fail
  refine (m_num_any _ _).mono ?_
  rintro e w3 ⟨rfl, hw3⟩
  subst w3
  go_wp2_with fail
  go_ret
  exact ⟨by simp, hb1.trans (hb2.mono hb1.size)⟩
set_option maxHeartbeats 4000000 in
theorem al_programs (a0 a1 : ByteArray) (a2 : Int) (w0 : a0.size ≤ maxLen) (w1 : a1.size ≤ maxLen) (w : World) :
    Calls Tryz.prog 81 #[.string a0, .string a1, .int .i64 a2] w fun e w' => e = .returned (.bool true) ∧ Below w.heap.size w w' := by
  have hP := fun w => program_any a0 a1 a2 w0 w1 w
  obtain ⟨rm, hrm⟩ : ∃ r, P.roomOf a0.data.toList a1.data.toList a2 = r := ⟨_, rfl⟩
  obtain ⟨tx, htx⟩ : ∃ t : ByteArray, (⟨(P.progOf a0.data.toList a1.data.toList a2).toArray⟩ : ByteArray) = t := ⟨_, rfl⟩
  rw [hrm, htx] at hP
  have HP := hid_m hP
  clear hP hrm htx
  go_enter Tryz.func81, Tryz.ntmps81
  go_wp2_with fail
  refine (HP.out _).mono ?_
  rintro e v1 ⟨rfl, hb1⟩
  have B1 := hid_m hb1
  clear hb1
  go_wp2_with fail
  refine (HP.out _).mono ?_
  rintro e v2 ⟨rfl, hb2⟩
  have B2 := hid_m (B1.out.trans (hb2.mono B1.out.size))
  clear hb2
  go_wp2_with fail
  go_ret
  exact ⟨by simp, B2.out⟩
end Go.Proofs.YtghggcehloiemabGreatDoor
