import Derived.Test.YtghggcehloiemabGreatDoorLayEqAll
namespace Go.Proofs.YtghggcehloiemabGreatDoor
open Go.RowKit
set_option linter.unusedVariables false
set_option maxRecDepth 16000
set_option maxHeartbeats 4000000 in
theorem program_any (a0 a1 : ByteArray) (a2 : Int) (w0 : a0.size ≤ maxLen) (w1 : a1.size ≤ maxLen) (w : World) :
    Calls Tryz.prog 126 #[.string a0, .string a1, .int .i64 a2] w fun e w' => e = .returned (.tuple #[.int .i64 (P.roomOf a0.data.toList a1.data.toList a2), .string ⟨(P.progOf a0.data.toList a1.data.toList a2).toArray⟩, .bool true]) ∧ Below w.heap.size w w' := by
  have hR := fun w => room_any a0 a1 a2 w w0 w1
  have hC := fun w => compile_any a0 a1 a2 w w0 w1
  have hF := fun w => rRefused_any a0 a1 a2 w w0 w1
  have hSk := fun w => rSize_any a0 w w0
  have hSv := fun w => rSize_any a1 w w1
  obtain ⟨rm, hrm⟩ : ∃ r, P.roomOf a0.data.toList a1.data.toList a2 = r := ⟨_, rfl⟩
  obtain ⟨tx, htx⟩ : ∃ t : ByteArray, (⟨(P.progOf a0.data.toList a1.data.toList a2).toArray⟩ : ByteArray) = t := ⟨_, rfl⟩
  obtain ⟨er, her⟩ : ∃ r, P.errOf a0.data.toList a1.data.toList a2 = r := ⟨_, rfl⟩
  rw [hrm, her] at hR
  rw [htx, her] at hC
  rw [her] at hF
  rw [hrm, htx]
  obtain ⟨k, hk⟩ : ∃ k, (P.rsizeOf a0.data.toList).1 = k := ⟨_, rfl⟩
  obtain ⟨k2, hk2⟩ : ∃ k, (P.rsizeOf a0.data.toList).2.1 = k := ⟨_, rfl⟩
  obtain ⟨k3, hk3⟩ : ∃ k, (P.rsizeOf a0.data.toList).2.2 = k := ⟨_, rfl⟩
  obtain ⟨v, hv⟩ : ∃ k, (P.rsizeOf a1.data.toList).1 = k := ⟨_, rfl⟩
  obtain ⟨v2, hv2⟩ : ∃ k, (P.rsizeOf a1.data.toList).2.1 = k := ⟨_, rfl⟩
  obtain ⟨v3, hv3⟩ : ∃ k, (P.rsizeOf a1.data.toList).2.2 = k := ⟨_, rfl⟩
  rw [hk, hk2, hk3] at hSk
  rw [hv, hv2, hv3] at hSv
  have HR := hid_m hR
  have HC := hid_m hC
  have HF := hid_m hF
  have HSK := hid_m hSk
  have HSV := hid_m hSv
  clear hR hC hF hSk hSv
  by_cases h0 : er = 0
  · subst h0
    have hm := room_most her
    rw [hk, hv, hrm] at hm
    obtain ⟨s1, s16, k32, v32, hle⟩ := hm
    have hIC : ∀ w, Calls Tryz.prog 150 #[.string tx] w fun e w' => e = .returned (.bool true) ∧ Below w.heap.size w w' := fun w => by
      have hc := prog_code her
      have hl := prog_len her
      have ht : tx.data.toList = P.progOf a0.data.toList a1.data.toList a2 := by rw [← htx]
      have := risCode_any tx w (by rw [← htx]; unfold maxLen; show (P.progOf a0.data.toList a1.data.toList a2).toArray.size ≤ _; simp; omega)
      rw [ht, decide_eq_true hc] at this
      exact this
    have HIC := hid_m hIC
    obtain ⟨sl, rfl⟩ : ∃ sl : Nat, a2 = (sl : Int) := ⟨a2.toNat, by omega⟩
    obtain ⟨t1, ht1⟩ : ∃ t, k + v = t := ⟨_, rfl⟩
    obtain ⟨t2, ht2⟩ : ∃ t, t1 + 4 = t := ⟨_, rfl⟩
    obtain ⟨t3, ht3⟩ : ∃ t, sl * t2 = t := ⟨_, rfl⟩
    have e3 : (sl : Int) * (t2 : Int) = (t3 : Int) := by rw [← ht3]; exact (Int.natCast_mul _ _).symm
    have b3 : t3 ≤ 16 * 68 := by rw [← ht3]; exact Nat.mul_le_mul (by omega) (by omega)
    have hle3 : rm ≤ t3 := by
      have e4 : (sl : Int) * ((k : Int) + (v : Int) + 4) = (t3 : Int) := by rw [← e3, ← ht2, ← ht1]; simp
      rw [e4] at hle; omega
    have W1 : Hid (wrap64 ((k : Int) + (v : Int)) = (t1 : Int)) := by unfold Hid; rw [w64_id _ (by omega) (by omega)]; omega
    have W2 : Hid (wrap64 ((t1 : Int) + 4) = (t2 : Int)) := by unfold Hid; rw [w64_id _ (by omega) (by omega)]; omega
    have W3 : Hid (wrap64 ((sl : Int) * (t2 : Int)) = (t3 : Int)) := by unfold Hid; rw [e3, w64_id _ (by omega) (by omega)]
    have hn0 : (0 : Int) ≤ (rm : Int) := Int.natCast_nonneg _
    have hn1 : (rm : Int) ≤ (t3 : Int) := by omega
    clear hle hIC s1 s16 k32 v32 ht1 ht2 ht3 e3 b3 hle3 her hrm htx hk hk2 hk3 hv hv2 hv3
    go_enter Tryz.func126, Tryz.ntmps126
    go_wp2_with fail
    refine (HR.out _).mono ?_
    rintro e v1 ⟨rfl, hb1⟩
    have B1 := hid_m hb1
    clear hb1
    go_wp2_with fail
    refine (HC.out _).mono ?_
    rintro e v2 ⟨rfl, hb2⟩
    have B2 := hid_m (B1.out.trans (hb2.mono B1.out.size))
    clear hb2
    go_wp2_with fail
    refine (HF.out _).mono ?_
    rintro e v3 ⟨rfl, hb3⟩
    have B3 := hid_m (B2.out.trans (hb3.mono B2.out.size))
    clear hb3
    go_wp2_with fail
    refine (p_num_any _ _).mono ?_
    rintro e v4 ⟨rfl, hv4⟩
    subst v4
    go_wp2_with fail
    refine (p_num_any _ _).mono ?_
    rintro e v4 ⟨rfl, hv4⟩
    subst v4
    go_wp2_with fail
    refine (HSK.out _).mono ?_
    rintro e v4 ⟨rfl, hb4⟩
    have B4 := hid_m (B3.out.trans (hb4.mono B3.out.size))
    clear hb4
    go_wp2_with fail
    refine (HSV.out _).mono ?_
    rintro e v5 ⟨rfl, hb5⟩
    have B5 := hid_m (B4.out.trans (hb5.mono B4.out.size))
    clear hb5
    go_wp2_with fail
    refine (HIC.out _).mono ?_
    rintro e v6 ⟨rfl, hb6⟩
    have B6 := hid_m (B5.out.trans (hb6.mono B5.out.size))
    clear hb6
    have w1 := W1.out
    have w2 := W2.out
    have w3 := W3.out
    go_wp2_with fail
    go_ret3
    exact ⟨rfl, B6.out⟩
  · have hno := P.room_no (by rw [her]; exact h0)
    rw [hrm, her] at hno
    obtain ⟨rfl, hp0, hor⟩ := hno
    have htx0 : tx = ⟨#[]⟩ := by rw [← htx, hp0]
    subst htx0
    clear hp0 h0 her hrm htx hk hk2 hk3 hv hv2 hv3 HSK HSV
    have key : ∀ er : Nat, (er = 1 ∨ er = 6) → Hid (∀ w, Calls Tryz.prog 10 #[.string a0, .string a1, .int .i64 a2] w fun e w' => e = .returned (.tuple #[.int .i64 (0 : Nat), .int .i64 er]) ∧ Below w.heap.size w w') → Hid (∀ w, Calls Tryz.prog 12 #[.string a0, .string a1, .int .i64 a2] w fun e w' => e = .returned (.tuple #[.string ⟨#[]⟩, .int .i64 er]) ∧ Below w.heap.size w w') → Hid (∀ w, Calls Tryz.prog 73 #[.string a0, .string a1, .int .i64 a2] w fun e w' => e = .returned (.int .i64 er) ∧ Below w.heap.size w w') →
        Calls Tryz.prog 126 #[.string a0, .string a1, .int .i64 a2] w fun e w' => e = .returned (.tuple #[.int .i64 (0 : Nat), .string ⟨#[]⟩, .bool true]) ∧ Below w.heap.size w w' := by
      clear HR HC HF hor
      intro er hor HR HC HF
      have h0 : ¬ (er : Int) = 0 := by omega
      clear hor
      go_enter Tryz.func126, Tryz.ntmps126
      go_wp2_with fail
      refine (HR.out _).mono ?_
      rintro e v1 ⟨rfl, hb1⟩
      have B1 := hid_m hb1
      clear hb1
      go_wp2_with fail
      refine (HC.out _).mono ?_
      rintro e v2 ⟨rfl, hb2⟩
      have B2 := hid_m (B1.out.trans (hb2.mono B1.out.size))
      clear hb2
      go_wp2_with fail
      refine (HF.out _).mono ?_
      rintro e v3 ⟨rfl, hb3⟩
      have B3 := hid_m (B2.out.trans (hb3.mono B2.out.size))
      clear hb3
      go_wp2_with fail
      refine (p_num_any _ _).mono ?_
      rintro e v4 ⟨rfl, hv4⟩
      subst v4
      go_wp2_with fail
      refine (p_num_any _ _).mono ?_
      rintro e v4 ⟨rfl, hv4⟩
      subst v4
      go_wp2_with fail
      go_ret3
      exact ⟨rfl, B3.out⟩
    exact key er hor HR HC HF
end Go.Proofs.YtghggcehloiemabGreatDoor
