import Derived.Test.YtghggcehloiemabGreatDoorMcRR
namespace Go.Proofs.YtghggcehloiemabGreatDoor
open Go.RowKit
set_option linter.unusedVariables false
set_option maxRecDepth 16000

set_option maxHeartbeats 4000000 in
theorem rrun_any (s t : ByteArray) (a b c fuel : Int) (w : World) (hs : s.size ≤ maxLen) (o : P.O) (ho : P.runOf s.data.toList t.data.toList a b c fuel = o) :
    Calls Tryz.prog 124 #[.string s, .string t, .int .i64 a, .int .i64 b, .int .i64 c, .int .i64 fuel] w fun e w' => e = .returned (.tuple #[outV o, .int .i64 o.err]) ∧ Below w.heap.size w w' := by
  by_cases hall : P.IsCode s.data.toList ∧ ¬ 2048 < t.size ∧ (P.Word a ∧ P.Word b ∧ P.Word c ∧ 0 ≤ fuel ∧ fuel ≤ 20000)
  · exact rrun_go s t a b c fuel w hs o ho hall.1 hall.2.1 hall.2.2
  have HALL := hid_m hall
  clear hall
  have HO := hid_m ho
  have HS := hid_m hs
  have htl := tl_len' t
  clear ho hs
  go_enter Tryz.func124, Tryz.ntmps124
  go_wp2_with fail
  refine (risCode_any s _ HS.out).mono ?_
  rintro e w1 ⟨rfl, hb1⟩
  have hbA : Below w.heap.size w (w.alloc (.cells #[.string ⟨#[]⟩, .int .i64 0, .int .i64 0, .int .i64 0] 56)) := (Below.refl _ _).alloc (Nat.le_refl _) _
  have hb : Below w.heap.size w w1 := hbA.trans (hb1.mono hbA.size)
  have ko : w1.heap[w.heap.size]? = some (.cells #[.string ⟨#[]⟩, .int .i64 0, .int .i64 0, .int .i64 0] 56 (0, 0)) := by
    rw [hb1.block _ (by simp)]; exact heap_alloc_new w _
  obtain ⟨o0, o1, o2, o3, of⟩ := out_facts ko
  have HKO := hid_m ko
  have HB := hid_m hb
  have wlt := m_blk_lt ko
  clear hb1 hbA hb ko
  by_cases hc : P.IsCode s.data.toList
  · rw [decide_eq_true hc]
    have HC := hid_m hc
    clear hc
    by_cases hm : 2048 < t.size
    · have hm' : (2048 : Int) < t.size := by omega
      have HE : Hid (o = ⟨[], 0, 0, 0, 5⟩) := by unfold Hid; rw [← HO.out]; exact runOf_long HC.out (by rw [htl]; exact hm)
      clear htl HO hm
      go_wp2_with fail
      obtain ⟨W4, hW4, z0, z1, z2, z3, hbf⟩ := out_end (.string ⟨#[]⟩) (.int .i64 0) (.int .i64 0) (.int .i64 0) HKO.out HB.out (Nat.le_refl _)
      rw [hW4]
      refine bodyPost_ret (v := .tuple #[.agg #[.string ⟨#[]⟩, .int .i64 0, .int .i64 0, .int .i64 0], .int .i64 5]) (by simp [results, Tryz.results124, go_sem, z0, z1, z2, z3]) rfl ?_
      exact ⟨by rw [HE.out]; rfl, hbf⟩
    · have hm' : ¬ (2048 : Int) < t.size := by omega
      have HM : Hid (¬ 2048 < t.data.toList.length) := by unfold Hid; rw [htl]; exact hm
      have HM2 := hid_m hm
      clear htl hm
      by_cases hw : P.Word a ∧ P.Word b ∧ P.Word c ∧ 0 ≤ fuel ∧ fuel ≤ 20000
      · exact absurd ⟨HC.out, HM2.out, hw⟩ HALL.out
      · have HE : Hid (o = ⟨[], 0, 0, 0, 6⟩) := by unfold Hid; rw [← HO.out]; exact runOf_arg HC.out HM.out hw
        obtain ⟨da, hda⟩ : ∃ d, decide (P.Word a) = d := ⟨_, rfl⟩
        obtain ⟨db, hdb⟩ : ∃ d, decide (P.Word b) = d := ⟨_, rfl⟩
        obtain ⟨dc, hdc⟩ : ∃ d, decide (P.Word c) = d := ⟨_, rfl⟩
        have HW : Hid (da = true → db = true → dc = true → ¬ (0 ≤ fuel ∧ fuel ≤ 20000)) := by
          intro h1 h2 h3 h4
          rw [← hda] at h1; rw [← hdb] at h2; rw [← hdc] at h3
          exact hw ⟨of_decide_eq_true h1, of_decide_eq_true h2, of_decide_eq_true h3, h4.1, h4.2⟩
        clear hw HO
        go_wp2_with fail
        refine (rword_any a _).mono ?_
        rintro e w2 ⟨rfl, rfl⟩
        rw [hda]
        cases da with
        | false =>
          go_wp2_with fail
          obtain ⟨W4, hW4, z0, z1, z2, z3, hbf⟩ := out_end (.string ⟨#[]⟩) (.int .i64 0) (.int .i64 0) (.int .i64 0) HKO.out HB.out (Nat.le_refl _)
          rw [hW4]
          refine bodyPost_ret (v := .tuple #[.agg #[.string ⟨#[]⟩, .int .i64 0, .int .i64 0, .int .i64 0], .int .i64 6]) (by simp [results, Tryz.results124, go_sem, z0, z1, z2, z3]) rfl ?_
          exact ⟨by rw [HE.out]; rfl, hbf⟩
        | true =>
          go_wp2_with fail
          refine (rword_any b _).mono ?_
          rintro e w2 ⟨rfl, rfl⟩
          rw [hdb]
          cases db with
          | false =>
            go_wp2_with fail
            obtain ⟨W4, hW4, z0, z1, z2, z3, hbf⟩ := out_end (.string ⟨#[]⟩) (.int .i64 0) (.int .i64 0) (.int .i64 0) HKO.out HB.out (Nat.le_refl _)
            rw [hW4]
            refine bodyPost_ret (v := .tuple #[.agg #[.string ⟨#[]⟩, .int .i64 0, .int .i64 0, .int .i64 0], .int .i64 6]) (by simp [results, Tryz.results124, go_sem, z0, z1, z2, z3]) rfl ?_
            exact ⟨by rw [HE.out]; rfl, hbf⟩
          | true =>
            go_wp2_with fail
            refine (rword_any c _).mono ?_
            rintro e w2 ⟨rfl, rfl⟩
            rw [hdc]
            cases dc with
            | false =>
              go_wp2_with fail
              obtain ⟨W4, hW4, z0, z1, z2, z3, hbf⟩ := out_end (.string ⟨#[]⟩) (.int .i64 0) (.int .i64 0) (.int .i64 0) HKO.out HB.out (Nat.le_refl _)
              rw [hW4]
              refine bodyPost_ret (v := .tuple #[.agg #[.string ⟨#[]⟩, .int .i64 0, .int .i64 0, .int .i64 0], .int .i64 6]) (by simp [results, Tryz.results124, go_sem, z0, z1, z2, z3]) rfl ?_
              exact ⟨by rw [HE.out]; rfl, hbf⟩
            | true =>
              by_cases hf : fuel < 0
              · go_wp2_with fail
                obtain ⟨W4, hW4, z0, z1, z2, z3, hbf⟩ := out_end (.string ⟨#[]⟩) (.int .i64 0) (.int .i64 0) (.int .i64 0) HKO.out HB.out (Nat.le_refl _)
                rw [hW4]
                refine bodyPost_ret (v := .tuple #[.agg #[.string ⟨#[]⟩, .int .i64 0, .int .i64 0, .int .i64 0], .int .i64 6]) (by simp [results, Tryz.results124, go_sem, z0, z1, z2, z3]) rfl ?_
                exact ⟨by rw [HE.out]; rfl, hbf⟩
              · have hf2 : 20000 < fuel := by
                  have := HW.out
                  simp at this
                  omega
                go_wp2_with fail
                obtain ⟨W4, hW4, z0, z1, z2, z3, hbf⟩ := out_end (.string ⟨#[]⟩) (.int .i64 0) (.int .i64 0) (.int .i64 0) HKO.out HB.out (Nat.le_refl _)
                rw [hW4]
                refine bodyPost_ret (v := .tuple #[.agg #[.string ⟨#[]⟩, .int .i64 0, .int .i64 0, .int .i64 0], .int .i64 6]) (by simp [results, Tryz.results124, go_sem, z0, z1, z2, z3]) rfl ?_
                exact ⟨by rw [HE.out]; rfl, hbf⟩
  · rw [decide_eq_false hc]
    have HE : Hid (o = ⟨[], 0, 0, 0, 4⟩) := by unfold Hid; rw [← HO.out]; exact runOf_code hc
    clear hc HO htl
    go_wp2_with fail
    obtain ⟨W4, hW4, z0, z1, z2, z3, hbf⟩ := out_end (.string ⟨#[]⟩) (.int .i64 0) (.int .i64 0) (.int .i64 0) HKO.out HB.out (Nat.le_refl _)
    rw [hW4]
    refine bodyPost_ret (v := .tuple #[.agg #[.string ⟨#[]⟩, .int .i64 0, .int .i64 0, .int .i64 0], .int .i64 4]) (by simp [results, Tryz.results124, go_sem, z0, z1, z2, z3]) rfl ?_
    exact ⟨by rw [HE.out]; rfl, hbf⟩
end Go.Proofs.YtghggcehloiemabGreatDoor
