import Derived.Test.YtghggcehloiemabGreatDoorTellWAll
namespace Go.Proofs.YtghggcehloiemabGreatDoor
open Go.RowKit
set_option linter.unusedVariables false
set_option maxRecDepth 16000

set_option maxHeartbeats 1000000 in
theorem allowed_start (a b c fuel : Int) (w : World) :
    Calls Tryz.prog 49 #[.agg #[.int .i64 a, .int .i64 b, .int .i64 c, .int .i64 fuel]] w fun e w' => e = .returned (.bool (decide (P.Word a ∧ P.Word b ∧ P.Word c ∧ 0 ≤ fuel ∧ fuel ≤ 20000))) ∧ Below w.heap.size w w' := by
  obtain ⟨r, hr⟩ : ∃ r, decide (P.Word a ∧ P.Word b ∧ P.Word c ∧ 0 ≤ fuel ∧ fuel ≤ 20000) = r := ⟨_, rfl⟩
  rw [hr]
  have hal : Below w.heap.size w (w.alloc (.cells #[.int .i64 a, .int .i64 b, .int .i64 c, .int .i64 fuel] 101)) := (Below.refl _ _).alloc (Nat.le_refl _) _
  have HA := hid_m hal
  have HR := hid_m hr
  clear hal hr
  go_enter Tryz.func49, Tryz.ntmps49
  go_wp2_with fail
  refine (isWord_any a _).mono ?_
  rintro e w1 ⟨rfl, rfl⟩
  by_cases ha : P.Word a
  · rw [decide_eq_true ha]
    have XA := hid_m ha
    clear ha
    go_wp2_with fail
    refine (isWord_any b _).mono ?_
    rintro e w1 ⟨rfl, rfl⟩
    by_cases hb : P.Word b
    · rw [decide_eq_true hb]
      have XB := hid_m hb
      clear hb
      go_wp2_with fail
      refine (isWord_any c _).mono ?_
      rintro e w1 ⟨rfl, rfl⟩
      by_cases hc : P.Word c
      · rw [decide_eq_true hc]
        have XC := hid_m hc
        clear hc
        by_cases hf : 0 ≤ fuel
        · go_wp2_with fail
          go_ret
          refine ⟨?_, HA.out⟩
          rw [← HR.out]
          simp [XA.out, XB.out, XC.out, hf]
        · go_wp2_with fail
          go_ret
          refine ⟨?_, HA.out⟩
          rw [← HR.out]
          rw [decide_eq_false (by rintro ⟨_, _, _, h, _⟩; omega)]
          rfl
      · rw [decide_eq_false hc]
        have XC := hid_m hc
        clear hc
        go_wp2_with fail
        go_ret
        refine ⟨?_, HA.out⟩
        rw [← HR.out]
        simp [XC.out]
    · rw [decide_eq_false hb]
      have XB := hid_m hb
      clear hb
      go_wp2_with fail
      go_ret
      refine ⟨?_, HA.out⟩
      rw [← HR.out]
      simp [XB.out]
  · rw [decide_eq_false ha]
    have XA := hid_m ha
    clear ha
    go_wp2_with fail
    go_ret
    refine ⟨?_, HA.out⟩
    rw [← HR.out]
    simp [XA.out]

theorem runOfP_code {lc mem : List UInt8} {a b c fuel : Int} (h : ¬ P.IsCode lc) : P.runOf lc mem a b c fuel = ⟨[], 0, 0, 0, 4⟩ := by unfold P.runOf; rw [if_pos h]
theorem runOfP_long {lc mem : List UInt8} {a b c fuel : Int} (hc : P.IsCode lc) (h : 2048 < mem.length) : P.runOf lc mem a b c fuel = ⟨[], 0, 0, 0, 5⟩ := by unfold P.runOf; rw [if_neg (not_not_intro hc), if_pos h]
theorem runOfP_arg {lc mem : List UInt8} {a b c fuel : Int} (hc : P.IsCode lc) (hm : ¬ 2048 < mem.length) (h : ¬ (P.Word a ∧ P.Word b ∧ P.Word c ∧ 0 ≤ fuel ∧ fuel ≤ 20000)) : P.runOf lc mem a b c fuel = ⟨[], 0, 0, 0, 6⟩ := by unfold P.runOf; rw [if_neg (not_not_intro hc), if_neg hm, if_pos h]
theorem runOfP_go {lc mem : List UInt8} {a b c fuel : Int} (hc : P.IsCode lc) (hm : ¬ 2048 < mem.length) (h : P.Word a ∧ P.Word b ∧ P.Word c ∧ 0 ≤ fuel ∧ fuel ≤ 20000) : P.runOf lc mem a b c fuel = P.go (P.codeOf lc) fuel.toNat 0 (P.start mem a.toNat b.toNat c.toNat) := by unfold P.runOf; rw [if_neg (not_not_intro hc), if_neg hm, if_neg (not_not_intro h)]

set_option maxHeartbeats 2000000 in
theorem run_any (s t : ByteArray) (a b c fuel : Int) (w : World) (hs : s.size ≤ maxLen) (o : P.O) (ho : P.runOf s.data.toList t.data.toList a b c fuel = o) :
    Calls Tryz.prog 24 #[.string s, .string t, .int .i64 a, .int .i64 b, .int .i64 c, .int .i64 fuel] w fun e w' => e = .returned (.tuple #[outV o, .int .i64 o.err]) ∧ Below w.heap.size w w' := by
  have HO := hid_m ho
  have HS := hid_m hs
  have htl := tl_len' t
  clear ho hs
  go_enter Tryz.func24, Tryz.ntmps24
  go_wp2_with fail
  refine (mparse_any s _ HS.out).mono ?_
  rintro e w1 ⟨hpost, hb1⟩
  have hbA : Below w.heap.size w (w.alloc (.cells #[.string ⟨#[]⟩, .int .i64 0, .int .i64 0, .int .i64 0] 56)) := (Below.refl _ _).alloc (Nat.le_refl _) _
  have hb : Below w.heap.size w w1 := hbA.trans (hb1.mono hbA.size)
  have ko : w1.heap[w.heap.size]? = some (.cells #[.string ⟨#[]⟩, .int .i64 0, .int .i64 0, .int .i64 0] 56 (0, 0)) := by
    rw [hb1.block _ (by simp)]; exact heap_alloc_new w _
  have wlt := m_blk_lt ko
  clear hb1 hbA
  by_cases hc : P.IsCode s.data.toList
  · rw [if_pos hc] at hpost
    obtain ⟨v, rfl, hown⟩ := hpost
    obtain ⟨g, cap, hv, _, _⟩ := hown.form (by rw [P.codeOf_length]; exact hc.some)
    obtain ⟨N, hN⟩ : ∃ N, N = (P.codeOf s.data.toList).length := ⟨_, rfl⟩
    rw [← hN] at hv
    subst hv
    clear hN
    have HC := hid_m hc
    have HOW := hid_m hown
    have ko' : ∀ o, (w1.alloc o).heap[w.heap.size]? = some (.cells #[.string ⟨#[]⟩, .int .i64 0, .int .i64 0, .int .i64 0] 56 (0, 0)) := fun o => by rw [alloc_old wlt]; exact ko
    have o0 : ∀ o, (w1.alloc o).cell? ⟨w.heap.size, 0, none⟩ = some (.string ⟨#[]⟩) := fun o => (out_facts (ko' o)).1
    have o1 : ∀ o, (w1.alloc o).cell? ⟨w.heap.size, 1, none⟩ = some (.int .i64 0) := fun o => (out_facts (ko' o)).2.1
    have o2 : ∀ o, (w1.alloc o).cell? ⟨w.heap.size, 2, none⟩ = some (.int .i64 0) := fun o => (out_facts (ko' o)).2.2.1
    have o3 : ∀ o, (w1.alloc o).cell? ⟨w.heap.size, 3, none⟩ = some (.int .i64 0) := fun o => (out_facts (ko' o)).2.2.2.1
    have of : ∀ o j, (w1.alloc o).frozen? ⟨w.heap.size, j, none⟩ = false := fun o => (out_facts (ko' o)).2.2.2.2
    have HKO := hid_m ko'
    have HB := hid_m (fun o => hb.alloc hb.size o)
    have HB1 := hid_m hb
    have WLT := hid_m wlt
    clear hc hown ko' ko hb wlt
    by_cases hm : 2048 < t.size
    · have hm' : (2048 : Int) < t.size := by omega
      have HE : Hid (o = ⟨[], 0, 0, 0, 5⟩) := by unfold Hid; rw [← HO.out]; exact runOfP_long HC.out (by rw [htl]; exact hm)
      clear htl HO hm
      go_wp2_with fail
      obtain ⟨W4, hW4, z0, z1, z2, z3, hbf⟩ := out_end (.string ⟨#[]⟩) (.int .i64 0) (.int .i64 0) (.int .i64 0) (HKO.out _) (HB.out _) (Nat.le_refl _)
      rw [hW4]
      refine bodyPost_ret (v := .tuple #[.agg #[.string ⟨#[]⟩, .int .i64 0, .int .i64 0, .int .i64 0], .int .i64 5]) (by simp [results, Tryz.results24, go_sem, z0, z1, z2, z3]) rfl ?_
      exact ⟨by rw [HE.out]; rfl, hbf⟩
    · have hm' : ¬ (2048 : Int) < t.size := by omega
      have HM : Hid (¬ 2048 < t.data.toList.length) := by unfold Hid; rw [htl]; exact hm
      clear htl hm
      go_wp2_with fail
      refine (allowed_start a b c fuel _).mono ?_
      rintro e w2 ⟨rfl, hb2⟩
      have hbP : Below w1.heap.size w1 ((w1.alloc (.cells #[.slice (some ⟨g, 0, none⟩) N cap] 75)).alloc (.cells #[.int .i64 a, .int .i64 b, .int .i64 c, .int .i64 fuel] 101)) := ((Below.refl _ _).alloc (Nat.le_refl _) _).alloc (by simp) _
      have hb12 : Below w1.heap.size w1 w2 := hbP.trans (hb2.mono hbP.size)
      have kc : w2.heap[w1.heap.size]? = some (.cells #[.slice (some ⟨g, 0, none⟩) N cap] 75 (0, 0)) := by
        rw [hb2.block _ (by simp; omega), alloc_old (by simp)]; exact heap_alloc_new _ _
      have ks : w2.heap[w1.heap.size + 1]? = some (.cells #[.int .i64 a, .int .i64 b, .int .i64 c, .int .i64 fuel] 101 (0, 0)) := by
        have e : w1.heap.size + 1 = (w1.alloc (.cells #[.slice (some ⟨g, 0, none⟩) N cap] 75)).heap.size := by simp
        rw [hb2.block _ (by simp), e]; exact heap_alloc_new _ _
      have cc : w2.cell? ⟨w1.heap.size, 0, none⟩ = some (.slice (some ⟨g, 0, none⟩) N cap) := by rw [cell_of_row _ _ _ _ _ _ kc]; rfl
      have s0 : w2.cell? ⟨w1.heap.size + 1, 0, none⟩ = some (.int .i64 a) := by rw [cell_of_row _ _ _ _ _ _ ks]; rfl
      have s1 : w2.cell? ⟨w1.heap.size + 1, 1, none⟩ = some (.int .i64 b) := by rw [cell_of_row _ _ _ _ _ _ ks]; rfl
      have s2 : w2.cell? ⟨w1.heap.size + 1, 2, none⟩ = some (.int .i64 c) := by rw [cell_of_row _ _ _ _ _ _ ks]; rfl
      have s3 : w2.cell? ⟨w1.heap.size + 1, 3, none⟩ = some (.int .i64 fuel) := by rw [cell_of_row _ _ _ _ _ _ ks]; rfl
      have ko2 : w2.heap[w.heap.size]? = some (.cells #[.string ⟨#[]⟩, .int .i64 0, .int .i64 0, .int .i64 0] 56 (0, 0)) := by
        rw [hb12.block _ WLT.out]; have := HKO.out (.cells #[] 75); rw [alloc_old WLT.out] at this; exact this
      have hbw2 : Below w.heap.size w w2 := HB1.out.trans (hb12.mono HB1.out.size)
      have hown2 := owns_on HOW.out hb12
      have HOW2 := hid_m hown2
      have HK2 := hid_m ko2
      have HB2 := hid_m hbw2
      obtain ⟨f0, f1, f2, f3, ff⟩ := out_facts ko2
      clear hb2 hbP hb12 kc ks ko2 hbw2 hown2 o0 o1 o2 o3 of HB HKO
      by_cases hw : P.Word a ∧ P.Word b ∧ P.Word c ∧ 0 ≤ fuel ∧ fuel ≤ 20000
      · rw [decide_eq_true hw]
        have HE : Hid (o = P.go (P.codeOf s.data.toList) fuel.toNat 0 (P.start t.data.toList a.toNat b.toNat c.toNat)) := by unfold Hid; rw [← HO.out]; exact runOfP_go HC.out HM.out hw
        obtain ⟨wa, wb, wc, hf0, hf1⟩ := hw
        obtain ⟨na, rfl⟩ : ∃ n : Nat, a = n := ⟨a.toNat, by have := wa.1; omega⟩
        obtain ⟨nb, rfl⟩ : ∃ n : Nat, b = n := ⟨b.toNat, by have := wb.1; omega⟩
        obtain ⟨nc, rfl⟩ : ∃ n : Nat, c = n := ⟨c.toNat, by have := wc.1; omega⟩
        obtain ⟨nf, rfl⟩ : ∃ n : Nat, fuel = n := ⟨fuel.toNat, by omega⟩
        rw [Int.toNat_natCast, Int.toNat_natCast, Int.toNat_natCast, Int.toNat_natCast] at HE
        have la : na < 4294967296 := by have := wa.2; omega
        have lb : nb < 4294967296 := by have := wb.2; omega
        have lc : nc < 4294967296 := by have := wc.2; omega
        have lf : nf ≤ 20000 := by omega
        have HN := hid_m (And.intro la (And.intro lb (And.intro lc lf)))
        have HTS : Hid (t.size ≤ 2048) := by have := HM.out; rw [tl_len' t] at this; unfold Hid; omega
        clear wa wb wc hf0 hf1 la lb lc lf HO
        go_wp2_with fail
        refine (mrun_any s.data.toList HC.out t na nb nc nf _ g N cap _ HN.out.1 HN.out.2.1 HN.out.2.2.1 HN.out.2.2.2 HTS.out HOW2.out).mono ?_
        rintro e w3 ⟨rfl, hb3⟩
        rw [← HE.out]
        have ko3 : w3.heap[w.heap.size]? = some (.cells #[.string ⟨#[]⟩, .int .i64 0, .int .i64 0, .int .i64 0] 56 (0, 0)) := by rw [hb3.block _ (m_blk_lt HK2.out)]; exact HK2.out
        have hbw3 : Below w.heap.size w w3 := HB2.out.trans (hb3.mono HB2.out.size)
        obtain ⟨g0, g1, g2, g3, gf⟩ := out_facts ko3
        have HK3 := hid_m ko3
        have HB3 := hid_m hbw3
        clear ko3 hbw3 hb3 f0 f1 f2 f3 ff HE
        obtain ⟨om, ores, ost, osteps, oerr⟩ := o
        simp only [outV]
        go_wp2_with fail
        obtain ⟨W4, hW4, z0, z1, z2, z3, hbf⟩ := out_end (.string ⟨om.toArray⟩) (.int .i64 ores) (.int .i64 ost) (.int .i64 osteps) HK3.out HB3.out (Nat.le_refl _)
        rw [hW4]
        refine bodyPost_ret (v := .tuple #[.agg #[.string ⟨om.toArray⟩, .int .i64 ores, .int .i64 ost, .int .i64 osteps], .int .i64 oerr]) (by simp [results, Tryz.results24, go_sem, z0, z1, z2, z3]) rfl ?_
        exact ⟨rfl, hbf⟩
      · rw [decide_eq_false hw]
        have HE : Hid (o = ⟨[], 0, 0, 0, 6⟩) := by unfold Hid; rw [← HO.out]; exact runOfP_arg HC.out HM.out hw
        clear hw HO
        go_wp2_with fail
        obtain ⟨W4, hW4, z0, z1, z2, z3, hbf⟩ := out_end (.string ⟨#[]⟩) (.int .i64 0) (.int .i64 0) (.int .i64 0) HK2.out HB2.out (Nat.le_refl _)
        rw [hW4]
        refine bodyPost_ret (v := .tuple #[.agg #[.string ⟨#[]⟩, .int .i64 0, .int .i64 0, .int .i64 0], .int .i64 6]) (by simp [results, Tryz.results24, go_sem, z0, z1, z2, z3]) rfl ?_
        exact ⟨by rw [HE.out]; rfl, hbf⟩
  · rw [if_neg hc] at hpost
    subst hpost
    have HE : Hid (o = ⟨[], 0, 0, 0, 4⟩) := by unfold Hid; rw [← HO.out]; exact runOfP_code hc
    have ko' : ∀ o, (w1.alloc o).heap[w.heap.size]? = some (.cells #[.string ⟨#[]⟩, .int .i64 0, .int .i64 0, .int .i64 0] 56 (0, 0)) := fun o => by rw [alloc_old wlt]; exact ko
    have o0 : ∀ o, (w1.alloc o).cell? ⟨w.heap.size, 0, none⟩ = some (.string ⟨#[]⟩) := fun o => (out_facts (ko' o)).1
    have o1 : ∀ o, (w1.alloc o).cell? ⟨w.heap.size, 1, none⟩ = some (.int .i64 0) := fun o => (out_facts (ko' o)).2.1
    have o2 : ∀ o, (w1.alloc o).cell? ⟨w.heap.size, 2, none⟩ = some (.int .i64 0) := fun o => (out_facts (ko' o)).2.2.1
    have o3 : ∀ o, (w1.alloc o).cell? ⟨w.heap.size, 3, none⟩ = some (.int .i64 0) := fun o => (out_facts (ko' o)).2.2.2.1
    have of : ∀ o j, (w1.alloc o).frozen? ⟨w.heap.size, j, none⟩ = false := fun o => (out_facts (ko' o)).2.2.2.2
    have HKO := hid_m ko'
    have HB := hid_m (fun o => hb.alloc hb.size o)
    clear hc HO htl ko hb wlt ko'
    go_wp2_with fail
    obtain ⟨W4, hW4, z0, z1, z2, z3, hbf⟩ := out_end (.string ⟨#[]⟩) (.int .i64 0) (.int .i64 0) (.int .i64 0) (HKO.out _) (HB.out _) (Nat.le_refl _)
    rw [hW4]
    refine bodyPost_ret (v := .tuple #[.agg #[.string ⟨#[]⟩, .int .i64 0, .int .i64 0, .int .i64 0], .int .i64 4]) (by simp [results, Tryz.results24, go_sem, z0, z1, z2, z3]) rfl ?_
    exact ⟨by rw [HE.out]; rfl, hbf⟩
end Go.Proofs.YtghggcehloiemabGreatDoor
