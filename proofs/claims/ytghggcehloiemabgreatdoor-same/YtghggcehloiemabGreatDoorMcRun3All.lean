import Derived.Test.YtghggcehloiemabGreatDoorMcRun2
import Derived.Test.YtghggcehloiemabGreatDoorHdA
namespace Go.Proofs.YtghggcehloiemabGreatDoor
open Go.RowKit
set_option linter.unusedVariables false
set_option maxRecDepth 16000

set_option maxHeartbeats 1000000 in
theorem allowed_start (a b c fuel : Int) (w : World) :
    Calls Tryz.prog 49 #[.agg #[.int .i64 a, .int .i64 b, .int .i64 c, .int .i64 fuel]] w fun e w' => e = .returned (.bool (decide (P.Word a ∧ P.Word b ∧ P.Word c ∧ 0 ≤ fuel ∧ fuel ≤ 20000))) ∧ Below w.heap.size w w' := by
  obtain ⟨r, hr⟩ : ∃ r, decide (P.Word a ∧ P.Word b ∧ P.Word c ∧ 0 ≤ fuel ∧ fuel ≤ 20000) = r := ⟨_, rfl⟩
  rw [hr]
  have hal : Below w.heap.size w (w.alloc (.cells #[.int .i64 a, .int .i64 b, .int .i64 c, .int .i64 fuel] 101)) := (Below.refl _ _).alloc (Nat.le_refl _) _
  have HA := hid_m hal
  have HR := hid_m hr
  clear hal hr
  go_enter Tryz.func49, Tryz.ntmps49
  go_wp2_with fail
  refine (isWord_any a _).mono ?_
  rintro e w1 ⟨rfl, rfl⟩
  by_cases ha : P.Word a
  · rw [decide_eq_true ha]
    have XA := hid_m ha
    clear ha
    go_wp2_with fail
    refine (isWord_any b _).mono ?_
    rintro e w1 ⟨rfl, rfl⟩
    by_cases hb : P.Word b
    · rw [decide_eq_true hb]
      have XB := hid_m hb
      clear hb
      go_wp2_with fail
      refine (isWord_any c _).mono ?_
      rintro e w1 ⟨rfl, rfl⟩
      by_cases hc : P.Word c
      · rw [decide_eq_true hc]
        have XC := hid_m hc
        clear hc
        by_cases hf : 0 ≤ fuel
        · go_wp2_with fail
          go_ret
          refine ⟨?_, HA.out⟩
          rw [← HR.out]
          simp [XA.out, XB.out, XC.out, hf]
        · go_wp2_with fail
          go_ret
          refine ⟨?_, HA.out⟩
          rw [← HR.out]
          rw [decide_eq_false (by rintro ⟨_, _, _, h, _⟩; omega)]
          rfl
      · rw [decide_eq_false hc]
        have XC := hid_m hc
        clear hc
        go_wp2_with fail
        go_ret
        refine ⟨?_, HA.out⟩
        rw [← HR.out]
        simp [XC.out]
    · rw [decide_eq_false hb]
      have XB := hid_m hb
      clear hb
      go_wp2_with fail
      go_ret
      refine ⟨?_, HA.out⟩
      rw [← HR.out]
      simp [XB.out]
  · rw [decide_eq_false ha]
    have XA := hid_m ha
    clear ha
    go_wp2_with fail
    go_ret
    refine ⟨?_, HA.out⟩
    rw [← HR.out]
    simp [XA.out]

theorem runOfP_code {lc mem : List UInt8} {a b c fuel : Int} (h : ¬ P.IsCode lc) : P.runOf lc mem a b c fuel = ⟨[], 0, 0, 0, 4⟩ := by unfold P.runOf; rw [if_pos h]
theorem runOfP_long {lc mem : List UInt8} {a b c fuel : Int} (hc : P.IsCode lc) (h : 2048 < mem.length) : P.runOf lc mem a b c fuel = ⟨[], 0, 0, 0, 5⟩ := by unfold P.runOf; rw [if_neg (not_not_intro hc), if_pos h]
theorem runOfP_arg {lc mem : List UInt8} {a b c fuel : Int} (hc : P.IsCode lc) (hm : ¬ 2048 < mem.length) (h : ¬ (P.Word a ∧ P.Word b ∧ P.Word c ∧ 0 ≤ fuel ∧ fuel ≤ 20000)) : P.runOf lc mem a b c fuel = ⟨[], 0, 0, 0, 6⟩ := by unfold P.runOf; rw [if_neg (not_not_intro hc), if_neg hm, if_pos h]
theorem runOfP_go {lc mem : List UInt8} {a b c fuel : Int} (hc : P.IsCode lc) (hm : ¬ 2048 < mem.length) (h : P.Word a ∧ P.Word b ∧ P.Word c ∧ 0 ≤ fuel ∧ fuel ≤ 20000) : P.runOf lc mem a b c fuel = P.go (P.codeOf lc) fuel.toNat 0 (P.start mem a.toNat b.toNat c.toNat) := by unfold P.runOf; rw [if_neg (not_not_intro hc), if_neg hm, if_neg (not_not_intro h)]

set_option maxHeartbeats 2000000 in
theorem run_any (s t : ByteArray) (a b c fuel : Int) (w : World) (hs : s.size ≤ maxLen) (o : P.O) (ho : P.runOf s.data.toList t.data.toList a b c fuel = o) :
    Calls Tryz.prog 24 #[.string s, .string t, .int .i64 a, .int .i64 b, .int .i64 c, .int .i64 fuel] w fun e w' => e = .returned (.tuple #[outV o, .int .i64 o.err]) ∧ Below w.heap.size w w' := by
  have HO := hid_m ho
  have HS := hid_m hs
  have htl := tl_len' t
  clear ho hs
  go_enter Tryz.func24, Tryz.ntmps24
  go_wp2_with fail
  refine (mparse_any s _ HS.out).mono ?_
  rintro e w1 ⟨hpost, hb1⟩
  have hbA : Below w.heap.size w (w.alloc (.cells #[.string ⟨#[]⟩, .int .i64 0, .int .i64 0, .int .i64 0] 56)) := (Below.refl _ _).alloc (Nat.le_refl _) _
  have hb : Below w.heap.size w w1 := hbA.trans (hb1.mono hbA.size)
  have ko : w1.heap[w.heap.size]? = some (.cells #[.string ⟨#[]⟩, .int .i64 0, .int .i64 0, .int .i64 0] 56 (0, 0)) := by
    rw [hb1.block _ (by simp)]; exact heap_alloc_new w _
  have wlt := m_blk_lt ko
  clear hb1 hbA
  by_cases hc : P.IsCode s.data.toList
  · rw [if_pos hc] at hpost
    obtain ⟨v, rfl, hown⟩ := hpost
    obtain ⟨g, cap, hv, _, _⟩ := hown.form (by rw [P.codeOf_length]; exact hc.some)
    obtain ⟨N, hN⟩ : ∃ N, N = (P.codeOf s.data.toList).length := ⟨_, rfl⟩
    rw [← hN] at hv
    subst hv
    clear hN
    have HC := hid_m hc
    have HOW := hid_m hown
    have ko' : ∀ o, (w1.alloc o).heap[w.heap.size]? = some (.cells #[.string ⟨#[]⟩, .int .i64 0, .int .i64 0, .int .i64 0] 56 (0, 0)) := fun o => by rw [alloc_old wlt]; exact ko
    have o0 : ∀ o, (w1.alloc o).cell? ⟨w.heap.size, 0, none⟩ = some (.string ⟨#[]⟩) := fun o => (out_facts (ko' o)).1
    have o1 : ∀ o, (w1.alloc o).cell? ⟨w.heap.size, 1, none⟩ = some (.int .i64 0) := fun o => (out_facts (ko' o)).2.1
    have o2 : ∀ o, (w1.alloc o).cell? ⟨w.heap.size, 2, none⟩ = some (.int .i64 0) := fun o => (out_facts (ko' o)).2.2.1
    have o3 : ∀ o, (w1.alloc o).cell? ⟨w.heap.size, 3, none⟩ = some (.int .i64 0) := fun o => (out_facts (ko' o)).2.2.2.1
    have of : ∀ o j, (w1.alloc o).frozen? ⟨w.heap.size, j, none⟩ = false := fun o => (out_facts (ko' o)).2.2.2.2
    have HKO := hid_m ko'
    have HB := hid_m (fun o => hb.alloc hb.size o)
    have HB1 := hid_m hb
    have WLT := hid_m wlt
    clear hc hown ko' ko hb wlt
    by_cases hm : 2048 < t.size
    · have hm' : (2048 : Int) < t.size := by omega
      have HE : Hid (o = ⟨[], 0, 0, 0, 5⟩) := by unfold Hid; rw [← HO.out]; exact runOfP_long HC.out (by rw [htl]; exact hm)
      clear htl HO hm
      go_wp2_with fail
      obtain ⟨W4, hW4, z0, z1, z2, z3, hbf⟩ := out_end (.string ⟨#[]⟩) (.int .i64 0) (.int .i64 0) (.int .i64 0) (HKO.out _) (HB.out _) (Nat.le_refl _)
      rw [hW4]
      refine bodyPost_ret (v := .tuple #[.agg #[.string ⟨#[]⟩, .int .i64 0, .int .i64 0, .int .i64 0], .int .i64 5]) (by simp [results, Tryz.results24, go_sem, z0, z1, z2, z3]) rfl ?_
      exact ⟨by rw [HE.out]; rfl, hbf⟩
    · have hm' : ¬ (2048 : Int) < t.size := by omega
      have HM : Hid (¬ 2048 < t.data.toList.length) := by unfold Hid; rw [htl]; exact hm
      clear htl hm
      go_wp2_with fail
      refine (allowed_start a b c fuel _).mono ?_
      rintro e w2 ⟨rfl, hb2⟩
      have hbP : Below w1.heap.size w1 ((w1.alloc (.cells #[.slice (some ⟨g, 0, none⟩) N cap] 75)).alloc (.cells #[.int .i64 a, .int .i64 b, .int .i64 c, .int .i64 fuel] 101)) := ((Below.refl _ _).alloc (Nat.le_refl _) _).alloc (by simp) _
      have hb12 : Below w1.heap.size w1 w2 := hbP.trans (hb2.mono hbP.size)
      have kc : w2.heap[w1.heap.size]? = some (.cells #[.slice (some ⟨g, 0, none⟩) N cap] 75 (0, 0)) := by
        rw [hb2.block _ (by simp; omega), alloc_old (by simp)]; exact heap_alloc_new _ _
      have ks : w2.heap[w1.heap.size + 1]? = some (.cells #[.int .i64 a, .int .i64 b, .int .i64 c, .int .i64 fuel] 101 (0, 0)) := by
        have e : w1.heap.size + 1 = (w1.alloc (.cells #[.slice (some ⟨g, 0, none⟩) N cap] 75)).heap.size := by simp
        rw [hb2.block _ (by simp), e]; exact heap_alloc_new _ _
      have cc : w2.cell? ⟨w1.heap.size, 0, none⟩ = some (.slice (some ⟨g, 0, none⟩) N cap) := by rw [cell_of_row _ _ _ _ _ _ kc]; rfl
      have s0 : w2.cell? ⟨w1.heap.size + 1, 0, none⟩ = some (.int .i64 a) := by rw [cell_of_row _ _ _ _ _ _ ks]; rfl
      have s1 : w2.cell? ⟨w1.heap.size + 1, 1, none⟩ = some (.int .i64 b) := by rw [cell_of_row _ _ _ _ _ _ ks]; rfl
      have s2 : w2.cell? ⟨w1.heap.size + 1, 2, none⟩ = some (.int .i64 c) := by rw [cell_of_row _ _ _ _ _ _ ks]; rfl
      have s3 : w2.cell? ⟨w1.heap.size + 1, 3, none⟩ = some (.int .i64 fuel) := by rw [cell_of_row _ _ _ _ _ _ ks]; rfl
      have ko2 : w2.heap[w.heap.size]? = some (.cells #[.string ⟨#[]⟩, .int .i64 0, .int .i64 0, .int .i64 0] 56 (0, 0)) := by
        rw [hb12.block _ WLT.out]; have := HKO.out (.cells #[] 75); rw [alloc_old WLT.out] at this; exact this
      have hbw2 : Below w.heap.size w w2 := HB1.out.trans (hb12.mono HB1.out.size)
      have hown2 := owns_on HOW.out hb12
      have HOW2 := hid_m hown2
      have HK2 := hid_m ko2
      have HB2 := hid_m hbw2
      obtain ⟨f0, f1, f2, f3, ff⟩ := out_facts ko2
      clear hb2 hbP hb12 kc ks ko2 hbw2 hown2 o0 o1 o2 o3 of HB HKO
      by_cases hw : P.Word a ∧ P.Word b ∧ P.Word c ∧ 0 ≤ fuel ∧ fuel ≤ 20000
      · rw [decide_eq_true hw]
        have HE : Hid (o = P.go (P.codeOf s.data.toList) fuel.toNat 0 (P.start t.data.toList a.toNat b.toNat c.toNat)) := by unfold Hid; rw [← HO.out]; exact runOfP_go HC.out HM.out hw
        obtain ⟨wa, wb, wc, hf0, hf1⟩ := hw
        obtain ⟨na, rfl⟩ : ∃ n : Nat, a = n := ⟨a.toNat, by have := wa.1; omega⟩
        obtain ⟨nb, rfl⟩ : ∃ n : Nat, b = n := ⟨b.toNat, by have := wb.1; omega⟩
        obtain ⟨nc, rfl⟩ : ∃ n : Nat, c = n := ⟨c.toNat, by have := wc.1; omega⟩
        obtain ⟨nf, rfl⟩ : ∃ n : Nat, fuel = n := ⟨fuel.toNat, by omega⟩
        rw [Int.toNat_natCast, Int.toNat_natCast, Int.toNat_natCast, Int.toNat_natCast] at HE
        have la : na < 4294967296 := by have := wa.2; omega
        have lb : nb < 4294967296 := by have := wb.2; omega
        have lc : nc < 4294967296 := by have := wc.2; omega
        have lf : nf ≤ 20000 := by omega
        have HN := hid_m (And.intro la (And.intro lb (And.intro lc lf)))
        have HTS : Hid (t.size ≤ 2048) := by have := HM.out; rw [tl_len' t] at this; unfold Hid; omega
        clear wa wb wc hf0 hf1 la lb lc lf HO
        go_wp2_with fail
        refine (mrun_any s.data.toList HC.out t na nb nc nf _ g N cap _ HN.out.1 HN.out.2.1 HN.out.2.2.1 HN.out.2.2.2 HTS.out HOW2.out).mono ?_
        rintro e w3 ⟨rfl, hb3⟩
        rw [← HE.out]
        have ko3 : w3.heap[w.heap.size]? = some (.cells #[.string ⟨#[]⟩, .int .i64 0, .int .i64 0, .int .i64 0] 56 (0, 0)) := by rw [hb3.block _ (m_blk_lt HK2.out)]; exact HK2.out
        have hbw3 : Below w.heap.size w w3 := HB2.out.trans (hb3.mono HB2.out.size)
        obtain ⟨g0, g1, g2, g3, gf⟩ := out_facts ko3
        have HK3 := hid_m ko3
        have HB3 := hid_m hbw3
        clear ko3 hbw3 hb3 f0 f1 f2 f3 ff HE
        obtain ⟨om, ores, ost, osteps, oerr⟩ := o
        simp only [outV]
        go_wp2_with fail
        obtain ⟨W4, hW4, z0, z1, z2, z3, hbf⟩ := out_end (.string ⟨om.toArray⟩) (.int .i64 ores) (.int .i64 ost) (.int .i64 osteps) HK3.out HB3.out (Nat.le_refl _)
        rw [hW4]
        refine bodyPost_ret (v := .tuple #[.agg #[.string ⟨om.toArray⟩, .int .i64 ores, .int .i64 ost, .int .i64 osteps], .int .i64 oerr]) (by simp [results, Tryz.results24, go_sem, z0, z1, z2, z3]) rfl ?_
        exact ⟨rfl, hbf⟩
      · rw [decide_eq_false hw]
        have HE : Hid (o = ⟨[], 0, 0, 0, 6⟩) := by unfold Hid; rw [← HO.out]; exact runOfP_arg HC.out HM.out hw
        clear hw HO
        go_wp2_with fail
        obtain ⟨W4, hW4, z0, z1, z2, z3, hbf⟩ := out_end (.string ⟨#[]⟩) (.int .i64 0) (.int .i64 0) (.int .i64 0) HK2.out HB2.out (Nat.le_refl _)
        rw [hW4]
        refine bodyPost_ret (v := .tuple #[.agg #[.string ⟨#[]⟩, .int .i64 0, .int .i64 0, .int .i64 0], .int .i64 6]) (by simp [results, Tryz.results24, go_sem, z0, z1, z2, z3]) rfl ?_
        exact ⟨by rw [HE.out]; rfl, hbf⟩
  · rw [if_neg hc] at hpost
    subst hpost
    have HE : Hid (o = ⟨[], 0, 0, 0, 4⟩) := by unfold Hid; rw [← HO.out]; exact runOfP_code hc
    have ko' : ∀ o, (w1.alloc o).heap[w.heap.size]? = some (.cells #[.string ⟨#[]⟩, .int .i64 0, .int .i64 0, .int .i64 0] 56 (0, 0)) := fun o => by rw [alloc_old wlt]; exact ko
    have o0 : ∀ o, (w1.alloc o).cell? ⟨w.heap.size, 0, none⟩ = some (.string ⟨#[]⟩) := fun o => (out_facts (ko' o)).1
    have o1 : ∀ o, (w1.alloc o).cell? ⟨w.heap.size, 1, none⟩ = some (.int .i64 0) := fun o => (out_facts (ko' o)).2.1
    have o2 : ∀ o, (w1.alloc o).cell? ⟨w.heap.size, 2, none⟩ = some (.int .i64 0) := fun o => (out_facts (ko' o)).2.2.1
    have o3 : ∀ o, (w1.alloc o).cell? ⟨w.heap.size, 3, none⟩ = some (.int .i64 0) := fun o => (out_facts (ko' o)).2.2.2.1
    have of : ∀ o j, (w1.alloc o).frozen? ⟨w.heap.size, j, none⟩ = false := fun o => (out_facts (ko' o)).2.2.2.2
    have HKO := hid_m ko'
    have HB := hid_m (fun o => hb.alloc hb.size o)
    clear hc HO htl ko hb wlt ko'
    go_wp2_with fail
    obtain ⟨W4, hW4, z0, z1, z2, z3, hbf⟩ := out_end (.string ⟨#[]⟩) (.int .i64 0) (.int .i64 0) (.int .i64 0) (HKO.out _) (HB.out _) (Nat.le_refl _)
    rw [hW4]
    refine bodyPost_ret (v := .tuple #[.agg #[.string ⟨#[]⟩, .int .i64 0, .int .i64 0, .int .i64 0], .int .i64 4]) (by simp [results, Tryz.results24, go_sem, z0, z1, z2, z3]) rfl ?_
    exact ⟨by rw [HE.out]; rfl, hbf⟩
end Go.Proofs.YtghggcehloiemabGreatDoor
namespace Go.Proofs.YtghggcehloiemabGreatDoor
open Go.RowKit
set_option linter.unusedVariables false
set_option maxRecDepth 16000
structure KStep (w w' : World) (b M sl : Nat) (x0 x1 x2 x3 x4 x5 x6 x7 x8 x9 x10 x11 x12 kv vv : Value) (L' : List (ByteArray × ByteArray)) : Prop where
  ex : ∃ kv' vv', Wd w' b M sl x0 x1 x2 x3 x4 x5 x6 x7 x8 x9 x10 x11 x12 kv' vv' L' ∧ Nx w kv kv' ∧ Nx w vv vv'
  fr : F3 b kv.ownBlock vv.ownBlock w w'
theorem bodyPost_mono {P : Program} {fn : Func} {R R' : Ending → World → Prop} (h : ∀ e w, R e w → R' e w) : ∀ e a w, bodyPost P fn R e a w → bodyPost P fn R' e a w := by
  intro e a w hb
  cases e with
  | normal => obtain ⟨h1, v, h2, h3⟩ := hb; exact ⟨h1, v, h2, h _ _ h3⟩
  | ret => obtain ⟨h1, v, h2, h3⟩ := hb; exact ⟨h1, v, h2, h _ _ h3⟩
  | panic c => exact ⟨hb.1, h _ _ hb.2⟩
  | outgrown => exact h _ _ hb
  | _ => exact hb
theorem k_blk_on {w w' : World} {b : Nat} {o : Obj} (hb : Below w.heap.size w w') (h : w.heap[b]? = some o) : w'.heap[b]? = some o := by rw [hb.block b (m_blk_lt h)]; exact h
set_option maxHeartbeats 8000000 in
theorem wstep_b1 {w : World} (b ob M sl room from0 : Nat) (h0 l0 l1 l2 l3 g0 m0 m1 m2 m3 : Int) (code mem om mm aB bB : ByteArray) (kv vv : Value) (L L' : List (ByteArray × ByteArray)) (t st res n : Nat) (k v tv : ByteArray)
    (h : Wd w b M sl (.int .i64 h0) (.int .i64 l0) (.int .i64 l1) (.int .i64 l2) (.int .i64 l3) (.int .i64 g0) (.int .i64 m0) (.int .i64 m1) (.int .i64 m2) (.int .i64 m3) (.string code) (.string mem) (.int .i64 room) kv vv L) (ho : w.heap[ob]? = some (.cells #[.string om, .int .i64 res, .int .i64 st, .int .i64 n] 56 (0, 0))) (hbo : ob ≠ b) (hk1 : kv.ownBlock ≠ some ob) (hv1 : vv.ownBlock ≠ some ob)
    (hrf : room ≤ from0) (hfo : from0 ≤ om.size) (hos : om.size ≤ 4000) (hsz : om.size = mm.size) (ht : 1 ≤ t ∧ t ≤ 6)
    (hst : (P.mustDo sl t k v L).1 = st) (hL' : (P.mustDo sl t k v L).2 = L')
    (hty : ∀ w, Calls Tryz.prog 11 #[.agg #[.int .i64 g0, .int .i64 m0, .int .i64 m1, .int .i64 m2, .int .i64 m3]] w fun e w' => e = .returned (.string tv) ∧ Below w.heap.size w w')
    (hfd : (t = 1 ∧ st = 0) → ∃ i v0, P.atK L' k = some i ∧ L'[i]? = some (k, v0) ∧ ∀ w', F3 b kv.ownBlock vv.ownBlock w w' → Calls Tryz.prog 23 #[.string tv, .string (om.extract from0 om.size)] w' fun e w'' => e = .returned (.tuple #[.string v0, .int .i64 0]) ∧ Below w'.heap.size w' w'')
    (hcn : t = 4 → res = L'.length) (h1 : (om.extract room from0).toList = aB.toList) (h2 : ¬ (t = 1 ∧ st = 0) → (om.extract from0 om.size).toList = bB.toList)
    (c1 c2 c3 c8 c10 c12 c17 c18 c19 c20 c21 c22 c23 c24 c25 c26 c27 c28 c29 c30 c31 c32 c33 c34 c35 c36 c37 c38 c39 c40 c41 c42 c43 c44 c45 c46 c47 c48 c49 c50 c51 c52 c53 c54 c55 c56 c57 c58 c59 c60 c61 c62 c63 c64 c65 c66 c67 c68 c69 c70 c71 c72 c73 c74 c75 c76 c77 c78 c79 c80 c81 c82 c83 c84 c85 c86 c87 c88 c89 c90 c91 c92 c93 c94 c95 c96 c97 c98 c99 c100 c101 c102 c103 c104 c105 c106 c107 c108 c109 c110 c111 c112 c113 c114 c115 c116 c117 c118 c119 c120 c121 c122 c123 c124 c125 c126 c127 c128 c129 c130 c131 c132 c133 c134 c135 c136 c137 c138 c139 c140 c141 c142 c143 c144 c145 c146 c147 c148 c149 c150 c151 c152 c153 c154 c155 c156 c157 c158 c159 c160 c161 c162 c163 c164 c165 c166 c167 c168 c169 c170 c171 c172 c173 c174 c175 c176 c177 c178 c179 c180 c181 c182 c183 c184 c185 c186 c187 c188 c189 c190 c191 c192 c193 c194 c195 c196 c197 c198 c199 : Value) :
    Code.wp Tryz.prog (dropK 11 (Tryz.f13.body.getD .skip)) (bodyPost Tryz.prog Tryz.f13 fun e w' => e = .returned (.bool true) ∧ KStep w w' b M sl (.int .i64 h0) (.int .i64 l0) (.int .i64 l1) (.int .i64 l2) (.int .i64 l3) (.int .i64 g0) (.int .i64 m0) (.int .i64 m1) (.int .i64 m2) (.int .i64 m3) (.string code) (.string (om.extract 0 room)) (.int .i64 room) kv vv L') ⟨#[.pointer (some ⟨b, 0, none⟩), c1, c2, c3, .bool false, .int .i64 t, .string k, .string v, c8, .string aB, c10, .string bB, c12, .int .i64 from0, .string mm, .pointer (some ⟨ob, 0, none⟩), .int .i64 0, c17, c18, c19, c20, c21, c22, c23, c24, c25, c26, c27, c28, c29, c30, c31, c32, c33, c34, c35, c36, c37, c38, c39, c40, c41, c42, c43, c44, c45, c46, c47, c48, c49, c50, c51, c52, c53, c54, c55, c56, c57, c58, c59, c60, c61, c62, c63, c64, c65, c66, c67, c68, c69, c70, c71, c72, c73, c74, c75, c76, c77, c78, c79, c80, c81, c82, c83, c84, c85, c86, c87, c88, c89, c90, c91, c92, c93, c94, c95, c96, c97, c98, c99, c100, c101, c102, c103, c104, c105, c106, c107, c108, c109, c110, c111, c112, c113, c114, c115, c116, c117, c118, c119, c120, c121, c122, c123, c124, c125, c126, c127, c128, c129, c130, c131, c132, c133, c134, c135, c136, c137, c138, c139, c140, c141, c142, c143, c144, c145, c146, c147, c148, c149, c150, c151, c152, c153, c154, c155, c156, c157, c158, c159, c160, c161, c162, c163, c164, c165, c166, c167, c168, c169, c170, c171, c172, c173, c174, c175, c176, c177, c178, c179, c180, c181, c182, c183, c184, c185, c186, c187, c188, c189, c190, c191, c192, c193, c194, c195, c196, c197, c198, c199], []⟩ w := by
  have HM := hid_m (wmust_any b M sl _ _ _ _ _ _ _ _ _ _ _ _ _ kv vv L t k v h ht)
  rw [hst, hL'] at HM
  have HO := hid_m ho
  have HBO := hid_m hbo
  have HKV := hid_m (And.intro hk1 hv1)
  have HX := hid_m (And.intro hrf (And.intro hfo hos))
  have HTY := hid_m hty
  have HFD := hid_m hfd
  have HCN := hid_m hcn
  have H1 := hid_m h1
  have H2 := hid_m h2
  have hne : ((om.size : Int) != (mm.size : Int)) = false := by rw [bne_eq_false_iff_eq, hsz]
  clear h ho hbo hk1 hv1 hrf hfo hos hsz ht hst hL' hty hfd hcn h1 h2
  conv => arg 2; whnf
  go_wp2_with fail
  refine HM.out.mono ?_
  rintro e w1 ⟨rfl, ⟨kv', vv', hd, hn1, hn2⟩, hf⟩
  have HS1 := hid_m hd
  have HNX := hid_m (And.intro hn1 hn2)
  have HF1 := hid_m hf
  have HO1 : Hid (w1.heap[ob]? = some (.cells #[.string om, .int .i64 res, .int .i64 st, .int .i64 n] 56 (0, 0))) := by
    unfold Hid; rw [hf.block ob (m_blk_lt HO.out) HBO.out HKV.out.1 HKV.out.2]; exact HO.out
  clear hd hn1 hn2 hf
  obtain ⟨e0, e1, e2, e3, ef⟩ := out_facts HO1.out
  clear e1 e3 ef
  rename_i K11 hK11 Kc hKc
  have HK11 := hid_m hK11
  clear hK11
  go_wp2_with fail
  refine HK11.out _ _ ?_
  refine wp_seq_k (fun K12 hK12 => ?_)
  have HK12 := hid_m hK12
  clear hK12 HK11
  go_wp2_with fail
  refine HK12.out _ _ ?_
  clear HK12 e0 e2
  refine Code.wp_mono (bodyPost_mono (fun e w' hh => ?_)) (wstep_c b ob M sl room from0 h0 l0 l1 l2 l3 g0 m0 m1 m2 m3 code mem om aB bB kv' vv' L' t st res n k tv HS1.out HO1.out HBO.out HX.out.1 HX.out.2.1 HX.out.2.2 HTY.out (fun hF => ?_) HCN.out H1.out H2.out _ _ _ _ _ _ _ _ _ _ _ _ _ _ _ _ _ _ _ _ _ _ _ _ _ _ _ _ _ _ _ _ _ _ _ _ _ _ _ _ _ _ _ _ _ _ _ _ _ _ _ _ _ _ _ _ _ _ _ _ _ _ _ _ _ _ _ _ _ _ _ _ _ _ _ _ _ _ _ _ _ _ _ _ _ _ _ _ _ _ _ _ _ _ _ _ _ _ _ _ _ _ _ _ _ _ _ _ _ _ _ _ _ _ _ _ _ _ _ _ _ _ _ _ _ _ _ _ _ _ _ _ _ _ _ _ _ _ _ _ _ _ _ _ _ _ _ _ _ _ _ _ _ _ _ _ _ _ _ _ _ _ _ _ _ _ _ _ _ _ _ _ _ _ _ _ _ _ _ _ _ _ _ _ _ _ _ _ _ _ _)
  · obtain ⟨he, hw, hf⟩ := hh
    exact ⟨he, ⟨kv', vv', hw, HNX.out.1, HNX.out.2⟩, HF1.out.trans hf (fun g hg => by cases hg) (fun g hg => by cases hg)⟩
  · obtain ⟨i, v0, y1, y2, y3⟩ := HFD.out hF
    exact ⟨i, v0, y1, y2, fun w' hw' => y3 w' (HF1.out.trans hw' (fun g hg => by cases hg) (fun g hg => by cases hg))⟩
/-- What the run reads of the keeper's world. -/
def Vx (b : Nat) (code : ByteArray) (room : Nat) (w : World) : Prop := w.cell? ⟨b, 10, none⟩ = some (.string code) ∧ w.cell? ⟨b, 12, none⟩ = some (.int .i64 room) ∧ True
theorem Vx.of {w : World} {b M sl room : Nat} {x0 x1 x2 x3 x4 x5 x6 x7 x8 x9 x11 kv vv : Value} {code : ByteArray} {L : List (ByteArray × ByteArray)} (h : Wd w b M sl x0 x1 x2 x3 x4 x5 x6 x7 x8 x9 (.string code) x11 (.int .i64 room) kv vv L) : Vx b code room w := by
  refine ⟨?_, ?_, trivial⟩ <;> (rw [cell_of_row _ _ _ _ _ _ h.blk]; rfl)
set_option maxHeartbeats 8000000 in
theorem wstep_b0 {w : World} (b M sl room from0 : Nat) (h0 l0 l1 l2 l3 g0 m0 m1 m2 m3 : Int) (code mem om mm aB bB : ByteArray) (kv vv : Value) (L L' : List (ByteArray × ByteArray)) (t st res n : Nat) (k v tv : ByteArray)
    (h : Wd w b M sl (.int .i64 h0) (.int .i64 l0) (.int .i64 l1) (.int .i64 l2) (.int .i64 l3) (.int .i64 g0) (.int .i64 m0) (.int .i64 m1) (.int .i64 m2) (.int .i64 m3) (.string code) (.string mem) (.int .i64 room) kv vv L)
    (hrn : ∀ w, Calls Tryz.prog 24 #[.string code, .string mm, .int .i64 t, .int .i64 room, .int .i64 from0, .int .i64 10000] w fun e w' => e = .returned (.tuple #[.agg #[.string om, .int .i64 res, .int .i64 st, .int .i64 n], .int .i64 0]) ∧ Below w.heap.size w w')
    (hrf : room ≤ from0) (hfo : from0 ≤ om.size) (hos : om.size ≤ 4000) (hsz : om.size = mm.size) (ht : 1 ≤ t ∧ t ≤ 6)
    (hst : (P.mustDo sl t k v L).1 = st) (hL' : (P.mustDo sl t k v L).2 = L')
    (hty : ∀ w, Calls Tryz.prog 11 #[.agg #[.int .i64 g0, .int .i64 m0, .int .i64 m1, .int .i64 m2, .int .i64 m3]] w fun e w' => e = .returned (.string tv) ∧ Below w.heap.size w w')
    (hfd : (t = 1 ∧ st = 0) → ∃ i v0, P.atK L' k = some i ∧ L'[i]? = some (k, v0) ∧ ∀ w', F3 b kv.ownBlock vv.ownBlock w w' → Calls Tryz.prog 23 #[.string tv, .string (om.extract from0 om.size)] w' fun e w'' => e = .returned (.tuple #[.string v0, .int .i64 0]) ∧ Below w'.heap.size w' w'')
    (hcn : t = 4 → res = L'.length) (h1 : (om.extract room from0).toList = aB.toList) (h2 : ¬ (t = 1 ∧ st = 0) → (om.extract from0 om.size).toList = bB.toList)
    (c1 c2 c3 c8 c10 c12 c15 c16 c17 c18 c19 c20 c21 c22 c23 c24 c25 c26 c27 c28 c29 c30 c31 c32 c33 c34 c35 c36 c37 c38 c39 c40 c41 c42 c43 c44 c45 c46 c47 c48 c49 c50 c51 c52 c53 c54 c55 c56 c57 c58 c59 c60 c61 c62 c63 c64 c65 c66 c67 c68 c69 c70 c71 c72 c73 c74 c75 c76 c77 c78 c79 c80 c81 c82 c83 c84 c85 c86 c87 c88 c89 c90 c91 c92 c93 c94 c95 c96 c97 c98 c99 c100 c101 c102 c103 c104 c105 c106 c107 c108 c109 c110 c111 c112 c113 c114 c115 c116 c117 c118 c119 c120 c121 c122 c123 c124 c125 c126 c127 c128 c129 c130 c131 c132 c133 c134 c135 c136 c137 c138 c139 c140 c141 c142 c143 c144 c145 c146 c147 c148 c149 c150 c151 c152 c153 c154 c155 c156 c157 c158 c159 c160 c161 c162 c163 c164 c165 c166 c167 c168 c169 c170 c171 c172 c173 c174 c175 c176 c177 c178 c179 c180 c181 c182 c183 c184 c185 c186 c187 c188 c189 c190 c191 c192 c193 c194 c195 c196 c197 c198 c199 : Value) :
    Code.wp Tryz.prog (dropK 10 (Tryz.f13.body.getD .skip)) (bodyPost Tryz.prog Tryz.f13 fun e w' => e = .returned (.bool true) ∧ KStep w w' b M sl (.int .i64 h0) (.int .i64 l0) (.int .i64 l1) (.int .i64 l2) (.int .i64 l3) (.int .i64 g0) (.int .i64 m0) (.int .i64 m1) (.int .i64 m2) (.int .i64 m3) (.string code) (.string (om.extract 0 room)) (.int .i64 room) kv vv L') ⟨#[.pointer (some ⟨b, 0, none⟩), c1, c2, c3, .bool false, .int .i64 t, .string k, .string v, c8, .string aB, c10, .string bB, c12, .int .i64 from0, .string mm, c15, c16, c17, c18, c19, c20, c21, c22, c23, c24, c25, c26, c27, c28, c29, c30, c31, c32, c33, c34, c35, c36, c37, c38, c39, c40, c41, c42, c43, c44, c45, c46, c47, c48, c49, c50, c51, c52, c53, c54, c55, c56, c57, c58, c59, c60, c61, c62, c63, c64, c65, c66, c67, c68, c69, c70, c71, c72, c73, c74, c75, c76, c77, c78, c79, c80, c81, c82, c83, c84, c85, c86, c87, c88, c89, c90, c91, c92, c93, c94, c95, c96, c97, c98, c99, c100, c101, c102, c103, c104, c105, c106, c107, c108, c109, c110, c111, c112, c113, c114, c115, c116, c117, c118, c119, c120, c121, c122, c123, c124, c125, c126, c127, c128, c129, c130, c131, c132, c133, c134, c135, c136, c137, c138, c139, c140, c141, c142, c143, c144, c145, c146, c147, c148, c149, c150, c151, c152, c153, c154, c155, c156, c157, c158, c159, c160, c161, c162, c163, c164, c165, c166, c167, c168, c169, c170, c171, c172, c173, c174, c175, c176, c177, c178, c179, c180, c181, c182, c183, c184, c185, c186, c187, c188, c189, c190, c191, c192, c193, c194, c195, c196, c197, c198, c199], []⟩ w := by
  have HH := hid_m h
  have HX0 := hid_m (Vx.of h)
  have HRN := hid_m hrn
  have HB1 : Hid (∀ (w4 : World) (ob : Nat) c1 c2 c3 c8 c10 c12 c17 c18 c19 c20 c21 c22 c23 c24 c25 c26 c27 c28 c29 c30 c31 c32 c33 c34 c35 c36 c37 c38 c39 c40 c41 c42 c43 c44 c45 c46 c47 c48 c49 c50 c51 c52 c53 c54 c55 c56 c57 c58 c59 c60 c61 c62 c63 c64 c65 c66 c67 c68 c69 c70 c71 c72 c73 c74 c75 c76 c77 c78 c79 c80 c81 c82 c83 c84 c85 c86 c87 c88 c89 c90 c91 c92 c93 c94 c95 c96 c97 c98 c99 c100 c101 c102 c103 c104 c105 c106 c107 c108 c109 c110 c111 c112 c113 c114 c115 c116 c117 c118 c119 c120 c121 c122 c123 c124 c125 c126 c127 c128 c129 c130 c131 c132 c133 c134 c135 c136 c137 c138 c139 c140 c141 c142 c143 c144 c145 c146 c147 c148 c149 c150 c151 c152 c153 c154 c155 c156 c157 c158 c159 c160 c161 c162 c163 c164 c165 c166 c167 c168 c169 c170 c171 c172 c173 c174 c175 c176 c177 c178 c179 c180 c181 c182 c183 c184 c185 c186 c187 c188 c189 c190 c191 c192 c193 c194 c195 c196 c197 c198 c199 , Below w.heap.size w w4 → w.heap.size ≤ ob → w4.heap[ob]? = some (.cells #[.string om, .int .i64 res, .int .i64 st, .int .i64 n] 56 (0, 0)) → Code.wp Tryz.prog (dropK 11 (Tryz.f13.body.getD .skip)) (bodyPost Tryz.prog Tryz.f13 fun e w' => e = .returned (.bool true) ∧ KStep w w' b M sl (.int .i64 h0) (.int .i64 l0) (.int .i64 l1) (.int .i64 l2) (.int .i64 l3) (.int .i64 g0) (.int .i64 m0) (.int .i64 m1) (.int .i64 m2) (.int .i64 m3) (.string code) (.string (om.extract 0 room)) (.int .i64 room) kv vv L') ⟨#[.pointer (some ⟨b, 0, none⟩), c1, c2, c3, .bool false, .int .i64 t, .string k, .string v, c8, .string aB, c10, .string bB, c12, .int .i64 from0, .string mm, .pointer (some ⟨ob, 0, none⟩), .int .i64 0, c17, c18, c19, c20, c21, c22, c23, c24, c25, c26, c27, c28, c29, c30, c31, c32, c33, c34, c35, c36, c37, c38, c39, c40, c41, c42, c43, c44, c45, c46, c47, c48, c49, c50, c51, c52, c53, c54, c55, c56, c57, c58, c59, c60, c61, c62, c63, c64, c65, c66, c67, c68, c69, c70, c71, c72, c73, c74, c75, c76, c77, c78, c79, c80, c81, c82, c83, c84, c85, c86, c87, c88, c89, c90, c91, c92, c93, c94, c95, c96, c97, c98, c99, c100, c101, c102, c103, c104, c105, c106, c107, c108, c109, c110, c111, c112, c113, c114, c115, c116, c117, c118, c119, c120, c121, c122, c123, c124, c125, c126, c127, c128, c129, c130, c131, c132, c133, c134, c135, c136, c137, c138, c139, c140, c141, c142, c143, c144, c145, c146, c147, c148, c149, c150, c151, c152, c153, c154, c155, c156, c157, c158, c159, c160, c161, c162, c163, c164, c165, c166, c167, c168, c169, c170, c171, c172, c173, c174, c175, c176, c177, c178, c179, c180, c181, c182, c183, c184, c185, c186, c187, c188, c189, c190, c191, c192, c193, c194, c195, c196, c197, c198, c199], []⟩ w4) := by
    intro w4 ob c1 c2 c3 c8 c10 c12 c17 c18 c19 c20 c21 c22 c23 c24 c25 c26 c27 c28 c29 c30 c31 c32 c33 c34 c35 c36 c37 c38 c39 c40 c41 c42 c43 c44 c45 c46 c47 c48 c49 c50 c51 c52 c53 c54 c55 c56 c57 c58 c59 c60 c61 c62 c63 c64 c65 c66 c67 c68 c69 c70 c71 c72 c73 c74 c75 c76 c77 c78 c79 c80 c81 c82 c83 c84 c85 c86 c87 c88 c89 c90 c91 c92 c93 c94 c95 c96 c97 c98 c99 c100 c101 c102 c103 c104 c105 c106 c107 c108 c109 c110 c111 c112 c113 c114 c115 c116 c117 c118 c119 c120 c121 c122 c123 c124 c125 c126 c127 c128 c129 c130 c131 c132 c133 c134 c135 c136 c137 c138 c139 c140 c141 c142 c143 c144 c145 c146 c147 c148 c149 c150 c151 c152 c153 c154 c155 c156 c157 c158 c159 c160 c161 c162 c163 c164 c165 c166 c167 c168 c169 c170 c171 c172 c173 c174 c175 c176 c177 c178 c179 c180 c181 c182 c183 c184 c185 c186 c187 c188 c189 c190 c191 c192 c193 c194 c195 c196 c197 c198 c199 hb hob ho
    have hbo : ob ≠ b := by have := h.lt2; omega
    refine Code.wp_mono (bodyPost_mono (fun e w' hh => ?_)) (wstep_b1 b ob M sl room from0 h0 l0 l1 l2 l3 g0 m0 m1 m2 m3 code mem om mm aB bB kv vv L L' t st res n k v tv (h.on hb) ho hbo (fun e => by have := (h.ok.lt ob e).2; omega) (fun e => by have := (h.ov.lt ob e).2; omega) hrf hfo hos hsz ht hst hL' hty (fun hF => ?_) hcn h1 h2 c1 c2 c3 c8 c10 c12 c17 c18 c19 c20 c21 c22 c23 c24 c25 c26 c27 c28 c29 c30 c31 c32 c33 c34 c35 c36 c37 c38 c39 c40 c41 c42 c43 c44 c45 c46 c47 c48 c49 c50 c51 c52 c53 c54 c55 c56 c57 c58 c59 c60 c61 c62 c63 c64 c65 c66 c67 c68 c69 c70 c71 c72 c73 c74 c75 c76 c77 c78 c79 c80 c81 c82 c83 c84 c85 c86 c87 c88 c89 c90 c91 c92 c93 c94 c95 c96 c97 c98 c99 c100 c101 c102 c103 c104 c105 c106 c107 c108 c109 c110 c111 c112 c113 c114 c115 c116 c117 c118 c119 c120 c121 c122 c123 c124 c125 c126 c127 c128 c129 c130 c131 c132 c133 c134 c135 c136 c137 c138 c139 c140 c141 c142 c143 c144 c145 c146 c147 c148 c149 c150 c151 c152 c153 c154 c155 c156 c157 c158 c159 c160 c161 c162 c163 c164 c165 c166 c167 c168 c169 c170 c171 c172 c173 c174 c175 c176 c177 c178 c179 c180 c181 c182 c183 c184 c185 c186 c187 c188 c189 c190 c191 c192 c193 c194 c195 c196 c197 c198 c199)
    · obtain ⟨he, ⟨kv', vv', hw, n1, n2⟩, hf⟩ := hh
      exact ⟨he, ⟨kv', vv', hw, fun g hg => (n1 g hg).elim Or.inl (fun x => Or.inr (by have := hb.size; omega)), fun g hg => (n2 g hg).elim Or.inl (fun x => Or.inr (by have := hb.size; omega))⟩, (F3.of hb).trans hf (fun g hg => Or.inl hg) (fun g hg => Or.inl hg)⟩
    · obtain ⟨i, v0, y1, y2, y3⟩ := hfd hF
      exact ⟨i, v0, y1, y2, fun w' hw' => y3 w' ((F3.of hb).trans hw' (fun g hg => Or.inl hg) (fun g hg => Or.inl hg))⟩
  clear h hrn hrf hfo hos hsz ht hst hL' hty hfd hcn h1 h2
  conv => arg 2; whnf
  refine wp_seq_k (fun K11 hK11 => ?_)
  have HK11 := hid_m hK11
  clear hK11
  refine wp_region_held_drew (S := Vx b code room) (by kernel_rfl) HX0.out (fun hHeld => ?_)
  refine wpAnyH_take (i := 0) (v := ?_) rfl (by kernel_rfl) (by kernel_rfl) (by kernel_rfl) (fun _ _ _ h => h) (Or.inl ⟨by rfl, ?_⟩) (by assumption) ?_
  rotate_left
  · intro w hSw
    obtain ⟨y0, y1, y2⟩ := hSw
    go_simp
    all_goals with_reducible rfl
  try simp only [Act.put]
  refine wpAnyH_take (i := 1) (v := ?_) rfl (by kernel_rfl) (by kernel_rfl) (by kernel_rfl) (fun _ _ _ h => h) (Or.inl ⟨by rfl, ?_⟩) (by assumption) ?_
  rotate_left
  · intro w hSw
    obtain ⟨y0, y1, y2⟩ := hSw
    go_simp
    all_goals with_reducible rfl
  try simp only [Act.put]
  refine wpAnyH_take (i := 2) (v := ?_) rfl (by kernel_rfl) (by kernel_rfl) (by kernel_rfl) (fun _ _ _ h => h) (Or.inl ⟨by rfl, ?_⟩) (by assumption) ?_
  rotate_left
  · intro w hSw
    obtain ⟨y0, y1, y2⟩ := hSw
    go_simp
    all_goals with_reducible rfl
  try simp only [Act.put]
  refine wpAnyH_take (i := 3) (v := ?_) rfl (by kernel_rfl) (by kernel_rfl) (by kernel_rfl) (fun _ _ _ h => h) (Or.inl ⟨by rfl, ?_⟩) (by assumption) ?_
  rotate_left
  · intro w hSw
    obtain ⟨y0, y1, y2⟩ := hSw
    go_simp
    all_goals with_reducible rfl
  try simp only [Act.put]
  refine wpAnyH_take (i := 4) (v := ?_) rfl (by kernel_rfl) (by kernel_rfl) (by kernel_rfl) (fun _ _ _ h => h) (Or.inl ⟨by rfl, ?_⟩) (by assumption) ?_
  rotate_left
  · intro w hSw
    obtain ⟨y0, y1, y2⟩ := hSw
    go_simp
    all_goals with_reducible rfl
  try simp only [Act.put]
  refine wpAnyH_take (i := 5) (v := ?_) rfl (by kernel_rfl) (by kernel_rfl) (by kernel_rfl) (fun _ _ _ h => h) (Or.inl ⟨by rfl, ?_⟩) (by assumption) ?_
  rotate_left
  · intro w hSw
    obtain ⟨y0, y1, y2⟩ := hSw
    go_simp
    all_goals with_reducible rfl
  try simp only [Act.put]
  refine wpAnyH_take (i := 6) (v := ?_) rfl (by kernel_rfl) (by kernel_rfl) (by kernel_rfl) (fun _ _ _ h => h) (Or.inl ⟨by rfl, ?_⟩) (by assumption) ?_
  rotate_left
  · intro w hSw
    obtain ⟨y0, y1, y2⟩ := hSw
    go_simp
    all_goals with_reducible rfl
  try simp only [Act.put]
  refine wpAnyH_take (i := 7) (v := ?_) rfl (by kernel_rfl) (by kernel_rfl) (by kernel_rfl) (fun _ _ _ h => h) (Or.inl ⟨by rfl, ?_⟩) (by assumption) ?_
  rotate_left
  · intro w hSw
    obtain ⟨y0, y1, y2⟩ := hSw
    go_simp
    all_goals with_reducible rfl
  try simp only [Act.put]
  refine wpAnyH_take (i := 8) (v := ?_) rfl (by kernel_rfl) (by kernel_rfl) (by kernel_rfl) (fun _ _ _ h => h) (Or.inl ⟨by rfl, ?_⟩) (by assumption) ?_
  rotate_left
  · intro w hSw
    obtain ⟨y0, y1, y2⟩ := hSw
    go_simp
    all_goals with_reducible rfl
  try simp only [Act.put]
  refine wpAnyH_take (i := 9) (v := ?_) rfl (by kernel_rfl) (by kernel_rfl) (by kernel_rfl) (fun _ _ _ h => h) (Or.inl ⟨by rfl, ?_⟩) (by assumption) ?_
  rotate_left
  · intro w hSw
    obtain ⟨y0, y1, y2⟩ := hSw
    go_simp
    all_goals with_reducible rfl
  try simp only [Act.put]
  refine wpAnyH_take (i := 10) (v := ?_) rfl (by kernel_rfl) (by kernel_rfl) (by kernel_rfl) (fun _ _ _ h => h) (Or.inl ⟨by rfl, ?_⟩) (by assumption) ?_
  rotate_left
  · intro w hSw
    obtain ⟨y0, y1, y2⟩ := hSw
    go_simp
    all_goals with_reducible rfl
  try simp only [Act.put]
  refine wpAnyH_ready (rs := [11, 15]) (by kernel_rfl) (by simp) ?_
  refine AllReadyH.cons (o := _) rfl (fun K hK => ?_) (AllReadyH.cons (o := _) rfl (fun K hK => ?_) AllReadyH.nil)
  · go_simp
    refine (HRN.out w.drew).mono ?_
    rintro e w1 ⟨rfl, hb1⟩
    have B1 : Hid (Below w.heap.size w w1) := ⟨hb1.os, hb1.tape, hb1.output, hb1.size, hb1.block⟩
    have HX1 := hid_m (Vx.of (HH.out.on B1.out))
    clear hb1
    go_wp2_with fail
    refine hK.out _ _ HX1.out (fun hHeldb => ?_)
    clear hK K
    try simp only [Act.put]
    refine wpAnyH_take (i := 12) (v := ?_) rfl (by kernel_rfl) (by kernel_rfl) (by kernel_rfl) (fun _ _ _ h => h) (Or.inl ⟨by rfl, ?_⟩) (by assumption) ?_
    rotate_left
    · intro w hSw
      obtain ⟨y0, y1, y2⟩ := hSw
      go_simp
      all_goals with_reducible rfl
    try simp only [Act.put]
    refine wpAnyH_take (i := 13) (v := ?_) rfl (by kernel_rfl) (by kernel_rfl) (by kernel_rfl) (fun _ _ _ h => h) (Or.inl ⟨by rfl, ?_⟩) (by assumption) ?_
    rotate_left
    · intro w hSw
      obtain ⟨y0, y1, y2⟩ := hSw
      go_simp
      all_goals with_reducible rfl
    try simp only [Act.put]
    refine wpAnyH_take (i := 14) (v := ?_) rfl (by kernel_rfl) (by kernel_rfl) (by kernel_rfl) (fun _ _ _ h => h) (Or.inl ⟨by rfl, ?_⟩) (by assumption) ?_
    rotate_left
    · intro w hSw
      obtain ⟨y0, y1, y2⟩ := hSw
      go_simp
      all_goals with_reducible rfl
    try simp only [Act.put]
    have B2 : Hid (Below w.heap.size w (w1.alloc (Obj.cells #[.string ⟨#[]⟩, .int .i64 0, .int .i64 0, .int .i64 0] 56))) := B1.out.alloc B1.out.size _
    have HX2 := hid_m (Vx.of (HH.out.on B2.out))
    have HO2 : Hid ((w1.alloc (Obj.cells #[.string ⟨#[]⟩, .int .i64 0, .int .i64 0, .int .i64 0] 56)).heap[w1.heap.size]? = some (.cells #[.string ⟨#[]⟩, .int .i64 0, .int .i64 0, .int .i64 0] 56 (0, 0))) := heap_alloc_new _ _
    refine wpAnyH_ready (rs := [15]) (by kernel_rfl) (by simp) ?_
    refine AllReadyH.cons (o := _) rfl (fun K hK => ?_) AllReadyH.nil
    go_simp
    refine hK.out _ _ HX2.out (fun hHeldc => ?_)
    clear hK K
    try simp only [Act.put]
    obtain ⟨ob, hob⟩ : ∃ ob, w1.heap.size = ob := ⟨_, rfl⟩
    have HOB : w.heap.size ≤ ob := by have := B1.out.size; omega
    generalize (w1.alloc (Obj.cells #[.string ⟨#[]⟩, .int .i64 0, .int .i64 0, .int .i64 0] 56)) = w2 at B2 HX2 HO2 ⊢
    rw [hob] at HO2 ⊢
    clear hob
    obtain ⟨e0, e1, e2, e3, ef⟩ := out_facts HO2.out
    refine wpAnyH_ready (rs := [16]) (by kernel_rfl) (by simp) ?_
    refine AllReadyH.cons (o := _) rfl (fun K hK => ?_) AllReadyH.nil
    go_simp
    obtain ⟨w4, hw4⟩ : ∃ W, ((((w2.setCell ⟨ob, 0, none⟩ (.string om)).setCell ⟨ob, 1, none⟩ (.int .i64 res)).setCell ⟨ob, 2, none⟩ (.int .i64 st)).setCell ⟨ob, 3, none⟩ (.int .i64 n)) = W := ⟨_, rfl⟩
    have HO4 : Hid (w4.heap[ob]? = some (.cells #[.string om, .int .i64 res, .int .i64 st, .int .i64 n] 56 (0, 0))) := by unfold Hid; rw [← hw4]; exact out4 _ _ _ _ HO2.out
    have B4 : Hid (Below w.heap.size w w4) := by unfold Hid; rw [← hw4]; exact (((B2.out.setCell HOB _).setCell HOB _).setCell HOB _).setCell HOB _
    have HX4 := hid_m (Vx.of (HH.out.on B4.out))
    rw [hw4]
    clear hw4 e0 e1 e2 e3 ef HX2 HO2 B2
    refine hK.out _ _ HX4.out (fun hHeldd => ?_)
    clear hK K
    try simp only [Act.put]
    refine wpAnyH_ready (rs := [17]) (by kernel_rfl) (by simp) ?_
    refine AllReadyH.cons (o := _) rfl (fun K hK => ?_) AllReadyH.nil
    go_simp
    refine hK.out _ _ HX4.out (fun hHelde => ?_)
    clear hK K
    try simp only [Act.put]
    refine wpAnyH_done (by kernel_rfl) ?_ _
    go_wp2_with fail
    refine HK11.out _ _ ?_
    exact HB1.out w4 ob _ _ _ _ _ _ _ _ _ _ _ _ _ _ _ _ _ _ _ _ _ _ _ _ _ _ _ _ _ _ _ _ _ _ _ _ _ _ _ _ _ _ _ _ _ _ _ _ _ _ _ _ _ _ _ _ _ _ _ _ _ _ _ _ _ _ _ _ _ _ _ _ _ _ _ _ _ _ _ _ _ _ _ _ _ _ _ _ _ _ _ _ _ _ _ _ _ _ _ _ _ _ _ _ _ _ _ _ _ _ _ _ _ _ _ _ _ _ _ _ _ _ _ _ _ _ _ _ _ _ _ _ _ _ _ _ _ _ _ _ _ _ _ _ _ _ _ _ _ _ _ _ _ _ _ _ _ _ _ _ _ _ _ _ _ _ _ _ _ _ _ _ _ _ _ _ _ _ _ _ _ _ _ _ _ _ _ _ _ B4.out HOB HO4.out
  · go_simp
    have B1 : Hid (Below w.heap.size w (w.alloc (Obj.cells #[.string ⟨#[]⟩, .int .i64 0, .int .i64 0, .int .i64 0] 56)).drew) := ((Below.refl _ _).alloc (Nat.le_refl _) _).drew
    have HX1 := hid_m (Vx.of (HH.out.on B1.out))
    have HO1 : Hid ((w.alloc (Obj.cells #[.string ⟨#[]⟩, .int .i64 0, .int .i64 0, .int .i64 0] 56)).drew.heap[w.heap.size]? = some (.cells #[.string ⟨#[]⟩, .int .i64 0, .int .i64 0, .int .i64 0] 56 (0, 0))) := heap_alloc_new w _
    refine hK.out _ _ HX1.out (fun hHeldc => ?_)
    clear hK K
    try simp only [Act.put]
    obtain ⟨ob, hob⟩ : ∃ ob, w.heap.size = ob := ⟨_, rfl⟩
    have HOB : w.heap.size ≤ ob := Nat.le_of_eq hob
    generalize (w.alloc (Obj.cells #[.string ⟨#[]⟩, .int .i64 0, .int .i64 0, .int .i64 0] 56)).drew = w1 at B1 HX1 HO1 ⊢
    rw [hob] at HO1
    try rw [hob]
    clear hob
    refine wpAnyH_ready (rs := [11]) (by kernel_rfl) (by simp) ?_
    refine AllReadyH.cons (o := _) rfl (fun K hK => ?_) AllReadyH.nil
    go_simp
    refine (HRN.out w1).mono ?_
    rintro e w2 ⟨rfl, hb2⟩
    have B2 := hid_m (B1.out.trans (hb2.mono B1.out.size))
    have HO2 := hid_m (k_blk_on hb2 HO1.out)
    have HX2 := hid_m (Vx.of (HH.out.on B2.out))
    clear hb2
    go_wp2_with fail
    refine hK.out _ _ HX2.out (fun hHeldb => ?_)
    clear hK K
    try simp only [Act.put]
    refine wpAnyH_take (i := 12) (v := ?_) rfl (by kernel_rfl) (by kernel_rfl) (by kernel_rfl) (fun _ _ _ h => h) (Or.inl ⟨by rfl, ?_⟩) (by assumption) ?_
    rotate_left
    · intro w hSw
      obtain ⟨y0, y1, y2⟩ := hSw
      go_simp
      all_goals with_reducible rfl
    try simp only [Act.put]
    refine wpAnyH_take (i := 13) (v := ?_) rfl (by kernel_rfl) (by kernel_rfl) (by kernel_rfl) (fun _ _ _ h => h) (Or.inl ⟨by rfl, ?_⟩) (by assumption) ?_
    rotate_left
    · intro w hSw
      obtain ⟨y0, y1, y2⟩ := hSw
      go_simp
      all_goals with_reducible rfl
    try simp only [Act.put]
    refine wpAnyH_take (i := 14) (v := ?_) rfl (by kernel_rfl) (by kernel_rfl) (by kernel_rfl) (fun _ _ _ h => h) (Or.inl ⟨by rfl, ?_⟩) (by assumption) ?_
    rotate_left
    · intro w hSw
      obtain ⟨y0, y1, y2⟩ := hSw
      go_simp
      all_goals with_reducible rfl
    try simp only [Act.put]
    obtain ⟨e0, e1, e2, e3, ef⟩ := out_facts HO2.out
    refine wpAnyH_ready (rs := [16]) (by kernel_rfl) (by simp) ?_
    refine AllReadyH.cons (o := _) rfl (fun K hK => ?_) AllReadyH.nil
    go_simp
    obtain ⟨w4, hw4⟩ : ∃ W, ((((w2.setCell ⟨ob, 0, none⟩ (.string om)).setCell ⟨ob, 1, none⟩ (.int .i64 res)).setCell ⟨ob, 2, none⟩ (.int .i64 st)).setCell ⟨ob, 3, none⟩ (.int .i64 n)) = W := ⟨_, rfl⟩
    have HO4 : Hid (w4.heap[ob]? = some (.cells #[.string om, .int .i64 res, .int .i64 st, .int .i64 n] 56 (0, 0))) := by unfold Hid; rw [← hw4]; exact out4 _ _ _ _ HO2.out
    have B4 : Hid (Below w.heap.size w w4) := by unfold Hid; rw [← hw4]; exact (((B2.out.setCell HOB _).setCell HOB _).setCell HOB _).setCell HOB _
    have HX4 := hid_m (Vx.of (HH.out.on B4.out))
    rw [hw4]
    clear hw4 e0 e1 e2 e3 ef HX2 HO2 B2
    refine hK.out _ _ HX4.out (fun hHeldd => ?_)
    clear hK K
    try simp only [Act.put]
    refine wpAnyH_ready (rs := [17]) (by kernel_rfl) (by simp) ?_
    refine AllReadyH.cons (o := _) rfl (fun K hK => ?_) AllReadyH.nil
    go_simp
    refine hK.out _ _ HX4.out (fun hHelde => ?_)
    clear hK K
    try simp only [Act.put]
    refine wpAnyH_done (by kernel_rfl) ?_ _
    go_wp2_with fail
    refine HK11.out _ _ ?_
    exact HB1.out w4 ob _ _ _ _ _ _ _ _ _ _ _ _ _ _ _ _ _ _ _ _ _ _ _ _ _ _ _ _ _ _ _ _ _ _ _ _ _ _ _ _ _ _ _ _ _ _ _ _ _ _ _ _ _ _ _ _ _ _ _ _ _ _ _ _ _ _ _ _ _ _ _ _ _ _ _ _ _ _ _ _ _ _ _ _ _ _ _ _ _ _ _ _ _ _ _ _ _ _ _ _ _ _ _ _ _ _ _ _ _ _ _ _ _ _ _ _ _ _ _ _ _ _ _ _ _ _ _ _ _ _ _ _ _ _ _ _ _ _ _ _ _ _ _ _ _ _ _ _ _ _ _ _ _ _ _ _ _ _ _ _ _ _ _ _ _ _ _ _ _ _ _ _ _ _ _ _ _ _ _ _ _ _ _ _ _ _ _ _ _ B4.out HOB HO4.out
end Go.Proofs.YtghggcehloiemabGreatDoor
