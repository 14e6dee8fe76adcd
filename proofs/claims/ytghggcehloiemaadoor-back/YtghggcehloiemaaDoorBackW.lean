import Derived.Test.YtghggcehloiemaaDoorBackP
import Derived.Test.YtghggcehloiemaaDoorKeepW3
namespace Go.Proofs.YtghggcehloiemaaDoor
open Go.RowKit
set_option linter.unusedVariables false
set_option maxRecDepth 16000

set_option maxHeartbeats 1000000 in
theorem laying_any (w : World) (htab : Lib.TabIs Tryd.prog w "internal/strconv.uint64pow10" .u64 Lib.pow10Tab) :
    Calls Tryd.prog 9 #[] w fun e w' => e = .returned (.bool true) ∧ Below w.heap.size w w' := by
  have HTB : Hid (Lib.TabIs Tryd.prog w "internal/strconv.uint64pow10" .u64 Lib.pow10Tab) := htab
  clear htab
  go_enter Tryd.func9, Tryd.ntmps9
  go_wp2_with fail
  refine (encode_any _ _ _ _ (by decide) (by decide)).mono ?_
  rintro e w1 ⟨he, hb1⟩
  have he' : e = .returned (.tuple #[.string ⟨(P.encOf P.exT P.exV 255).1.toArray⟩, .int .i64 (P.encOf P.exT P.exV 255).2]) := he
  rw [P.ex_enc] at he'
  clear he
  subst he'
  have HT1 : Hid (Lib.TabIs Tryd.prog w1 "internal/strconv.uint64pow10" .u64 Lib.pow10Tab) := tab_on hb1 HTB.out
  go_wp2_with fail
  refine (decode_any _ _ _ (by decide) HT1.out).mono ?_
  rintro e w2 ⟨he, hb2⟩
  have he' : e = .returned (.tuple #[.string ⟨(P.decOf P.exT P.exB).1.toArray⟩, .int .i64 (P.decOf P.exT P.exB).2]) := he
  rw [P.ex_dec] at he'
  clear he
  subst he'
  go_wp2_with fail
  go_ret
  exact ⟨by simp [P.exV], hb1.trans (hb2.mono hb1.size)⟩

/-- The world at the head of Back and Apart: the shape's block, the array's. -/
theorem start9 (h l0 l1 l2 l3 c0 c1 c2 c3 : Int) (w : World) (htab : Lib.TabIs Tryd.prog w "internal/strconv.uint64pow10" .u64 Lib.pow10Tab) :
    Nine ((w.alloc (.cells #[.int .i64 h, .int .i64 l0, .int .i64 l1, .int .i64 l2, .int .i64 l3] 31)).alloc (.cells #[.int .i64 c0, .int .i64 c1, .int .i64 c2, .int .i64 c3] 29)) w.heap.size (w.heap.size + 1) (.int .i64 h) (.int .i64 l0) (.int .i64 l1) (.int .i64 l2) (.int .i64 l3) (.int .i64 c0) (.int .i64 c1) (.int .i64 c2) (.int .i64 c3)
    ∧ Below w.heap.size w ((w.alloc (.cells #[.int .i64 h, .int .i64 l0, .int .i64 l1, .int .i64 l2, .int .i64 l3] 31)).alloc (.cells #[.int .i64 c0, .int .i64 c1, .int .i64 c2, .int .i64 c3] 29))
    ∧ Lib.TabIs Tryd.prog ((w.alloc (.cells #[.int .i64 h, .int .i64 l0, .int .i64 l1, .int .i64 l2, .int .i64 l3] 31)).alloc (.cells #[.int .i64 c0, .int .i64 c1, .int .i64 c2, .int .i64 c3] 29)) "internal/strconv.uint64pow10" .u64 Lib.pow10Tab := by
  have kk0 : Five (w.alloc (.cells #[.int .i64 h, .int .i64 l0, .int .i64 l1, .int .i64 l2, .int .i64 l3] 31)) w.heap.size (.int .i64 h) (.int .i64 l0) (.int .i64 l1) (.int .i64 l2) (.int .i64 l3) := Five.new w _ _ _ _ _ _
  have hb0 : Below w.heap.size w (w.alloc (.cells #[.int .i64 h, .int .i64 l0, .int .i64 l1, .int .i64 l2, .int .i64 l3] 31)) := (Below.refl _ _).alloc (Nat.le_refl _) _
  have hal : Below (w.alloc (.cells #[.int .i64 h, .int .i64 l0, .int .i64 l1, .int .i64 l2, .int .i64 l3] 31)).heap.size (w.alloc (.cells #[.int .i64 h, .int .i64 l0, .int .i64 l1, .int .i64 l2, .int .i64 l3] 31)) ((w.alloc (.cells #[.int .i64 h, .int .i64 l0, .int .i64 l1, .int .i64 l2, .int .i64 l3] 31)).alloc (.cells #[.int .i64 c0, .int .i64 c1, .int .i64 c2, .int .i64 c3] 29)) := (Below.refl _ _).alloc (Nat.le_refl _) _
  have hb : Below w.heap.size w ((w.alloc (.cells #[.int .i64 h, .int .i64 l0, .int .i64 l1, .int .i64 l2, .int .i64 l3] 31)).alloc (.cells #[.int .i64 c0, .int .i64 c1, .int .i64 c2, .int .i64 c3] 29)) := below_on hal hb0
  refine ⟨?_, hb, ((Lib.tabBelow_of_tabIs htab).on hb).here⟩
  have f := kk0.on hal
  have g := Four.new (w.alloc (.cells #[.int .i64 h, .int .i64 l0, .int .i64 l1, .int .i64 l2, .int .i64 l3] 31)) (.int .i64 c0) (.int .i64 c1) (.int .i64 c2) (.int .i64 c3) 29
  have hsz : (w.alloc (.cells #[.int .i64 h, .int .i64 l0, .int .i64 l1, .int .i64 l2, .int .i64 l3] 31)).heap.size = w.heap.size + 1 := by simp
  rw [hsz] at g
  exact ⟨f.1, f.2.1, f.2.2.1, f.2.2.2.1, f.2.2.2.2, g⟩

theorem bytes_get (l : List UInt8) (k : Nat) : (bytesOf l)[k]? = l[k]? := by
  by_cases h : k < l.length
  · rw [getElem?_pos (bytesOf l) k (by rw [bytes_len]; exact h), getElem?_pos l k h]; rfl
  · rw [getElem?_neg (bytesOf l) k (by rw [bytes_len]; exact h), getElem?_neg l k h]
theorem below_drewN {B : Nat} {w w1 : World} (h : Below B w w1) (n : Nat) : Below B w (w1.drewN n) := ⟨h.os, h.tape, h.output, h.size, h.block⟩
theorem tab_drewN {w : World} (h : Lib.TabIs Tryd.prog w "internal/strconv.uint64pow10" .u64 Lib.pow10Tab) (n : Nat) : Hid (Lib.TabIs Tryd.prog (w.drewN n) "internal/strconv.uint64pow10" .u64 Lib.pow10Tab) := h
theorem hid_of {p : Prop} (h : p) : Hid p := h
theorem joinP_len (how : Nat) (a b c d : List UInt8) (ha : a.length ≤ 40) (hb : b.length ≤ 40) (hc : c.length ≤ 40) (hd : d.length ≤ 40) : (P.joinP how a b c d).length ≤ 1000 := by
  unfold P.joinP
  repeat' split
  all_goals (first | omega | (simp only [List.length_append, List.length_cons, List.length_nil]; omega))

set_option maxHeartbeats 4000000 in
theorem back_any (h l0 l1 l2 l3 c0 c1 c2 c3 fill other : Int) (w : World) (hh : I64 h) (hl : ∀ x ∈ [l0, l1, l2, l3], I64 x) (hc : I64 c0 ∧ I64 c1 ∧ I64 c2 ∧ I64 c3) (hf : I64 fill) (ho : I64 other) (htab : Lib.TabIs Tryd.prog w "internal/strconv.uint64pow10" .u64 Lib.pow10Tab) :
    Calls Tryd.prog 4 #[.agg #[.int .i64 h, .int .i64 l0, .int .i64 l1, .int .i64 l2, .int .i64 l3], .agg #[.int .i64 c0, .int .i64 c1, .int .i64 c2, .int .i64 c3], .int .i64 fill, .int .i64 other] w fun e w' => e = .returned (.bool true) ∧ Below w.heap.size w w' := by
  obtain ⟨kk, hb, ht⟩ := start9 h l0 l1 l2 l3 c0 c1 c2 c3 w htab
  have hfl := pick_lt fill 256 (by decide)
  have hgl := pick_lt other 256 (by decide)
  obtain ⟨n, st, a, b, L⟩ := P.laid_of (P.pickP h 6) (P.pickP l0 6) (P.pickP l1 6) (P.pickP l2 6) (P.pickP l3 6) c0 c1 c2 c3 (P.pickP fill 256 : Nat) (P.pickP other 256 : Nat) (pick6 _) (pick6 _) (pick6 _) (pick6 _) (pick6 _) (by omega) (by omega)
  have hTl : (P.joinP (P.pickP h 6) (P.leafT (P.pickP l0 6)) (P.leafT (P.pickP l1 6)) (P.leafT (P.pickP l2 6)) (P.leafT (P.pickP l3 6))).length ≤ 1000 := joinP_len _ _ _ _ _ (by rw [leafT_len]; decide) (by rw [leafT_len]; decide) (by rw [leafT_len]; decide) (by rw [leafT_len]; decide)
  have hVl : (P.joinP (P.pickP h 6) (P.oneP (P.pickP l0 6) c0) (P.oneP (P.pickP l1 6) c1) (P.oneP (P.pickP l2 6) c2) (P.oneP (P.pickP l3 6) c3)).length ≤ 1000 := joinP_len _ _ _ _ _ (oneP_len _ _ (pick6 _)) (oneP_len _ _ (pick6 _)) (oneP_len _ _ (pick6 _)) (oneP_len _ _ (pick6 _))
  have typ' := fun w => typ_any h l0 l1 l2 l3 w hh hl
  have val' := fun w => value_any h l0 l1 l2 l3 c0 c1 c2 c3 w hh hl hc
  have pf := fun w => pick_any fill 256 w (by decide) (by decide) hf.1 hf.2
  have pg := fun w => pick_any other 256 w (by decide) (by decide) ho.1 ho.2
  generalize P.joinP (P.pickP h 6) (P.leafT (P.pickP l0 6)) (P.leafT (P.pickP l1 6)) (P.leafT (P.pickP l2 6)) (P.leafT (P.pickP l3 6)) = lt at L hTl typ'
  generalize P.joinP (P.pickP h 6) (P.oneP (P.pickP l0 6) c0) (P.oneP (P.pickP l1 6) c1) (P.oneP (P.pickP l2 6) c2) (P.oneP (P.pickP l3 6) c3) = lv at L hVl val'
  generalize P.pickP fill 256 = f at L hfl pf
  generalize P.pickP other 256 = g at L hgl pg
  have TY := hid_of typ'
  have VA := hid_of val'
  have PF := hid_of pf
  have PG := hid_of pg
  have LL := hid_of L
  clear typ' val' pf pg L hl hh hc htab hf ho
  go_enter Tryd.func4, Tryd.ntmps4
  go_wp2_with fail
  refine (laying_any _ ht).mono ?_
  rintro e w1 ⟨rfl, hb1⟩
  have kk := nine_on hb1 kk
  have ht := tab_on hb1 ht
  have hb := below_on hb1 hb
  obtain ⟨k0, k1, k2, k3, k4, k5, k6, k7, k8⟩ := id kk
  go_wp2_with fail
  refine (TY.out _).mono ?_
  rintro e w2 ⟨rfl, hb2⟩
  clear k0 k1 k2 k3 k4 k5 k6 k7 k8
  have kk := nine_on hb2 kk
  have ht := tab_on hb2 ht
  have hb := below_on hb2 hb
  obtain ⟨k0, k1, k2, k3, k4, k5, k6, k7, k8⟩ := kk
  go_wp2_with fail
  refine (VA.out _ ht).mono ?_
  rintro e w3 ⟨rfl, hb3⟩
  clear k0 k1 k2 k3 k4 k5 k6 k7 k8
  have ht := tab_on hb3 ht
  have hb := below_on hb3 hb
  go_wp2_with fail
  refine (PF.out _).mono ?_
  rintro e w4 ⟨rfl, rfl⟩
  go_wp2_with fail
  refine (PG.out _).mono ?_
  rintro e w5 ⟨rfl, rfl⟩
  have hTs : (bytesOf lt).size ≤ maxLen := by rw [bytes_len]; unfold maxLen; omega
  have hVs : (bytesOf lv).size ≤ maxLen := by rw [bytes_len]; unfold maxLen; omega
  have sz' := fun w => size_any (bytesOf lt) w hTs
  have en1 := fun w => encode_any (bytesOf lt) (bytesOf lv) f w hTs hVs
  have en2 := fun w => encode_any (bytesOf lt) (bytesOf lv) g w hTs hVs
  have de1 := fun w => decode_any (bytesOf lt) (bytesOf a) w hTs
  have de2 := fun w => decode_any (bytesOf lt) (bytesOf b) w hTs
  rw [show P.sizeOf (bytesOf lt).data.toList = _ from LL.out.size] at sz'
  rw [show P.encOf (bytesOf lt).data.toList (bytesOf lv).data.toList _ = _ from LL.out.enc] at en1
  rw [show P.encOf (bytesOf lt).data.toList (bytesOf lv).data.toList _ = _ from LL.out.enc2] at en2
  rw [show P.decOf (bytesOf lt).data.toList (bytesOf a).data.toList = _ from LL.out.dec] at de1
  rw [show P.decOf (bytesOf lt).data.toList (bytesOf b).data.toList = _ from LL.out.dec2] at de2
  have hAs : (bytesOf a).size = n := by rw [bytes_len]; exact LL.out.la
  have hBs : (bytesOf b).size = n := by rw [bytes_len]; exact LL.out.lb
  have HA : Hid (∀ k, (bytesOf a)[k]? = a[k]?) := fun k => bytes_get _ k
  have HB : Hid (∀ k, (bytesOf b)[k]? = b[k]?) := fun k => bytes_get _ k
  have en1' : ∀ w, Calls Tryd.prog 14 #[.string (bytesOf lt), .string (bytesOf lv), .int .i64 f] w fun e w' => e = .returned (.tuple #[.string (bytesOf a), .int .i64 0]) ∧ Below w.heap.size w w' := en1
  have en2' : ∀ w, Calls Tryd.prog 14 #[.string (bytesOf lt), .string (bytesOf lv), .int .i64 g] w fun e w' => e = .returned (.tuple #[.string (bytesOf b), .int .i64 0]) ∧ Below w.heap.size w w' := en2
  have de1' : ∀ w, Lib.TabIs Tryd.prog w "internal/strconv.uint64pow10" .u64 Lib.pow10Tab → Calls Tryd.prog 6 #[.string (bytesOf lt), .string (bytesOf a)] w fun e w' => e = .returned (.tuple #[.string (bytesOf lv), .int .i64 0]) ∧ Below w.heap.size w w' := de1
  have de2' : ∀ w, Lib.TabIs Tryd.prog w "internal/strconv.uint64pow10" .u64 Lib.pow10Tab → Calls Tryd.prog 6 #[.string (bytesOf lt), .string (bytesOf b)] w fun e w' => e = .returned (.tuple #[.string (bytesOf lv), .int .i64 0]) ∧ Below w.heap.size w w' := de2
  have sz'' : ∀ w, Calls Tryd.prog 13 #[.string (bytesOf lt)] w fun e w' => e = .returned (.tuple #[.int .i64 n, .int .i64 st, .int .i64 0]) ∧ Below w.heap.size w w' := sz'
  clear en1 en2 de1 de2 sz'
  have EN1 := hid_of en1'
  have EN2 := hid_of en2'
  have DE1 := hid_of de1'
  have DE2 := hid_of de2'
  have SZ := hid_of sz''
  clear en1' en2' de1' de2' sz'' hTs hVs TY VA PF PG hb1 hb2 hb3
  generalize hAA : bytesOf a = A at EN1 DE1 hAs HA
  generalize hBB : bytesOf b = B at EN2 DE2 hBs HB
  generalize bytesOf lt = LT at EN1 EN2 DE1 DE2 SZ ⊢
  generalize bytesOf lv = LV at EN1 EN2 DE1 DE2 ⊢
  have hst1 := LL.out.step
  have hst4 := LL.out.step4
  have hnst : (n : Int) % (st : Int) = 0 := by have := LL.out.divs; omega
  have hn32 := LL.out.small
  have hstz : ((st : Int) == 0) = false := by rw [beq_eq_false_iff_ne]; omega
  go_wp2_with fail
  refine (SZ.out _).mono ?_
  rintro e w6 ⟨rfl, hb6⟩
  have ht := tab_on hb6 ht
  have hb := below_on hb6 hb
  go_wp2_with fail
  refine (EN1.out _).mono ?_
  rintro e w7 ⟨rfl, hb7⟩
  have ht := tab_on hb7 ht
  have hb := below_on hb7 hb
  go_wp2_with fail
  refine (EN2.out _).mono ?_
  rintro e w8 ⟨rfl, hb8⟩
  have ht := tab_on hb8 ht
  have hb := below_on hb8 hb
  go_wp2_with fail
  clear hb6 hb7 hb8 hnst hstz hst1 hst4 EN1 EN2 SZ
  go_loopw [21] (fun j wr => ∃ q : Nat, q ≤ n ∧ j = .int .i64 q ∧ Below w.heap.size w wr ∧ Hid (Lib.TabIs Tryd.prog wr "internal/strconv.uint64pow10" .u64 Lib.pow10Tab)) (fun j _ => n - (intOf j).toNat)
  case atStart => exact ⟨0, by omega, rfl, hb, ht⟩
  case round =>
    obtain ⟨q, hq, rfl, hbr, HTR⟩ := hrel
    by_cases hlt : q < n
    · have hqA : q < A.size := by omega
      have hqB : q < B.size := by omega
      have hx : a[q]? = some A[q] := (HA.out q).symm.trans (getElem?_pos A q hqA)
      have hy : b[q]? = some B[q] := (HB.out q).symm.trans (getElem?_pos B q hqB)
      have hlk := LL.out.like.2 q _ _ hx hy
      have hlk' : (A[q].toNat : Int) = (B[q].toNat : Int) ∨ ((A[q].toNat : Int) = f ∧ (B[q].toNat : Int) = g) := by
        rcases hlk with h1 | ⟨h1, h2⟩
        · exact .inl (by rw [h1])
        · refine .inr ⟨?_, ?_⟩
          · rw [h1]; unfold P.fillB; simp; omega
          · rw [h2]; unfold P.fillB; simp; omega
      clear hx hy hlk
      have h0q : (0 : Int) ≤ (q : Int) := by omega
      have hqn : wrap64 ((q : Int) + 1) = ((q + 1 : Nat) : Int) := by unfold wrap64; omega
      by_cases hfree : (A[q].toNat : Int) = f ∧ (B[q].toNat : Int) = g
      · obtain ⟨hxf, hyg⟩ := hfree
        clear hlk'
        by_cases hfg : f = g
        · subst hfg
          go_wp2_with fail
          go_quiet (fail)
          go_wp2_with fail
          exact ⟨⟨q + 1, by omega, by go_num, below_drewN hbr _, tab_drewN HTR.out _⟩, by simp [intOf]; omega⟩
        · have hfg' : ¬ (f : Int) = (g : Int) := by omega
          go_wp2_with fail
          go_quiet (fail)
          go_wp2_with fail
          exact ⟨⟨q + 1, by omega, by go_num, below_drewN hbr _, tab_drewN HTR.out _⟩, by simp [intOf]; omega⟩
      · have hs : (A[q].toNat : Int) = (B[q].toNat : Int) := hlk'.resolve_right hfree
        clear hlk'
        have hs' : ((A[q].toNat : Int) == (B[q].toNat : Int)) = true := by simpa using hs
        by_cases hxf : (A[q].toNat : Int) = f
        · have hyg : ¬ (B[q].toNat : Int) = g := fun h => hfree ⟨hxf, h⟩
          clear hfree
          go_wp2_with fail
          go_quiet (fail)
          go_wp2_with fail
          exact ⟨⟨q + 1, by omega, by go_num, below_drewN hbr _, tab_drewN HTR.out _⟩, by simp [intOf]; omega⟩
        · clear hfree
          have hwB : wrap64 (B[q].toNat : Int) = B[q].toNat := by have := UInt8.toNat_lt B[q]; unfold wrap64; omega
          have hxB : ¬ (B[q].toNat : Int) = f := by rw [← hs]; exact hxf
          have hxb : ((B[q].toNat : Int) == (f : Int)) = false := by rw [beq_eq_false_iff_ne]; exact hxB
          go_wp2_with fail
          go_quiet (fail)
          go_wp2_with fail
          all_goals exact ⟨⟨q + 1, by omega, by go_num, below_drewN hbr _, tab_drewN HTR.out _⟩, by simp [intOf]; omega⟩
    · go_wp2_with fail
      refine (DE1.out _ HTR.out).mono ?_
      rintro e w9 ⟨rfl, hb9⟩
      have ht := tab_on hb9 HTR.out
      have hb := below_on hb9 hbr
      go_wp2_with fail
      refine (DE2.out _ ht).mono ?_
      rintro e w10 ⟨rfl, hb10⟩
      have hb := below_on hb10 hb
      go_wp2_with fail
      go_ret
      exact ⟨by simp, hb⟩
end Go.Proofs.YtghggcehloiemaaDoor
