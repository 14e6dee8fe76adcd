import Derived.Test.YtghggcehloiemaaDoorBackW
namespace Go.Proofs.YtghggcehloiemaaDoor
open Go.RowKit
set_option linter.unusedVariables false
set_option maxRecDepth 16000

theorem four_on {w wp w3 : World} {B : Nat} {v0 v1 v2 v3 : Value} (hb : Below wp.heap.size wp w3) (h : Four w B v0 v1 v2 v3) (he : wp.heap = w.heap := by rfl) : Four w3 B v0 v1 v2 v3 := by
  have key : ∀ a v, w.cell? a = some v → w3.cell? a = some v := fun a v hv => by
    have hv' : wp.cell? a = some v := by unfold World.cell? at *; rw [he]; exact hv
    exact (hb.cell (p := a) (World.block_lt_of_cell? wp a hv')).trans hv'
  obtain ⟨h0, h1, h2, h3⟩ := h
  exact ⟨key _ _ h0, key _ _ h1, key _ _ h2, key _ _ h3⟩
theorem bytes_ne {A B : ByteArray} (h : ¬ A = B) : (A.toList == B.toList) = false := by
  rw [beq_eq_false_iff_ne]
  intro e
  rw [ByteArray.toList_eq, ByteArray.toList_eq] at e
  exact h (ByteArray.ext (Array.toList_inj.1 e))
theorem start13 (h l0 l1 l2 l3 c0 c1 c2 c3 d0 d1 d2 d3 : Int) (w : World) (htab : Lib.TabIs Tryd.prog w "internal/strconv.uint64pow10" .u64 Lib.pow10Tab) :
    Nine (((w.alloc (.cells #[.int .i64 h, .int .i64 l0, .int .i64 l1, .int .i64 l2, .int .i64 l3] 31)).alloc (.cells #[.int .i64 c0, .int .i64 c1, .int .i64 c2, .int .i64 c3] 29)).alloc (.cells #[.int .i64 d0, .int .i64 d1, .int .i64 d2, .int .i64 d3] 29)) w.heap.size (w.heap.size + 1) (.int .i64 h) (.int .i64 l0) (.int .i64 l1) (.int .i64 l2) (.int .i64 l3) (.int .i64 c0) (.int .i64 c1) (.int .i64 c2) (.int .i64 c3) ∧ Four (((w.alloc (.cells #[.int .i64 h, .int .i64 l0, .int .i64 l1, .int .i64 l2, .int .i64 l3] 31)).alloc (.cells #[.int .i64 c0, .int .i64 c1, .int .i64 c2, .int .i64 c3] 29)).alloc (.cells #[.int .i64 d0, .int .i64 d1, .int .i64 d2, .int .i64 d3] 29)) (w.heap.size + 1 + 1) (.int .i64 d0) (.int .i64 d1) (.int .i64 d2) (.int .i64 d3)
    ∧ Below w.heap.size w (((w.alloc (.cells #[.int .i64 h, .int .i64 l0, .int .i64 l1, .int .i64 l2, .int .i64 l3] 31)).alloc (.cells #[.int .i64 c0, .int .i64 c1, .int .i64 c2, .int .i64 c3] 29)).alloc (.cells #[.int .i64 d0, .int .i64 d1, .int .i64 d2, .int .i64 d3] 29)) ∧ Lib.TabIs Tryd.prog (((w.alloc (.cells #[.int .i64 h, .int .i64 l0, .int .i64 l1, .int .i64 l2, .int .i64 l3] 31)).alloc (.cells #[.int .i64 c0, .int .i64 c1, .int .i64 c2, .int .i64 c3] 29)).alloc (.cells #[.int .i64 d0, .int .i64 d1, .int .i64 d2, .int .i64 d3] 29)) "internal/strconv.uint64pow10" .u64 Lib.pow10Tab := by
  obtain ⟨kk, hb, ht⟩ := start9 h l0 l1 l2 l3 c0 c1 c2 c3 w htab
  have hal : Below ((w.alloc (.cells #[.int .i64 h, .int .i64 l0, .int .i64 l1, .int .i64 l2, .int .i64 l3] 31)).alloc (.cells #[.int .i64 c0, .int .i64 c1, .int .i64 c2, .int .i64 c3] 29)).heap.size ((w.alloc (.cells #[.int .i64 h, .int .i64 l0, .int .i64 l1, .int .i64 l2, .int .i64 l3] 31)).alloc (.cells #[.int .i64 c0, .int .i64 c1, .int .i64 c2, .int .i64 c3] 29)) (((w.alloc (.cells #[.int .i64 h, .int .i64 l0, .int .i64 l1, .int .i64 l2, .int .i64 l3] 31)).alloc (.cells #[.int .i64 c0, .int .i64 c1, .int .i64 c2, .int .i64 c3] 29)).alloc (.cells #[.int .i64 d0, .int .i64 d1, .int .i64 d2, .int .i64 d3] 29)) := (Below.refl _ _).alloc (Nat.le_refl _) _
  have hsz : ((w.alloc (.cells #[.int .i64 h, .int .i64 l0, .int .i64 l1, .int .i64 l2, .int .i64 l3] 31)).alloc (.cells #[.int .i64 c0, .int .i64 c1, .int .i64 c2, .int .i64 c3] 29)).heap.size = w.heap.size + 1 + 1 := by simp
  have g := Four.new ((w.alloc (.cells #[.int .i64 h, .int .i64 l0, .int .i64 l1, .int .i64 l2, .int .i64 l3] 31)).alloc (.cells #[.int .i64 c0, .int .i64 c1, .int .i64 c2, .int .i64 c3] 29)) (.int .i64 d0) (.int .i64 d1) (.int .i64 d2) (.int .i64 d3) 29
  rw [hsz] at g
  exact ⟨nine_on hal kk, g, below_on hal hb, tab_on hal ht⟩

set_option maxHeartbeats 4000000 in
theorem apart_any (h l0 l1 l2 l3 c0 c1 c2 c3 d0 d1 d2 d3 fill : Int) (w : World) (hh : I64 h) (hl : ∀ x ∈ [l0, l1, l2, l3], I64 x) (hc : I64 c0 ∧ I64 c1 ∧ I64 c2 ∧ I64 c3) (hd : I64 d0 ∧ I64 d1 ∧ I64 d2 ∧ I64 d3) (hf : I64 fill) (htab : Lib.TabIs Tryd.prog w "internal/strconv.uint64pow10" .u64 Lib.pow10Tab) :
    Calls Tryd.prog 5 #[.agg #[.int .i64 h, .int .i64 l0, .int .i64 l1, .int .i64 l2, .int .i64 l3], .agg #[.int .i64 c0, .int .i64 c1, .int .i64 c2, .int .i64 c3], .agg #[.int .i64 d0, .int .i64 d1, .int .i64 d2, .int .i64 d3], .int .i64 fill] w fun e w' => e = .returned (.bool true) ∧ Below w.heap.size w w' := by
  obtain ⟨kk, jj, hb, ht⟩ := start13 h l0 l1 l2 l3 c0 c1 c2 c3 d0 d1 d2 d3 w htab
  have hfl := pick_lt fill 256 (by decide)
  obtain ⟨n, st, a, a', L⟩ := P.laid_of (P.pickP h 6) (P.pickP l0 6) (P.pickP l1 6) (P.pickP l2 6) (P.pickP l3 6) c0 c1 c2 c3 (P.pickP fill 256 : Nat) (P.pickP fill 256 : Nat) (pick6 _) (pick6 _) (pick6 _) (pick6 _) (pick6 _) (by omega) (by omega)
  obtain ⟨n2, st2, b, b', M⟩ := P.laid_of (P.pickP h 6) (P.pickP l0 6) (P.pickP l1 6) (P.pickP l2 6) (P.pickP l3 6) d0 d1 d2 d3 (P.pickP fill 256 : Nat) (P.pickP fill 256 : Nat) (pick6 _) (pick6 _) (pick6 _) (pick6 _) (pick6 _) (by omega) (by omega)
  have hTl : (P.joinP (P.pickP h 6) (P.leafT (P.pickP l0 6)) (P.leafT (P.pickP l1 6)) (P.leafT (P.pickP l2 6)) (P.leafT (P.pickP l3 6))).length ≤ 1000 := joinP_len _ _ _ _ _ (by rw [leafT_len]; decide) (by rw [leafT_len]; decide) (by rw [leafT_len]; decide) (by rw [leafT_len]; decide)
  have hVl : (P.joinP (P.pickP h 6) (P.oneP (P.pickP l0 6) c0) (P.oneP (P.pickP l1 6) c1) (P.oneP (P.pickP l2 6) c2) (P.oneP (P.pickP l3 6) c3)).length ≤ 1000 := joinP_len _ _ _ _ _ (oneP_len _ _ (pick6 _)) (oneP_len _ _ (pick6 _)) (oneP_len _ _ (pick6 _)) (oneP_len _ _ (pick6 _))
  have hRl : (P.joinP (P.pickP h 6) (P.oneP (P.pickP l0 6) d0) (P.oneP (P.pickP l1 6) d1) (P.oneP (P.pickP l2 6) d2) (P.oneP (P.pickP l3 6) d3)).length ≤ 1000 := joinP_len _ _ _ _ _ (oneP_len _ _ (pick6 _)) (oneP_len _ _ (pick6 _)) (oneP_len _ _ (pick6 _)) (oneP_len _ _ (pick6 _))
  have typ' := fun w => typ_any h l0 l1 l2 l3 w hh hl
  have val' := fun w => value_any h l0 l1 l2 l3 c0 c1 c2 c3 w hh hl hc
  have val2 := fun w => value_any h l0 l1 l2 l3 d0 d1 d2 d3 w hh hl hd
  have pf := fun w => pick_any fill 256 w (by decide) (by decide) hf.1 hf.2
  generalize P.joinP (P.pickP h 6) (P.leafT (P.pickP l0 6)) (P.leafT (P.pickP l1 6)) (P.leafT (P.pickP l2 6)) (P.leafT (P.pickP l3 6)) = lt at L M hTl typ'
  generalize P.joinP (P.pickP h 6) (P.oneP (P.pickP l0 6) c0) (P.oneP (P.pickP l1 6) c1) (P.oneP (P.pickP l2 6) c2) (P.oneP (P.pickP l3 6) c3) = lv at L hVl val'
  generalize P.joinP (P.pickP h 6) (P.oneP (P.pickP l0 6) d0) (P.oneP (P.pickP l1 6) d1) (P.oneP (P.pickP l2 6) d2) (P.oneP (P.pickP l3 6) d3) = lr at M hRl val2
  generalize P.pickP fill 256 = f at L M hfl pf
  have hTs : (bytesOf lt).size ≤ maxLen := by rw [bytes_len]; unfold maxLen; omega
  have hVs : (bytesOf lv).size ≤ maxLen := by rw [bytes_len]; unfold maxLen; omega
  have hRs : (bytesOf lr).size ≤ maxLen := by rw [bytes_len]; unfold maxLen; omega
  have en1 := fun w => encode_any (bytesOf lt) (bytesOf lv) f w hTs hVs
  have en2 := fun w => encode_any (bytesOf lt) (bytesOf lr) f w hTs hRs
  rw [show P.encOf (bytesOf lt).data.toList (bytesOf lv).data.toList _ = _ from L.enc] at en1
  rw [show P.encOf (bytesOf lt).data.toList (bytesOf lr).data.toList _ = _ from M.enc] at en2
  have en1' : ∀ w, Calls Tryd.prog 14 #[.string (bytesOf lt), .string (bytesOf lv), .int .i64 f] w fun e w' => e = .returned (.tuple #[.string (bytesOf a), .int .i64 0]) ∧ Below w.heap.size w w' := en1
  have en2' : ∀ w, Calls Tryd.prog 14 #[.string (bytesOf lt), .string (bytesOf lr), .int .i64 f] w fun e w' => e = .returned (.tuple #[.string (bytesOf b), .int .i64 0]) ∧ Below w.heap.size w w' := en2
  have hinj : ∀ x y : List UInt8, bytesOf x = bytesOf y → x = y := fun x y hxy => congrArg (fun z : ByteArray => z.data.toList) hxy
  have hab : bytesOf a = bytesOf b ↔ bytesOf lv = bytesOf lr := by
    refine ⟨fun e => ?_, fun e => ?_⟩
    · have h1 := L.dec
      rw [hinj _ _ e, M.dec] at h1
      rw [(Prod.mk.inj h1).1]
    · have h1 := L.enc
      rw [hinj _ _ e, M.enc] at h1
      rw [(Prod.mk.inj h1).1]
  have TY := hid_of typ'
  have VA := hid_of val'
  have VR := hid_of val2
  have PF := hid_of pf
  have EN1 := hid_of en1'
  have EN2 := hid_of en2'
  clear typ' val' val2 pf en1 en2 en1' en2' L M hl hh hc hd htab hf hinj hTs hVs hRs hTl hVl hRl
  generalize bytesOf a = A at EN1 hab
  generalize bytesOf b = B at EN2 hab
  generalize bytesOf lt = LT at TY EN1 EN2
  generalize bytesOf lv = LV at VA EN1 hab
  generalize bytesOf lr = LR at VR EN2 hab
  have hbool : (A = B ∧ LV = LR) ∨ (¬ A = B ∧ ¬ LV = LR) := by
    by_cases hx : A = B
    · exact .inl ⟨hx, hab.1 hx⟩
    · exact .inr ⟨hx, fun hy => hx (hab.2 hy)⟩
  have HB := hid_of hbool
  clear hab hbool
  go_enter Tryd.func5, Tryd.ntmps5
  go_wp2_with fail
  refine (laying_any _ ht).mono ?_
  rintro e w1 ⟨rfl, hb1⟩
  have kk := nine_on hb1 kk
  have jj := four_on hb1 jj
  have ht := tab_on hb1 ht
  have hb := below_on hb1 hb
  obtain ⟨k0, k1, k2, k3, k4, k5, k6, k7, k8⟩ := id kk
  go_wp2_with fail
  refine (TY.out _).mono ?_
  rintro e w2 ⟨rfl, hb2⟩
  clear k0 k1 k2 k3 k4 k5 k6 k7 k8
  have kk := nine_on hb2 kk
  have jj := four_on hb2 jj
  have ht := tab_on hb2 ht
  have hb := below_on hb2 hb
  obtain ⟨k0, k1, k2, k3, k4, k5, k6, k7, k8⟩ := id kk
  go_wp2_with fail
  refine (VA.out _ ht).mono ?_
  rintro e w3 ⟨rfl, hb3⟩
  clear k0 k1 k2 k3 k4 k5 k6 k7 k8
  have kk := nine_on hb3 kk
  have jj := four_on hb3 jj
  have ht := tab_on hb3 ht
  have hb := below_on hb3 hb
  obtain ⟨k0, k1, k2, k3, k4, k5, k6, k7, k8⟩ := id kk
  obtain ⟨j0, j1, j2, j3⟩ := id jj
  go_wp2_with fail
  refine (VR.out _ ht).mono ?_
  rintro e w4 ⟨rfl, hb4⟩
  clear k0 k1 k2 k3 k4 k5 k6 k7 k8 j0 j1 j2 j3
  have hb := below_on hb4 hb
  go_wp2_with fail
  refine (PF.out _).mono ?_
  rintro e w5 ⟨rfl, rfl⟩
  go_wp2_with fail
  refine (EN1.out _).mono ?_
  rintro e w6 ⟨rfl, hb6⟩
  have hb := below_on hb6 hb
  go_wp2_with fail
  refine (EN2.out _).mono ?_
  rintro e w7 ⟨rfl, hb7⟩
  have hb := below_on hb7 hb
  rcases HB.out with ⟨hx, hy⟩ | ⟨hx, hy⟩
  · subst hx; subst hy
    go_wp2_with fail
    go_ret
    exact ⟨by simp, hb⟩
  · have hx' := bytes_ne hx
    have hy' := bytes_ne hy
    go_wp2_with fail
    go_ret
    exact ⟨by simp, hb⟩
end Go.Proofs.YtghggcehloiemaaDoor
