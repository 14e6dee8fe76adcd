import Derived.Test.YtghggcehloiemabGreatDoorSizeWAll
import Derived.Test.YtghggcehloiemabGreatDoorTellWAll
namespace Go.Proofs.YtghggcehloiemabGreatDoor
open Go.RowKit
set_option linter.unusedVariables false
set_option maxRecDepth 16000
def Gx (b ob z3 z4 : Nat) (x : Option Addr) (nn cc : Nat) (om : ByteArray) (w : World) : Prop := w.cell? ⟨ob, 0, none⟩ = some (.string om) ∧ w.cell? ⟨b, 3, none⟩ = some (.int .i64 z3) ∧ w.cell? ⟨b, 4, none⟩ = some (.int .i64 z4) ∧ w.cell? ⟨b, 5, none⟩ = some (.slice x nn cc)
theorem Gx.of {w : World} {b ob z3 z4 : Nat} {tk tv : P.Ty 4} {sl : Nat} {a3 cv : Value} {x : Option Addr} {nn cc : Nat} {bytes om : ByteArray} {S : Nat → Prop} {u1 u2 u3 : Value} (h : Tbl w b tk tv sl a3 (.slice x nn cc) cv bytes S) (h3 : (P.sz 4 tv).1 = z3) (h4 : (P.sz 4 tv).2 = z4) (ho : w.heap[ob]? = some (.cells #[.string om, u1, u2, u3] 56 (0, 0))) : Gx b ob z3 z4 x nn cc om w := by
  subst h3
  subst h4
  refine ⟨?_, ?_, ?_, ?_⟩
  all_goals first | (rw [cell_of_row _ _ _ _ _ _ h.blk]; rfl) | (rw [cell_of_row _ _ _ _ _ _ ho]; rfl)
/-- What Get answers. -/
def GetE (tk : P.Ty 4) (k : ByteArray) (L : List (ByteArray × ByteArray)) (v0 : ByteArray) (er : Nat) : Prop :=
  (¬ P.IsVal tk k.data.toList ∧ er = 2 ∧ v0 = ⟨#[]⟩) ∨ (P.IsVal tk k.data.toList ∧ P.atK L k = none ∧ er = 10 ∧ v0 = ⟨#[]⟩) ∨ (P.IsVal tk k.data.toList ∧ er = 0 ∧ ∃ i, P.atK L k = some i ∧ L[i]? = some (k, v0))
set_option maxHeartbeats 8000000 in
theorem get_any {w : World} (b : Nat) (tk tv : P.Ty 4) (sl : Nat) (a3 b3 cv : Value) (S : Nat → Prop) (L : List (ByteArray × ByteArray)) (k : ByteArray) (h : TbI w b tk tv sl a3 b3 cv S L) (hk : k.size ≤ maxLen) (htab : ∀ w', Fr b none w w' → Lib.TabIs Tryz.prog w' "internal/strconv.uint64pow10" .u64 Lib.pow10Tab) :
    Calls Tryz.prog 36 #[.pointer (some ⟨b, 0, none⟩), .string k] w fun e w' => ∃ v0 er, e = .returned (.tuple #[.string v0, .int .i64 (er : Nat)]) ∧ GetE tk k L v0 er ∧ TbI w' b tk tv sl a3 b3 cv S L ∧ Fr b none w w' := by
  obtain ⟨bytes0, T0, hT0, hP0⟩ := id h
  have HKV := hid_m hP0.kv
  have HLT := hid_m hT0.lt
  have HD := hid_m (withKey_any b tk tv sl a3 b3 cv S L k 1 h (Or.inl rfl) hk)
  have HTAB := hid_m htab
  have h2 : (P.mapDo sl 1 k ⟨#[]⟩ L).2 = L := by unfold P.mapDo; rw [if_pos rfl]
  have h1 : (P.mapDo sl 1 k ⟨#[]⟩ L).1 = if (P.atK L k).isSome then 0 else 1 := by unfold P.mapDo; rw [if_pos rfl]
  have HM := hid_m (And.intro h1 h2)
  clear h hk htab hT0 hP0 h1 h2
  go_enter Tryz.func36, Tryz.ntmps36
  go_wp2_with fail
  refine HD.out.mono ?_
  rintro e w1 hres
  rcases hres with ⟨hno, rfl, htb, hfr⟩ | ⟨hyes, ⟨om, res, n, rfl, hsz, hcn, hfd⟩, htb, hfr⟩
  · have HX := hid_m (And.intro hno (And.intro htb hfr))
    clear hno htb hfr
    go_wp2_with fail
    go_ret2
    exact ⟨⟨#[]⟩, 2, rfl, Or.inl ⟨HX.out.1, rfl, rfl⟩, HX.out.2.1.al _, HX.out.2.2.al _⟩
  · rw [HM.out.2] at htb
    rw [HM.out.1] at hfd ⊢
    cases hat : P.atK L k with
    | none =>
      have HX := hid_m (And.intro hyes (And.intro htb (And.intro hfr hat)))
      clear hyes hsz hcn hfd htb hfr hat
      rw [show (if (none : Option Nat).isSome = true then 0 else 1) = 1 from rfl]
      unfold doV
      rw [if_neg (by decide)]
      go_wp2_with fail
      go_ret2
      exact ⟨⟨#[]⟩, 10, rfl, Or.inr (Or.inl ⟨HX.out.1, HX.out.2.2.2, rfl, rfl⟩), HX.out.2.1.al _, HX.out.2.2.1.al _⟩
    | some i =>
      rw [hat] at hfd
      obtain ⟨i', v0, q1, q2, q3, q4⟩ := hfd ⟨rfl, rfl⟩
      cases q1
      obtain ⟨bytes1, T1, hT1, hP1⟩ := id htb
      obtain ⟨p2, hp2⟩ := hT1.pv
      obtain ⟨xb, nb, cb, hb3⟩ := owns_slice hp2
      subst hb3
      have HX := hid_m (And.intro hyes (And.intro htb (And.intro hfr (And.intro hat q2))))
      obtain ⟨z3, hz3⟩ : ∃ z, (P.sz 4 tv).1 = z := ⟨_, rfl⟩
      obtain ⟨z4, hz4⟩ : ∃ z, (P.sz 4 tv).2 = z := ⟨_, rfl⟩
      rw [hz3] at q3 q4
      have HZ := hid_m (And.intro hz3 hz4)
      have HT1 := hid_m hT1
      obtain ⟨pl, hpl⟩ : ∃ p, om.size - z3 = p := ⟨_, rfl⟩
      rw [hpl] at q4
      have HQ := hid_m (And.intro q3 (And.intro q4 (And.intro hsz hpl)))
      clear hyes hsz hcn hfd htb hfr hat q2 q3 q4 hz3 hz4 hT1 hP1 hp2 hpl
      rw [show (if (some i : Option Nat).isSome = true then 0 else 1) = 0 from rfl, doV_ok]
      have hbA : Below w1.heap.size w1 (w1.alloc (.cells #[.string om, .int .i64 res, .int .i64 0, .int .i64 n] 56)) := (Below.refl _ _).alloc (Nat.le_refl _) _
      have hoA : (w1.alloc (.cells #[.string om, .int .i64 res, .int .i64 0, .int .i64 n] 56)).heap[w1.heap.size]? = some (.cells #[.string om, .int .i64 res, .int .i64 0, .int .i64 n] 56 (0, 0)) := heap_alloc_new _ _
      have B2 := hid_m hbA
      have HO2 := hid_m hoA
      clear hbA hoA
      go_wp2_with fail
      obtain ⟨w2, hw2⟩ : ∃ W, (w1.alloc (.cells #[.string om, .int .i64 res, .int .i64 0, .int .i64 n] 56)) = W := ⟨_, rfl⟩
      obtain ⟨ob, hob⟩ : ∃ x, w1.heap.size = x := ⟨_, rfl⟩
      rw [hw2] at B2 HO2 ⊢
      rw [hob] at HO2 ⊢
      clear hw2 hob
      have HX2 := hid_m (Gx.of (HT1.out.on B2.out) HZ.out.1 HZ.out.2 HO2.out)
      have HW1 : Hid (IntKind.i64.wrap ((om.size : Int) - (z3 : Int)) = (pl : Int)) := by unfold Hid; have := HQ.out; rw [wrap_id _ (by omega) (by omega)]; omega
      refine wp_region_held_drew (S := Gx b ob z3 z4 xb nb cb om) (by kernel_rfl) HX2.out (fun hHeld => ?_)
      refine wpAnyH_take (i := 0) (v := ?_) rfl (by kernel_rfl) (by kernel_rfl) (by kernel_rfl) (fun _ _ _ h => h) (Or.inl ⟨by rfl, ?_⟩) (by assumption) ?_
      rotate_left
      · intro w hSw
        obtain ⟨y0, y1, y2, y3⟩ := hSw
        go_simp
        all_goals with_reducible rfl
      try simp only [Act.put]
      refine wpAnyH_take (i := 1) (v := ?_) rfl (by kernel_rfl) (by kernel_rfl) (by kernel_rfl) (fun _ _ _ h => h) (Or.inl ⟨by rfl, ?_⟩) (by assumption) ?_
      rotate_left
      · intro w hSw
        obtain ⟨y0, y1, y2, y3⟩ := hSw
        go_simp
        all_goals with_reducible rfl
      try simp only [Act.put]
      refine wpAnyH_take (i := 2) (v := ?_) rfl (by kernel_rfl) (by kernel_rfl) (by kernel_rfl) (fun _ _ _ h => h) (Or.inl ⟨by rfl, ?_⟩) (by assumption) ?_
      rotate_left
      · intro w hSw
        obtain ⟨y0, y1, y2, y3⟩ := hSw
        go_simp
        all_goals with_reducible rfl
      try simp only [Act.put]
      refine wpAnyH_take (i := 3) (v := ?_) rfl (by kernel_rfl) (by kernel_rfl) (by kernel_rfl) (fun _ _ _ h => h) (Or.inl ⟨by rfl, ?_⟩) (by assumption) ?_
      rotate_left
      · intro w hSw
        obtain ⟨y0, y1, y2, y3⟩ := hSw
        go_simp
        all_goals with_reducible rfl
      try simp only [Act.put]
      refine wpAnyH_take (i := 4) (v := ?_) rfl (by kernel_rfl) (by kernel_rfl) (by kernel_rfl) (fun _ _ _ h => h) (Or.inl ⟨by rfl, ?_⟩) (by assumption) ?_
      rotate_left
      · intro w hSw
        obtain ⟨y0, y1, y2, y3⟩ := hSw
        go_simp
        all_goals with_reducible rfl
      try simp only [Act.put]
      refine wpAnyH_take (i := 5) (v := ?_) rfl (by kernel_rfl) (by kernel_rfl) (by kernel_rfl) (fun _ _ _ h => h) (Or.inl ⟨by rfl, ?_⟩) (by assumption) ?_
      rotate_left
      · intro w hSw
        obtain ⟨y0, y1, y2, y3⟩ := hSw
        go_simp
        all_goals with_reducible rfl
      try simp only [Act.put]
      refine wpAnyH_take (i := 6) (v := ?_) rfl (by kernel_rfl) (by kernel_rfl) (by kernel_rfl) (fun _ _ _ h => h) (Or.inl ⟨by rfl, ?_⟩) (by assumption) ?_
      rotate_left
      · intro w hSw
        obtain ⟨y0, y1, y2, y3⟩ := hSw
        go_simp
        all_goals with_reducible rfl
      try simp only [Act.put]
      refine wpAnyH_ready (rs := [7]) (by kernel_rfl) (by simp) ?_
      refine AllReadyH.cons (o := _) rfl (fun K hK => ?_) AllReadyH.nil
      go_simp
      refine (shSize_b _ _ _ _ _ _).mono ?_
      rintro e w3 ⟨rfl, hb3⟩
      have hbb3 : Below w2.heap.size w2 w3 := ⟨hb3.os, hb3.tape, hb3.output, hb3.size, hb3.block⟩
      have B3 := hid_m (B2.out.trans (hbb3.mono B2.out.size))
      have HO3 := hid_m (t_blk_on hbb3 HO2.out)
      have HX3 := hid_m (Gx.of (HT1.out.on B3.out) HZ.out.1 HZ.out.2 HO3.out)
      clear hb3 hbb3
      go_wp2_with fail
      refine hK.out _ _ HX3.out (fun hHelda => ?_)
      clear hK K
      try simp only [Act.put]
      have hw1 := HW1.out
      refine wpAnyH_take (i := 8) (v := ?_) rfl (by kernel_rfl) (by kernel_rfl) (by kernel_rfl) (fun _ _ _ h => h) (Or.inl ⟨by rfl, ?_⟩) (by assumption) ?_
      rotate_left
      · intro w hSw
        obtain ⟨y0, y1, y2, y3⟩ := hSw
        go_simp
        all_goals with_reducible rfl
      try simp only [Act.put]
      clear hw1
      refine wpAnyH_ready (rs := [9]) (by kernel_rfl) (by simp) ?_
      refine AllReadyH.cons (o := _) rfl (fun K hK => ?_) AllReadyH.nil
      go_simp
      refine hK.out _ _ HX3.out (fun hHeldb => ?_)
      clear hK K
      try simp only [Act.put]
      refine wpAnyH_done (by kernel_rfl) ?_ _
      go_wp2_with fail
      have HBH := hid_m (fun w => behind_any om pl w (by have := HQ.out; omega) (by have := HQ.out; omega))
      refine wp_region_held_drew (S := Gx b ob z3 z4 xb nb cb om) (by kernel_rfl) HX3.out (fun hHeld => ?_)
      refine wpAnyH_take (i := 0) (v := ?_) rfl (by kernel_rfl) (by kernel_rfl) (by kernel_rfl) (fun _ _ _ h => h) (Or.inl ⟨by rfl, ?_⟩) (by assumption) ?_
      rotate_left
      · intro w hSw
        obtain ⟨y0, y1, y2, y3⟩ := hSw
        go_simp
        all_goals with_reducible rfl
      try simp only [Act.put]
      refine wpAnyH_take (i := 1) (v := ?_) rfl (by kernel_rfl) (by kernel_rfl) (by kernel_rfl) (fun _ _ _ h => h) (Or.inl ⟨by rfl, ?_⟩) (by assumption) ?_
      rotate_left
      · intro w hSw
        obtain ⟨y0, y1, y2, y3⟩ := hSw
        go_simp
        all_goals with_reducible rfl
      try simp only [Act.put]
      refine wpAnyH_take (i := 2) (v := ?_) rfl (by kernel_rfl) (by kernel_rfl) (by kernel_rfl) (fun _ _ _ h => h) (Or.inl ⟨by rfl, ?_⟩) (by assumption) ?_
      rotate_left
      · intro w hSw
        obtain ⟨y0, y1, y2, y3⟩ := hSw
        go_simp
        all_goals with_reducible rfl
      try simp only [Act.put]
      refine wpAnyH_take (i := 3) (v := ?_) rfl (by kernel_rfl) (by kernel_rfl) (by kernel_rfl) (fun _ _ _ h => h) (Or.inl ⟨by rfl, ?_⟩) (by assumption) ?_
      rotate_left
      · intro w hSw
        obtain ⟨y0, y1, y2, y3⟩ := hSw
        go_simp
        all_goals with_reducible rfl
      try simp only [Act.put]
      refine wpAnyH_take (i := 4) (v := ?_) rfl (by kernel_rfl) (by kernel_rfl) (by kernel_rfl) (fun _ _ _ h => h) (Or.inl ⟨by rfl, ?_⟩) (by assumption) ?_
      rotate_left
      · intro w hSw
        obtain ⟨y0, y1, y2, y3⟩ := hSw
        go_simp
        all_goals with_reducible rfl
      try simp only [Act.put]
      refine wpAnyH_take (i := 5) (v := ?_) rfl (by kernel_rfl) (by kernel_rfl) (by kernel_rfl) (fun _ _ _ h => h) (Or.inl ⟨by rfl, ?_⟩) (by assumption) ?_
      rotate_left
      · intro w hSw
        obtain ⟨y0, y1, y2, y3⟩ := hSw
        go_simp
        all_goals with_reducible rfl
      try simp only [Act.put]
      refine wpAnyH_take (i := 6) (v := ?_) rfl (by kernel_rfl) (by kernel_rfl) (by kernel_rfl) (fun _ _ _ h => h) (Or.inl ⟨by rfl, ?_⟩) (by assumption) ?_
      rotate_left
      · intro w hSw
        obtain ⟨y0, y1, y2, y3⟩ := hSw
        go_simp
        all_goals with_reducible rfl
      try simp only [Act.put]
      refine wpAnyH_ready (rs := [7]) (by kernel_rfl) (by simp) ?_
      refine AllReadyH.cons (o := _) rfl (fun K hK => ?_) AllReadyH.nil
      go_simp
      refine (HBH.out _).mono ?_
      rintro e wz ⟨rfl, hwz⟩
      subst wz
      go_wp2_with fail
      refine hK.out _ _ HX3.out (fun hHeldc => ?_)
      clear hK K
      try simp only [Act.put]
      refine wpAnyH_ready (rs := [8]) (by kernel_rfl) (by simp) ?_
      refine AllReadyH.cons (o := _) rfl (fun K hK => ?_) AllReadyH.nil
      go_simp
      have hF3 : Fr b none w w3.drew := (HX.out.2.2.1.trans (Fr.of (b := b) (r := none) B3.out) (fun g hg => by cases hg)).trans (Fr.of (b := b) (r := none) ((Below.refl _ _).drew)) (fun g hg => by cases hg)
      have hT3 := (HT1.out.on B3.out)
      obtain ⟨bb, hov⟩ := hT3.pv
      have hex : (om.extract pl om.size).size = z3 := by rw [ByteArray.size_extract]; have := HQ.out; omega
      have HTL := Tell_any (om.extract pl om.size) w3.drew (P.sz 4 tv).1 (P.sz 4 tv).2 bb _ (P.parts 4 tv) (m_owns_of hov (fun _ _ => rfl)) HKV.out.sz1 HKV.out.sz32 HKV.out.few HKV.out.ok (Lib.tabBelow_of_tabIs (HTAB.out _ hF3))
      rw [HZ.out.1, HZ.out.2, if_pos hex, HQ.out.2.1] at HTL
      clear hF3 hT3 hov hex
      refine HTL.mono ?_
      rintro e w4 ⟨he, hb4⟩
      have he' : e = .returned (.tuple #[.string v0, .bool true]) := by rw [he, ← str_of]
      subst he'
      have hbb4 : Below w3.heap.size w3 w4 := ⟨hb4.os, hb4.tape, hb4.output, hb4.size, hb4.block⟩
      have B4 := hid_m (B3.out.trans (hbb4.mono B3.out.size))
      have HX4 := hid_m (Gx.of (HT1.out.on B4.out) HZ.out.1 HZ.out.2 (t_blk_on hbb4 HO3.out))
      clear hb4 hbb4 he HTL
      go_wp2_with fail
      refine hK.out _ _ HX4.out (fun hHeldd => ?_)
      clear hK K
      try simp only [Act.put]
      refine wpAnyH_take (i := 9) (v := ?_) rfl (by kernel_rfl) (by kernel_rfl) (by kernel_rfl) (fun _ _ _ h => h) (Or.inl ⟨by rfl, ?_⟩) (by assumption) ?_
      rotate_left
      · intro w hSw
        obtain ⟨y0, y1, y2, y3⟩ := hSw
        go_simp
        all_goals with_reducible rfl
      try simp only [Act.put]
      refine wpAnyH_take (i := 10) (v := ?_) rfl (by kernel_rfl) (by kernel_rfl) (by kernel_rfl) (fun _ _ _ h => h) (Or.inl ⟨by rfl, ?_⟩) (by assumption) ?_
      rotate_left
      · intro w hSw
        obtain ⟨y0, y1, y2, y3⟩ := hSw
        go_simp
        all_goals with_reducible rfl
      try simp only [Act.put]
      refine wpAnyH_take (i := 11) (v := ?_) rfl (by kernel_rfl) (by kernel_rfl) (by kernel_rfl) (fun _ _ _ h => h) (Or.inl ⟨by rfl, ?_⟩) (by assumption) ?_
      rotate_left
      · intro w hSw
        obtain ⟨y0, y1, y2, y3⟩ := hSw
        go_simp
        all_goals with_reducible rfl
      try simp only [Act.put]
      refine wpAnyH_ready (rs := [12]) (by kernel_rfl) (by simp) ?_
      refine AllReadyH.cons (o := _) rfl (fun K hK => ?_) AllReadyH.nil
      go_simp
      refine hK.out _ _ HX4.out (fun hHelde => ?_)
      clear hK K
      try simp only [Act.put]
      refine wpAnyH_ready (rs := [13]) (by kernel_rfl) (by simp) ?_
      refine AllReadyH.cons (o := _) rfl (fun K hK => ?_) AllReadyH.nil
      go_simp
      refine hK.out _ _ HX4.out (fun hHeldf => ?_)
      clear hK K
      try simp only [Act.put]
      refine wpAnyH_done (by kernel_rfl) ?_ _
      go_wp2_with fail
      go_ret2
      exact ⟨v0, 0, rfl, Or.inr (Or.inr ⟨HX.out.1, rfl, i, HX.out.2.2.2.1, HX.out.2.2.2.2⟩), HX.out.2.1.on B4.out, HX.out.2.2.1.trans (Fr.of (b := b) (r := none) B4.out) (fun g hg => by cases hg)⟩
end Go.Proofs.YtghggcehloiemabGreatDoor
namespace Go.Proofs.YtghggcehloiemabGreatDoor
open Go.RowKit
set_option linter.unusedVariables false
set_option maxRecDepth 16000
def NewP (w : World) (e : Ending) (w' : World) (tk tv : P.Ty 4) (sl : Nat) : Prop := (∃ (b : Nat) (a3 b3 cv : Value) (S : Nat → Prop), e = .returned (.tuple #[.pointer (some ⟨b, 0, none⟩), .int .i64 0]) ∧ w.heap.size ≤ b ∧ b < w'.heap.size ∧ (∀ g, S g → w.heap.size ≤ g) ∧ TbI w' b tk tv sl a3 b3 cv S []) ∧ Below w.heap.size w w'
/-- What New reads. -/
def Nx9 (mb cb0 : Nat) (a1 a2 a3 a4 a5 a6 a7 a8 a9 c0 : Value) (w : World) : Prop := w.cell? ⟨mb, 0, none⟩ = some a1 ∧ w.cell? ⟨mb, 1, none⟩ = some a2 ∧ w.cell? ⟨mb, 2, none⟩ = some a3 ∧ w.cell? ⟨mb, 3, none⟩ = some a4 ∧ w.cell? ⟨mb, 4, none⟩ = some a5 ∧ w.cell? ⟨mb, 5, none⟩ = some a6 ∧ w.cell? ⟨mb, 6, none⟩ = some a7 ∧ w.cell? ⟨mb, 7, none⟩ = some a8 ∧ w.cell? ⟨mb, 8, none⟩ = some a9 ∧ w.cell? ⟨cb0, 0, none⟩ = some c0
theorem Nx9.of {w : World} {mb cb0 : Nat} {a1 a2 a3 a4 a5 a6 a7 a8 a9 c0 : Value} (h : w.heap[mb]? = some (.cells #[a1, a2, a3, a4, a5, a6, a7, a8, a9] 67 (0, 0))) (hc : w.heap[cb0]? = some (.cells #[c0] 75 (0, 0))) : Nx9 mb cb0 a1 a2 a3 a4 a5 a6 a7 a8 a9 c0 w := by
  refine ⟨?_, ?_, ?_, ?_, ?_, ?_, ?_, ?_, ?_, ?_⟩
  all_goals first | (rw [cell_of_row _ _ _ _ _ _ h]; rfl) | (rw [cell_of_row _ _ _ _ _ _ hc]; rfl)
set_option maxHeartbeats 8000000 in
theorem new_any (sk sv : ByteArray) (sl : Nat) (w : World) (hk : sk.size ≤ maxLen) (hv : sv.size ≤ maxLen) (tk tv : P.Ty 4) (htk0 : P.tyOf sk.data.toList = some tk) (htv0 : P.tyOf sv.data.toList = some tv) (hsl0 : 1 ≤ sl ∧ sl ≤ 16) :
    Calls Tryz.prog 14 #[.string sk, .string sv, .int .i64 sl] w fun e w' => NewP w e w' tk tv sl := by
  go_enter Tryz.func14, Tryz.ntmps14
  go_wp2_with fail
  refine (measure_any sk sv sl w hk hv).mono ?_
  rintro e w1 hpost
  have hbe := hpost.1
  rcases hpost.cases2 with ⟨er, her, HT, rfl⟩ | ⟨tk', tv', vk, vv, kv', vv', htk, htv, hsl, rfl, shk, shv, kpk, kpv, hnew⟩
  · exfalso
    have := HT.1
    unfold P.errOf at this
    rw [htk0, htv0] at this
    simp only at this
    rw [if_pos (by omega)] at this
    omega
  · rw [htk0] at htk
    cases htk
    rw [htv0] at htv
    cases htv
    have kk := known_of htk0
    have kv := known_of htv0
    obtain ⟨_, hok⟩ := kpk.own
    obtain ⟨_, hov⟩ := kpv.own
    obtain ⟨gk, ck, hkv, _, _⟩ := hok.form kk.pos
    obtain ⟨gv, cv, hvv, _, _⟩ := hov.form kv.pos
    obtain ⟨_, osk⟩ := shk.own
    obtain ⟨_, osv⟩ := shv.own
    obtain ⟨ak, Nk, c1, rfl⟩ := owns_slice osk
    obtain ⟨av, Nv, c2, rfl⟩ := owns_slice osv
    have lk := kk.covl
    have lv := kv.covl
    have l1 := kk.sz32
    have l2 := kv.sz32
    have hisc := P.resolve_isCode (kp := P.cov (P.parts 4 tk)) (vp := P.cov (P.parts 4 tv)) (sl := sl) kk.cov32 kv.cov32 (by omega) (by omega) hsl0.2
    have HC : Hid (∀ w2, Below w1.heap.size w1 w2 → Calls Tryz.prog 31 #[.agg #[kv', vv', .int .i64 sl]] w2 fun e w' => e = .returned (.string ⟨(P.text (P.prog (P.cov (P.parts 4 tk)) (P.cov (P.parts 4 tv)) sl).resolve).toArray⟩) ∧ Below w2.heap.size w2 w') := fun w2 hb2 =>
      pcode_any _ _ (kpk.next hb2) (kpv.next hb2) kk.pos kv.pos (by omega) (by omega) (by rw [P.prog_len]; omega) (by rw [P.prog_len]; omega) (P.prog_labels kk.cov32 kv.cov32 (by omega) (by omega) (by omega)) (P.resolve_small kk.cov32 kv.cov32 (by omega) (by omega) (by omega))
    obtain ⟨tx, htx⟩ : ∃ tx : ByteArray, (⟨(P.text (P.prog (P.cov (P.parts 4 tk)) (P.cov (P.parts 4 tv)) sl).resolve).toArray⟩ : ByteArray) = tx := ⟨_, rfl⟩
    have htxl : tx.data.toList = (P.text (P.prog (P.cov (P.parts 4 tk)) (P.cov (P.parts 4 tv)) sl).resolve) := by rw [← htx]
    rw [htx] at HC
    have HPA : Hid (∀ w2, Calls Tryz.prog 32 #[.string tx] w2 fun e w' => ∃ v, e = .returned (.tuple #[.agg #[v], .bool true]) ∧ w'.ownsRow w2.heap.size 112 4 v (P.codeOf (P.text (P.prog (P.cov (P.parts 4 tk)) (P.cov (P.parts 4 tv)) sl).resolve)).length (codeCells (P.codeOf (P.text (P.prog (P.cov (P.parts 4 tk)) (P.cov (P.parts 4 tv)) sl).resolve))) ∧ Below w2.heap.size w2 w') := by
      intro w2
      have hsz : tx.size ≤ maxLen := by
        have h1 : tx.size = (P.text (P.prog (P.cov (P.parts 4 tk)) (P.cov (P.parts 4 tv)) sl).resolve).length := by rw [← htx]; simp [ByteArray.size]
        have h2 := hisc.five; have h3 := hisc.few
        unfold maxLen; omega
      refine (mparse_any tx w2 hsz).mono fun e w' hh => ?_
      obtain ⟨h1, h2⟩ := hh
      rw [htxl] at h1
      rw [if_pos hisc] at h1
      obtain ⟨v, h3, h4⟩ := h1
      exact ⟨v, h3, h4, h2⟩
    obtain ⟨nk, hnk⟩ : ∃ n, (P.cov (P.parts 4 tk)).length = n := ⟨_, rfl⟩
    obtain ⟨nv, hnv⟩ : ∃ n, (P.cov (P.parts 4 tv)).length = n := ⟨_, rfl⟩
    rw [hnk] at hkv lk
    rw [hnv] at hvv lv
    subst hkv
    subst hvv
    have HRM := hid_m (fun w => plRoom_any gk ck gv cv nk nv sl w (by omega) (by omega) hsl0.2)
    obtain ⟨rm, hrm⟩ : ∃ r, 1 + sl * (nk + nv) = r := ⟨_, rfl⟩
    have hrm2 : rm ≤ 1025 := by
      have := Nat.mul_le_mul hsl0.2 (show nk + nv ≤ 64 by omega)
      omega
    rw [hrm] at HRM
    have HBL := hid_m (fun w => blank_any rm w (by omega) (by omega))
    obtain ⟨z1, hz1⟩ : ∃ z, (P.sz 4 tk).1 = z := ⟨_, rfl⟩
    obtain ⟨z2, hz2⟩ : ∃ z, (P.sz 4 tk).2 = z := ⟨_, rfl⟩
    obtain ⟨z3, hz3⟩ : ∃ z, (P.sz 4 tv).1 = z := ⟨_, rfl⟩
    obtain ⟨z4, hz4⟩ : ∃ z, (P.sz 4 tv).2 = z := ⟨_, rfl⟩
    rw [hz1, hz2, hz3, hz4]
    have HZ := hid_m (And.intro hz1 (And.intro hz2 (And.intro hz3 (And.intro hz4 (And.intro hnk (And.intro hnv hrm))))))
    have HSH := hid_m (And.intro shk shv)
    have HKN := hid_m (And.intro kk (And.intro kv hsl0))
    have B1 := hid_m hbe
    have HNW := hid_m hnew
    clear hnew
    clear hk hv htk0 htv0 hsl hok hov osk osv lk lv l1 l2 hisc htx htxl hnk hnv hrm hrm2 hz1 hz2 hz3 hz4 shk shv kpk kpv kk kv hbe hpost hsl0
    have hbA : Below w1.heap.size w1 (w1.alloc (.cells #[.int .i64 z1, .int .i64 z2, .slice ak Nk c1, .int .i64 z3, .int .i64 z4, .slice av Nv c2, .slice (some ⟨gk, 0, none⟩) nk ck, .slice (some ⟨gv, 0, none⟩) nv cv, .int .i64 sl] 67)) := (Below.refl _ _).alloc (Nat.le_refl _) _
    have hmA : (w1.alloc (.cells #[.int .i64 z1, .int .i64 z2, .slice ak Nk c1, .int .i64 z3, .int .i64 z4, .slice av Nv c2, .slice (some ⟨gk, 0, none⟩) nk ck, .slice (some ⟨gv, 0, none⟩) nv cv, .int .i64 sl] 67)).heap[w1.heap.size]? = some (.cells #[.int .i64 z1, .int .i64 z2, .slice ak Nk c1, .int .i64 z3, .int .i64 z4, .slice av Nv c2, .slice (some ⟨gk, 0, none⟩) nk ck, .slice (some ⟨gv, 0, none⟩) nv cv, .int .i64 sl] 67 (0, 0)) := heap_alloc_new _ _
    have B2 := hid_m hbA
    have HM2 := hid_m hmA
    clear hbA hmA
    go_wp2_with fail
    obtain ⟨w2, hw2⟩ : ∃ W, (w1.alloc (.cells #[.int .i64 z1, .int .i64 z2, .slice ak Nk c1, .int .i64 z3, .int .i64 z4, .slice av Nv c2, .slice (some ⟨gk, 0, none⟩) nk ck, .slice (some ⟨gv, 0, none⟩) nv cv, .int .i64 sl] 67)) = W := ⟨_, rfl⟩
    obtain ⟨mb, hmb⟩ : ∃ x, w1.heap.size = x := ⟨_, rfl⟩
    rw [hw2] at B2 HM2 ⊢
    rw [hmb] at HM2 ⊢
    have HMB := hid_m hmb
    clear hw2 hmb
    refine (HC.out w2 B2.out).mono ?_
    rintro e w3 ⟨rfl, hb3⟩
    have B3 := hid_m (B2.out.trans (hb3.mono B2.out.size))
    have HM3 := hid_m (t_blk_on hb3 HM2.out)
    clear hb3
    go_wp2_with fail
    refine (HPA.out w3).mono ?_
    rintro e w4 ⟨vc, rfl, hown, hb4⟩
    obtain ⟨xc, nc, cc, rfl⟩ := owns_slice hown
    have B4 := hid_m (B3.out.trans (hb4.mono B3.out.size))
    have HM4 := hid_m (t_blk_on hb4 HM3.out)
    have HOW := hid_m hown
    have HS34 := hid_m hb4.size
    clear hb4 hown
    have hbA : Below w4.heap.size w4 (w4.alloc (.cells #[.slice xc nc cc] 75)) := (Below.refl _ _).alloc (Nat.le_refl _) _
    have hcA : (w4.alloc (.cells #[.slice xc nc cc] 75)).heap[w4.heap.size]? = some (.cells #[.slice xc nc cc] 75 (0, 0)) := heap_alloc_new _ _
    have HB45 := hid_m hbA
    have HC5 := hid_m hcA
    clear hbA hcA
    rename_i K4 hK4 Kc hKc
    have HK4 := hid_m hK4
    clear hK4
    go_wp2_with fail
    refine HK4.out _ _ ?_
    obtain ⟨w5, hw5⟩ : ∃ W, (w4.alloc (.cells #[.slice xc nc cc] 75)) = W := ⟨_, rfl⟩
    obtain ⟨kb5, hkb5⟩ : ∃ x, w4.heap.size = x := ⟨_, rfl⟩
    rw [hw5] at HB45 HC5 ⊢
    rw [hkb5] at HC5 ⊢
    have B5 := hid_m (B4.out.trans (HB45.out.mono B4.out.size))
    have HM5 := hid_m (t_blk_on HB45.out HM4.out)
    clear hw5 hkb5 HK4
    have HX5 := hid_m (Nx9.of HM5.out HC5.out)
    go_wp2_with fail
    refine wp_region_held_drew (S := Nx9 mb kb5 (.int .i64 z1) (.int .i64 z2) (.slice ak Nk c1) (.int .i64 z3) (.int .i64 z4) (.slice av Nv c2) (.slice (some ⟨gk, 0, none⟩) nk ck) (.slice (some ⟨gv, 0, none⟩) nv cv) (.int .i64 sl) (.slice xc nc cc)) (by kernel_rfl) HX5.out (fun hHeld => ?_)
    refine wpAnyH_take (i := 0) (v := ?_) rfl (by kernel_rfl) (by kernel_rfl) (by kernel_rfl) (fun _ _ _ h => h) (Or.inl ⟨by rfl, ?_⟩) (by assumption) ?_
    rotate_left
    · intro w hSw
      obtain ⟨y0, y1, y2, y3, y4, y5, y6, y7, y8, y9⟩ := hSw
      go_simp
      all_goals with_reducible rfl
    try simp only [Act.put]
    refine wpAnyH_take (i := 1) (v := ?_) rfl (by kernel_rfl) (by kernel_rfl) (by kernel_rfl) (fun _ _ _ h => h) (Or.inl ⟨by rfl, ?_⟩) (by assumption) ?_
    rotate_left
    · intro w hSw
      obtain ⟨y0, y1, y2, y3, y4, y5, y6, y7, y8, y9⟩ := hSw
      go_simp
      all_goals with_reducible rfl
    try simp only [Act.put]
    refine wpAnyH_take (i := 2) (v := ?_) rfl (by kernel_rfl) (by kernel_rfl) (by kernel_rfl) (fun _ _ _ h => h) (Or.inl ⟨by rfl, ?_⟩) (by assumption) ?_
    rotate_left
    · intro w hSw
      obtain ⟨y0, y1, y2, y3, y4, y5, y6, y7, y8, y9⟩ := hSw
      go_simp
      all_goals with_reducible rfl
    try simp only [Act.put]
    refine wpAnyH_take (i := 3) (v := ?_) rfl (by kernel_rfl) (by kernel_rfl) (by kernel_rfl) (fun _ _ _ h => h) (Or.inl ⟨by rfl, ?_⟩) (by assumption) ?_
    rotate_left
    · intro w hSw
      obtain ⟨y0, y1, y2, y3, y4, y5, y6, y7, y8, y9⟩ := hSw
      go_simp
      all_goals with_reducible rfl
    try simp only [Act.put]
    refine wpAnyH_take (i := 4) (v := ?_) rfl (by kernel_rfl) (by kernel_rfl) (by kernel_rfl) (fun _ _ _ h => h) (Or.inl ⟨by rfl, ?_⟩) (by assumption) ?_
    rotate_left
    · intro w hSw
      obtain ⟨y0, y1, y2, y3, y4, y5, y6, y7, y8, y9⟩ := hSw
      go_simp
      all_goals with_reducible rfl
    try simp only [Act.put]
    refine wpAnyH_take (i := 5) (v := ?_) rfl (by kernel_rfl) (by kernel_rfl) (by kernel_rfl) (fun _ _ _ h => h) (Or.inl ⟨by rfl, ?_⟩) (by assumption) ?_
    rotate_left
    · intro w hSw
      obtain ⟨y0, y1, y2, y3, y4, y5, y6, y7, y8, y9⟩ := hSw
      go_simp
      all_goals with_reducible rfl
    try simp only [Act.put]
    refine wpAnyH_take (i := 6) (v := ?_) rfl (by kernel_rfl) (by kernel_rfl) (by kernel_rfl) (fun _ _ _ h => h) (Or.inl ⟨by rfl, ?_⟩) (by assumption) ?_
    rotate_left
    · intro w hSw
      obtain ⟨y0, y1, y2, y3, y4, y5, y6, y7, y8, y9⟩ := hSw
      go_simp
      all_goals with_reducible rfl
    try simp only [Act.put]
    refine wpAnyH_ready (rs := [7]) (by kernel_rfl) (by simp) ?_
    refine AllReadyH.cons (o := _) rfl (fun K hK => ?_) AllReadyH.nil
    go_simp
    refine (HRM.out w5.drew).mono ?_
    rintro e w6 ⟨rfl, hb6⟩
    have hbb6 : Below w5.heap.size w5 w6 := ⟨hb6.os, hb6.tape, hb6.output, hb6.size, hb6.block⟩
    have HB56 := hid_m hbb6
    have HX6 := hid_m (Nx9.of (t_blk_on hbb6 HM5.out) (t_blk_on hbb6 HC5.out))
    clear hb6 hbb6
    go_wp2_with fail
    refine hK.out _ _ HX6.out (fun hHelda => ?_)
    clear hK K
    try simp only [Act.put]
    refine wpAnyH_ready (rs := [8]) (by kernel_rfl) (by simp) ?_
    refine AllReadyH.cons (o := _) rfl (fun K hK => ?_) AllReadyH.nil
    go_simp
    refine (HBL.out w6).mono ?_
    rintro e w7 ⟨rfl, hb7⟩
    have HB57 := hid_m (HB56.out.trans (hb7.mono HB56.out.size))
    have HX7 := hid_m (Nx9.of (t_blk_on HB57.out HM5.out) (t_blk_on HB57.out HC5.out))
    clear hb7
    go_wp2_with fail
    refine hK.out _ _ HX7.out (fun hHeldb => ?_)
    clear hK K
    try simp only [Act.put]
    refine wpAnyH_take (i := 9) (v := ?_) rfl (by kernel_rfl) (by kernel_rfl) (by kernel_rfl) (fun _ _ _ h => h) (Or.inl ⟨by rfl, ?_⟩) (by assumption) ?_
    rotate_left
    · intro w hSw
      obtain ⟨y0, y1, y2, y3, y4, y5, y6, y7, y8, y9⟩ := hSw
      go_simp
      all_goals with_reducible rfl
    try simp only [Act.put]
    refine wpAnyH_ready (rs := [10]) (by kernel_rfl) (by simp) ?_
    refine AllReadyH.cons (o := _) rfl (fun K hK => ?_) AllReadyH.nil
    go_simp
    have hbA : Below w7.heap.size w7 (w7.alloc (.cells #[.int .i64 z1, .int .i64 z2, .slice ak Nk c1, .int .i64 z3, .int .i64 z4, .slice av Nv c2, .slice xc nc cc, .string ⟨Array.replicate rm 0⟩] 79)) := (Below.refl _ _).alloc (Nat.le_refl _) _
    have hnA : (w7.alloc (.cells #[.int .i64 z1, .int .i64 z2, .slice ak Nk c1, .int .i64 z3, .int .i64 z4, .slice av Nv c2, .slice xc nc cc, .string ⟨Array.replicate rm 0⟩] 79)).heap[w7.heap.size]? = some (.cells #[.int .i64 z1, .int .i64 z2, .slice ak Nk c1, .int .i64 z3, .int .i64 z4, .slice av Nv c2, .slice xc nc cc, .string ⟨Array.replicate rm 0⟩] 79 (0, 0)) := heap_alloc_new _ _
    have hsA : (w7.alloc (.cells #[.int .i64 z1, .int .i64 z2, .slice ak Nk c1, .int .i64 z3, .int .i64 z4, .slice av Nv c2, .slice xc nc cc, .string ⟨Array.replicate rm 0⟩] 79)).heap.size = w7.heap.size + 1 := by simp
    have HB58 := hid_m (HB57.out.trans (hbA.mono HB57.out.size))
    have HN8 := hid_m hnA
    have HX8 := hid_m (Nx9.of (t_blk_on HB58.out HM5.out) (t_blk_on HB58.out HC5.out))
    obtain ⟨w8, hw8⟩ : ∃ W, (w7.alloc (.cells #[.int .i64 z1, .int .i64 z2, .slice ak Nk c1, .int .i64 z3, .int .i64 z4, .slice av Nv c2, .slice xc nc cc, .string ⟨Array.replicate rm 0⟩] 79)) = W := ⟨_, rfl⟩
    obtain ⟨b, hb⟩ : ∃ x, w7.heap.size = x := ⟨_, rfl⟩
    have hsb : w5.heap.size ≤ w7.heap.size := HB57.out.size
    rw [hw8] at HB58 HN8 HX8 hsA
    try rw [hw8]
    rw [hb] at HN8 hsA hsb
    try rw [hb]
    have HSA := hid_m (And.intro hsA hsb)
    clear hbA hnA hsA hw8 hb hsb
    refine hK.out _ _ HX8.out (fun hHeldc => ?_)
    clear hK K
    try simp only [Act.put]
    refine wpAnyH_ready (rs := [11]) (by kernel_rfl) (by simp) ?_
    refine AllReadyH.cons (o := _) rfl (fun K hK => ?_) AllReadyH.nil
    go_simp
    refine hK.out _ _ HX8.out (fun hHeldd => ?_)
    clear hK K
    try simp only [Act.put]
    refine wpAnyH_ready (rs := [12]) (by kernel_rfl) (by simp) ?_
    refine AllReadyH.cons (o := _) rfl (fun K hK => ?_) AllReadyH.nil
    go_simp
    refine hK.out _ _ HX8.out (fun hHelde => ?_)
    clear hK K
    try simp only [Act.put]
    refine wpAnyH_done (by kernel_rfl) ?_ _
    go_wp2_with fail
    go_ret2
    have h12 := B2.out.size
    have h25 := B5.out.size
    have hB8 : Below w1.heap.size w1 w8 := B5.out.trans (HB58.out.mono B5.out.size)
    have hB48 : Below w4.heap.size w4 w8 := HB45.out.trans (HB58.out.mono HB45.out.size)
    have hs45 := HB45.out.size
    obtain ⟨⟨q1, o1⟩, lo1⟩ := HSH.out.1
    obtain ⟨⟨q2, o2⟩, lo2⟩ := HSH.out.2
    have hlow : ∀ g, (Value.slice ak Nk c1).ownBlock = some g ∨ (Value.slice av Nv c2).ownBlock = some g ∨ (Value.slice xc nc cc).ownBlock = some g → g < w5.heap.size := by
      intro g hg
      rcases hg with hg | hg | hg
      · have := lo1 g hg; omega
      · have := lo2 g hg; omega
      · have := (HOW.out.lt g hg).2; omega
    have hup : ∀ g, (Value.slice ak Nk c1).ownBlock = some g ∨ (Value.slice av Nv c2).ownBlock = some g ∨ (Value.slice xc nc cc).ownBlock = some g → w.heap.size ≤ g := by
      intro g hg
      rcases hg with hg | hg | hg
      · exact HNW.out g (Or.inl hg)
      · exact HNW.out g (Or.inr (Or.inl hg))
      · have := (HOW.out.lt g hg).1; have := B3.out.size; have := B1.out.size; omega
    have hsa := HSA.out
    refine ⟨⟨b, .slice ak Nk c1, .slice av Nv c2, .slice xc nc cc, fun g => (Value.slice ak Nk c1).ownBlock = some g ∨ (Value.slice av Nv c2).ownBlock = some g ∨ (Value.slice xc nc cc).ownBlock = some g, rfl, by have := B1.out.size; omega, by omega, fun g hg => hup g hg, ⟨Array.replicate rm 0⟩, [], ⟨?_, ⟨q1, m_owns_of o1 (fun g hg => hB8.block g (lo1 g hg))⟩, ⟨q2, m_owns_of o2 (fun g hg => hB8.block g (lo2 g hg))⟩, ⟨w3.heap.size, m_owns_of HOW.out (fun g hg => hB48.block g (HOW.out.lt g hg).2)⟩, fun g hg => hg, fun g hg => ⟨by have := hlow g hg; omega, by have := hlow g hg; omega⟩⟩, ?_⟩, B1.out.trans (hB8.mono B1.out.size)⟩
    · have hz := HZ.out
      rw [hz.1, hz.2.1, hz.2.2.1, hz.2.2.2.1]; exact HN8.out
    · have hz := HZ.out.2.2.2.2
      have h1 : 0 < rm := by omega
      refine P.tabP_empty HKN.out.1 HKN.out.2.1 HKN.out.2.2.2 ?_ ?_
      · simp [h1]
      · rw [hz.1, hz.2.1, hz.2.2]; simp
end Go.Proofs.YtghggcehloiemabGreatDoor
