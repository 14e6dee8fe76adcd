import Derived.Test.YtghggcehloiemabMdE
import Derived.Test.YtghggcehloiemabRefTopAll
import Derived.Test.YtghggcehloiemabRefVal2All
namespace Go.Proofs.Ytghggcehloiemab
open Go.RowKit
set_option linter.unusedVariables false
set_option maxRecDepth 16000
/-- A shop's cells. -/
def shopC (a1 a2 a3 a4 a5 b1 b2 b3 b4 b5 : Value) (code : ByteArray) (room : Nat) (mem : ByteArray) (sl : Nat) (lv : Value) : Array Value := #[a1, a2, a3, a4, a5, b1, b2, b3, b4, b5, .string code, .int .i64 room, .string mem, .int .i64 sl, lv]
/-- What a shop's block holds where 'left' looks. -/
def Sx (B : Nat) (b1 b2 b3 b4 b5 : Value) (room : Nat) (lv : Value) (w : World) : Prop := w.cell? ⟨B, 5, none⟩ = some b1 ∧ w.cell? ⟨B, 6, none⟩ = some b2 ∧ w.cell? ⟨B, 7, none⟩ = some b3 ∧ w.cell? ⟨B, 8, none⟩ = some b4 ∧ w.cell? ⟨B, 9, none⟩ = some b5 ∧ w.cell? ⟨B, 11, none⟩ = some (.int .i64 room) ∧ w.cell? ⟨B, 14, none⟩ = some lv
theorem Sx.of {w : World} {B M sl room : Nat} {a1 a2 a3 a4 a5 b1 b2 b3 b4 b5 lv : Value} {code mem : ByteArray} {T : TypeId} {L : List (ByteArray × ByteArray)} (h : Mp w B 13 M sl (shopC a1 a2 a3 a4 a5 b1 b2 b3 b4 b5 code room mem sl lv) T lv L) : Sx B b1 b2 b3 b4 b5 room lv w := by
  refine ⟨?_, ?_, ?_, ?_, ?_, ?_, ?_⟩ <;> (rw [cell_of_row _ _ _ _ _ _ h.blk]; rfl)
set_option maxHeartbeats 4000000 in
theorem left_plain {w : World} (B M sl room : Nat) (a1 a2 a3 a4 a5 b1 b2 b3 b4 b5 lv : Value) (code mem : ByteArray) (T : TypeId) (L : List (ByteArray × ByteArray)) (before now : ByteArray) (t : Nat) (k v : ByteArray) (f g a s : Int) (st at0 : Nat)
    (h : Mp w B 13 M sl (shopC a1 a2 a3 a4 a5 b1 b2 b3 b4 b5 code room mem sl lv) T lv L) (hnf : ¬ (t = 1 ∧ st = 0)) (hsz : now.size = before.size) (hr : room ≤ before.size) (hs4 : before.size ≤ 4000) (hd : now.data.toList.drop room = before.data.toList.drop room) :
    Calls Try.prog 16 #[.pointer (some ⟨B, 0, none⟩), .string before, .string now, taskV t k v f g a s, .int .i64 st, .int .i64 at0] w fun e w' => e = .returned (.bool true) ∧ Below w.heap.size w w' := by
  have HX := hid_m (Sx.of h)
  have hbl := h.lt2
  have hr0 : (0 : Int) ≤ (room : Int) := Int.natCast_nonneg _
  have hr1 : (room : Int) ≤ (now.size : Int) := by omega
  have hr2 : (room : Int) ≤ (before.size : Int) := by omega
  have HEX : Hid ((now.extract room before.size).toList = (before.extract room before.size).toList) := by
    unfold Hid
    rw [ByteArray.toList_eq, ByteArray.toList_eq, cut_data, cut_data, hd]
  have HXA : ∀ o, Hid (Sx B b1 b2 b3 b4 b5 room lv (w.alloc o)) := fun o => by
    have hb : Below w.heap.size w (w.alloc o) := (Below.refl _ _).alloc (Nat.le_refl _) _
    exact Sx.of (h.on hb)
  have hgt : (decide ((t : Int) = 1) && decide ((st : Int) = 0)) = false := by
    rcases Nat.decEq t 1 with h1 | h1
    · simp; omega
    · simp; omega
  clear h hd
  unfold taskV
  by_cases h1 : t = 1
  · have hst : ((st : Int) == 0) = false := by rw [beq_eq_false_iff_ne]; omega
    subst h1
    clear hgt hnf
    go_enter Try.func16, Try.ntmps16
    go_wp2_with fail
    have HX2 := HXA (.cells #[.int .i64 (1 : Nat), .string k, .string v, .int .i64 f, .int .i64 g, .int .i64 a, .int .i64 s] 28)
    refine wp_region_held_drew (S := Sx B b1 b2 b3 b4 b5 room lv) (by kernel_rfl) HX2.out (fun hHeld => ?_)
    refine wpAnyH_take (i := 0) (v := ?_) rfl (by kernel_rfl) (by kernel_rfl) (by kernel_rfl) (fun _ _ _ h => h) (Or.inl ⟨by rfl, ?_⟩) (by assumption) ?_
    rotate_left
    · intro w hSw
      obtain ⟨y1, y2, y3, y4, y5, y6, y7⟩ := hSw
      go_simp
      all_goals with_reducible rfl
    try simp only [Act.put]
    refine wpAnyH_take (i := 1) (v := ?_) rfl (by kernel_rfl) (by kernel_rfl) (by kernel_rfl) (fun _ _ _ h => h) (Or.inl ⟨by rfl, ?_⟩) (by assumption) ?_
    rotate_left
    · intro w hSw
      obtain ⟨y1, y2, y3, y4, y5, y6, y7⟩ := hSw
      go_simp
      all_goals with_reducible rfl
    try simp only [Act.put]
    refine wpAnyH_take (i := 2) (v := ?_) rfl (by kernel_rfl) (by kernel_rfl) (by kernel_rfl) (fun _ _ _ h => h) (Or.inl ⟨by rfl, ?_⟩) (by assumption) ?_
    rotate_left
    · intro w hSw
      obtain ⟨y1, y2, y3, y4, y5, y6, y7⟩ := hSw
      go_simp
      all_goals with_reducible rfl
    try simp only [Act.put]
    refine wpAnyH_take (i := 3) (v := ?_) rfl (by kernel_rfl) (by kernel_rfl) (by kernel_rfl) (fun _ _ _ h => h) (Or.inl ⟨by rfl, ?_⟩) (by assumption) ?_
    rotate_left
    · intro w hSw
      obtain ⟨y1, y2, y3, y4, y5, y6, y7⟩ := hSw
      go_simp
      all_goals with_reducible rfl
    try simp only [Act.put]
    refine wpAnyH_take (i := 4) (v := ?_) rfl (by kernel_rfl) (by kernel_rfl) (by kernel_rfl) (fun _ _ _ h => h) (Or.inl ⟨by rfl, ?_⟩) (by assumption) ?_
    rotate_left
    · intro w hSw
      obtain ⟨y1, y2, y3, y4, y5, y6, y7⟩ := hSw
      go_simp
      all_goals with_reducible rfl
    try simp only [Act.put]
    refine wpAnyH_take (i := 5) (v := ?_) rfl (by kernel_rfl) (by kernel_rfl) (by kernel_rfl) (fun _ _ _ h => h) (Or.inl ⟨by rfl, ?_⟩) (by assumption) ?_
    rotate_left
    · intro w hSw
      obtain ⟨y1, y2, y3, y4, y5, y6, y7⟩ := hSw
      go_simp
      all_goals with_reducible rfl
    try simp only [Act.put]
    refine wpAnyH_take (i := 6) (v := ?_) rfl (by kernel_rfl) (by kernel_rfl) (by kernel_rfl) (fun _ _ _ h => h) (Or.inl ⟨by rfl, ?_⟩) (by assumption) ?_
    rotate_left
    · intro w hSw
      obtain ⟨y1, y2, y3, y4, y5, y6, y7⟩ := hSw
      go_simp
      all_goals with_reducible rfl
    try simp only [Act.put]
    refine wpAnyH_take (i := 7) (v := ?_) rfl (by kernel_rfl) (by kernel_rfl) (by kernel_rfl) (fun _ _ _ h => h) (Or.inl ⟨by rfl, ?_⟩) (by assumption) ?_
    rotate_left
    · intro w hSw
      obtain ⟨y1, y2, y3, y4, y5, y6, y7⟩ := hSw
      go_simp
      all_goals with_reducible rfl
    try simp only [Act.put]
    refine wpAnyH_take (i := 8) (v := ?_) rfl (by kernel_rfl) (by kernel_rfl) (by kernel_rfl) (fun _ _ _ h => h) (Or.inl ⟨by rfl, ?_⟩) (by assumption) ?_
    rotate_left
    · intro w hSw
      obtain ⟨y1, y2, y3, y4, y5, y6, y7⟩ := hSw
      go_simp
      all_goals with_reducible rfl
    try simp only [Act.put]
    refine wpAnyH_take (i := 9) (v := ?_) rfl (by kernel_rfl) (by kernel_rfl) (by kernel_rfl) (fun _ _ _ h => h) (Or.inl ⟨by rfl, ?_⟩) (by assumption) ?_
    rotate_left
    · intro w hSw
      obtain ⟨y1, y2, y3, y4, y5, y6, y7⟩ := hSw
      go_simp
      all_goals with_reducible rfl
    try simp only [Act.put]
    refine wpAnyH_take (i := 10) (v := ?_) rfl (by kernel_rfl) (by kernel_rfl) (by kernel_rfl) (fun _ _ _ h => h) (Or.inl ⟨by rfl, ?_⟩) (by assumption) ?_
    rotate_left
    · intro w hSw
      obtain ⟨y1, y2, y3, y4, y5, y6, y7⟩ := hSw
      go_simp
      all_goals with_reducible rfl
    try simp only [Act.put]
    refine wpAnyH_take (i := 11) (v := ?_) rfl (by kernel_rfl) (by kernel_rfl) (by kernel_rfl) (fun _ _ _ h => h) (Or.inl ⟨by rfl, ?_⟩) (by assumption) ?_
    rotate_left
    · intro w hSw
      obtain ⟨y1, y2, y3, y4, y5, y6, y7⟩ := hSw
      go_simp
      all_goals with_reducible rfl
    try simp only [Act.put]
    refine wpAnyH_take (i := 12) (v := ?_) rfl (by kernel_rfl) (by kernel_rfl) (by kernel_rfl) (fun _ _ _ h => h) (Or.inl ⟨by rfl, ?_⟩) (by assumption) ?_
    rotate_left
    · intro w hSw
      obtain ⟨y1, y2, y3, y4, y5, y6, y7⟩ := hSw
      go_simp
      all_goals with_reducible rfl
    try simp only [Act.put]
    refine wpAnyH_ready (rs := [13]) (by kernel_rfl) (by simp) ?_
    refine AllReadyH.cons (o := _) rfl (fun K hK => ?_) AllReadyH.nil
    go_simp
    refine hK.out _ _ HX2.out (fun hHeldz => ?_)
    clear hK K
    try simp only [Act.put]
    refine wpAnyH_done (by kernel_rfl) ?_ _
    go_wp2_with fail
    go_ret
    refine ⟨?_, ((Below.refl _ _).alloc (Nat.le_refl _) _).drew⟩
    show Ending.returned (.bool ((now.extract room before.size).toList == (before.extract room before.size).toList)) = _
    rw [HEX.out]; simp
  · have ht1 : ((t : Int) == 1) = false := by rw [beq_eq_false_iff_ne]; omega
    clear hgt hnf h1
    go_enter Try.func16, Try.ntmps16
    go_wp2_with fail
    have HX2 := HXA (.cells #[.int .i64 t, .string k, .string v, .int .i64 f, .int .i64 g, .int .i64 a, .int .i64 s] 28)
    refine wp_region_held_drew (S := Sx B b1 b2 b3 b4 b5 room lv) (by kernel_rfl) HX2.out (fun hHeld => ?_)
    refine wpAnyH_take (i := 0) (v := ?_) rfl (by kernel_rfl) (by kernel_rfl) (by kernel_rfl) (fun _ _ _ h => h) (Or.inl ⟨by rfl, ?_⟩) (by assumption) ?_
    rotate_left
    · intro w hSw
      obtain ⟨y1, y2, y3, y4, y5, y6, y7⟩ := hSw
      go_simp
      all_goals with_reducible rfl
    try simp only [Act.put]
    refine wpAnyH_take (i := 1) (v := ?_) rfl (by kernel_rfl) (by kernel_rfl) (by kernel_rfl) (fun _ _ _ h => h) (Or.inl ⟨by rfl, ?_⟩) (by assumption) ?_
    rotate_left
    · intro w hSw
      obtain ⟨y1, y2, y3, y4, y5, y6, y7⟩ := hSw
      go_simp
      all_goals with_reducible rfl
    try simp only [Act.put]
    refine wpAnyH_take (i := 2) (v := ?_) rfl (by kernel_rfl) (by kernel_rfl) (by kernel_rfl) (fun _ _ _ h => h) (Or.inl ⟨by rfl, ?_⟩) (by assumption) ?_
    rotate_left
    · intro w hSw
      obtain ⟨y1, y2, y3, y4, y5, y6, y7⟩ := hSw
      go_simp
      all_goals with_reducible rfl
    try simp only [Act.put]
    refine wpAnyH_take (i := 3) (v := ?_) rfl (by kernel_rfl) (by kernel_rfl) (by kernel_rfl) (fun _ _ _ h => h) (Or.inl ⟨by rfl, ?_⟩) (by assumption) ?_
    rotate_left
    · intro w hSw
      obtain ⟨y1, y2, y3, y4, y5, y6, y7⟩ := hSw
      go_simp
      all_goals with_reducible rfl
    try simp only [Act.put]
    refine wpAnyH_take (i := 4) (v := ?_) rfl (by kernel_rfl) (by kernel_rfl) (by kernel_rfl) (fun _ _ _ h => h) (Or.inl ⟨by rfl, ?_⟩) (by assumption) ?_
    rotate_left
    · intro w hSw
      obtain ⟨y1, y2, y3, y4, y5, y6, y7⟩ := hSw
      go_simp
      all_goals with_reducible rfl
    try simp only [Act.put]
    refine wpAnyH_take (i := 5) (v := ?_) rfl (by kernel_rfl) (by kernel_rfl) (by kernel_rfl) (fun _ _ _ h => h) (Or.inl ⟨by rfl, ?_⟩) (by assumption) ?_
    rotate_left
    · intro w hSw
      obtain ⟨y1, y2, y3, y4, y5, y6, y7⟩ := hSw
      go_simp
      all_goals with_reducible rfl
    try simp only [Act.put]
    refine wpAnyH_take (i := 6) (v := ?_) rfl (by kernel_rfl) (by kernel_rfl) (by kernel_rfl) (fun _ _ _ h => h) (Or.inl ⟨by rfl, ?_⟩) (by assumption) ?_
    rotate_left
    · intro w hSw
      obtain ⟨y1, y2, y3, y4, y5, y6, y7⟩ := hSw
      go_simp
      all_goals with_reducible rfl
    try simp only [Act.put]
    refine wpAnyH_take (i := 7) (v := ?_) rfl (by kernel_rfl) (by kernel_rfl) (by kernel_rfl) (fun _ _ _ h => h) (Or.inl ⟨by rfl, ?_⟩) (by assumption) ?_
    rotate_left
    · intro w hSw
      obtain ⟨y1, y2, y3, y4, y5, y6, y7⟩ := hSw
      go_simp
      all_goals with_reducible rfl
    try simp only [Act.put]
    refine wpAnyH_take (i := 8) (v := ?_) rfl (by kernel_rfl) (by kernel_rfl) (by kernel_rfl) (fun _ _ _ h => h) (Or.inl ⟨by rfl, ?_⟩) (by assumption) ?_
    rotate_left
    · intro w hSw
      obtain ⟨y1, y2, y3, y4, y5, y6, y7⟩ := hSw
      go_simp
      all_goals with_reducible rfl
    try simp only [Act.put]
    refine wpAnyH_take (i := 9) (v := ?_) rfl (by kernel_rfl) (by kernel_rfl) (by kernel_rfl) (fun _ _ _ h => h) (Or.inl ⟨by rfl, ?_⟩) (by assumption) ?_
    rotate_left
    · intro w hSw
      obtain ⟨y1, y2, y3, y4, y5, y6, y7⟩ := hSw
      go_simp
      all_goals with_reducible rfl
    try simp only [Act.put]
    refine wpAnyH_take (i := 10) (v := ?_) rfl (by kernel_rfl) (by kernel_rfl) (by kernel_rfl) (fun _ _ _ h => h) (Or.inl ⟨by rfl, ?_⟩) (by assumption) ?_
    rotate_left
    · intro w hSw
      obtain ⟨y1, y2, y3, y4, y5, y6, y7⟩ := hSw
      go_simp
      all_goals with_reducible rfl
    try simp only [Act.put]
    refine wpAnyH_take (i := 11) (v := ?_) rfl (by kernel_rfl) (by kernel_rfl) (by kernel_rfl) (fun _ _ _ h => h) (Or.inl ⟨by rfl, ?_⟩) (by assumption) ?_
    rotate_left
    · intro w hSw
      obtain ⟨y1, y2, y3, y4, y5, y6, y7⟩ := hSw
      go_simp
      all_goals with_reducible rfl
    try simp only [Act.put]
    refine wpAnyH_take (i := 12) (v := ?_) rfl (by kernel_rfl) (by kernel_rfl) (by kernel_rfl) (fun _ _ _ h => h) (Or.inl ⟨by rfl, ?_⟩) (by assumption) ?_
    rotate_left
    · intro w hSw
      obtain ⟨y1, y2, y3, y4, y5, y6, y7⟩ := hSw
      go_simp
      all_goals with_reducible rfl
    try simp only [Act.put]
    refine wpAnyH_ready (rs := [13]) (by kernel_rfl) (by simp) ?_
    refine AllReadyH.cons (o := _) rfl (fun K hK => ?_) AllReadyH.nil
    go_simp
    refine hK.out _ _ HX2.out (fun hHeldz => ?_)
    clear hK K
    try simp only [Act.put]
    refine wpAnyH_done (by kernel_rfl) ?_ _
    go_wp2_with fail
    go_ret
    refine ⟨?_, ((Below.refl _ _).alloc (Nat.le_refl _) _).drew⟩
    show Ending.returned (.bool ((now.extract room before.size).toList == (before.extract room before.size).toList)) = _
    rw [HEX.out]; simp
set_option maxHeartbeats 4000000 in
theorem left_found {w : World} (B M sl room : Nat) (a1 a2 a3 a4 a5 lv : Value) (vv : Value) (b1 b2 b3 b4 b5 : Value) (code mem : ByteArray) (T : TypeId) (L : List (ByteArray × ByteArray)) (before now : ByteArray) (k v : ByteArray) (f g a s : Int) (at0 : Nat)
    (tv : P.Ty 4) (Sv : Nat → Prop) (hsm : P.Sm 4 tv) (hnm : P.Nm 4 tv) (hT : TypAt w 4 tv (.agg #[b1, b2, b3, b4, b5]) Sv) (hSv : ∀ g, Sv g → g < w.heap.size)
    (h : Mp w B 13 M sl (shopC a1 a2 a3 a4 a5 b1 b2 b3 b4 b5 code room mem sl lv) T lv L) (hsz : now.size = before.size) (hr : room ≤ before.size) (hs4 : before.size ≤ 4000) (hat : at0 + (P.sz 4 tv).1 ≤ before.size)
    (i : Nat) (v0 : ByteArray) (hi : P.atK L k = some i) (hL : L[i]? = some (k, v0)) (hval : P.valueP 4 tv ((now.data.toList.drop at0).take (P.sz 4 tv).1) = v0.data.toList)
    (hd : now.data.toList.drop room = (P.laidL before.data.toList at0 ((now.data.toList.drop at0).take (P.sz 4 tv).1)).drop room) :
    Calls Try.prog 16 #[.pointer (some ⟨B, 0, none⟩), .string before, .string now, taskV (1 : Nat) k v f g a s, .int .i64 (0 : Nat), .int .i64 at0] w fun e w' => e = .returned (.bool true) ∧ Below w.heap.size w w' := by
  have hiL : i < L.length := (List.getElem?_eq_some_iff.1 hL).1
  obtain ⟨aa, N, cap, rfl⟩ := owns_slice h.own
  obtain ⟨gr, cap', hvr, _, _⟩ := h.own.form (by omega)
  have haa : aa = some ⟨gr, 0, none⟩ := by injection hvr
  subst haa
  have HNL : Hid (N = L.length ∧ i < L.length) := ⟨(pair_cell h.own hL).2.2.1, hiL⟩
  clear hvr hiL
  obtain ⟨q1, x', n1, k1, y, m1, j1, hvv⟩ := hT.is
  simp only [Value.agg.injEq, Array.mk.injEq, List.cons.injEq, and_true] at hvv
  obtain ⟨rfl, rfl, rfl, rfl, rfl⟩ := hvv
  obtain ⟨f1, hf1⟩ : ∃ z, (P.sz 4 tv).1 = z := ⟨_, rfl⟩
  obtain ⟨f2, hf2⟩ : ∃ z, (P.sz 4 tv).2 = z := ⟨_, rfl⟩
  obtain ⟨e, he⟩ : ∃ e, at0 + f1 = e := ⟨_, rfl⟩
  rw [hf1, hf2] at hT h
  rw [hf1] at hat hval hd
  have ha0 : (0 : Int) ≤ (at0 : Int) := Int.natCast_nonneg _
  have ha1 : (at0 : Int) ≤ (e : Int) := by omega
  have ha2 : (e : Int) ≤ (now.size : Int) := by omega
  have hr0 : (0 : Int) ≤ (room : Int) := Int.natCast_nonneg _
  have hr1 : (room : Int) ≤ (now.size : Int) := by omega
  have hr2 : (room : Int) ≤ (before.size : Int) := by omega
  have hgs : (now.extract at0 e).size = f1 := by rw [ByteArray.size_extract]; omega
  have hgd : (now.extract at0 e).data.toList = (now.data.toList.drop at0).take f1 := by rw [cut_data, show e - at0 = f1 by omega]
  have HWS : Hid (wrap64 ((at0 : Int) + (f1 : Int)) = (e : Int)) := by unfold Hid; rw [w64_id _ (by omega) (by omega)]; omega
  obtain ⟨got, hgot⟩ : ∃ got, now.extract at0 e = got := ⟨_, rfl⟩
  rw [hgot] at hgs hgd
  rw [← hgd] at hval hd
  obtain ⟨task, htask⟩ : ∃ task : Obj, (.cells #[.int .i64 1, .string k, .string v, .int .i64 f, .int .i64 g, .int .i64 a, .int .i64 s] 28) = task := ⟨_, rfl⟩
  have hbA : Below w.heap.size w (w.alloc task) := (Below.refl _ _).alloc (Nat.le_refl _) _
  have HMA := hid_m (h.on hbA)
  have HVA := hid_m (fun w' (hb : Below w.heap.size w w') => value_all 4 tv (.agg #[.int .u8 q1, .int .i64 f1, .int .i64 f2, .slice x' n1 k1, .slice y m1 j1]) Sv got w' hsm hnm (hT.of (fun g hg => hb.block g (hSv g hg)) (fun g hg => hg)) (fun g hg => Nat.lt_of_lt_of_le (hSv g hg) hb.size) (by rw [hgs, hf1]) (Nat.le_refl _))
  have HLD : Hid (∀ w', Calls Try.prog 13 #[.string before, .int .i64 at0, .string got] w' fun e w'' => e = .returned (.string ⟨(P.laidL before.data.toList at0 got.data.toList).toArray⟩) ∧ Below w'.heap.size w' w'') := fun w' => laid_any before got at0 w' (by rw [hgs]; omega) hs4
  have hv0 : (⟨(P.valueP 4 tv got.data.toList).toArray⟩ : ByteArray) = v0 := by rw [hval]
  have HAT := hid_m (fun w' (hb : Below w.heap.size w w') => rAt_any (w := w') B 13 M (.slice (some ⟨gr, 0, none⟩) N cap) L k (h.on hb).c1 (h.on hb).lt2 (h.on hb).own (by have := h.few; have := h.sl16; omega))
  rw [hi] at HAT
  rw [hv0] at HVA
  obtain ⟨y1, y2, y3, y4, y5, y6, y7⟩ := Sx.of HMA.out
  have HBA := hid_m hbA
  have HH := hid_m h
  have HSZ := hid_m hsz
  have HAE0 := hat
  have HD := hid_m hd
  have HLI := hid_m hL
  clear hT h hd hL hi hval hv0 hgd hbA hf1 hf2 he hat
  subst htask
  have HAE : Hid (at0 + f1 ≤ before.size) := HAE0
  have HGS := hid_m hgs
  have HRR := hid_m (And.intro hr0 (And.intro hr1 hr2))
  have HSS := hid_m (And.intro hr hs4)
  clear y6 y7 hr0 hr1 hr2 hr hs4 hgs hSv hsm hnm
  unfold taskV
  have hws := HWS.out
  go_enter Try.func16, Try.ntmps16
  go_wp2_with fail
  refine (HVA.out _ HBA.out).mono ?_
  rintro e w2 ⟨rfl, hb2⟩
  have hB2 : Below w.heap.size w w2 := HBA.out.trans (hb2.mono HBA.out.size)
  have hn2 : w2.heap[w.heap.size]? = some (taskB (1 : Nat) k v f g a s) := by rw [hb2.block _ (by simp)]; exact heap_alloc_new _ _
  have HB2 := hid_m hB2
  have HM2 := hid_m (HH.out.on hB2)
  have HT2 := hid_m (Tk.of hn2)
  have HL2 := hid_m (m_blk_lt hn2)
  clear hb2 hB2 hn2 y1 y2 y3 y4 y5 HMA HBA
  go_wp2_with fail
  obtain ⟨tb, htb⟩ : ∃ tb, w.heap.size = tb := ⟨_, rfl⟩
  rw [htb] at HT2 HL2 ⊢
  have HGT := hid_m hgot
  clear htb hws ha0 ha1 ha2 hsz hgot
  refine wp_region_held_drew (S := Tk tb 1 k v) (by kernel_rfl) HT2.out (fun hHeld => ?_)
  refine wpAnyH_take (i := 0) (v := ?_) rfl (by kernel_rfl) (by kernel_rfl) (by kernel_rfl) (fun _ _ _ h => h) (Or.inl ⟨by rfl, ?_⟩) (by assumption) ?_
  rotate_left
  · intro w hSw
    obtain ⟨z0, z1, z2⟩ := hSw
    go_simp
    all_goals with_reducible rfl
  try simp only [Act.put]
  refine wpAnyH_take (i := 1) (v := ?_) rfl (by kernel_rfl) (by kernel_rfl) (by kernel_rfl) (fun _ _ _ h => h) (Or.inl ⟨by rfl, ?_⟩) (by assumption) ?_
  rotate_left
  · intro w hSw
    obtain ⟨z0, z1, z2⟩ := hSw
    go_simp
    all_goals with_reducible rfl
  try simp only [Act.put]
  refine wpAnyH_take (i := 2) (v := ?_) rfl (by kernel_rfl) (by kernel_rfl) (by kernel_rfl) (fun _ _ _ h => h) (Or.inl ⟨by rfl, ?_⟩) (by assumption) ?_
  rotate_left
  · intro w hSw
    obtain ⟨z0, z1, z2⟩ := hSw
    go_simp
    all_goals with_reducible rfl
  try simp only [Act.put]
  refine wpAnyH_take (i := 3) (v := ?_) rfl (by kernel_rfl) (by kernel_rfl) (by kernel_rfl) (fun _ _ _ h => h) (Or.inl ⟨by rfl, ?_⟩) (by assumption) ?_
  rotate_left
  · intro w hSw
    obtain ⟨z0, z1, z2⟩ := hSw
    go_simp
    all_goals with_reducible rfl
  try simp only [Act.put]
  refine wpAnyH_take (i := 4) (v := ?_) rfl (by kernel_rfl) (by kernel_rfl) (by kernel_rfl) (fun _ _ _ h => h) (Or.inl ⟨by rfl, ?_⟩) (by assumption) ?_
  rotate_left
  · intro w hSw
    obtain ⟨z0, z1, z2⟩ := hSw
    go_simp
    all_goals with_reducible rfl
  try simp only [Act.put]
  refine wpAnyH_ready (rs := [5]) (by kernel_rfl) (by simp) ?_
  refine AllReadyH.cons (o := _) rfl (fun K hK => ?_) AllReadyH.nil
  go_simp
  refine (HAT.out w2.drew ⟨HB2.out.os, HB2.out.tape, HB2.out.output, HB2.out.size, HB2.out.block⟩).mono ?_
  rintro e w3 ⟨rfl, hb3⟩
  have hB3 : Below w.heap.size w w3 := HB2.out.trans ((Below.mk hb3.os hb3.tape hb3.output hb3.size hb3.block : Below w2.heap.size w2 w3).mono HB2.out.size)
  have HB3 := hid_m hB3
  have HM3 := hid_m (HH.out.on hB3)
  have HT3 : Hid (Tk tb 1 k v w3) := HT2.out.same (hb3.block tb HL2.out)
  clear hb3 hB3 HM2 HT2 HB2 HL2
  unfold atI
  go_wp2_with fail
  refine hK.out _ _ HT3.out (fun hHelda => ?_)
  clear hK K
  try simp only [Act.put]
  refine wpAnyH_ready (rs := [6]) (by kernel_rfl) (by simp) ?_
  refine AllReadyH.cons (o := _) rfl (fun K hK => ?_) AllReadyH.nil
  go_simp
  refine hK.out _ _ HT3.out (fun hHeldb => ?_)
  clear hK K
  try simp only [Act.put]
  refine wpAnyH_done (by kernel_rfl) ?_ _
  have d1 : w3.cell? ⟨B, 14, none⟩ = some (.slice (some ⟨gr, 0, none⟩) N cap) := HM3.out.c1
  obtain ⟨e0, e1, hNe, hcp⟩ := pair_cell HM3.out.own HLI.out
  simp only at e0 e1
  have hi0' : (0 : Int) ≤ (i : Int) := Int.natCast_nonneg i
  have hi2 : (i : Int) < (N : Int) := by have := HNL.out; omega
  have hgi : decide ((i : Int) < 0) = false := decide_eq_false (by omega)
  clear hNe
  go_wp2_with fail
  refine (HLD.out _).mono ?_
  rintro e w4 ⟨rfl, hb4⟩
  have hB4 : Below w.heap.size w w4 := HB3.out.trans (hb4.mono HB3.out.size)
  have HB4 := hid_m hB4
  have HX4 := hid_m (Sx.of (HH.out.on hB4))
  clear hb4 hB4 d1 e0 e1 hcp hi0' hi2 hgi HM3 HB3 HT3
  obtain ⟨ld, hld⟩ : ∃ ld : ByteArray, (⟨(P.laidL before.data.toList at0 got.data.toList).toArray⟩ : ByteArray) = ld := ⟨_, rfl⟩
  have HEX : Hid ((now.extract room now.size).toList = (ld.extract room ld.size).toList ∧ (room : Int) ≤ (ld.size : Int)) := by
    have hls : ld.size = before.size := by
      rw [← hld]
      show (P.laidL before.data.toList at0 got.data.toList).toArray.size = _
      have e1 : got.data.toList.length = f1 := by rw [← HGS.out]; simp
      have e2 : before.data.toList.length = before.size := by simp
      simp only [P.laidL, List.size_toArray, List.length_append, List.length_take, List.length_drop, e1, e2]
      have := HAE.out; omega
    refine ⟨?_, by rw [hls]; exact HRR.out.2.2⟩
    rw [ByteArray.toList_eq, ByteArray.toList_eq, cut_data, cut_data, HD.out, HSZ.out, hls, ← hld]
  rw [hld]
  clear hld
  have hr0 := HRR.out.1
  have hr1 := HRR.out.2.1
  have hr2 := HEX.out.2
  go_wp2_with fail
  refine wp_region_held_drew (S := Sx B (.int .u8 q1) (.int .i64 f1) (.int .i64 f2) (.slice x' n1 k1) (.slice y m1 j1) room (.slice (some ⟨gr, 0, none⟩) N cap)) (by kernel_rfl) HX4.out (fun hHeld => ?_)
  refine wpAnyH_take (i := 0) (v := ?_) rfl (by kernel_rfl) (by kernel_rfl) (by kernel_rfl) (fun _ _ _ h => h) (Or.inl ⟨by rfl, ?_⟩) (by assumption) ?_
  rotate_left
  · intro w hSw
    obtain ⟨y1, y2, y3, y4, y5, y6, y7⟩ := hSw
    go_simp
    all_goals with_reducible rfl
  try simp only [Act.put]
  refine wpAnyH_take (i := 1) (v := ?_) rfl (by kernel_rfl) (by kernel_rfl) (by kernel_rfl) (fun _ _ _ h => h) (Or.inl ⟨by rfl, ?_⟩) (by assumption) ?_
  rotate_left
  · intro w hSw
    obtain ⟨y1, y2, y3, y4, y5, y6, y7⟩ := hSw
    go_simp
    all_goals with_reducible rfl
  try simp only [Act.put]
  refine wpAnyH_take (i := 2) (v := ?_) rfl (by kernel_rfl) (by kernel_rfl) (by kernel_rfl) (fun _ _ _ h => h) (Or.inl ⟨by rfl, ?_⟩) (by assumption) ?_
  rotate_left
  · intro w hSw
    obtain ⟨y1, y2, y3, y4, y5, y6, y7⟩ := hSw
    go_simp
    all_goals with_reducible rfl
  try simp only [Act.put]
  refine wpAnyH_take (i := 3) (v := ?_) rfl (by kernel_rfl) (by kernel_rfl) (by kernel_rfl) (fun _ _ _ h => h) (Or.inl ⟨by rfl, ?_⟩) (by assumption) ?_
  rotate_left
  · intro w hSw
    obtain ⟨y1, y2, y3, y4, y5, y6, y7⟩ := hSw
    go_simp
    all_goals with_reducible rfl
  try simp only [Act.put]
  refine wpAnyH_take (i := 4) (v := ?_) rfl (by kernel_rfl) (by kernel_rfl) (by kernel_rfl) (fun _ _ _ h => h) (Or.inl ⟨by rfl, ?_⟩) (by assumption) ?_
  rotate_left
  · intro w hSw
    obtain ⟨y1, y2, y3, y4, y5, y6, y7⟩ := hSw
    go_simp
    all_goals with_reducible rfl
  try simp only [Act.put]
  refine wpAnyH_take (i := 5) (v := ?_) rfl (by kernel_rfl) (by kernel_rfl) (by kernel_rfl) (fun _ _ _ h => h) (Or.inl ⟨by rfl, ?_⟩) (by assumption) ?_
  rotate_left
  · intro w hSw
    obtain ⟨y1, y2, y3, y4, y5, y6, y7⟩ := hSw
    go_simp
    all_goals with_reducible rfl
  try simp only [Act.put]
  refine wpAnyH_take (i := 6) (v := ?_) rfl (by kernel_rfl) (by kernel_rfl) (by kernel_rfl) (fun _ _ _ h => h) (Or.inl ⟨by rfl, ?_⟩) (by assumption) ?_
  rotate_left
  · intro w hSw
    obtain ⟨y1, y2, y3, y4, y5, y6, y7⟩ := hSw
    go_simp
    all_goals with_reducible rfl
  try simp only [Act.put]
  refine wpAnyH_take (i := 7) (v := ?_) rfl (by kernel_rfl) (by kernel_rfl) (by kernel_rfl) (fun _ _ _ h => h) (Or.inl ⟨by rfl, ?_⟩) (by assumption) ?_
  rotate_left
  · intro w hSw
    obtain ⟨y1, y2, y3, y4, y5, y6, y7⟩ := hSw
    go_simp
    all_goals with_reducible rfl
  try simp only [Act.put]
  refine wpAnyH_take (i := 8) (v := ?_) rfl (by kernel_rfl) (by kernel_rfl) (by kernel_rfl) (fun _ _ _ h => h) (Or.inl ⟨by rfl, ?_⟩) (by assumption) ?_
  rotate_left
  · intro w hSw
    obtain ⟨y1, y2, y3, y4, y5, y6, y7⟩ := hSw
    go_simp
    all_goals with_reducible rfl
  try simp only [Act.put]
  refine wpAnyH_take (i := 9) (v := ?_) rfl (by kernel_rfl) (by kernel_rfl) (by kernel_rfl) (fun _ _ _ h => h) (Or.inl ⟨by rfl, ?_⟩) (by assumption) ?_
  rotate_left
  · intro w hSw
    obtain ⟨y1, y2, y3, y4, y5, y6, y7⟩ := hSw
    go_simp
    all_goals with_reducible rfl
  try simp only [Act.put]
  refine wpAnyH_take (i := 10) (v := ?_) rfl (by kernel_rfl) (by kernel_rfl) (by kernel_rfl) (fun _ _ _ h => h) (Or.inl ⟨by rfl, ?_⟩) (by assumption) ?_
  rotate_left
  · intro w hSw
    obtain ⟨y1, y2, y3, y4, y5, y6, y7⟩ := hSw
    go_simp
    all_goals with_reducible rfl
  try simp only [Act.put]
  refine wpAnyH_take (i := 11) (v := ?_) rfl (by kernel_rfl) (by kernel_rfl) (by kernel_rfl) (fun _ _ _ h => h) (Or.inl ⟨by rfl, ?_⟩) (by assumption) ?_
  rotate_left
  · intro w hSw
    obtain ⟨y1, y2, y3, y4, y5, y6, y7⟩ := hSw
    go_simp
    all_goals with_reducible rfl
  try simp only [Act.put]
  refine wpAnyH_take (i := 12) (v := ?_) rfl (by kernel_rfl) (by kernel_rfl) (by kernel_rfl) (fun _ _ _ h => h) (Or.inl ⟨by rfl, ?_⟩) (by assumption) ?_
  rotate_left
  · intro w hSw
    obtain ⟨y1, y2, y3, y4, y5, y6, y7⟩ := hSw
    go_simp
    all_goals with_reducible rfl
  try simp only [Act.put]
  refine wpAnyH_ready (rs := [13]) (by kernel_rfl) (by simp) ?_
  refine AllReadyH.cons (o := _) rfl (fun K hK => ?_) AllReadyH.nil
  go_simp
  refine hK.out _ _ HX4.out (fun hHeldz => ?_)
  clear hK K
  try simp only [Act.put]
  refine wpAnyH_done (by kernel_rfl) ?_ _
  go_wp2_with fail
  go_ret
  refine ⟨?_, HB4.out.drew⟩
  show Ending.returned (.bool ((now.extract room now.size).toList == (ld.extract room ld.size).toList)) = _
  rw [HEX.out.1]; simp
end Go.Proofs.Ytghggcehloiemab
