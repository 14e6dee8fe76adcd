import Derived.Test.YtghggcehloiemabMdUaAll
import Derived.Test.YtghggcehloiemabRefVal2All
import Derived.Test.YtghggcehloiemabMdS
import Derived.Test.YtghggcehloiemabOpenTAll
namespace Go.Proofs.Ytghggcehloiemab
open Go.RowKit
set_option linter.unusedVariables false
set_option maxRecDepth 16000
def X5 (b : Nat) (a1 a2 a3 a4 a5 : Value) (w : World) : Prop := w.cell? ⟨b, 0, none⟩ = some a1 ∧ w.cell? ⟨b, 1, none⟩ = some a2 ∧ w.cell? ⟨b, 2, none⟩ = some a3 ∧ w.cell? ⟨b, 3, none⟩ = some a4 ∧ w.cell? ⟨b, 4, none⟩ = some a5
theorem X5.of {w : World} {b : Nat} {a1 a2 a3 a4 a5 : Value} {T : TypeId} (h : w.heap[b]? = some (.cells #[a1, a2, a3, a4, a5] T (0, 0))) : X5 b a1 a2 a3 a4 a5 w := by
  refine ⟨?_, ?_, ?_, ?_, ?_⟩ <;> (rw [cell_of_row _ _ _ _ _ _ h]; rfl)
set_option maxHeartbeats 4000000 in
theorem sample_any {w : World} (t : P.Ty 4) (v : Value) (S : Nat → Prop) (hsm : P.Sm 4 t) (hnm : P.Nm 4 t) (hT : TypAt w 4 t v S) (hS : ∀ g, S g → g < w.heap.size) (h32 : (P.sz 4 t).1 ≤ 32) :
    Calls Try.prog 6 #[v] w fun e w' => e = .returned (.string ⟨(P.valueP 4 t (List.replicate (P.sz 4 t).1 0)).toArray⟩) ∧ Below w.heap.size w w' := by
  obtain ⟨q1, p2, p3, p4, p5, p6, p7, rfl⟩ := hT.is
  obtain ⟨vs, hvs⟩ : ∃ s : ByteArray, (⟨(P.valueP 4 t (List.replicate (P.sz 4 t).1 0)).toArray⟩ : ByteArray) = s := ⟨_, rfl⟩
  have HV : Hid (∀ w', Below w.heap.size w w' → Calls Try.prog 17 #[.agg #[.int .u8 q1, .int .i64 (P.sz 4 t).1, .int .i64 (P.sz 4 t).2, .slice p2 p3 p4, .slice p5 p6 p7], .string ⟨(List.replicate (P.sz 4 t).1 (0 : UInt8)).toArray⟩] w' fun e w'' => e = .returned (.string vs) ∧ Below w'.heap.size w' w'') := by
    intro w' hb
    have := value_all 4 t _ S ⟨(List.replicate (P.sz 4 t).1 (0 : UInt8)).toArray⟩ w' hsm hnm (hT.of (fun g hg => hb.block g (hS g hg)) (fun g hg => hg)) (fun g hg => by have := hS g hg; have := hb.size; omega) (by simp [ByteArray.size]) (Nat.le_refl _)
    simpa [hvs] using this
  obtain ⟨z1, hz1⟩ : ∃ z, (P.sz 4 t).1 = z := ⟨_, rfl⟩
  obtain ⟨z2, hz2⟩ : ∃ z, (P.sz 4 t).2 = z := ⟨_, rfl⟩
  rw [hz1, hz2] at HV
  rw [hz1, hz2]
  rw [hz1] at hvs h32
  rw [hvs]
  have hmk := run_make_row' (P := Try.prog) 45 5 (.int .u8 0) 1 Try.underlying45 Try.infoU8 rfl .i64 .i64 z1 (by omega) (by omega)
  have HMK := hid_m hmk
  have hbA : Below w.heap.size w (w.alloc (.cells #[.int .u8 q1, .int .i64 z1, .int .i64 z2, .slice p2 p3 p4, .slice p5 p6 p7] 33)) := (Below.refl _ _).alloc (Nat.le_refl _) _
  have hnA : (w.alloc (.cells #[.int .u8 q1, .int .i64 z1, .int .i64 z2, .slice p2 p3 p4, .slice p5 p6 p7] 33)).heap[w.heap.size]? = some (.cells #[.int .u8 q1, .int .i64 z1, .int .i64 z2, .slice p2 p3 p4, .slice p5 p6 p7] 33 (0, 0)) := heap_alloc_new _ _
  have B0 := hid_m hbA
  have HN0 := hid_m hnA
  clear hmk hT hS hsm hnm hz1 hz2 hvs h32 hbA hnA
  go_enter Try.func6, Try.ntmps6
  go_wp2_with fail
  obtain ⟨W, hW⟩ : ∃ W, (w.alloc (.cells #[.int .u8 q1, .int .i64 z1, .int .i64 z2, .slice p2 p3 p4, .slice p5 p6 p7] 33)) = W := ⟨_, rfl⟩
  rw [hW] at B0 HN0 ⊢
  obtain ⟨tb, htb⟩ : ∃ tb, w.heap.size = tb := ⟨_, rfl⟩
  rw [htb] at HN0 ⊢
  have HTB := hid_m htb
  clear hW htb
  have HX0 := hid_m (X5.of HN0.out)
  refine wp_region_held_drew (S := X5 tb (.int .u8 q1) (.int .i64 z1) (.int .i64 z2) (.slice p2 p3 p4) (.slice p5 p6 p7)) (by kernel_rfl) HX0.out (fun hHeld => ?_)
  refine wpAnyH_take (i := 0) (v := ?_) rfl (by kernel_rfl) (by kernel_rfl) (by kernel_rfl) (fun _ _ _ h => h) (Or.inl ⟨by rfl, ?_⟩) (by assumption) ?_
  rotate_left
  · intro w hSw
    obtain ⟨x0, x1, x2, x3, x4⟩ := hSw
    go_simp
    all_goals with_reducible rfl
  try simp only [Act.put]
  refine wpAnyH_take (i := 1) (v := ?_) rfl (by kernel_rfl) (by kernel_rfl) (by kernel_rfl) (fun _ _ _ h => h) (Or.inl ⟨by rfl, ?_⟩) (by assumption) ?_
  rotate_left
  · intro w hSw
    obtain ⟨x0, x1, x2, x3, x4⟩ := hSw
    go_simp
    all_goals with_reducible rfl
  try simp only [Act.put]
  refine wpAnyH_take (i := 2) (v := ?_) rfl (by kernel_rfl) (by kernel_rfl) (by kernel_rfl) (fun _ _ _ h => h) (Or.inl ⟨by rfl, ?_⟩) (by assumption) ?_
  rotate_left
  · intro w hSw
    obtain ⟨x0, x1, x2, x3, x4⟩ := hSw
    go_simp
    all_goals with_reducible rfl
  try simp only [Act.put]
  refine wpAnyH_ready (rs := [3]) (by kernel_rfl) (by simp) ?_
  refine AllReadyH.cons (o := _) rfl (fun K hK => ?_) AllReadyH.nil
  have hmk := HMK.out
  go_simp
  clear hmk
  have B1 : Hid (Below w.heap.size w (W.alloc (.cells (madeCells #[.int .u8 0] z1) 5)).drew) := (B0.out.alloc B0.out.size _).drew
  have HN1 : Hid ((W.alloc (.cells (madeCells #[.int .u8 0] z1) 5)).drew.heap[tb]? = some (.cells #[.int .u8 q1, .int .i64 z1, .int .i64 z2, .slice p2 p3 p4, .slice p5 p6 p7] 33 (0, 0))) := blk_on (((Below.refl _ _).alloc (Nat.le_refl _) _).drew) HN0.out
  have HY1 : Hid (By (W.alloc (.cells (madeCells #[.int .u8 0] z1) 5)).drew W.heap.size (List.replicate z1 0)) := By.made W z1
  have HX1 := hid_m (X5.of HN1.out)
  obtain ⟨W1, hW1⟩ : ∃ X, (W.alloc (.cells (madeCells #[.int .u8 0] z1) 5)).drew = X := ⟨_, rfl⟩
  obtain ⟨gb, hgb⟩ : ∃ X, W.heap.size = X := ⟨_, rfl⟩
  rw [hW1] at B1 HN1 HY1 HX1 ⊢
  rw [hgb] at HY1 ⊢
  clear hW1 hgb
  refine hK.out _ _ HX1.out (fun hHelda => ?_)
  clear hK K
  try simp only [Act.put]
  have hcv := HY1.out.str (n := z1) (by simp)
  refine wpAnyH_ready (rs := [4]) (by kernel_rfl) (by simp) ?_
  refine AllReadyH.cons (o := _) rfl (fun K hK => ?_) AllReadyH.nil
  go_simp
  clear hcv
  refine hK.out _ _ HX1.out (fun hHeldb => ?_)
  clear hK K
  try simp only [Act.put]
  refine wpAnyH_ready (rs := [5]) (by kernel_rfl) (by simp) ?_
  refine AllReadyH.cons (o := _) rfl (fun K hK => ?_) AllReadyH.nil
  go_simp
  refine (HV.out W1 B1.out).mono ?_
  rintro e w2 ⟨rfl, hb2⟩
  have B2 := hid_m (B1.out.trans (hb2.mono B1.out.size))
  have HX2 := hid_m (X5.of (blk_on hb2 HN1.out))
  clear hb2
  go_wp2_with fail
  refine hK.out _ _ HX2.out (fun hHeldc => ?_)
  clear hK K
  try simp only [Act.put]
  refine wpAnyH_ready (rs := [6]) (by kernel_rfl) (by simp) ?_
  refine AllReadyH.cons (o := _) rfl (fun K hK => ?_) AllReadyH.nil
  go_simp
  refine hK.out _ _ HX2.out (fun hHeldd => ?_)
  clear hK K
  try simp only [Act.put]
  refine wpAnyH_done (by kernel_rfl) ?_ _
  go_wp2_with fail
  go_ret
  exact ⟨rfl, B2.out⟩
end Go.Proofs.Ytghggcehloiemab
namespace Go.Proofs.Ytghggcehloiemab
open Go.RowKit
set_option linter.unusedVariables false
set_option maxRecDepth 16000
theorem SrunPost.same {w w' : World} {B M sl room : Nat} {a1 a2 a3 a4 a5 b1 b2 b3 b4 b5 : Value} {tk tv : P.Ty 4} {Sk Sv : Nat → Prop} {code mem : ByteArray} {lv : Value} {L : List (ByteArray × ByteArray)} {T : List (List UInt8)} (h : Shp w B M sl room a1 a2 a3 a4 a5 b1 b2 b3 b4 b5 tk tv Sk Sv code mem lv L) (hP : P.ShopP tk tv sl mem.data.toList L T) (hb : Below w.heap.size w w') : SrunPost w w' B M sl room a1 a2 a3 a4 a5 b1 b2 b3 b4 b5 tk tv Sk Sv code lv :=
  ⟨⟨mem, lv, L, T, h.on hb, hP, fun g hg => Or.inl hg⟩, Fr.of hb⟩
/-- A shop's run of any task. -/
theorem srun_any {w : World} (B M sl room : Nat) (a1 a2 a3 a4 a5 b1 b2 b3 b4 b5 : Value) (tk tv : P.Ty 4) (Sk Sv : Nat → Prop) (code mem : ByteArray) (lv : Value) (L : List (ByteArray × ByteArray)) (T : List (List UInt8)) (t : Int) (k v : ByteArray) (f g a s : Int)
    (h : Shp w B M sl room a1 a2 a3 a4 a5 b1 b2 b3 b4 b5 tk tv Sk Sv code mem lv L) (smk : P.Sm 4 tk) (smv : P.Sm 4 tv) (nmk : P.Nm 4 tk) (nmv : P.Nm 4 tv) (hks : k.size ≤ 1099511627776) (hvs : v.size ≤ 1099511627776) (hf : I6 f) (hg : I6 g) (ha : I6 a)
    (hP : P.ShopP tk tv sl mem.data.toList L T) (hcode : code = ⟨(P.text (P.prog (P.cov (P.parts 4 tk)) (P.cov (P.parts 4 tv)) sl).resolve).toArray⟩) (hisc : P.IsCode (P.text (P.prog (P.cov (P.parts 4 tk)) (P.cov (P.parts 4 tv)) sl).resolve))
    (hroom0 : room = 1 + sl * ((P.cov (P.parts 4 tk)).length + (P.cov (P.parts 4 tv)).length)) (hroom : room ≤ 1100) :
    Calls Try.prog 5 #[.pointer (some ⟨B, 0, none⟩), taskV t k v f g a s] w fun e w' => e = .returned (.bool true) ∧ SrunPost w w' B M sl room a1 a2 a3 a4 a5 b1 b2 b3 b4 b5 tk tv Sk Sv code lv := by
  by_cases hno : (P.lieP 4 tk k.data.toList).isSome = true ∧ (P.lieP 4 tv v.data.toList).isSome = true ∧ 0 ≤ t ∧ t ≤ 4294967295
  · obtain ⟨h1, h2, h3, h4⟩ := hno
    obtain ⟨Lk, hLk⟩ := Option.isSome_iff_exists.1 h1
    obtain ⟨Lv, hLv⟩ := Option.isSome_iff_exists.1 h2
    obtain ⟨n, rfl⟩ : ∃ n : Nat, t = n := ⟨t.toNat, by omega⟩
    exact srun_yes B M sl room a1 a2 a3 a4 a5 b1 b2 b3 b4 b5 tk tv Sk Sv code mem lv L n k v f g a s h smk smv hks hvs nmk nmv T Lk Lv hLk hLv (by omega) hf hg hP hcode hisc hroom0 hroom ha.1 ha.2
  · exact (srun_no B M sl room a1 a2 a3 a4 a5 b1 b2 b3 b4 b5 tk tv Sk Sv code mem lv L t k v f g a s h smk smv hks hvs hno).mono (fun e w' hh => ⟨hh.1, .same h hP hh.2⟩)
/-- A shop's types. -/
def Y10 (B : Nat) (a1 a2 a3 a4 a5 b1 b2 b3 b4 b5 : Value) (w : World) : Prop :=
  w.cell? ⟨B, 0, none⟩ = some a1 ∧ w.cell? ⟨B, 1, none⟩ = some a2 ∧ w.cell? ⟨B, 2, none⟩ = some a3 ∧ w.cell? ⟨B, 3, none⟩ = some a4 ∧ w.cell? ⟨B, 4, none⟩ = some a5 ∧ w.cell? ⟨B, 5, none⟩ = some b1 ∧ w.cell? ⟨B, 6, none⟩ = some b2 ∧ w.cell? ⟨B, 7, none⟩ = some b3 ∧ w.cell? ⟨B, 8, none⟩ = some b4 ∧ w.cell? ⟨B, 9, none⟩ = some b5
theorem Y10.of {w : World} {B M sl room : Nat} {a1 a2 a3 a4 a5 b1 b2 b3 b4 b5 lv : Value} {code mem : ByteArray} {T : TypeId} {L : List (ByteArray × ByteArray)}
    (h : Mp w B 13 M sl (shopC a1 a2 a3 a4 a5 b1 b2 b3 b4 b5 code room mem sl lv) T lv L) : Y10 B a1 a2 a3 a4 a5 b1 b2 b3 b4 b5 w := by
  refine ⟨?_, ?_, ?_, ?_, ?_, ?_, ?_, ?_, ?_, ?_⟩ <;> (rw [cell_of_row _ _ _ _ _ _ h.blk]; rfl)
/-- The list of tasks as the law reads it. -/
def TasksAt (w : World) (x : Option Addr) (N : Nat) : Prop := ∀ i, i < N → ∃ (b o : Nat) (t : Int) (k v : ByteArray) (f g a s : Int), x = some ⟨b, o, none⟩ ∧ b < w.heap.size ∧
  (w.cell? ⟨b, o + i * 7, none⟩ = some (.int .i64 t) ∧ w.cell? ⟨b, o + i * 7 + 1, none⟩ = some (.string k) ∧ w.cell? ⟨b, o + i * 7 + 2, none⟩ = some (.string v) ∧ w.cell? ⟨b, o + i * 7 + 3, none⟩ = some (.int .i64 f) ∧ w.cell? ⟨b, o + i * 7 + 4, none⟩ = some (.int .i64 g) ∧ w.cell? ⟨b, o + i * 7 + 5, none⟩ = some (.int .i64 a) ∧ w.cell? ⟨b, o + i * 7 + 6, none⟩ = some (.int .i64 s)) ∧
  k.size ≤ 1099511627776 ∧ v.size ≤ 1099511627776 ∧ I6 f ∧ I6 g ∧ I6 a
set_option maxHeartbeats 4000000 in
theorem made_no (sk sv : ByteArray) (slots : Int) (x : Option Addr) (N cap : Nat) (w : World) (hk : sk.size ≤ maxLen) (hv : sv.size ≤ maxLen) (he : P.errOf sk.data.toList sv.data.toList slots ≠ 0) :
    Calls Try.prog 3 #[.string sk, .string sv, .int .i64 slots, .slice x N cap] w fun e w' => e = .returned (.bool true) ∧ Below w.heap.size w w' := by
  have HO := hid_m (opened_no sk sv slots w hk hv he)
  clear hk hv he
  go_enter Try.func3, Try.ntmps3
  go_wp2_with fail
  refine HO.out.mono ?_
  rintro e w1 ⟨rfl, hb1⟩
  have B1 := hid_m hb1
  clear hb1
  go_wp2_with fail
  go_ret
  exact ⟨rfl, B1.out⟩
set_option maxHeartbeats 4000000 in
theorem made_yes (sk sv : ByteArray) (slots : Int) (x : Option Addr) (N cap : Nat) (w : World) (hk : sk.size ≤ maxLen) (hv : sv.size ≤ maxLen) (hN : N ≤ maxLen) (hts : TasksAt w x N) (he : P.errOf sk.data.toList sv.data.toList slots = 0) :
    Calls Try.prog 3 #[.string sk, .string sv, .int .i64 slots, .slice x N cap] w fun e w' => e = .returned (.bool true) ∧ Below w.heap.size w w' := by
  obtain ⟨tk, tv, h1, h2, h3, h4, h5, h6, h7, h8⟩ := P.room_ok he
  have hisc := prog_code he
  rw [h8] at hisc
  obtain ⟨sl, hsl⟩ : ∃ sl : Nat, slots = sl := ⟨slots.toNat, by omega⟩
  have hst : slots.toNat = sl := by omega
  rw [hst] at h7 h8 hisc
  rw [p_ty_eq] at h1 h2
  obtain ⟨kk, smk, nmk⟩ := known_r h1
  obtain ⟨kv, smv, nmv⟩ := known_r h2
  have hsl16 : sl ≤ 16 := by omega
  have hrm : 1 + sl * ((P.cov (P.parts 4 tk)).length + (P.cov (P.parts 4 tv)).length) ≤ 1100 := by
    have g2 := kk.covl; have g3 := kk.sz32; have g4 := kv.covl; have g5 := kv.sz32
    have := Nat.mul_le_mul hsl16 (show (P.cov (P.parts 4 tk)).length + (P.cov (P.parts 4 tv)).length ≤ 64 by omega)
    omega
  obtain ⟨room, hroom0⟩ : ∃ r, r = 1 + sl * ((P.cov (P.parts 4 tk)).length + (P.cov (P.parts 4 tv)).length) := ⟨_, rfl⟩
  obtain ⟨code, hcode⟩ : ∃ c : ByteArray, c = ⟨(P.text (P.prog (P.cov (P.parts 4 tk)) (P.cov (P.parts 4 tv)) sl).resolve).toArray⟩ := ⟨_, rfl⟩
  rw [← hroom0] at hrm h7
  have HO := hid_m (opened_yes sk sv slots w hk hv he tk tv h1 h2 sl hsl hsl16 room h7 (by omega) hrm code (by rw [h8, hcode]))
  have HRUN : Hid (∀ (w : World) (B M : Nat) (a1 a2 a3 a4 a5 b1 b2 b3 b4 b5 : Value) (Sk Sv : Nat → Prop) (mem : ByteArray) (lv : Value) (L : List (ByteArray × ByteArray)) (T : List (List UInt8)) (t : Int) (k v : ByteArray) (f g a s : Int),
      Shp w B M sl room a1 a2 a3 a4 a5 b1 b2 b3 b4 b5 tk tv Sk Sv code mem lv L → k.size ≤ 1099511627776 → v.size ≤ 1099511627776 → I6 f → I6 g → I6 a → P.ShopP tk tv sl mem.data.toList L T →
      Calls Try.prog 5 #[.pointer (some ⟨B, 0, none⟩), .agg #[.int .i64 t, .string k, .string v, .int .i64 f, .int .i64 g, .int .i64 a, .int .i64 s]] w fun e w' => e = .returned (.bool true) ∧ SrunPost w w' B M sl room a1 a2 a3 a4 a5 b1 b2 b3 b4 b5 tk tv Sk Sv code lv) :=
    fun w B M a1 a2 a3 a4 a5 b1 b2 b3 b4 b5 Sk Sv mem lv L T t k v f g a s h hks hvs hf hg ha hP => srun_any B M sl room a1 a2 a3 a4 a5 b1 b2 b3 b4 b5 tk tv Sk Sv code mem lv L T t k v f g a s h smk smv nmk nmv hks hvs hf hg ha hP hcode hisc hroom0 hrm
  have HE : Hid (∀ mem : List UInt8, mem[0]? = some 0 → mem.length = room + 160 → P.ShopP tk tv sl mem [] []) := fun mem m0 ml => P.shopP_empty kk kv hsl16 m0 (by rw [ml, hroom0])
  have HSK : Hid (∀ (w : World) (v : Value) (S : Nat → Prop), TypAt w 4 tk v S → (∀ g, S g → g < w.heap.size) → Calls Try.prog 6 #[v] w fun e w' => ∃ s : ByteArray, e = .returned (.string s) ∧ s.size ≤ 1099511627776 ∧ Below w.heap.size w w') := fun w v S hT hS =>
    (sample_any tk v S smk nmk hT hS kk.sz32).mono (fun e w' hh => ⟨_, hh.1, by rw [bsz]; have := P.val_len 4 tk (List.replicate (P.sz 4 tk).1 0) smk nmk (by simp); omega, hh.2⟩)
  have HSV : Hid (∀ (w : World) (v : Value) (S : Nat → Prop), TypAt w 4 tv v S → (∀ g, S g → g < w.heap.size) → Calls Try.prog 6 #[v] w fun e w' => ∃ s : ByteArray, e = .returned (.string s) ∧ s.size ≤ 1099511627776 ∧ Below w.heap.size w w') := fun w v S hT hS =>
    (sample_any tv v S smv nmv hT hS kv.sz32).mono (fun e w' hh => ⟨_, hh.1, by rw [bsz]; have := P.val_len 4 tv (List.replicate (P.sz 4 tv).1 0) smv nmv (by simp); omega, hh.2⟩)
  have HTS := hid_m hts
  unfold maxLen at hN
  clear hk hv he h1 h2 h3 h4 h5 h6 h7 h8 hisc hsl hst kk smk nmk kv smv nmv hsl16 hrm hroom0 hcode hts
  go_enter Try.func3, Try.ntmps3
  go_wp2_with fail
  refine HO.out.mono ?_
  rintro e w1 ⟨⟨B, M, a1, a2, a3, a4, a5, b1, b2, b3, b4, b5, Sk, Sv, mem, rfl, hB, hM, hs, hm0, hml⟩, hb1⟩
  have B1 := hid_m hb1
  have HS := hid_m hs
  have HP0 := hid_m (HE.out _ hm0 hml)
  have HBM := hid_m (And.intro hB hM)
  clear hb1 hs hm0 hml hB hM HO
  go_wp2_with fail
  go_loopw [10, 11] (fun ok i wr => ∃ (t : Nat), t ≤ N ∧ i = .int .i64 t ∧ Hid (Below w.heap.size w wr) ∧ Hid (∃ (mem : ByteArray) (lv : Value) (L : List (ByteArray × ByteArray)) (T : List (List UInt8)), Shp wr B M sl room a1 a2 a3 a4 a5 b1 b2 b3 b4 b5 tk tv Sk Sv code mem lv L ∧ P.ShopP tk tv sl mem.data.toList L T)) (fun _ i _ => N - (intOf i).toNat)
  case atStart => exact ⟨0, Nat.zero_le _, rfl, B1.out, _, _, _, _, HS.out, HP0.out⟩
  case round =>
    obtain ⟨t, ht, rfl, hb, hsh⟩ := hrel
    by_cases hlt : t < N
    · obtain ⟨bb, oo, tt, k, v, f, g, a, s, hx, hbl, hc, hks, hvs, hf, hg, ha⟩ := HTS.out t hlt
      subst hx
      obtain ⟨d0, d1, d2, d3, d4, d5, d6⟩ := hc
      rw [← hb.out.cell (p := ⟨bb, _, none⟩) hbl] at d0 d1 d2 d3 d4 d5 d6
      have j0 : (0 : Int) ≤ (t : Int) := Int.natCast_nonneg t
      have j1 : (t : Int) < (N : Int) := by omega
      have HTN : Hid (t + 1 ≤ N) := hlt
      have HTW : Hid (wrap64 ((t : Int) + 1) = (t : Int) + 1) := w64_id _ (by omega) (by omega)
      have HA := hid_m (And.intro hks (And.intro hvs (And.intro hf (And.intro hg ha))))
      clear ht hlt hbl hks hvs hf hg ha
      obtain ⟨mem', lv, L, T, hsp, hpp⟩ := hsh.out
      have HSP := hid_m hsp
      have HPP := hid_m hpp
      clear hsp hpp hsh
      go_wp2_with fail
      refine (HRUN.out wr B M a1 a2 a3 a4 a5 b1 b2 b3 b4 b5 Sk Sv mem' lv L T tt k v f g a s HSP.out HA.out.1 HA.out.2.1 HA.out.2.2.1 HA.out.2.2.2.1 HA.out.2.2.2.2 HPP.out).mono ?_
      rintro e w2 ⟨rfl, hpost⟩
      have HB2 : Hid (Below w.heap.size w w2) := hb.out.trans (hpost.fr.below HBM.out.1 (fun g hg => Nat.le_trans HBM.out.2 (HSP.out.mp.own.lt g hg).1) hb.out.size)
      have HEX : Hid (∃ (mem : ByteArray) (lv : Value) (L : List (ByteArray × ByteArray)) (T : List (List UInt8)), Shp w2 B M sl room a1 a2 a3 a4 a5 b1 b2 b3 b4 b5 tk tv Sk Sv code mem lv L ∧ P.ShopP tk tv sl mem.data.toList L T) := by
        obtain ⟨m, l, L, T, y1, y2, y3⟩ := hpost.ex
        exact ⟨m, l, L, T, y1, y2⟩
      clear hpost d0 d1 d2 d3 d4 d5 d6
      go_wp2_with fail
      exact ⟨⟨t + 1, HTN.out, by first | (rw [HTW.out]; exact next_t) | exact next_t, HB2, HEX⟩, by first | (rw [HTW.out]; exact less_t HTN.out) | exact less_t HTN.out⟩
    · have hte : t = N := by omega
      subst hte
      clear ht hlt
      obtain ⟨mem', lv, L, T, hsp, hpp⟩ := hsh.out
      obtain ⟨q1, p2, p3, p4, p5, p6, p7, hk5⟩ := hsp.tk.is
      simp only [Value.agg.injEq, Array.mk.injEq, List.cons.injEq, and_true] at hk5
      obtain ⟨rfl, rfl, rfl, rfl, rfl⟩ := hk5
      obtain ⟨r1, s2, s3, s4, s5, s6, s7, hv5⟩ := hsp.tv.is
      simp only [Value.agg.injEq, Array.mk.injEq, List.cons.injEq, and_true] at hv5
      obtain ⟨rfl, rfl, rfl, rfl, rfl⟩ := hv5
      obtain ⟨z1, hz1⟩ : ∃ z, (P.sz 4 tk).1 = z := ⟨_, rfl⟩
      obtain ⟨z2, hz2⟩ : ∃ z, (P.sz 4 tk).2 = z := ⟨_, rfl⟩
      obtain ⟨z3, hz3⟩ : ∃ z, (P.sz 4 tv).1 = z := ⟨_, rfl⟩
      obtain ⟨z4, hz4⟩ : ∃ z, (P.sz 4 tv).2 = z := ⟨_, rfl⟩
      rw [hz1, hz2, hz3, hz4] at hsp
      have HSP := hid_m hsp
      have HPP := hid_m hpp
      have HX0 := hid_m (Y10.of hsp.mp)
      clear hsp hpp hsh hz1 hz2 hz3 hz4 HS
      go_wp2_with fail
      refine wp_region_held_drew (S := Y10 B (.int .u8 q1) (.int .i64 z1) (.int .i64 z2) (.slice p2 p3 p4) (.slice p5 p6 p7) (.int .u8 r1) (.int .i64 z3) (.int .i64 z4) (.slice s2 s3 s4) (.slice s5 s6 s7)) (by kernel_rfl) HX0.out (fun hHeld => ?_)
      refine wpAnyH_take (i := 0) (v := ?_) rfl (by kernel_rfl) (by kernel_rfl) (by kernel_rfl) (fun _ _ _ h => h) (Or.inl ⟨by rfl, ?_⟩) (by assumption) ?_
      rotate_left
      · intro w hSw
        obtain ⟨x0, x1, x2, x3, x4, x5, x6, x7, x8, x9⟩ := hSw
        go_simp
        all_goals with_reducible rfl
      try simp only [Act.put]
      refine wpAnyH_take (i := 1) (v := ?_) rfl (by kernel_rfl) (by kernel_rfl) (by kernel_rfl) (fun _ _ _ h => h) (Or.inl ⟨by rfl, ?_⟩) (by assumption) ?_
      rotate_left
      · intro w hSw
        obtain ⟨x0, x1, x2, x3, x4, x5, x6, x7, x8, x9⟩ := hSw
        go_simp
        all_goals with_reducible rfl
      try simp only [Act.put]
      refine wpAnyH_take (i := 2) (v := ?_) rfl (by kernel_rfl) (by kernel_rfl) (by kernel_rfl) (fun _ _ _ h => h) (Or.inl ⟨by rfl, ?_⟩) (by assumption) ?_
      rotate_left
      · intro w hSw
        obtain ⟨x0, x1, x2, x3, x4, x5, x6, x7, x8, x9⟩ := hSw
        go_simp
        all_goals with_reducible rfl
      try simp only [Act.put]
      refine wpAnyH_take (i := 3) (v := ?_) rfl (by kernel_rfl) (by kernel_rfl) (by kernel_rfl) (fun _ _ _ h => h) (Or.inl ⟨by rfl, ?_⟩) (by assumption) ?_
      rotate_left
      · intro w hSw
        obtain ⟨x0, x1, x2, x3, x4, x5, x6, x7, x8, x9⟩ := hSw
        go_simp
        all_goals with_reducible rfl
      try simp only [Act.put]
      refine wpAnyH_take (i := 4) (v := ?_) rfl (by kernel_rfl) (by kernel_rfl) (by kernel_rfl) (fun _ _ _ h => h) (Or.inl ⟨by rfl, ?_⟩) (by assumption) ?_
      rotate_left
      · intro w hSw
        obtain ⟨x0, x1, x2, x3, x4, x5, x6, x7, x8, x9⟩ := hSw
        go_simp
        all_goals with_reducible rfl
      try simp only [Act.put]
      refine wpAnyH_take (i := 6) (v := ?_) rfl (by kernel_rfl) (by kernel_rfl) (by kernel_rfl) (fun _ _ _ h => h) (Or.inl ⟨by rfl, ?_⟩) (by assumption) ?_
      rotate_left
      · intro w hSw
        obtain ⟨x0, x1, x2, x3, x4, x5, x6, x7, x8, x9⟩ := hSw
        go_simp
        all_goals with_reducible rfl
      try simp only [Act.put]
      refine wpAnyH_take (i := 7) (v := ?_) rfl (by kernel_rfl) (by kernel_rfl) (by kernel_rfl) (fun _ _ _ h => h) (Or.inl ⟨by rfl, ?_⟩) (by assumption) ?_
      rotate_left
      · intro w hSw
        obtain ⟨x0, x1, x2, x3, x4, x5, x6, x7, x8, x9⟩ := hSw
        go_simp
        all_goals with_reducible rfl
      try simp only [Act.put]
      refine wpAnyH_take (i := 8) (v := ?_) rfl (by kernel_rfl) (by kernel_rfl) (by kernel_rfl) (fun _ _ _ h => h) (Or.inl ⟨by rfl, ?_⟩) (by assumption) ?_
      rotate_left
      · intro w hSw
        obtain ⟨x0, x1, x2, x3, x4, x5, x6, x7, x8, x9⟩ := hSw
        go_simp
        all_goals with_reducible rfl
      try simp only [Act.put]
      refine wpAnyH_take (i := 9) (v := ?_) rfl (by kernel_rfl) (by kernel_rfl) (by kernel_rfl) (fun _ _ _ h => h) (Or.inl ⟨by rfl, ?_⟩) (by assumption) ?_
      rotate_left
      · intro w hSw
        obtain ⟨x0, x1, x2, x3, x4, x5, x6, x7, x8, x9⟩ := hSw
        go_simp
        all_goals with_reducible rfl
      try simp only [Act.put]
      refine wpAnyH_ready (rs := [5]) (by kernel_rfl) (by simp) ?_
      refine AllReadyH.cons (o := _) rfl (fun K hK => ?_) AllReadyH.nil
      go_simp
      refine (HSK.out wr.drew _ Sk HSP.out.drew.tk (fun g hg => by have := (HSP.out.sk g hg).1; have := HSP.out.drew.mp.here; omega)).mono ?_
      rintro e w2 ⟨sk', rfl, hsk', hb2⟩
      have B2 := hid_m (below_of_drew hb2)
      have HX2 := hid_m (Y10.of (HSP.out.on B2.out).mp)
      clear hb2
      go_wp2_with fail
      refine hK.out _ _ HX2.out (fun hHelda => ?_)
      clear hK K
      try simp only [Act.put]
      refine wpAnyH_ready (rs := [10]) (by kernel_rfl) (by simp) ?_
      refine AllReadyH.cons (o := _) rfl (fun K hK => ?_) AllReadyH.nil
      go_simp
      refine (HSV.out w2 _ Sv (HSP.out.on B2.out).tv (fun g hg => by have := (HSP.out.sv g hg).1; have := (HSP.out.on B2.out).mp.here; omega)).mono ?_
      rintro e w3 ⟨sv', rfl, hsv', hb3⟩
      have B3 := hid_m (B2.out.trans (hb3.mono B2.out.size))
      have HX3 := hid_m (Y10.of (HSP.out.on B3.out).mp)
      clear hb3
      go_wp2_with fail
      refine hK.out _ _ HX3.out (fun hHeldb => ?_)
      clear hK K
      try simp only [Act.put]
      refine wpAnyH_take (i := 11) (v := ?_) rfl (by kernel_rfl) (by kernel_rfl) (by kernel_rfl) (fun _ _ _ h => h) (Or.inl ⟨by rfl, ?_⟩) (by assumption) ?_
      rotate_left
      · intro w hSw
        obtain ⟨x0, x1, x2, x3, x4, x5, x6, x7, x8, x9⟩ := hSw
        go_simp
        all_goals with_reducible rfl
      try simp only [Act.put]
      refine wpAnyH_ready (rs := [12]) (by kernel_rfl) (by simp) ?_
      refine AllReadyH.cons (o := _) rfl (fun K hK => ?_) AllReadyH.nil
      go_simp
      refine (HRUN.out w3 B M _ _ _ _ _ _ _ _ _ _ Sk Sv mem' lv L T 4 sk' sv' 0 0 0 0 (HSP.out.on B3.out) hsk' hsv' ⟨by decide, by decide⟩ ⟨by decide, by decide⟩ ⟨by decide, by decide⟩ HPP.out).mono ?_
      rintro e w4 ⟨rfl, hpost⟩
      have B4 : Hid (Below w.heap.size w w4) := (hb.out.trans (B3.out.mono hb.out.size)).trans (hpost.fr.below HBM.out.1 (fun g hg => Nat.le_trans HBM.out.2 ((HSP.out.on B3.out).mp.own.lt g hg).1) (Nat.le_trans hb.out.size B3.out.size))
      have HX4 : Hid (Y10 B (.int .u8 q1) (.int .i64 z1) (.int .i64 z2) (.slice p2 p3 p4) (.slice p5 p6 p7) (.int .u8 r1) (.int .i64 z3) (.int .i64 z4) (.slice s2 s3 s4) (.slice s5 s6 s7) w4) := by
        obtain ⟨m, l, L, T, y1, y2, y3⟩ := hpost.ex
        exact Y10.of y1.mp
      clear hpost
      go_wp2_with fail
      refine hK.out _ _ HX4.out (fun hHeldc => ?_)
      clear hK K
      try simp only [Act.put]
      refine wpAnyH_ready (rs := [13]) (by kernel_rfl) (by simp) ?_
      refine AllReadyH.cons (o := _) rfl (fun K hK => ?_) AllReadyH.nil
      go_simp
      refine hK.out _ _ HX4.out (fun hHeldd => ?_)
      clear hK K
      try simp only [Act.put]
      refine wpAnyH_done (by kernel_rfl) ?_ _
      go_wp2_with fail
      go_ret
      exact ⟨rfl, B4.out⟩
end Go.Proofs.Ytghggcehloiemab
