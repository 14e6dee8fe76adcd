import Derived.Test.YtghggcehloiemabOpenTAll
import Derived.Test.YtghggcehloiemabRefSizeAll
namespace Go.Proofs.Ytghggcehloiemab
open Go.RowKit
set_option linter.unusedVariables false
set_option maxRecDepth 16000
def dropS : Nat → Code → Code
  | 0, c => c
  | k + 1, .seq _ b => dropS k b
  | _ + 1, c => c
theorem bsz (l : List UInt8) : (⟨l.toArray⟩ : ByteArray).size = l.length := by simp [ByteArray.size]
/-- A shop behind a run. -/
structure SrunPost (w0 w' : World) (B M sl room : Nat) (a1 a2 a3 a4 a5 b1 b2 b3 b4 b5 : Value) (tk tv : P.Ty 4) (Sk Sv : Nat → Prop) (code : ByteArray) (lv : Value) : Prop where
  ex : ∃ (mem' : ByteArray) (lv' : Value) (L' : List (ByteArray × ByteArray)) (T' : List (List UInt8)), Shp w' B M sl room a1 a2 a3 a4 a5 b1 b2 b3 b4 b5 tk tv Sk Sv code mem' lv' L' ∧ P.ShopP tk tv sl mem'.data.toList L' T' ∧ Nx w0 lv lv'
  fr : Fr B lv.ownBlock w0 w'
theorem Shp.fr {w w' : World} {B M sl room : Nat} {a1 a2 a3 a4 a5 b1 b2 b3 b4 b5 : Value} {tk tv : P.Ty 4} {Sk Sv : Nat → Prop} {code mem : ByteArray} {lv lv' : Value} {L L' : List (ByteArray × ByteArray)} (h : Shp w B M sl room a1 a2 a3 a4 a5 b1 b2 b3 b4 b5 tk tv Sk Sv code mem lv L)
    (hm : Mp w' B 13 M sl ((shopC a1 a2 a3 a4 a5 b1 b2 b3 b4 b5 code room mem sl lv).setIfInBounds 14 lv') 38 lv' L') (hf : Fr B lv.ownBlock w w') : Shp w' B M sl room a1 a2 a3 a4 a5 b1 b2 b3 b4 b5 tk tv Sk Sv code mem lv' L' := by
  have key : ∀ g, g < M ∧ g ≠ B → w'.heap[g]? = w.heap[g]? := fun g hg => hf.block g (by have := h.mp.here; omega) hg.2 (fun e => by have := (h.mp.own.lt g e).1; omega)
  exact ⟨hm, h.tk.of (fun g hg => key g (h.sk g hg)) (fun g hg => hg), h.tv.of (fun g hg => key g (h.sv g hg)) (fun g hg => hg), h.sk, h.sv⟩
theorem Shp.mem {w : World} {B M sl room : Nat} {a1 a2 a3 a4 a5 b1 b2 b3 b4 b5 : Value} {tk tv : P.Ty 4} {Sk Sv : Nat → Prop} {code mem : ByteArray} {lv : Value} {L : List (ByteArray × ByteArray)} (h : Shp w B M sl room a1 a2 a3 a4 a5 b1 b2 b3 b4 b5 tk tv Sk Sv code mem lv L)
    (m : ByteArray) : Shp (w.setCell ⟨B, 12, none⟩ (.string m)) B M sl room a1 a2 a3 a4 a5 b1 b2 b3 b4 b5 tk tv Sk Sv code m lv L := by
  refine ⟨⟨?_, rfl, rfl, ?_, h.mp.lt, by have := h.mp.here; simp [World.setCell]; omega, h.mp.few, h.mp.sl16⟩, h.tk.of (fun g hg => set_other (h.sk g hg).2) (fun g hg => hg), h.tv.of (fun g hg => set_other (h.sv g hg).2) (fun g hg => hg), h.sk, h.sv⟩
  · simp only [World.setCell, Array.getElem?_modify, h.mp.blk]; simp [shopC]
  · exact m_owns_of h.mp.own (fun g hg => set_other (by have := (h.mp.own.lt g hg).1; have := h.mp.lt; omega))
theorem Shp.drew {w : World} {B M sl room : Nat} {a1 a2 a3 a4 a5 b1 b2 b3 b4 b5 : Value} {tk tv : P.Ty 4} {Sk Sv : Nat → Prop} {code mem : ByteArray} {lv : Value} {L : List (ByteArray × ByteArray)} (h : Shp w B M sl room a1 a2 a3 a4 a5 b1 b2 b3 b4 b5 tk tv Sk Sv code mem lv L) : Shp w.drew B M sl room a1 a2 a3 a4 a5 b1 b2 b3 b4 b5 tk tv Sk Sv code mem lv L := h.on ((Below.refl _ _).drew)
theorem mapDo_find {sl : Nat} {k v : ByteArray} {L : List (ByteArray × ByteArray)} : (P.mapDo sl 1 k v L).2 = L := by unfold P.mapDo; rw [if_pos rfl]
theorem mapDo_count {sl : Nat} {k v : ByteArray} {L : List (ByteArray × ByteArray)} : (P.mapDo sl 4 k v L).2 = L := by unfold P.mapDo; rw [if_neg (by decide), if_neg (by decide), if_neg (by decide), if_pos rfl]
end Go.Proofs.Ytghggcehloiemab
namespace Go.Proofs.Ytghggcehloiemab
open Go.RowKit
set_option linter.unusedVariables false
set_option maxRecDepth 16000
set_option maxHeartbeats 4000000 in
theorem program_any (a0 a1 : ByteArray) (a2 : Int) (w0 : a0.size ≤ maxLen) (w1 : a1.size ≤ maxLen) (w : World) :
    Calls Try.prog 7 #[.string a0, .string a1, .int .i64 a2] w fun e w' => e = .returned (.tuple #[.int .i64 (P.roomOf a0.data.toList a1.data.toList a2), .string ⟨(P.progOf a0.data.toList a1.data.toList a2).toArray⟩, .bool true]) ∧ Below w.heap.size w w' := by
  have hR := fun w => room_any a0 a1 a2 w w0 w1
  have hC := fun w => compile_any a0 a1 a2 w w0 w1
  have hF := fun w => rRefused_any a0 a1 a2 w w0 w1
  have hSk := fun w => rSize_any a0 w w0
  have hSv := fun w => rSize_any a1 w w1
  obtain ⟨rm, hrm⟩ : ∃ r, P.roomOf a0.data.toList a1.data.toList a2 = r := ⟨_, rfl⟩
  obtain ⟨tx, htx⟩ : ∃ t : ByteArray, (⟨(P.progOf a0.data.toList a1.data.toList a2).toArray⟩ : ByteArray) = t := ⟨_, rfl⟩
  obtain ⟨er, her⟩ : ∃ r, P.errOf a0.data.toList a1.data.toList a2 = r := ⟨_, rfl⟩
  rw [hrm, her] at hR
  rw [htx, her] at hC
  rw [her] at hF
  rw [hrm, htx]
  obtain ⟨k, hk⟩ : ∃ k, (P.rsizeOf a0.data.toList).1 = k := ⟨_, rfl⟩
  obtain ⟨k2, hk2⟩ : ∃ k, (P.rsizeOf a0.data.toList).2.1 = k := ⟨_, rfl⟩
  obtain ⟨k3, hk3⟩ : ∃ k, (P.rsizeOf a0.data.toList).2.2 = k := ⟨_, rfl⟩
  obtain ⟨v, hv⟩ : ∃ k, (P.rsizeOf a1.data.toList).1 = k := ⟨_, rfl⟩
  obtain ⟨v2, hv2⟩ : ∃ k, (P.rsizeOf a1.data.toList).2.1 = k := ⟨_, rfl⟩
  obtain ⟨v3, hv3⟩ : ∃ k, (P.rsizeOf a1.data.toList).2.2 = k := ⟨_, rfl⟩
  rw [hk, hk2, hk3] at hSk
  rw [hv, hv2, hv3] at hSv
  have HR := hid_m hR
  have HC := hid_m hC
  have HF := hid_m hF
  have HSK := hid_m hSk
  have HSV := hid_m hSv
  clear hR hC hF hSk hSv
  by_cases h0 : er = 0
  · subst h0
    have hm := room_most her
    rw [hk, hv, hrm] at hm
    obtain ⟨s1, s16, k32, v32, hle⟩ := hm
    have hIC : ∀ w, Calls Try.prog 22 #[.string tx] w fun e w' => e = .returned (.bool true) ∧ Below w.heap.size w w' := fun w => by
      have hc := prog_code her
      have hl := prog_len her
      have ht : tx.data.toList = P.progOf a0.data.toList a1.data.toList a2 := by rw [← htx]
      have := risCode_any tx w (by rw [← htx]; unfold maxLen; show (P.progOf a0.data.toList a1.data.toList a2).toArray.size ≤ _; simp; omega)
      rw [ht, decide_eq_true hc] at this
      exact this
    have HIC := hid_m hIC
    obtain ⟨sl, rfl⟩ : ∃ sl : Nat, a2 = (sl : Int) := ⟨a2.toNat, by omega⟩
    obtain ⟨t1, ht1⟩ : ∃ t, k + v = t := ⟨_, rfl⟩
    obtain ⟨t2, ht2⟩ : ∃ t, t1 + 4 = t := ⟨_, rfl⟩
    obtain ⟨t3, ht3⟩ : ∃ t, sl * t2 = t := ⟨_, rfl⟩
    have e3 : (sl : Int) * (t2 : Int) = (t3 : Int) := by rw [← ht3]; exact (Int.natCast_mul _ _).symm
    have b3 : t3 ≤ 16 * 68 := by rw [← ht3]; exact Nat.mul_le_mul (by omega) (by omega)
    have hle3 : rm ≤ t3 := by
      have e4 : (sl : Int) * ((k : Int) + (v : Int) + 4) = (t3 : Int) := by rw [← e3, ← ht2, ← ht1]; simp
      rw [e4] at hle; omega
    have W1 : Hid (wrap64 ((k : Int) + (v : Int)) = (t1 : Int)) := by unfold Hid; rw [w64_id _ (by omega) (by omega)]; omega
    have W2 : Hid (wrap64 ((t1 : Int) + 4) = (t2 : Int)) := by unfold Hid; rw [w64_id _ (by omega) (by omega)]; omega
    have W3 : Hid (wrap64 ((sl : Int) * (t2 : Int)) = (t3 : Int)) := by unfold Hid; rw [e3, w64_id _ (by omega) (by omega)]
    have hn0 : (0 : Int) ≤ (rm : Int) := Int.natCast_nonneg _
    have hn1 : (rm : Int) ≤ (t3 : Int) := by omega
    clear hle hIC s1 s16 k32 v32 ht1 ht2 ht3 e3 b3 hle3 her hrm htx hk hk2 hk3 hv hv2 hv3
    go_enter Try.func7, Try.ntmps7
    go_wp2_with fail
    refine (HR.out _).mono ?_
    rintro e v1 ⟨rfl, hb1⟩
    have B1 := hid_m hb1
    clear hb1
    go_wp2_with fail
    refine (HC.out _).mono ?_
    rintro e v2 ⟨rfl, hb2⟩
    have B2 := hid_m (B1.out.trans (hb2.mono B1.out.size))
    clear hb2
    go_wp2_with fail
    refine (HF.out _).mono ?_
    rintro e v3 ⟨rfl, hb3⟩
    have B3 := hid_m (B2.out.trans (hb3.mono B2.out.size))
    clear hb3
    go_wp2_with fail
    refine (p_num_any _ _).mono ?_
    rintro e v4 ⟨rfl, hv4⟩
    subst v4
    go_wp2_with fail
    refine (p_num_any _ _).mono ?_
    rintro e v4 ⟨rfl, hv4⟩
    subst v4
    go_wp2_with fail
    refine (HSK.out _).mono ?_
    rintro e v4 ⟨rfl, hb4⟩
    have B4 := hid_m (B3.out.trans (hb4.mono B3.out.size))
    clear hb4
    go_wp2_with fail
    refine (HSV.out _).mono ?_
    rintro e v5 ⟨rfl, hb5⟩
    have B5 := hid_m (B4.out.trans (hb5.mono B4.out.size))
    clear hb5
    go_wp2_with fail
    refine (HIC.out _).mono ?_
    rintro e v6 ⟨rfl, hb6⟩
    have B6 := hid_m (B5.out.trans (hb6.mono B5.out.size))
    clear hb6
    have w1 := W1.out
    have w2 := W2.out
    have w3 := W3.out
    go_wp2_with fail
    go_ret3
    exact ⟨rfl, B6.out⟩
  · have hno := P.room_no (by rw [her]; exact h0)
    rw [hrm, her] at hno
    obtain ⟨rfl, hp0, hor⟩ := hno
    have htx0 : tx = ⟨#[]⟩ := by rw [← htx, hp0]
    subst htx0
    clear hp0 h0 her hrm htx hk hk2 hk3 hv hv2 hv3 HSK HSV
    have key : ∀ er : Nat, (er = 1 ∨ er = 6) → Hid (∀ w, Calls Try.prog 18 #[.string a0, .string a1, .int .i64 a2] w fun e w' => e = .returned (.tuple #[.int .i64 (0 : Nat), .int .i64 er]) ∧ Below w.heap.size w w') → Hid (∀ w, Calls Try.prog 19 #[.string a0, .string a1, .int .i64 a2] w fun e w' => e = .returned (.tuple #[.string ⟨#[]⟩, .int .i64 er]) ∧ Below w.heap.size w w') → Hid (∀ w, Calls Try.prog 8 #[.string a0, .string a1, .int .i64 a2] w fun e w' => e = .returned (.int .i64 er) ∧ Below w.heap.size w w') →
        Calls Try.prog 7 #[.string a0, .string a1, .int .i64 a2] w fun e w' => e = .returned (.tuple #[.int .i64 (0 : Nat), .string ⟨#[]⟩, .bool true]) ∧ Below w.heap.size w w' := by
      clear HR HC HF hor
      intro er hor HR HC HF
      have h0 : ¬ (er : Int) = 0 := by omega
      clear hor
      go_enter Try.func7, Try.ntmps7
      go_wp2_with fail
      refine (HR.out _).mono ?_
      rintro e v1 ⟨rfl, hb1⟩
      have B1 := hid_m hb1
      clear hb1
      go_wp2_with fail
      refine (HC.out _).mono ?_
      rintro e v2 ⟨rfl, hb2⟩
      have B2 := hid_m (B1.out.trans (hb2.mono B1.out.size))
      clear hb2
      go_wp2_with fail
      refine (HF.out _).mono ?_
      rintro e v3 ⟨rfl, hb3⟩
      have B3 := hid_m (B2.out.trans (hb3.mono B2.out.size))
      clear hb3
      go_wp2_with fail
      refine (p_num_any _ _).mono ?_
      rintro e v4 ⟨rfl, hv4⟩
      subst v4
      go_wp2_with fail
      refine (p_num_any _ _).mono ?_
      rintro e v4 ⟨rfl, hv4⟩
      subst v4
      go_wp2_with fail
      go_ret3
      exact ⟨rfl, B3.out⟩
    exact key er hor HR HC HF
end Go.Proofs.Ytghggcehloiemab
namespace Go.Proofs.Ytghggcehloiemab
open Go.RowKit
set_option linter.unusedVariables false
set_option maxRecDepth 16000
set_option maxHeartbeats 1000000 in
theorem opened_no (sk sv : ByteArray) (slots : Int) (w : World) (hk : sk.size ≤ maxLen) (hv : sv.size ≤ maxLen) (he : P.errOf sk.data.toList sv.data.toList slots ≠ 0) :
    Calls Try.prog 4 #[.string sk, .string sv, .int .i64 slots] w fun e w' => e = .returned (.tuple #[.pointer none, .bool true]) ∧ Below w.heap.size w w' := by
  have HP := hid_m (fun w => program_any sk sv slots hk hv w)
  have HR := hid_m (fun w => rRefused_any sk sv slots w hk hv)
  obtain ⟨er, her⟩ : ∃ er, P.errOf sk.data.toList sv.data.toList slots = er := ⟨_, rfl⟩
  rw [her] at HR he
  obtain ⟨rm, hrm⟩ : ∃ r, P.roomOf sk.data.toList sv.data.toList slots = r := ⟨_, rfl⟩
  obtain ⟨tx, htx⟩ : ∃ t : ByteArray, (⟨(P.progOf sk.data.toList sv.data.toList slots).toArray⟩ : ByteArray) = t := ⟨_, rfl⟩
  rw [hrm, htx] at HP
  have hne : ((er : Int) == 0) = false := by rw [beq_eq_false_iff_ne]; omega
  clear her hrm htx he
  go_enter Try.func4, Try.ntmps4
  go_wp2_with fail
  refine (HP.out _).mono ?_
  rintro e v1 ⟨rfl, hb1⟩
  have B1 := hid_m hb1
  clear hb1
  go_wp2_with fail
  refine (HR.out _).mono ?_
  rintro e v2 ⟨rfl, hb2⟩
  have B2 := hid_m (B1.out.trans (hb2.mono B1.out.size))
  clear hb2
  go_wp2_with fail
  go_ret2
  exact ⟨rfl, B2.out⟩
theorem blk_on {w w' : World} {b : Nat} {o : Obj} (hb : Below w.heap.size w w') (h : w.heap[b]? = some o) : w'.heap[b]? = some o := by rw [hb.block b (m_blk_lt h)]; exact h
theorem shop_set5 {w : World} {B : Nat} {c0 c1 c2 c3 c4 : Value} {x5 x6 x7 x8 x9 x10 x11 x12 x13 x14 : Value} (a1 a2 a3 a4 a5 : Value) (h : w.heap[B]? = some (.cells #[c0, c1, c2, c3, c4, x5, x6, x7, x8, x9, x10, x11, x12, x13, x14] 38 (0, 0))) :
    (((((w.setCell ⟨B, 0, none⟩ a1).setCell ⟨B, 1, none⟩ a2).setCell ⟨B, 2, none⟩ a3).setCell ⟨B, 3, none⟩ a4).setCell ⟨B, 4, none⟩ a5).heap[B]? = some (.cells #[a1, a2, a3, a4, a5, x5, x6, x7, x8, x9, x10, x11, x12, x13, x14] 38 (0, 0)) := by
  simp [World.setCell, Array.getElem?_modify, h]
theorem shop_set10 {w : World} {B : Nat} {c0 c1 c2 c3 c4 : Value} {x5 x6 x7 x8 x9 x10 x11 x12 x13 x14 : Value} (a1 a2 a3 a4 a5 : Value) (h : w.heap[B]? = some (.cells #[c0, c1, c2, c3, c4, x5, x6, x7, x8, x9, x10, x11, x12, x13, x14] 38 (0, 0))) :
    (((((w.setCell ⟨B, 5, none⟩ a1).setCell ⟨B, 6, none⟩ a2).setCell ⟨B, 7, none⟩ a3).setCell ⟨B, 8, none⟩ a4).setCell ⟨B, 9, none⟩ a5).heap[B]? = some (.cells #[c0, c1, c2, c3, c4, a1, a2, a3, a4, a5, x10, x11, x12, x13, x14] 38 (0, 0)) := by
  simp [World.setCell, Array.getElem?_modify, h]
theorem shop_set13 {w : World} {B : Nat} {c0 c1 c2 c3 c4 : Value} {x5 x6 x7 x8 x9 x10 x11 x12 x13 x14 : Value} (a1 : Value) (h : w.heap[B]? = some (.cells #[c0, c1, c2, c3, c4, x5, x6, x7, x8, x9, x10, x11, x12, x13, x14] 38 (0, 0))) :
    (w.setCell ⟨B, 13, none⟩ a1).heap[B]? = some (.cells #[c0, c1, c2, c3, c4, x5, x6, x7, x8, x9, x10, x11, x12, a1, x14] 38 (0, 0)) := by
  simp [World.setCell, Array.getElem?_modify, h]
theorem shop_cells {w : World} {B : Nat} {x0 x1 x2 x3 x4 x5 x6 x7 x8 x9 x10 x11 x12 x13 x14 : Value} (h : w.heap[B]? = some (.cells #[x0, x1, x2, x3, x4, x5, x6, x7, x8, x9, x10, x11, x12, x13, x14] 38 (0, 0))) :
    w.cell? ⟨B, 0, none⟩ = some x0 ∧ w.cell? ⟨B, 1, none⟩ = some x1 ∧ w.cell? ⟨B, 2, none⟩ = some x2 ∧ w.cell? ⟨B, 3, none⟩ = some x3 ∧ w.cell? ⟨B, 4, none⟩ = some x4 ∧ w.cell? ⟨B, 5, none⟩ = some x5 ∧ w.cell? ⟨B, 6, none⟩ = some x6 ∧ w.cell? ⟨B, 7, none⟩ = some x7 ∧ w.cell? ⟨B, 8, none⟩ = some x8 ∧ w.cell? ⟨B, 9, none⟩ = some x9 ∧ w.cell? ⟨B, 10, none⟩ = some x10 ∧ w.cell? ⟨B, 11, none⟩ = some x11 ∧ w.cell? ⟨B, 12, none⟩ = some x12 ∧ w.cell? ⟨B, 13, none⟩ = some x13 ∧ w.cell? ⟨B, 14, none⟩ = some x14 ∧ ∀ j, w.frozen? ⟨B, j, none⟩ = false := by
  refine ⟨?_, ?_, ?_, ?_, ?_, ?_, ?_, ?_, ?_, ?_, ?_, ?_, ?_, ?_, ?_, fun j => by simp [World.frozen?, h]⟩ <;> rw [cell_of_row _ _ _ _ _ _ h] <;> rfl
/-- Nothing turned but blocks from N on. -/
theorem below_set {N : Nat} {w w' : World} (h : Below N w w') {B o : Nat} (v : Value) (hB : N ≤ B) : Below N w (w'.setCell ⟨B, o, none⟩ v) := h.setCell hB v
/-- Bytes that a call made, in a block of their own. -/
def By (w : World) (g : Nat) (l : List UInt8) : Prop := w.heap[g]? = some (.cells (l.map u8v).toArray 5 (0, 0))
theorem By.cell {w : World} {g i : Nat} {l : List UInt8} {c : UInt8} (h : By w g l) (hi : l[i]? = some c) : w.cell? ⟨g, i, none⟩ = some (.int .u8 c.toNat) := by
  rw [cell_of_row _ _ _ _ _ _ h]; simp [hi, u8v]
theorem By.fz {w : World} {g : Nat} {l : List UInt8} (h : By w g l) (i : Nat) : w.frozen? ⟨g, i, none⟩ = false := by unfold By at h; simp [World.frozen?, h]
theorem By.set {w : World} {g i : Nat} {l : List UInt8} (c : UInt8) (h : By w g l) : By (w.setCell ⟨g, i, none⟩ (.int .u8 c.toNat)) g (l.set i c) := by
  unfold By at *
  simp [World.setCell, Array.getElem?_modify, h, List.map_set, u8v]
theorem By.made (w : World) (n : Nat) : By (w.alloc (.cells (madeCells #[.int .u8 0] n) 5)) w.heap.size (List.replicate n 0) := by
  unfold By
  have e : madeCells #[.int .u8 0] n = ((List.replicate n (0 : UInt8)).map u8v).toArray := by
    apply Array.toList_inj.1
    rw [toList_madeCells_one]; simp [u8v]
  rw [e]; exact heap_alloc_new w _
theorem By.str {w : World} {g n : Nat} {l : List UInt8} (h : By w g l) (hn : l.length = n) : (convert 45 9 (.slice (some ⟨g, 0, none⟩) n n)).run Try.prog w = .ok (.string ⟨l.toArray⟩) w := by
  subst hn
  have := run_convert_bytes_arg (P := Try.prog) w 45 5 Try.underlying45 Try.underlying5 g 0 l.length l.length (l.map fun c => (c.toNat : Int)) (by simp) (by
    intro j hj
    rw [Nat.zero_add]
    have := h.cell (i := j) (List.getElem?_eq_getElem hj)
    simpa [List.getD, List.getElem?_eq_getElem hj, u8v] using this) 9 Try.underlying9
  rw [this]
  congr 2
  simp [strOfNums, Function.comp_def]
/-- What 'opened' answers. -/
structure OpenPost (w : World) (e : Ending) (w' : World) (tk tv : P.Ty 4) (sl room : Nat) (code : ByteArray) : Prop where
  ex : ∃ (B M : Nat) (a1 a2 a3 a4 a5 b1 b2 b3 b4 b5 : Value) (Sk Sv : Nat → Prop) (mem : ByteArray), e = .returned (.tuple #[.pointer (some ⟨B, 0, none⟩), .bool true]) ∧ w.heap.size ≤ B ∧ w.heap.size ≤ M ∧ Shp w' B M sl room a1 a2 a3 a4 a5 b1 b2 b3 b4 b5 tk tv Sk Sv code mem (.slice none 0 0) [] ∧ mem.data.toList[0]? = some 0 ∧ mem.data.toList.length = room + 160
  bel : Below w.heap.size w w'
set_option maxHeartbeats 4000000 in
theorem opened_yes (sk sv : ByteArray) (slots : Int) (w : World) (hk : sk.size ≤ maxLen) (hv : sv.size ≤ maxLen) (he : P.errOf sk.data.toList sv.data.toList slots = 0) (tk tv : P.Ty 4) (htk : P.rtyOf sk.data.toList = some tk) (htv : P.rtyOf sv.data.toList = some tv) (sl : Nat) (hsl : slots = sl) (hsl16 : sl ≤ 16)
    (room : Nat) (hroom : P.roomOf sk.data.toList sv.data.toList slots = room) (hr1 : 1 ≤ room) (hr2 : room ≤ 1100) (code : ByteArray) (hcode : (⟨(P.progOf sk.data.toList sv.data.toList slots).toArray⟩ : ByteArray) = code) :
    Calls Try.prog 4 #[.string sk, .string sv, .int .i64 slots] w fun e w' => OpenPost w e w' tk tv sl room code := by
  have HP := hid_m (fun w => program_any sk sv slots hk hv w)
  have HR := hid_m (fun w => rRefused_any sk sv slots w hk hv)
  have HKP := hid_m (fun w => rParse_any sk w hk)
  have HVP := hid_m (fun w => rParse_any sv w hv)
  rw [he] at HR
  rw [hroom, hcode] at HP
  rw [htk] at HKP
  rw [htv] at HVP
  subst hsl
  obtain ⟨N, hN⟩ : ∃ n, room + 160 = n := ⟨_, rfl⟩
  have hmk := run_make_row' (P := Try.prog) 45 5 (.int .u8 0) 1 Try.underlying45 Try.infoU8 rfl .i64 .i64 N (by omega) (by omega)
  have hw : IntKind.i64.wrap ((room : Int) + 160) = (N : Int) := by rw [wrap_id _ (by omega) (by omega)]; omega
  have HMK := hid_m hmk
  have HW := hid_m hw
  have HN := hid_m hN
  have HR1 := hid_m hr1
  have HR2 := hid_m hr2
  have HS := hid_m hsl16
  clear hmk hw hN hk hv he htk htv hsl16 hroom hr1 hr2 hcode
  go_enter Try.func4, Try.ntmps4
  go_wp2_with fail
  refine (HP.out _).mono ?_
  rintro e v1 ⟨rfl, hb1⟩
  have B1 := hid_m hb1
  clear hb1
  go_wp2_with fail
  refine (HR.out _).mono ?_
  rintro e v2 ⟨rfl, hb2⟩
  have B2 := hid_m (B1.out.trans (hb2.mono B1.out.size))
  clear hb2 B1
  go_wp2_with fail
  have hbB : (v2.alloc (.cells #[.int .u8 0, .int .i64 0, .int .i64 0, .slice none 0 0, .slice none 0 0, .int .u8 0, .int .i64 0, .int .i64 0, .slice none 0 0, .slice none 0 0, .string code, .int .i64 room, .string ⟨#[]⟩, .int .i64 0, .slice none 0 0] 38)).heap[v2.heap.size]? = some (.cells (shopC (.int .u8 0) (.int .i64 0) (.int .i64 0) (.slice none 0 0) (.slice none 0 0) (.int .u8 0) (.int .i64 0) (.int .i64 0) (.slice none 0 0) (.slice none 0 0) code room ⟨#[]⟩ 0 (.slice none 0 0)) 38 (0, 0)) := heap_alloc_new _ _
  have hB3 : Below w.heap.size w (v2.alloc (.cells #[.int .u8 0, .int .i64 0, .int .i64 0, .slice none 0 0, .slice none 0 0, .int .u8 0, .int .i64 0, .int .i64 0, .slice none 0 0, .slice none 0 0, .string code, .int .i64 room, .string ⟨#[]⟩, .int .i64 0, .slice none 0 0] 38)) := B2.out.alloc B2.out.size _
  have hBs : w.heap.size ≤ v2.heap.size := B2.out.size
  obtain ⟨B, hBe⟩ : ∃ B, v2.heap.size = B := ⟨_, rfl⟩
  generalize (v2.alloc (.cells #[.int .u8 0, .int .i64 0, .int .i64 0, .slice none 0 0, .slice none 0 0, .int .u8 0, .int .i64 0, .int .i64 0, .slice none 0 0, .slice none 0 0, .string code, .int .i64 room, .string ⟨#[]⟩, .int .i64 0, .slice none 0 0] 38)) = w3 at hbB hB3 ⊢
  rw [hBe] at hbB hBs ⊢
  have BB3 := hid_m hbB
  have B3 := hid_m hB3
  have HBS := hid_m hBs
  clear hbB hB3 hBs hBe B2 v2
  refine (HKP.out _).mono ?_
  rintro e w4 ⟨⟨vk, Sk, rfl, hTk, hSk⟩, hb4⟩
  obtain ⟨q1, p2, p3, p4, p5, p6, p7, rfl⟩ := hTk.is
  obtain ⟨z1, hz1⟩ : ∃ z, (P.sz 4 tk).1 = z := ⟨_, rfl⟩
  obtain ⟨z2, hz2⟩ : ∃ z, (P.sz 4 tk).2 = z := ⟨_, rfl⟩
  rw [hz1, hz2] at hTk ⊢
  have HTK := hid_m hTk
  have HSK := hid_m hSk
  have B4 := hid_m (B3.out.trans (hb4.mono B3.out.size))
  have BB4 := hid_m (blk_on hb4 BB3.out)
  have HS4 := hid_m hb4.size
  clear hTk hSk hb4 hz1 hz2
  go_wp2_with fail
  have hc4 : (w4.alloc (.cells #[.int .u8 q1, .int .i64 z1, .int .i64 z2, .slice p2 p3 p4, .slice p5 p6 p7] 33)).heap[w4.heap.size]? = some (.cells #[.int .u8 q1, .int .i64 z1, .int .i64 z2, .slice p2 p3 p4, .slice p5 p6 p7] 33 (0, 0)) := heap_alloc_new _ _
  have hb5 : Below w4.heap.size w4 (w4.alloc (.cells #[.int .u8 q1, .int .i64 z1, .int .i64 z2, .slice p2 p3 p4, .slice p5 p6 p7] 33)) := (Below.refl _ _).alloc (Nat.le_refl _) _
  obtain ⟨tb, htb⟩ : ∃ B, w4.heap.size = B := ⟨_, rfl⟩
  have HTB := hid_m htb
  generalize (w4.alloc (.cells #[.int .u8 q1, .int .i64 z1, .int .i64 z2, .slice p2 p3 p4, .slice p5 p6 p7] 33)) = w5 at hc4 hb5 ⊢
  have B5 := hid_m (B4.out.trans (hb5.mono B4.out.size))
  have BB5 := hid_m (blk_on hb5 BB4.out)
  have HB45 := hid_m hb5
  rw [htb] at hc4 ⊢
  have HC5 := hid_m hc4
  clear hc4 hb5 htb
  refine (HVP.out _).mono ?_
  rintro e w6 ⟨⟨vv, Sv, rfl, hTv, hSv⟩, hb6⟩
  obtain ⟨r1, s2, s3, s4, s5, s6, s7, rfl⟩ := hTv.is
  obtain ⟨z3, hz3⟩ : ∃ z, (P.sz 4 tv).1 = z := ⟨_, rfl⟩
  obtain ⟨z4, hz4⟩ : ∃ z, (P.sz 4 tv).2 = z := ⟨_, rfl⟩
  rw [hz3, hz4] at hTv ⊢
  have HTV := hid_m hTv
  have HSV := hid_m hSv
  have B6 := hid_m (B5.out.trans (hb6.mono B5.out.size))
  have BB6 := hid_m (blk_on hb6 BB5.out)
  have HC6 := hid_m (blk_on hb6 HC5.out)
  have HB46 := hid_m (HB45.out.trans (hb6.mono HB45.out.size))
  have HS56 := hid_m hb6.size
  clear hTv hSv hb6 hz3 hz4
  rename_i K7 hK7 Kc hKc
  have HK7 := hid_m hK7
  clear hK7
  go_wp2_with fail
  have hc6 : (w6.alloc (.cells #[.int .u8 r1, .int .i64 z3, .int .i64 z4, .slice s2 s3 s4, .slice s5 s6 s7] 33)).heap[w6.heap.size]? = some (.cells #[.int .u8 r1, .int .i64 z3, .int .i64 z4, .slice s2 s3 s4, .slice s5 s6 s7] 33 (0, 0)) := heap_alloc_new _ _
  have hb7 : Below w6.heap.size w6 (w6.alloc (.cells #[.int .u8 r1, .int .i64 z3, .int .i64 z4, .slice s2 s3 s4, .slice s5 s6 s7] 33)) := (Below.refl _ _).alloc (Nat.le_refl _) _
  have hs7 : w6.heap.size + 1 = (w6.alloc (.cells #[.int .u8 r1, .int .i64 z3, .int .i64 z4, .slice s2 s3 s4, .slice s5 s6 s7] 33)).heap.size := by simp
  obtain ⟨ub, hub⟩ : ∃ B, w6.heap.size = B := ⟨_, rfl⟩
  have HUB := hid_m hub
  generalize (w6.alloc (.cells #[.int .u8 r1, .int .i64 z3, .int .i64 z4, .slice s2 s3 s4, .slice s5 s6 s7] 33)) = w7 at hc6 hb7 hs7 ⊢
  have B7 := hid_m (B6.out.trans (hb7.mono B6.out.size))
  have BB7 := hid_m (blk_on hb7 BB6.out)
  have HC7 := hid_m (blk_on hb7 HC6.out)
  have HB47 := hid_m (HB46.out.trans (hb7.mono HB46.out.size))
  have HB67 := hid_m hb7
  rw [hub] at hc6 ⊢
  have HU7 := hid_m hc6
  have HS7 := hid_m hs7
  clear hc6 hb7 hub hs7
  refine HK7.out _ _ ?_
  refine wp_seq_k (fun K8 hK8 => ?_)
  have HK8 := hid_m hK8
  clear hK8 HK7
  obtain ⟨m0, m1, m2, m3, m4⟩ := cells5 HC7.out
  obtain ⟨n0, n1, n2, n3, n4, n5, n6, n7, n8, n9, n10, n11, n12, n13, n14, nf⟩ := shop_cells BB7.out
  go_wp2_with fail
  obtain ⟨w8, hw8⟩ : ∃ W, (((((w7.setCell ⟨B, 0, none⟩ (.int .u8 q1)).setCell ⟨B, 1, none⟩ (.int .i64 z1)).setCell ⟨B, 2, none⟩ (.int .i64 z2)).setCell ⟨B, 3, none⟩ (.slice p2 p3 p4)).setCell ⟨B, 4, none⟩ (.slice p5 p6 p7)) = W := ⟨_, rfl⟩
  have hbb8 := shop_set5 (.int .u8 q1) (.int .i64 z1) (.int .i64 z2) (.slice p2 p3 p4) (.slice p5 p6 p7) BB7.out
  have hb8 : Below w.heap.size w w8 := by rw [← hw8]; exact ((((B7.out.setCell HBS.out _).setCell HBS.out _).setCell HBS.out _).setCell HBS.out _).setCell HBS.out _
  have ho8 : ∀ g, g ≠ B → w8.heap[g]? = w7.heap[g]? := fun g hg => by rw [← hw8, set_other hg, set_other hg, set_other hg, set_other hg, set_other hg]
  have hs8 : w8.heap.size = w7.heap.size := by rw [← hw8]; simp [World.setCell]
  rw [hw8] at hbb8 ⊢
  have BB8 := hid_m hbb8
  have B8 := hid_m hb8
  have HO8 := hid_m ho8
  have HS8 := hid_m hs8
  have hBu : ub ≠ B := by have := HUB.out; have := m_blk_lt BB6.out; omega
  have HU8 := hid_m (show w8.heap[ub]? = some (.cells #[.int .u8 r1, .int .i64 z3, .int .i64 z4, .slice s2 s3 s4, .slice s5 s6 s7] 33 (0, 0)) by rw [ho8 ub hBu]; exact HU7.out)
  clear hw8 hbb8 hb8 ho8 hs8 m0 m1 m2 m3 m4 n0 n1 n2 n3 n4 n5 n6 n7 n8 n9 n10 n11 n12 n13 n14 nf
  refine HK8.out _ _ ?_
  refine wp_seq_k (fun K9 hK9 => ?_)
  have HK9 := hid_m hK9
  clear hK9 HK8
  obtain ⟨m0, m1, m2, m3, m4⟩ := cells5 HU8.out
  obtain ⟨n0, n1, n2, n3, n4, n5, n6, n7, n8, n9, n10, n11, n12, n13, n14, nf⟩ := shop_cells BB8.out
  have HBU := hid_m hBu
  clear hBu
  go_wp2_with fail
  obtain ⟨w9, hw9⟩ : ∃ W, (((((w8.setCell ⟨B, 5, none⟩ (.int .u8 r1)).setCell ⟨B, 6, none⟩ (.int .i64 z3)).setCell ⟨B, 7, none⟩ (.int .i64 z4)).setCell ⟨B, 8, none⟩ (.slice s2 s3 s4)).setCell ⟨B, 9, none⟩ (.slice s5 s6 s7)) = W := ⟨_, rfl⟩
  have hbb9 := shop_set10 (.int .u8 r1) (.int .i64 z3) (.int .i64 z4) (.slice s2 s3 s4) (.slice s5 s6 s7) BB8.out
  have hb9 : Below w.heap.size w w9 := by rw [← hw9]; exact ((((B8.out.setCell HBS.out _).setCell HBS.out _).setCell HBS.out _).setCell HBS.out _).setCell HBS.out _
  have ho9 : ∀ g, g ≠ B → w9.heap[g]? = w7.heap[g]? := fun g hg => by rw [← hw9, set_other hg, set_other hg, set_other hg, set_other hg, set_other hg]; exact HO8.out g hg
  have hs9 : w9.heap.size = w7.heap.size := by rw [← HS8.out, ← hw9]; simp [World.setCell]
  rw [hw9] at hbb9 ⊢
  have BB9 := hid_m hbb9
  have B9 := hid_m hb9
  have HO9 := hid_m ho9
  have HS9 := hid_m hs9
  clear hw9 hbb9 hb9 ho9 hs9 m0 m1 m2 m3 m4 n0 n1 n2 n3 n4 n5 n6 n7 n8 n9 n10 n11 n12 n13 n14 nf
  refine HK9.out _ _ ?_
  refine wp_seq_k (fun K10 hK10 => ?_)
  have HK10 := hid_m hK10
  clear hK10 HK9
  obtain ⟨n0, n1, n2, n3, n4, n5, n6, n7, n8, n9, n10, n11, n12, n13, n14, nf⟩ := shop_cells BB9.out
  go_wp2_with fail
  obtain ⟨w10, hw10⟩ : ∃ W, (w9.setCell ⟨B, 13, none⟩ (.int .i64 sl)) = W := ⟨_, rfl⟩
  have hbb10 := shop_set13 (.int .i64 sl) BB9.out
  have hb10 : Below w.heap.size w w10 := by rw [← hw10]; exact B9.out.setCell HBS.out _
  have ho10 : ∀ g, g ≠ B → w10.heap[g]? = w7.heap[g]? := fun g hg => by rw [← hw10, set_other hg]; exact HO9.out g hg
  have hs10 : w10.heap.size = w7.heap.size := by rw [← HS9.out, ← hw10]; simp [World.setCell]
  rw [hw10] at hbb10 ⊢
  have BB10 := hid_m hbb10
  have B10 := hid_m hb10
  have HO10 := hid_m ho10
  have HS10 := hid_m hs10
  clear hw10 hbb10 hb10 ho10 hs10 n0 n1 n2 n3 n4 n5 n6 n7 n8 n9 n10 n11 n12 n13 n14 nf
  refine HK10.out _ _ ?_
  refine wp_seq_k (fun K11 hK11 => ?_)
  have HK11 := hid_m hK11
  clear hK11 HK10
  have hmk := HMK.out
  have hw := HW.out
  go_wp2_with fail
  clear hmk hw
  have hby := By.made w10 N
  have hb11 : Below w10.heap.size w10 (w10.alloc (.cells (madeCells #[.int .u8 0] N) 5)) := (Below.refl _ _).alloc (Nat.le_refl _) _
  obtain ⟨G, hG⟩ : ∃ G, w10.heap.size = G := ⟨_, rfl⟩
  generalize (w10.alloc (.cells (madeCells #[.int .u8 0] N) 5)) = w11 at hby hb11 ⊢
  rw [hG] at hby hb11 ⊢
  have HG := hid_m hG
  have HBY := hid_m hby
  have HB11 := hid_m hb11
  clear hby hb11 hG
  refine HK11.out _ _ ?_
  clear HK11
  go_wp2_with fail
  have HNR : Hid (room ≤ N ∧ N ≤ 1260 ∧ 1 ≤ room) := ⟨by have := HN.out; omega, by have := HN.out; have := HR2.out; omega, HR1.out⟩
  go_loopw [18] (fun i wr => ∃ (t : Nat) (l : List UInt8), t ≤ N ∧ i = .int .i64 t ∧ Hid (1 ≤ t) ∧ Hid (l.length = N ∧ l[0]? = some 0) ∧ Hid (By wr G l) ∧ Hid (Below G w11 wr)) (fun i _ => N - (intOf i).toNat)
  case atStart => exact ⟨room, List.replicate N 0, HNR.out.1, rfl, HNR.out.2.2, ⟨by simp, by rw [List.getElem?_replicate, if_pos (by have := HNR.out; omega)]⟩, HBY.out, Below.refl _ _⟩
  case round =>
    obtain ⟨t, l, ht, rfl, ht1, hl, hby, hbw⟩ := hrel
    by_cases hlt : t < N
    · obtain ⟨c0, hc0⟩ : ∃ c, l[t]? = some c := ⟨_, List.getElem?_eq_getElem (by have := hl.out.1; omega)⟩
      have d0 := hby.out.cell hc0
      have df := hby.out.fz t
      have j0 : (0 : Int) ≤ (t : Int) := Int.natCast_nonneg t
      have j1 : (t : Int) < (N : Int) := by omega
      have j2 : (t : Int) ≤ 1260 := by have := HNR.out; omega
      have HTN : Hid (t + 1 ≤ N) := hlt
      have HTW : Hid (wrap64 ((t : Int) + 1) = (t : Int) + 1) := w64_id _ (by omega) (by omega)
      have HC : Hid (((UInt8.ofNat (t * 7 + 3)).toNat : Int) = ((t : Int) * 7 + 3) % 256) := by unfold Hid; rw [UInt8.toNat_ofNat']; omega
      clear hc0 ht hlt
      go_wp2_with fail
      have X1 := hby.out.set (i := t) (UInt8.ofNat (t * 7 + 3))
      rw [HC.out] at X1
      refine ⟨⟨t + 1, l.set t (UInt8.ofNat (t * 7 + 3)), HTN.out, by first | (rw [HTW.out]; exact next_t) | exact next_t, Nat.le_add_left 1 t, ⟨by rw [List.length_set]; exact hl.out.1, by rw [List.getElem?_set_ne (by have := ht1.out; omega)]; exact hl.out.2⟩, X1, hbw.out.setCell (Nat.le_refl _) _⟩, by first | (rw [HTW.out]; exact less_t HTN.out) | exact less_t HTN.out⟩
    · have hte : t = N := by omega
      subst hte
      have HME : Hid (l.length = t) := hl.out.1
      have hcv := hby.out.str HME.out
      have HBW := hid_m hbw.out
      have hBG : B < G := by have := m_blk_lt BB10.out; have := HG.out; omega
      have hkeep : ∀ g, g < G → wr.heap[g]? = w10.heap[g]? := fun g hg => (hbw.out.block g hg).trans (HB11.out.block g hg)
      have hbb : wr.heap[B]? = some (.cells (shopC (.int .u8 q1) (.int .i64 z1) (.int .i64 z2) (.slice p2 p3 p4) (.slice p5 p6 p7) (.int .u8 r1) (.int .i64 z3) (.int .i64 z4) (.slice s2 s3 s4) (.slice s5 s6 s7) code room ⟨#[]⟩ sl (.slice none 0 0)) 38 (0, 0)) := by rw [hkeep B hBG]; exact BB10.out
      obtain ⟨n0, n1, n2, n3, n4, n5, n6, n7, n8, n9, n10, n11, n12, n13, n14, nf⟩ := shop_cells hbb
      have HBB := hid_m hbb
      have HBG := hid_m hBG
      have HKP2 := hid_m hkeep
      have HSZ : Hid (G ≤ wr.heap.size) := by have h1 := hbw.out.size; have h2 := HB11.out.size; have h3 := HG.out; unfold Hid; omega
      clear ht hlt hbb hBG hkeep n0 n1 n2 n3 n4 n5 n6 n7 n8 n9 n10 n11 n13 n14
      go_wp2_with fail
      go_ret2
      refine ⟨⟨B, G, .int .u8 q1, .int .i64 z1, .int .i64 z2, .slice p2 p3 p4, .slice p5 p6 p7, .int .u8 r1, .int .i64 z3, .int .i64 z4, .slice s2 s3 s4, .slice s5 s6 s7, Sk, Sv, ⟨l.toArray⟩, rfl, HBS.out, ?_, ?_, by simpa using hl.out.2, by have h1 := hl.out.1; have h2 := HN.out; simp; omega⟩, ?_⟩
      · have := B10.out.size; have := HG.out; omega
      · have s3 := B3.out.size; have s4 := HS4.out; have s5 := HB45.out.size; have s6 := HS56.out; have s7 := HS7.out; have s10 := HS10.out; have sG := HG.out; have sU := HUB.out; have sB := m_blk_lt BB3.out
        have oth : ∀ g, g < G → g ≠ B → (wr.setCell ⟨B, 12, none⟩ (.string ⟨l.toArray⟩)).heap[g]? = w7.heap[g]? := fun g hg hgB => by rw [set_other hgB, HKP2.out g hg, HO10.out g hgB]
        refine ⟨⟨?_, rfl, rfl, World.ownsRow_nil _ _ _ _, HBG.out, by simp [World.setCell]; exact HSZ.out, Nat.zero_le _, HS.out⟩, HTK.out.of (fun g hg => ?_) (fun g hg => hg), HTV.out.of (fun g hg => ?_) (fun g hg => hg), fun g hg => ?_, fun g hg => ?_⟩
        · have := HBB.out; unfold shopC at this; simp [World.setCell, Array.getElem?_modify, this, shopC]
        · have := HSK.out g hg
          rw [oth g (by omega) (by omega), HB47.out.block g (by omega)]
        · have := HSV.out g hg
          rw [oth g (by omega) (by omega), HB67.out.block g (by omega)]
        · have := HSK.out g hg; exact ⟨by omega, by omega⟩
        · have := HSV.out g hg; exact ⟨by omega, by omega⟩
      · have h1 : Below w.heap.size w wr := (B10.out.trans (HB11.out.mono (by have := B10.out.size; have := HG.out; omega))).trans (hbw.out.mono (by have := B10.out.size; have := HG.out; omega))
        exact h1.setCell HBS.out _
end Go.Proofs.Ytghggcehloiemab
