import Derived.Test.YtghggcehloiemabGreatDoorHdPAll
import Derived.Test.YtghggcehloiemabGreatDoorMcFAll
import Derived.Test.YtghggcehloiemabGreatDoorEquivAll
namespace Go.Proofs.YtghggcehloiemabGreatDoor
open Go.RowKit
set_option linter.unusedVariables false
set_option maxRecDepth 16000
def Tx (kb vb : Nat) (h0 l0 l1 l2 l3 g0 m0 m1 m2 m3 : Int) (w : World) : Prop :=
  w.cell? ⟨kb, 0, none⟩ = some (.int .i64 h0) ∧ w.cell? ⟨kb, 1, none⟩ = some (.int .i64 l0) ∧ w.cell? ⟨kb, 2, none⟩ = some (.int .i64 l1) ∧ w.cell? ⟨kb, 3, none⟩ = some (.int .i64 l2) ∧ w.cell? ⟨kb, 4, none⟩ = some (.int .i64 l3) ∧
  w.cell? ⟨vb, 0, none⟩ = some (.int .i64 g0) ∧ w.cell? ⟨vb, 1, none⟩ = some (.int .i64 m0) ∧ w.cell? ⟨vb, 2, none⟩ = some (.int .i64 m1) ∧ w.cell? ⟨vb, 3, none⟩ = some (.int .i64 m2) ∧ w.cell? ⟨vb, 4, none⟩ = some (.int .i64 m3)
theorem Tx.of {w : World} {kb vb : Nat} {h0 l0 l1 l2 l3 g0 m0 m1 m2 m3 : Int} (h : w.heap[kb]? = some (.cells #[.int .i64 h0, .int .i64 l0, .int .i64 l1, .int .i64 l2, .int .i64 l3] 24 (0, 0))) (h' : w.heap[vb]? = some (.cells #[.int .i64 g0, .int .i64 m0, .int .i64 m1, .int .i64 m2, .int .i64 m3] 24 (0, 0))) : Tx kb vb h0 l0 l1 l2 l3 g0 m0 m1 m2 m3 w := by
  refine ⟨?_, ?_, ?_, ?_, ?_, ?_, ?_, ?_, ?_, ?_⟩
  all_goals first | (rw [cell_of_row _ _ _ _ _ _ h]; rfl) | (rw [cell_of_row _ _ _ _ _ _ h']; rfl)
/-- The steps as the law reads them. -/
def StepsAt (w : World) (x : Option Addr) (N : Nat) : Prop := ∀ i, i < N → ∃ (b o : Nat) (t c0 c1 c2 c3 d0 d1 d2 d3 f : Int), x = some ⟨b, o, none⟩ ∧ b < w.heap.size ∧
  (w.cell? ⟨b, o + i * 10, none⟩ = some (.int .i64 t) ∧ w.cell? ⟨b, o + i * 10 + 1, none⟩ = some (.int .i64 c0) ∧ w.cell? ⟨b, o + i * 10 + 2, none⟩ = some (.int .i64 c1) ∧ w.cell? ⟨b, o + i * 10 + 3, none⟩ = some (.int .i64 c2) ∧ w.cell? ⟨b, o + i * 10 + 4, none⟩ = some (.int .i64 c3) ∧ w.cell? ⟨b, o + i * 10 + 5, none⟩ = some (.int .i64 d0) ∧ w.cell? ⟨b, o + i * 10 + 6, none⟩ = some (.int .i64 d1) ∧ w.cell? ⟨b, o + i * 10 + 7, none⟩ = some (.int .i64 d2) ∧ w.cell? ⟨b, o + i * 10 + 8, none⟩ = some (.int .i64 d3) ∧ w.cell? ⟨b, o + i * 10 + 9, none⟩ = some (.int .i64 f)) ∧
  I64 t ∧ (I64 c0 ∧ I64 c1 ∧ I64 c2 ∧ I64 c3) ∧ (I64 d0 ∧ I64 d1 ∧ I64 d2 ∧ I64 d3) ∧ I64 f
/-- Bytes that a call made, in a block of their own. -/
def Byk (w : World) (g : Nat) (l : List UInt8) : Prop := w.heap[g]? = some (.cells (l.map u8v).toArray 5 (0, 0))
theorem Byk.cell {w : World} {g i : Nat} {l : List UInt8} {c : UInt8} (h : Byk w g l) (hi : l[i]? = some c) : w.cell? ⟨g, i, none⟩ = some (.int .u8 c.toNat) := by
  rw [cell_of_row _ _ _ _ _ _ h]; simp [hi, u8v]
theorem Byk.made (w : World) (n : Nat) : Byk (w.alloc (.cells (madeCells #[.int .u8 0] n) 5)) w.heap.size (List.replicate n 0) := by
  unfold Byk
  have e : madeCells #[.int .u8 0] n = ((List.replicate n (0 : UInt8)).map u8v).toArray := by
    apply Array.toList_inj.1
    rw [toList_madeCells_one]; simp [u8v]
  rw [e]; exact heap_alloc_new w _
theorem Byk.str {w : World} {g n : Nat} {l : List UInt8} (h : Byk w g l) (hn : l.length = n) : (convert 38 9 (.slice (some ⟨g, 0, none⟩) n n)).run Tryz.prog w = .ok (.string ⟨l.toArray⟩) w := by
  subst hn
  have := run_convert_bytes_arg (P := Tryz.prog) w 38 5 Tryz.underlying38 Tryz.underlying5 g 0 l.length l.length (l.map fun c => (c.toNat : Int)) (by simp) (by
    intro j hj
    rw [Nat.zero_add]
    have := h.cell (i := j) (List.getElem?_eq_getElem hj)
    simpa [List.getD, List.getElem?_eq_getElem hj, u8v] using this) 9 Tryz.underlying9
  rw [this]
  congr 2
  simp [strOfNums, Function.comp_def]
set_option maxHeartbeats 8000000 in
theorem holds_any (h0 l0 l1 l2 l3 g0 m0 m1 m2 m3 slots : Int) (x : Option Addr) (N cap : Nat) (w : World) (hh : I64 h0) (hl : ∀ x ∈ [l0, l1, l2, l3], I64 x) (hg : I64 g0) (hm : ∀ x ∈ [m0, m1, m2, m3], I64 x) (hsl : I64 slots) (hN : N ≤ maxLen) (hts : StepsAt w x N) (htab : Lib.TabIs Tryz.prog w "internal/strconv.uint64pow10" .u64 Lib.pow10Tab) :
    Calls Tryz.prog 3 #[.agg #[.int .i64 h0, .int .i64 l0, .int .i64 l1, .int .i64 l2, .int .i64 l3], .agg #[.int .i64 g0, .int .i64 m0, .int .i64 m1, .int .i64 m2, .int .i64 m3], .int .i64 slots, .slice x N cap] w fun e w' => e = .returned (.bool true) ∧ Below w.heap.size w w' := by
  obtain ⟨p, hp⟩ : ∃ p, P.pickP slots 16 = p := ⟨_, rfl⟩
  have hp15 : p ≤ 15 := by rw [← hp]; have := pick_lt slots 16 (by decide); omega
  obtain ⟨n, hn⟩ : ∃ t, 1 + p = t := ⟨_, rfl⟩
  have HPT : Hid (∀ w, Calls Tryz.prog 9 #[.int .i64 slots, .int .i64 16] w fun e w' => e = .returned (.int .i64 p) ∧ w' = w) := fun w => by rw [← hp]; exact pick_any slots 16 w (by decide) (by decide) hsl.1 hsl.2
  have HW1 : Hid (IntKind.i64.wrap (1 + (p : Int)) = (n : Int)) := by unfold Hid; rw [wrap_id _ (by omega) (by omega)]; omega
  obtain ⟨tk, etk, _⟩ := P.shape_ty (P.pickP h0 6) (P.pickP l0 6) (P.pickP l1 6) (P.pickP l2 6) (P.pickP l3 6) (pick6 _) (pick6 _) (pick6 _) (pick6 _) (pick6 _)
  obtain ⟨tv, etv, _⟩ := P.shape_ty (P.pickP g0 6) (P.pickP m0 6) (P.pickP m1 6) (P.pickP m2 6) (P.pickP m3 6) (pick6 _) (pick6 _) (pick6 _) (pick6 _) (pick6 _)
  have kk := known_of etk
  have kv := known_of etv
  have TYK := hid_m (fun w => typ_any h0 l0 l1 l2 l3 w hh hl)
  have TYV := hid_m (fun w => typ_any g0 m0 m1 m2 m3 w hg hm)
  have hTk : (P.joinP (P.pickP h0 6) (P.leafT (P.pickP l0 6)) (P.leafT (P.pickP l1 6)) (P.leafT (P.pickP l2 6)) (P.leafT (P.pickP l3 6))).length ≤ 1000 := joinP_len _ _ _ _ _ (by rw [leafT_len]; decide) (by rw [leafT_len]; decide) (by rw [leafT_len]; decide) (by rw [leafT_len]; decide)
  have hTv : (P.joinP (P.pickP g0 6) (P.leafT (P.pickP m0 6)) (P.leafT (P.pickP m1 6)) (P.leafT (P.pickP m2 6)) (P.leafT (P.pickP m3 6))).length ≤ 1000 := joinP_len _ _ _ _ _ (by rw [leafT_len]; decide) (by rw [leafT_len]; decide) (by rw [leafT_len]; decide) (by rw [leafT_len]; decide)
  have HSTP : Hid (∀ (w : World) (b M room : Nat) (tk0 c0 c1 c2 c3 d0 d1 d2 d3 fl : Int) (code mem : ByteArray) (kvv vvv : Value) (L : List (ByteArray × ByteArray)) (T : List (List UInt8)) (N0 : Nat), Wd w b M n (.int .i64 h0) (.int .i64 l0) (.int .i64 l1) (.int .i64 l2) (.int .i64 l3) (.int .i64 g0) (.int .i64 m0) (.int .i64 m1) (.int .i64 m2) (.int .i64 m3) (.string code) (.string mem) (.int .i64 room) kvv vvv L → P.TabP tk tv n mem.data.toList L T → room = mem.size → N0 ≤ M → N0 ≤ b → (∀ w', Below N0 w w' → Lib.TabIs Tryz.prog w' "internal/strconv.uint64pow10" .u64 Lib.pow10Tab) → code = ⟨(P.text (P.prog (P.cov (P.parts 4 tk)) (P.cov (P.parts 4 tv)) n).resolve).toArray⟩ → P.IsCode (P.text (P.prog (P.cov (P.parts 4 tk)) (P.cov (P.parts 4 tv)) n).resolve) → (I64 c0 ∧ I64 c1 ∧ I64 c2 ∧ I64 c3) → (I64 d0 ∧ I64 d1 ∧ I64 d2 ∧ I64 d3) → I64 tk0 → I64 fl →
      Calls Tryz.prog 13 #[.pointer (some ⟨b, 0, none⟩), .agg #[.int .i64 tk0, .int .i64 c0, .int .i64 c1, .int .i64 c2, .int .i64 c3, .int .i64 d0, .int .i64 d1, .int .i64 d2, .int .i64 d3, .int .i64 fl]] w fun e w' => e = .returned (.bool true) ∧ ∃ (mem' : ByteArray) (L' : List (ByteArray × ByteArray)) (T' : List (List UInt8)), mem'.size = room ∧ P.TabP tk tv n mem'.data.toList L' T' ∧ KStep w w' b M n (.int .i64 h0) (.int .i64 l0) (.int .i64 l1) (.int .i64 l2) (.int .i64 l3) (.int .i64 g0) (.int .i64 m0) (.int .i64 m1) (.int .i64 m2) (.int .i64 m3) (.string code) (.string mem') (.int .i64 room) kvv vvv L') :=
    fun w b M room tk0 c0 c1 c2 c3 d0 d1 d2 d3 fl code mem kvv vvv L T N0 q1 q2 q3 q4 q5 q6 q7 q8 q9 q10 q11 q12 => wstep_any b M n room h0 l0 l1 l2 l3 g0 m0 m1 m2 m3 tk0 c0 c1 c2 c3 d0 d1 d2 d3 fl code mem kvv vvv L T tk tv N0 q1 q2 q3 q4 q5 q6 q7 q8 hh hl hg hm q9 q10 q11 q12 etk etv
  generalize (P.joinP (P.pickP h0 6) (P.leafT (P.pickP l0 6)) (P.leafT (P.pickP l1 6)) (P.leafT (P.pickP l2 6)) (P.leafT (P.pickP l3 6))) = ltk at etk hTk TYK
  generalize (P.joinP (P.pickP g0 6) (P.leafT (P.pickP m0 6)) (P.leafT (P.pickP m1 6)) (P.leafT (P.pickP m2 6)) (P.leafT (P.pickP m3 6))) = ltv at etv hTv TYV
  have herr : P.errOf ltk ltv n = 0 := by unfold P.errOf; rw [etk, etv]; simp only; rw [if_pos (by omega)]
  have hisc := prog_code herr
  obtain ⟨tk', tv', y1, y2, y3, y4, y5, y6, y7, y8⟩ := P.room_ok herr
  rw [etk] at y1
  cases y1
  rw [etv] at y2
  cases y2
  rw [Int.toNat_natCast] at y7 y8
  rw [y8] at hisc
  have hn16 : n ≤ 16 := by omega
  obtain ⟨room, hroom⟩ : ∃ r, r = 1 + n * ((P.cov (P.parts 4 tk)).length + (P.cov (P.parts 4 tv)).length) := ⟨_, rfl⟩
  have hrm : room ≤ n * 68 := by
    have g2 := kk.covl; have g3 := kk.sz32; have g4 := kv.covl; have g5 := kv.sz32
    have := Nat.mul_le_mul_left n (show (P.cov (P.parts 4 tk)).length + (P.cov (P.parts 4 tv)).length ≤ 64 by omega)
    omega
  rw [← hroom] at y7
  obtain ⟨code, hcode⟩ : ∃ c : ByteArray, c = ⟨(P.text (P.prog (P.cov (P.parts 4 tk)) (P.cov (P.parts 4 tv)) n).resolve).toArray⟩ := ⟨_, rfl⟩
  have hcne : (code.toList == (⟨#[]⟩ : ByteArray).toList) = false := by
    rw [beq_eq_false_iff_ne, ByteArray.toList_eq, ByteArray.toList_eq, hcode]
    intro e
    have := congrArg List.length e
    have h5 := hisc.five; have h1 := hisc.some
    simp at this
    rw [this] at h1
    simp at h1
  have hTks : (bytesOf ltk).size ≤ maxLen := by rw [bytes_len]; unfold maxLen; omega
  have hTvs : (bytesOf ltv).size ≤ maxLen := by rw [bytes_len]; unfold maxLen; omega
  have HRM : Hid (∀ w, Calls Tryz.prog 10 #[.string (bytesOf ltk), .string (bytesOf ltv), .int .i64 n] w fun e w' => e = .returned (.tuple #[.int .i64 room, .int .i64 0]) ∧ Below w.heap.size w w') := fun w => by
    have := room_any (bytesOf ltk) (bytesOf ltv) n w hTks hTvs
    rw [show P.roomOf (bytesOf ltk).data.toList (bytesOf ltv).data.toList n = room from y7, show P.errOf (bytesOf ltk).data.toList (bytesOf ltv).data.toList n = 0 from herr] at this
    exact this
  have HCP : Hid (∀ w, Calls Tryz.prog 12 #[.string (bytesOf ltk), .string (bytesOf ltv), .int .i64 n] w fun e w' => e = .returned (.tuple #[.string code, .int .i64 0]) ∧ Below w.heap.size w w') := fun w => by
    have := compile_any (bytesOf ltk) (bytesOf ltv) n w hTks hTvs
    rw [show P.progOf (bytesOf ltk).data.toList (bytesOf ltv).data.toList n = _ from y8, show P.errOf (bytesOf ltk).data.toList (bytesOf ltv).data.toList n = 0 from herr, ← hcode] at this
    exact this
  have hmk := run_make_row' (P := Tryz.prog) 38 5 (.int .u8 0) 1 Tryz.underlying38 Tryz.infoU8 rfl .i64 .i64 room (by omega) (by omega)
  have HMK := hid_m hmk
  have HCC := hid_m (And.intro hcode (And.intro hisc (And.intro kk (And.intro kv (And.intro hroom hn16)))))
  have HTS := hid_m hts
  have HTAB : Hid (∀ w', Below w.heap.size w w' → Lib.TabIs Tryz.prog w' "internal/strconv.uint64pow10" .u64 Lib.pow10Tab) := fun w' hb => ((Lib.tabBelow_of_tabIs htab).on hb).here
  have HRR := hid_m (And.intro hrm hn16)
  have HWM : Hid (IntKind.i64.wrap ((n : Int) * 68) = ((n * 68 : Nat) : Int)) := by unfold Hid; rw [wrap_id _ (by omega) (by omega)]; omega
  have HGT : Hid (¬ (n : Int) * 68 < (room : Int)) := by unfold Hid; omega
  unfold maxLen at hN
  have HCN : Hid (code.toList.isEmpty = false) := by
    unfold Hid
    cases hq : code.toList with
    | nil => rw [hq] at hcne; simp [ByteArray.toList_eq] at hcne
    | cons a l => rfl
  clear hh hl hg hm hsl hts htab hp hp15 hn etk etv kk kv hTk hTv herr hisc y3 y4 y5 y6 y7 y8 hn16 hroom hrm hcode hcne hTks hTvs hmk
  have hbA : Below w.heap.size w ((w.alloc (.cells #[.int .i64 h0, .int .i64 l0, .int .i64 l1, .int .i64 l2, .int .i64 l3] 24)).alloc (.cells #[.int .i64 g0, .int .i64 m0, .int .i64 m1, .int .i64 m2, .int .i64 m3] 24)) := ((Below.refl _ _).alloc (Nat.le_refl _) _).alloc (by simp) _
  have hkA : ((w.alloc (.cells #[.int .i64 h0, .int .i64 l0, .int .i64 l1, .int .i64 l2, .int .i64 l3] 24)).alloc (.cells #[.int .i64 g0, .int .i64 m0, .int .i64 m1, .int .i64 m2, .int .i64 m3] 24)).heap[w.heap.size]? = some (.cells #[.int .i64 h0, .int .i64 l0, .int .i64 l1, .int .i64 l2, .int .i64 l3] 24 (0, 0)) := by rw [Below.heap_alloc _ _ _ (by simp)]; exact heap_alloc_new w _
  have hvA : ((w.alloc (.cells #[.int .i64 h0, .int .i64 l0, .int .i64 l1, .int .i64 l2, .int .i64 l3] 24)).alloc (.cells #[.int .i64 g0, .int .i64 m0, .int .i64 m1, .int .i64 m2, .int .i64 m3] 24)).heap[w.heap.size + 1]? = some (.cells #[.int .i64 g0, .int .i64 m0, .int .i64 m1, .int .i64 m2, .int .i64 m3] 24 (0, 0)) := by
    have := heap_alloc_new (w.alloc (.cells #[.int .i64 h0, .int .i64 l0, .int .i64 l1, .int .i64 l2, .int .i64 l3] 24)) (.cells #[.int .i64 g0, .int .i64 m0, .int .i64 m1, .int .i64 m2, .int .i64 m3] 24)
    simpa using this
  have B0 := hid_m hbA
  have HK0 := hid_m hkA
  have HV0 := hid_m hvA
  clear hbA hkA hvA
  go_enter Tryz.func3, Tryz.ntmps3
  go_wp2_with fail
  obtain ⟨W0, hW0⟩ : ∃ W, ((w.alloc (.cells #[.int .i64 h0, .int .i64 l0, .int .i64 l1, .int .i64 l2, .int .i64 l3] 24)).alloc (.cells #[.int .i64 g0, .int .i64 m0, .int .i64 m1, .int .i64 m2, .int .i64 m3] 24)) = W := ⟨_, rfl⟩
  obtain ⟨kb, hkb⟩ : ∃ x, w.heap.size = x := ⟨_, rfl⟩
  obtain ⟨vb, hvb⟩ : ∃ x, w.heap.size + 1 = x := ⟨_, rfl⟩
  rw [hW0] at B0 HK0 HV0 ⊢
  rw [hvb] at HV0 ⊢
  rw [hkb] at HK0 ⊢
  have HKB := hid_m hkb
  clear hW0 hkb hvb
  refine (laying_any W0 (HTAB.out _ B0.out)).mono ?_
  rintro e w1 ⟨rfl, hb1⟩
  have B1 := hid_m (B0.out.trans (hb1.mono B0.out.size))
  have HK1 := hid_m (k_blk_on hb1 HK0.out)
  have HV1 := hid_m (k_blk_on hb1 HV0.out)
  clear hb1
  go_wp2_with fail
  refine (running_any w1).mono ?_
  rintro e w2 ⟨rfl, hb2⟩
  have B2 := hid_m (B1.out.trans (hb2.mono B1.out.size))
  have HK2 := hid_m (k_blk_on hb2 HK1.out)
  have HV2 := hid_m (k_blk_on hb2 HV1.out)
  have HX2 := hid_m (Tx.of HK2.out HV2.out)
  clear hb2
  go_wp2_with fail
  refine (HPT.out _).mono ?_
  rintro e wz ⟨rfl, hwz⟩
  subst wz
  have hw1 := HW1.out
  go_wp2_with fail
  clear hw1
  refine wp_region_held_drew (S := Tx kb vb h0 l0 l1 l2 l3 g0 m0 m1 m2 m3) (by kernel_rfl) HX2.out (fun hHeld => ?_)
  refine wpAnyH_take (i := 0) (v := ?_) rfl (by kernel_rfl) (by kernel_rfl) (by kernel_rfl) (fun _ _ _ h => h) (Or.inl ⟨by rfl, ?_⟩) (by assumption) ?_
  rotate_left
  · intro w hSw
    obtain ⟨y0, y1, y2, y3, y4, y5, y6, y7, y8, y9⟩ := hSw
    go_simp
    all_goals with_reducible rfl
  try simp only [Act.put]
  refine wpAnyH_take (i := 2) (v := ?_) rfl (by kernel_rfl) (by kernel_rfl) (by kernel_rfl) (fun _ _ _ h => h) (Or.inl ⟨by rfl, ?_⟩) (by assumption) ?_
  rotate_left
  · intro w hSw
    obtain ⟨y0, y1, y2, y3, y4, y5, y6, y7, y8, y9⟩ := hSw
    go_simp
    all_goals with_reducible rfl
  try simp only [Act.put]
  refine wpAnyH_take (i := 4) (v := ?_) rfl (by kernel_rfl) (by kernel_rfl) (by kernel_rfl) (fun _ _ _ h => h) (Or.inl ⟨by rfl, ?_⟩) (by assumption) ?_
  rotate_left
  · intro w hSw
    obtain ⟨y0, y1, y2, y3, y4, y5, y6, y7, y8, y9⟩ := hSw
    go_simp
    all_goals with_reducible rfl
  try simp only [Act.put]
  refine wpAnyH_ready (rs := [1]) (by kernel_rfl) (by simp) ?_
  refine AllReadyH.cons (o := _) rfl (fun K hK => ?_) AllReadyH.nil
  go_simp
  refine (TYK.out w2.drew).mono ?_
  rintro e w3 ⟨rfl, hb3⟩
  have hbb3 : Below w2.heap.size w2 w3 := ⟨hb3.os, hb3.tape, hb3.output, hb3.size, hb3.block⟩
  have B3 := hid_m (B2.out.trans (hbb3.mono B2.out.size))
  have HK3 := hid_m (k_blk_on hbb3 HK2.out)
  have HV3 := hid_m (k_blk_on hbb3 HV2.out)
  have HX3 := hid_m (Tx.of HK3.out HV3.out)
  clear hb3 hbb3
  go_wp2_with fail
  refine hK.out _ _ HX3.out (fun hHelda => ?_)
  clear hK K
  try simp only [Act.put]
  refine wpAnyH_ready (rs := [3]) (by kernel_rfl) (by simp) ?_
  refine AllReadyH.cons (o := _) rfl (fun K hK => ?_) AllReadyH.nil
  go_simp
  refine (TYV.out w3).mono ?_
  rintro e w4 ⟨rfl, hb4⟩
  have hbb4 : Below w3.heap.size w3 w4 := ⟨hb4.os, hb4.tape, hb4.output, hb4.size, hb4.block⟩
  have B4 := hid_m (B3.out.trans (hbb4.mono B3.out.size))
  have HK4 := hid_m (k_blk_on hbb4 HK3.out)
  have HV4 := hid_m (k_blk_on hbb4 HV3.out)
  have HX4 := hid_m (Tx.of HK4.out HV4.out)
  clear hb4 hbb4
  go_wp2_with fail
  refine hK.out _ _ HX4.out (fun hHeldb => ?_)
  clear hK K
  try simp only [Act.put]
  refine wpAnyH_ready (rs := [5]) (by kernel_rfl) (by simp) ?_
  refine AllReadyH.cons (o := _) rfl (fun K hK => ?_) AllReadyH.nil
  go_simp
  refine (HRM.out w4).mono ?_
  rintro e w5 ⟨rfl, hb5⟩
  have hbb5 : Below w4.heap.size w4 w5 := ⟨hb5.os, hb5.tape, hb5.output, hb5.size, hb5.block⟩
  have B5 := hid_m (B4.out.trans (hbb5.mono B4.out.size))
  have HK5 := hid_m (k_blk_on hbb5 HK4.out)
  have HV5 := hid_m (k_blk_on hbb5 HV4.out)
  have HX5 := hid_m (Tx.of HK5.out HV5.out)
  clear hb5 hbb5
  go_wp2_with fail
  refine hK.out _ _ HX5.out (fun hHeldc => ?_)
  clear hK K
  try simp only [Act.put]
  refine wpAnyH_take (i := 6) (v := ?_) rfl (by kernel_rfl) (by kernel_rfl) (by kernel_rfl) (fun _ _ _ h => h) (Or.inl ⟨by rfl, ?_⟩) (by assumption) ?_
  rotate_left
  · intro w hSw
    obtain ⟨y0, y1, y2, y3, y4, y5, y6, y7, y8, y9⟩ := hSw
    go_simp
    all_goals with_reducible rfl
  try simp only [Act.put]
  refine wpAnyH_take (i := 7) (v := ?_) rfl (by kernel_rfl) (by kernel_rfl) (by kernel_rfl) (fun _ _ _ h => h) (Or.inl ⟨by rfl, ?_⟩) (by assumption) ?_
  rotate_left
  · intro w hSw
    obtain ⟨y0, y1, y2, y3, y4, y5, y6, y7, y8, y9⟩ := hSw
    go_simp
    all_goals with_reducible rfl
  try simp only [Act.put]
  refine wpAnyH_take (i := 8) (v := ?_) rfl (by kernel_rfl) (by kernel_rfl) (by kernel_rfl) (fun _ _ _ h => h) (Or.inl ⟨by rfl, ?_⟩) (by assumption) ?_
  rotate_left
  · intro w hSw
    obtain ⟨y0, y1, y2, y3, y4, y5, y6, y7, y8, y9⟩ := hSw
    go_simp
    all_goals with_reducible rfl
  try simp only [Act.put]
  refine wpAnyH_ready (rs := [9]) (by kernel_rfl) (by simp) ?_
  refine AllReadyH.cons (o := _) rfl (fun K hK => ?_) AllReadyH.nil
  go_simp
  refine hK.out _ _ HX5.out (fun hHeldd => ?_)
  clear hK K
  try simp only [Act.put]
  refine wpAnyH_ready (rs := [10]) (by kernel_rfl) (by simp) ?_
  refine AllReadyH.cons (o := _) rfl (fun K hK => ?_) AllReadyH.nil
  go_simp
  refine hK.out _ _ HX5.out (fun hHelde => ?_)
  clear hK K
  try simp only [Act.put]
  refine wpAnyH_done (by kernel_rfl) ?_ _
  go_wp2_with fail
  rename_i K5 hK5
  have HK5' := hid_m hK5
  clear hK5
  refine wp_region_held_drew (S := Tx kb vb h0 l0 l1 l2 l3 g0 m0 m1 m2 m3) (by kernel_rfl) HX5.out (fun hHeld => ?_)
  refine wpAnyH_take (i := 0) (v := ?_) rfl (by kernel_rfl) (by kernel_rfl) (by kernel_rfl) (fun _ _ _ h => h) (Or.inl ⟨by rfl, ?_⟩) (by assumption) ?_
  rotate_left
  · intro w hSw
    obtain ⟨y0, y1, y2, y3, y4, y5, y6, y7, y8, y9⟩ := hSw
    go_simp
    all_goals with_reducible rfl
  try simp only [Act.put]
  refine wpAnyH_take (i := 2) (v := ?_) rfl (by kernel_rfl) (by kernel_rfl) (by kernel_rfl) (fun _ _ _ h => h) (Or.inl ⟨by rfl, ?_⟩) (by assumption) ?_
  rotate_left
  · intro w hSw
    obtain ⟨y0, y1, y2, y3, y4, y5, y6, y7, y8, y9⟩ := hSw
    go_simp
    all_goals with_reducible rfl
  try simp only [Act.put]
  refine wpAnyH_take (i := 4) (v := ?_) rfl (by kernel_rfl) (by kernel_rfl) (by kernel_rfl) (fun _ _ _ h => h) (Or.inl ⟨by rfl, ?_⟩) (by assumption) ?_
  rotate_left
  · intro w hSw
    obtain ⟨y0, y1, y2, y3, y4, y5, y6, y7, y8, y9⟩ := hSw
    go_simp
    all_goals with_reducible rfl
  try simp only [Act.put]
  refine wpAnyH_ready (rs := [1]) (by kernel_rfl) (by simp) ?_
  refine AllReadyH.cons (o := _) rfl (fun K hK => ?_) AllReadyH.nil
  go_simp
  refine (TYK.out w5.drew).mono ?_
  rintro e w6 ⟨rfl, hb6⟩
  have hbb6 : Below w5.heap.size w5 w6 := ⟨hb6.os, hb6.tape, hb6.output, hb6.size, hb6.block⟩
  have B6 := hid_m (B5.out.trans (hbb6.mono B5.out.size))
  have HK6 := hid_m (k_blk_on hbb6 HK5.out)
  have HV6 := hid_m (k_blk_on hbb6 HV5.out)
  have HX6 := hid_m (Tx.of HK6.out HV6.out)
  clear hb6 hbb6
  go_wp2_with fail
  refine hK.out _ _ HX6.out (fun hHelda => ?_)
  clear hK K
  try simp only [Act.put]
  refine wpAnyH_ready (rs := [3]) (by kernel_rfl) (by simp) ?_
  refine AllReadyH.cons (o := _) rfl (fun K hK => ?_) AllReadyH.nil
  go_simp
  refine (TYV.out w6).mono ?_
  rintro e w7 ⟨rfl, hb7⟩
  have hbb7 : Below w6.heap.size w6 w7 := ⟨hb7.os, hb7.tape, hb7.output, hb7.size, hb7.block⟩
  have B7 := hid_m (B6.out.trans (hbb7.mono B6.out.size))
  have HK7 := hid_m (k_blk_on hbb7 HK6.out)
  have HV7 := hid_m (k_blk_on hbb7 HV6.out)
  have HX7 := hid_m (Tx.of HK7.out HV7.out)
  clear hb7 hbb7
  go_wp2_with fail
  refine hK.out _ _ HX7.out (fun hHeldb => ?_)
  clear hK K
  try simp only [Act.put]
  refine wpAnyH_ready (rs := [5]) (by kernel_rfl) (by simp) ?_
  refine AllReadyH.cons (o := _) rfl (fun K hK => ?_) AllReadyH.nil
  go_simp
  refine (HCP.out w7).mono ?_
  rintro e w8 ⟨rfl, hb8⟩
  have hbb8 : Below w7.heap.size w7 w8 := ⟨hb8.os, hb8.tape, hb8.output, hb8.size, hb8.block⟩
  have B8 := hid_m (B7.out.trans (hbb8.mono B7.out.size))
  have HK8 := hid_m (k_blk_on hbb8 HK7.out)
  have HV8 := hid_m (k_blk_on hbb8 HV7.out)
  have HX8 := hid_m (Tx.of HK8.out HV8.out)
  clear hb8 hbb8
  go_wp2_with fail
  refine hK.out _ _ HX8.out (fun hHeldc => ?_)
  clear hK K
  try simp only [Act.put]
  refine wpAnyH_take (i := 6) (v := ?_) rfl (by kernel_rfl) (by kernel_rfl) (by kernel_rfl) (fun _ _ _ h => h) (Or.inl ⟨by rfl, ?_⟩) (by assumption) ?_
  rotate_left
  · intro w hSw
    obtain ⟨y0, y1, y2, y3, y4, y5, y6, y7, y8, y9⟩ := hSw
    go_simp
    all_goals with_reducible rfl
  try simp only [Act.put]
  refine wpAnyH_take (i := 7) (v := ?_) rfl (by kernel_rfl) (by kernel_rfl) (by kernel_rfl) (fun _ _ _ h => h) (Or.inl ⟨by rfl, ?_⟩) (by assumption) ?_
  rotate_left
  · intro w hSw
    obtain ⟨y0, y1, y2, y3, y4, y5, y6, y7, y8, y9⟩ := hSw
    go_simp
    all_goals with_reducible rfl
  try simp only [Act.put]
  refine wpAnyH_take (i := 8) (v := ?_) rfl (by kernel_rfl) (by kernel_rfl) (by kernel_rfl) (fun _ _ _ h => h) (Or.inl ⟨by rfl, ?_⟩) (by assumption) ?_
  rotate_left
  · intro w hSw
    obtain ⟨y0, y1, y2, y3, y4, y5, y6, y7, y8, y9⟩ := hSw
    go_simp
    all_goals with_reducible rfl
  try simp only [Act.put]
  refine wpAnyH_ready (rs := [9]) (by kernel_rfl) (by simp) ?_
  refine AllReadyH.cons (o := _) rfl (fun K hK => ?_) AllReadyH.nil
  go_simp
  refine hK.out _ _ HX8.out (fun hHeldd => ?_)
  clear hK K
  try simp only [Act.put]
  refine wpAnyH_ready (rs := [10]) (by kernel_rfl) (by simp) ?_
  refine AllReadyH.cons (o := _) rfl (fun K hK => ?_) AllReadyH.nil
  go_simp
  refine hK.out _ _ HX8.out (fun hHelde => ?_)
  clear hK K
  try simp only [Act.put]
  refine wpAnyH_done (by kernel_rfl) ?_ _
  go_wp2_with fail
  refine HK5'.out _ _ ?_
  refine wp_seq_k (fun K6 hK6 => ?_)
  have HK6' := hid_m hK6
  clear hK6 HK5'
  have hwm := HWM.out
  have hgt := HGT.out
  have hcn := HCN.out
  have hz : ¬ (room : Int) < 0 := by omega
  go_wp2_with fail
  clear hwm hgt hcn hz
  refine HK6'.out _ _ ?_
  refine wp_seq_k (fun K8 hK8 => ?_)
  have HK8' := hid_m hK8
  clear hK8 HK6'
  obtain ⟨y0, y1, y2, y3, y4, y5, y6, y7, y8, y9⟩ := HX8.out
  go_wp2_with fail
  have hbb : (w8.alloc (.cells (wdC (.int .i64 h0) (.int .i64 l0) (.int .i64 l1) (.int .i64 l2) (.int .i64 l3) (.int .i64 g0) (.int .i64 m0) (.int .i64 m1) (.int .i64 m2) (.int .i64 m3) (.string code) (.string ⟨#[]⟩) (.int .i64 room) (.int .i64 n) (.slice none 0 0) (.slice none 0 0)) 37)).heap[w8.heap.size]? = some (.cells (wdC (.int .i64 h0) (.int .i64 l0) (.int .i64 l1) (.int .i64 l2) (.int .i64 l3) (.int .i64 g0) (.int .i64 m0) (.int .i64 m1) (.int .i64 m2) (.int .i64 m3) (.string code) (.string ⟨#[]⟩) (.int .i64 room) (.int .i64 n) (.slice none 0 0) (.slice none 0 0)) 37 (0, 0)) := heap_alloc_new _ _
  have hb9 : Below w.heap.size w (w8.alloc (.cells (wdC (.int .i64 h0) (.int .i64 l0) (.int .i64 l1) (.int .i64 l2) (.int .i64 l3) (.int .i64 g0) (.int .i64 m0) (.int .i64 m1) (.int .i64 m2) (.int .i64 m3) (.string code) (.string ⟨#[]⟩) (.int .i64 room) (.int .i64 n) (.slice none 0 0) (.slice none 0 0)) 37)) := B8.out.alloc B8.out.size _
  have hs9 : w8.heap.size + 1 = (w8.alloc (.cells (wdC (.int .i64 h0) (.int .i64 l0) (.int .i64 l1) (.int .i64 l2) (.int .i64 l3) (.int .i64 g0) (.int .i64 m0) (.int .i64 m1) (.int .i64 m2) (.int .i64 m3) (.string code) (.string ⟨#[]⟩) (.int .i64 room) (.int .i64 n) (.slice none 0 0) (.slice none 0 0)) 37)).heap.size := by simp
  have hbs : w.heap.size ≤ w8.heap.size := B8.out.size
  unfold wdC at hbb hb9 hs9
  obtain ⟨b, hbe⟩ : ∃ b, w8.heap.size = b := ⟨_, rfl⟩
  generalize (w8.alloc (.cells #[.int .i64 h0, .int .i64 l0, .int .i64 l1, .int .i64 l2, .int .i64 l3, .int .i64 g0, .int .i64 m0, .int .i64 m1, .int .i64 m2, .int .i64 m3, .string code, .string ⟨#[]⟩, .int .i64 room, .int .i64 n, .slice none 0 0, .slice none 0 0] 37)) = w9 at hbb hb9 hs9 ⊢
  rw [hbe] at hbb hbs hs9 ⊢
  have HBB := hid_m hbb
  have B9 := hid_m hb9
  have HBS := hid_m (And.intro hbs hs9)
  clear hbb hb9 hbs hbe hs9 y0 y1 y2 y3 y4 y5 y6 y7 y8 y9
  refine HK8'.out _ _ ?_
  refine wp_seq_k (fun K9 hK9 => ?_)
  have HK9' := hid_m hK9
  clear hK9 HK8'
  have hmk := HMK.out
  have hby := Byk.made w9 room
  have hcv := hby.str (n := room) (by simp)
  have n11 : w9.cell? ⟨b, 11, none⟩ = some (.string ⟨#[]⟩) := by rw [cell_of_row _ _ _ _ _ _ HBB.out]; rfl
  have nf : w9.frozen? ⟨b, 11, none⟩ = false := by simp [World.frozen?, HBB.out]
  have nlt : b < w9.heap.size := m_blk_lt HBB.out
  clear hby
  go_wp2_with fail
  clear hmk hcv n11 nf nlt
  obtain ⟨w10, hw10⟩ : ∃ W, ((w9.setCell ⟨b, 11, none⟩ (.string ⟨Array.replicate room 0⟩)).alloc (.cells (madeCells #[.int .u8 0] room) 5)) = W := ⟨_, rfl⟩
  have hs10 : w9.heap.size + 1 = w10.heap.size := by rw [← hw10]; simp [World.setCell]
  have hblk : w10.heap[b]? = some (.cells (wdC (.int .i64 h0) (.int .i64 l0) (.int .i64 l1) (.int .i64 l2) (.int .i64 l3) (.int .i64 g0) (.int .i64 m0) (.int .i64 m1) (.int .i64 m2) (.int .i64 m3) (.string code) (.string ⟨Array.replicate room 0⟩) (.int .i64 room) (.int .i64 n) (.slice none 0 0) (.slice none 0 0)) 37 (0, 0)) := by
    have h1 := HBB.out
    rw [← hw10, Below.heap_alloc _ _ _ (by have := m_blk_lt h1; simp [World.setCell]; omega)]
    simp [World.setCell, Array.getElem?_modify, h1, wdC]
  have HWD : Hid (Wd w10 b w9.heap.size n (.int .i64 h0) (.int .i64 l0) (.int .i64 l1) (.int .i64 l2) (.int .i64 l3) (.int .i64 g0) (.int .i64 m0) (.int .i64 m1) (.int .i64 m2) (.int .i64 m3) (.string code) (.string ⟨Array.replicate room 0⟩) (.int .i64 room) (.slice none 0 0) (.slice none 0 0) []) :=
    ⟨hblk, World.ownsRow_nil _ _ _ _, World.ownsRow_nil _ _ _ _, (fun g hg => by simp [Value.ownBlock] at hg), m_blk_lt HBB.out, by omega, Nat.zero_le _, HCC.out.2.2.2.2.2⟩
  have HP0 : Hid (P.TabP tk tv n (⟨Array.replicate room 0⟩ : ByteArray).data.toList [] []) := by
    have h1 := HCC.out.2.2.2.2.1
    have h2 : 0 < room := by omega
    refine P.tabP_empty HCC.out.2.2.1 HCC.out.2.2.2.1 HCC.out.2.2.2.2.2 ?_ ?_
    · simp [h2]
    · rw [← h1]; simp
  have B10 : Hid (Below w.heap.size w w10) := by unfold Hid; rw [← hw10]; exact (B9.out.setCell HBS.out.1 _).alloc (by simp [World.setCell]; have := B9.out.size; omega) _
  rw [hw10]
  clear hw10 hblk hs10
  refine HK9'.out _ _ ?_
  clear HK9'
  have HNN : Hid (w.heap.size ≤ w9.heap.size ∧ w.heap.size ≤ b) := ⟨B9.out.size, HBS.out.1⟩
  obtain ⟨M, hM⟩ : ∃ M, w9.heap.size = M := ⟨_, rfl⟩
  rw [hM] at HWD HNN
  clear hM
  go_wp2_with fail
  go_loopw [9, 17] (fun ok i wr => ∃ (t : Nat), t ≤ N ∧ i = .int .i64 t ∧ Hid (Below w.heap.size w wr) ∧ Hid (∃ (mem : ByteArray) (kvv vvv : Value) (L : List (ByteArray × ByteArray)) (T : List (List UInt8)), mem.size = room ∧ Wd wr b M n (.int .i64 h0) (.int .i64 l0) (.int .i64 l1) (.int .i64 l2) (.int .i64 l3) (.int .i64 g0) (.int .i64 m0) (.int .i64 m1) (.int .i64 m2) (.int .i64 m3) (.string code) (.string mem) (.int .i64 room) kvv vvv L ∧ P.TabP tk tv n mem.data.toList L T)) (fun _ i _ => N - (intOf i).toNat)
  case atStart => exact ⟨0, Nat.zero_le _, rfl, B10.out, _, _, _, _, _, by simp [ByteArray.size], HWD.out, HP0.out⟩
  case round =>
    obtain ⟨t, ht, rfl, hb, hsh⟩ := hrel
    by_cases hlt : t < N
    · obtain ⟨bb, oo, tt, c0, c1, c2, c3, d0, d1, d2, d3, f, hx, hbl, hc, i1, i2, i3, i4⟩ := HTS.out t hlt
      subst hx
      obtain ⟨e0, e1, e2, e3, e4, e5, e6, e7, e8, e9⟩ := hc
      rw [← hb.out.cell (p := ⟨bb, _, none⟩) hbl] at e0 e1 e2 e3 e4 e5 e6 e7 e8 e9
      have j0 : (0 : Int) ≤ (t : Int) := Int.natCast_nonneg t
      have j1 : (t : Int) < (N : Int) := by omega
      have HTN : Hid (t + 1 ≤ N) := hlt
      have HTW : Hid (wrap64 ((t : Int) + 1) = (t : Int) + 1) := w64_id _ (by omega) (by omega)
      have HA := hid_m (And.intro i1 (And.intro i2 (And.intro i3 i4)))
      obtain ⟨mem', kvv, vvv, L, T, hms, hwd, hpp⟩ := hsh.out
      have HMS := hid_m hms
      have HWD' := hid_m hwd
      have HPP' := hid_m hpp
      clear ht hlt hbl i1 i2 i3 i4 hms hwd hpp hsh
      go_wp2_with fail
      refine (HSTP.out wr b M room tt c0 c1 c2 c3 d0 d1 d2 d3 f code mem' kvv vvv L T w.heap.size HWD'.out HPP'.out HMS.out.symm HNN.out.1 HNN.out.2 (fun w' hw' => HTAB.out w' (hb.out.trans hw')) HCC.out.1 HCC.out.2.1 HA.out.2.1 HA.out.2.2.1 HA.out.1 HA.out.2.2.2).mono ?_
      rintro e w11 ⟨rfl, mem2, L2, T2, hms2, hpp2, ⟨kv2, vv2, hwd2, hnx1, hnx2⟩, hf2⟩
      have HB2 : Hid (Below w.heap.size w w11) := hb.out.trans (hf2.below HNN.out.2 (fun g hg => Nat.le_trans HNN.out.1 (HWD'.out.ok.lt g hg).1) (fun g hg => Nat.le_trans HNN.out.1 (HWD'.out.ov.lt g hg).1) hb.out.size)
      have HEX : Hid (∃ (mem : ByteArray) (kvv vvv : Value) (L : List (ByteArray × ByteArray)) (T : List (List UInt8)), mem.size = room ∧ Wd w11 b M n (.int .i64 h0) (.int .i64 l0) (.int .i64 l1) (.int .i64 l2) (.int .i64 l3) (.int .i64 g0) (.int .i64 m0) (.int .i64 m1) (.int .i64 m2) (.int .i64 m3) (.string code) (.string mem) (.int .i64 room) kvv vvv L ∧ P.TabP tk tv n mem.data.toList L T) := ⟨mem2, kv2, vv2, L2, T2, hms2, hwd2, hpp2⟩
      clear hms2 hpp2 hwd2 hnx1 hnx2 hf2 e0 e1 e2 e3 e4 e5 e6 e7 e8 e9
      go_wp2_with fail
      exact ⟨⟨t + 1, HTN.out, by first | (rw [HTW.out]; exact next_t) | exact next_t, HB2, HEX⟩, by first | (rw [HTW.out]; exact less_t HTN.out) | exact less_t HTN.out⟩
    · have hte : t = N := by omega
      subst hte
      clear ht hlt
      go_wp2_with fail
      go_ret
      exact ⟨rfl, hb.out⟩
end Go.Proofs.YtghggcehloiemabGreatDoor
