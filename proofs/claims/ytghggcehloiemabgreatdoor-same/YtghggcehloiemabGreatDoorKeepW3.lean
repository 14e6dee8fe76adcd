import Derived.Test.YtghggcehloiemabGreatDoorRoundPAll
import Derived.Lib.ItoaLen
namespace Go.Proofs.YtghggcehloiemabGreatDoor
open Go.RowKit
set_option linter.unusedVariables false
set_option maxRecDepth 16000

set_option maxHeartbeats 4000000 in
theorem typ_any (h l0 l1 l2 l3 : Int) (w : World) (hh : I64 h) (hl : ∀ x ∈ [l0, l1, l2, l3], I64 x) :
    Calls Tryz.prog 11 #[.agg #[.int .i64 h, .int .i64 l0, .int .i64 l1, .int .i64 l2, .int .i64 l3]] w fun e w' => e = .returned (.string (bytesOf (P.joinP (P.pickP h 6) (P.leafT (P.pickP l0 6)) (P.leafT (P.pickP l1 6)) (P.leafT (P.pickP l2 6)) (P.leafT (P.pickP l3 6))))) ∧ Below w.heap.size w w' := by
  have HL : Hid (∀ x ∈ [l0, l1, l2, l3], I64 x) := hl
  have HH : Hid (I64 h) := hh
  clear hl hh
  have kk : Five (w.alloc (.cells #[.int .i64 h, .int .i64 l0, .int .i64 l1, .int .i64 l2, .int .i64 l3] 24)) w.heap.size (.int .i64 h) (.int .i64 l0) (.int .i64 l1) (.int .i64 l2) (.int .i64 l3) := Five.new w _ _ _ _ _ _
  have hb : Below w.heap.size w (w.alloc (.cells #[.int .i64 h, .int .i64 l0, .int .i64 l1, .int .i64 l2, .int .i64 l3] 24)) := (Below.refl _ _).alloc (Nat.le_refl _) _
  go_enter Tryz.func11, Tryz.ntmps11
  go_wp2_with fail
  go_region_held3 (fun w' => w'.cell? ⟨w.heap.size, 0, none⟩ = some (.int .i64 h) ∧ w'.cell? ⟨w.heap.size, 1, none⟩ = some (.int .i64 l0) ∧ w'.cell? ⟨w.heap.size, 2, none⟩ = some (.int .i64 l1) ∧ w'.cell? ⟨w.heap.size, 3, none⟩ = some (.int .i64 l2) ∧ w'.cell? ⟨w.heap.size, 4, none⟩ = some (.int .i64 l3)) (first | (exact kk) | (simp [go_sem]; done)) (first
    | (go_at_call 30; refine Calls.mono (knumber_int h l0 l1 l2 l3 _ _ (by decide) HL.out) ?_
       rintro e w3 ⟨rfl, hb3⟩
       have kk := five_on hb3 kk
       have hb := below_on hb3 hb)
    | (go_at_call 29; refine Calls.mono (kleaf_any _ _ (pick6 _)) ?_
       rintro e w3 ⟨rfl, hb3⟩
       have kk := five_on hb3 kk
       have hb := below_on hb3 hb)
    | (go_at_call 28; refine Calls.mono (join_any h l0 l1 l2 l3 _ _ _ _ _ HH.out.1 HH.out.2 (by rw [bytes_len, leafT_len]; decide) (by rw [bytes_len, leafT_len]; decide) (by rw [bytes_len, leafT_len]; decide) (by rw [bytes_len, leafT_len]; decide)) ?_
       rintro e w3 ⟨rfl, hb3⟩
       have kk := five_on hb3 kk
       have hb := below_on hb3 hb))
  go_wp2_with fail
  go_ret
  exact ⟨rfl, hb⟩

theorem oneP_len (k : Nat) (c : Int) (hk : k ≤ 5) : (P.oneP k c).length ≤ 40 := by
  have dec : ∀ M : Nat, 1 ≤ M → M ≤ 4294967296 → (Lib.decDigits (P.pickP c M)).length ≤ 40 := by
    intro M h1 h2
    have h3 := pick_lt c M h1
    have := Lib.itoa_length_le ((P.pickP c M : Nat) : Int) (by omega) (by omega)
    rw [Lib.itoa_nonneg] at this
    omega
  unfold P.oneP
  by_cases e0 : k = 0
  · rw [if_pos e0]; exact dec _ (by decide) (by decide)
  · rw [if_neg e0]
    by_cases e1 : k = 1
    · rw [if_pos e1]; exact dec _ (by decide) (by decide)
    · rw [if_neg e1]
      by_cases e2 : k = 2
      · rw [if_pos e2]; exact dec _ (by decide) (by decide)
      · rw [if_neg e2, lowHex_len]; omega
/-- The table stands in whatever world comes. -/
theorem tab_on {w wp w3 : World} (hb : Below wp.heap.size wp w3) (h : Lib.TabIs Tryz.prog w "internal/strconv.uint64pow10" .u64 Lib.pow10Tab) (he : wp.heap = w.heap := by rfl) : Lib.TabIs Tryz.prog w3 "internal/strconv.uint64pow10" .u64 Lib.pow10Tab := by
  have h' : Lib.TabIs Tryz.prog wp "internal/strconv.uint64pow10" .u64 Lib.pow10Tab := by unfold Lib.TabIs World.var? at *; rw [he]; exact h
  exact ((Lib.tabBelow_of_tabIs h').on hb).here
theorem one_from {w wp : World} (k : Nat) (c : Int) (hk : k ≤ 5) (h : I64 c) (ht : Lib.TabIs Tryz.prog w "internal/strconv.uint64pow10" .u64 Lib.pow10Tab) (he : wp.heap = w.heap := by rfl) :
    Calls Tryz.prog 34 #[.int .i64 k, .int .i64 c] wp fun e w' => e = .returned (.string (bytesOf (P.oneP k c))) ∧ Below wp.heap.size wp w' := by
  have h' : Lib.TabIs Tryz.prog wp "internal/strconv.uint64pow10" .u64 Lib.pow10Tab := by unfold Lib.TabIs World.var? at *; rw [he]; exact ht
  exact one_any k c wp hk h.1 h.2 h'

/-- The four cells of an array at block B. -/
def Four (w : World) (B : Nat) (v0 v1 v2 v3 : Value) : Prop := w.cell? ⟨B, 0, none⟩ = some v0 ∧ w.cell? ⟨B, 1, none⟩ = some v1 ∧ w.cell? ⟨B, 2, none⟩ = some v2 ∧ w.cell? ⟨B, 3, none⟩ = some v3
theorem Four.new (w : World) (v0 v1 v2 v3 : Value) (T : TypeId) : Four (w.alloc (.cells #[v0, v1, v2, v3] T)) w.heap.size v0 v1 v2 v3 := by
  have h := heap_alloc_new w (.cells #[v0, v1, v2, v3] T)
  refine ⟨?_, ?_, ?_, ?_⟩ <;> rw [cell_of_row _ _ _ _ _ _ h] <;> rfl
def Nine (w : World) (B C : Nat) (v0 v1 v2 v3 v4 c0 c1 c2 c3 : Value) : Prop := w.cell? ⟨B, 0, none⟩ = some v0 ∧ w.cell? ⟨B, 1, none⟩ = some v1 ∧ w.cell? ⟨B, 2, none⟩ = some v2 ∧ w.cell? ⟨B, 3, none⟩ = some v3 ∧ w.cell? ⟨B, 4, none⟩ = some v4 ∧ w.cell? ⟨C, 0, none⟩ = some c0 ∧ w.cell? ⟨C, 1, none⟩ = some c1 ∧ w.cell? ⟨C, 2, none⟩ = some c2 ∧ w.cell? ⟨C, 3, none⟩ = some c3
theorem nine_on {w wp w3 : World} {B C : Nat} {v0 v1 v2 v3 v4 c0 c1 c2 c3 : Value} (hb : Below wp.heap.size wp w3) (h : Nine w B C v0 v1 v2 v3 v4 c0 c1 c2 c3) (he : wp.heap = w.heap := by rfl) : Nine w3 B C v0 v1 v2 v3 v4 c0 c1 c2 c3 := by
  have key : ∀ a v, w.cell? a = some v → w3.cell? a = some v := fun a v hv => by
    have hv' : wp.cell? a = some v := by unfold World.cell? at *; rw [he]; exact hv
    exact (hb.cell (p := a) (World.block_lt_of_cell? wp a hv')).trans hv'
  obtain ⟨h0, h1, h2, h3, h4, g0, g1, g2, g3⟩ := h
  exact ⟨key _ _ h0, key _ _ h1, key _ _ h2, key _ _ h3, key _ _ h4, key _ _ g0, key _ _ g1, key _ _ g2, key _ _ g3⟩

set_option maxHeartbeats 4000000 in
theorem value_any (h l0 l1 l2 l3 c0 c1 c2 c3 : Int) (w : World) (hh : I64 h) (hl : ∀ x ∈ [l0, l1, l2, l3], I64 x) (hc : I64 c0 ∧ I64 c1 ∧ I64 c2 ∧ I64 c3) (htab : Lib.TabIs Tryz.prog w "internal/strconv.uint64pow10" .u64 Lib.pow10Tab) :
    Calls Tryz.prog 15 #[.agg #[.int .i64 h, .int .i64 l0, .int .i64 l1, .int .i64 l2, .int .i64 l3], .agg #[.int .i64 c0, .int .i64 c1, .int .i64 c2, .int .i64 c3]] w fun e w' => e = .returned (.string (bytesOf (P.joinP (P.pickP h 6) (P.oneP (P.pickP l0 6) c0) (P.oneP (P.pickP l1 6) c1) (P.oneP (P.pickP l2 6) c2) (P.oneP (P.pickP l3 6) c3)))) ∧ Below w.heap.size w w' := by
  have HL : Hid (∀ x ∈ [l0, l1, l2, l3], I64 x) := hl
  have HH : Hid (I64 h) := hh
  have HC : Hid (I64 c0 ∧ I64 c1 ∧ I64 c2 ∧ I64 c3) := hc
  clear hl hh hc
  have kk0 : Five (w.alloc (.cells #[.int .i64 h, .int .i64 l0, .int .i64 l1, .int .i64 l2, .int .i64 l3] 24)) w.heap.size (.int .i64 h) (.int .i64 l0) (.int .i64 l1) (.int .i64 l2) (.int .i64 l3) := Five.new w _ _ _ _ _ _
  have hb0 : Below w.heap.size w (w.alloc (.cells #[.int .i64 h, .int .i64 l0, .int .i64 l1, .int .i64 l2, .int .i64 l3] 24)) := (Below.refl _ _).alloc (Nat.le_refl _) _
  have hal : Below (w.alloc (.cells #[.int .i64 h, .int .i64 l0, .int .i64 l1, .int .i64 l2, .int .i64 l3] 24)).heap.size (w.alloc (.cells #[.int .i64 h, .int .i64 l0, .int .i64 l1, .int .i64 l2, .int .i64 l3] 24)) ((w.alloc (.cells #[.int .i64 h, .int .i64 l0, .int .i64 l1, .int .i64 l2, .int .i64 l3] 24)).alloc (.cells #[.int .i64 c0, .int .i64 c1, .int .i64 c2, .int .i64 c3] 22)) := (Below.refl _ _).alloc (Nat.le_refl _) _
  have hb : Below w.heap.size w ((w.alloc (.cells #[.int .i64 h, .int .i64 l0, .int .i64 l1, .int .i64 l2, .int .i64 l3] 24)).alloc (.cells #[.int .i64 c0, .int .i64 c1, .int .i64 c2, .int .i64 c3] 22)) := below_on hal hb0
  have kk : Nine ((w.alloc (.cells #[.int .i64 h, .int .i64 l0, .int .i64 l1, .int .i64 l2, .int .i64 l3] 24)).alloc (.cells #[.int .i64 c0, .int .i64 c1, .int .i64 c2, .int .i64 c3] 22)) w.heap.size (w.heap.size + 1) (.int .i64 h) (.int .i64 l0) (.int .i64 l1) (.int .i64 l2) (.int .i64 l3) (.int .i64 c0) (.int .i64 c1) (.int .i64 c2) (.int .i64 c3) := by
    have f := kk0.on hal
    have g := Four.new (w.alloc (.cells #[.int .i64 h, .int .i64 l0, .int .i64 l1, .int .i64 l2, .int .i64 l3] 24)) (.int .i64 c0) (.int .i64 c1) (.int .i64 c2) (.int .i64 c3) 22
    have hsz : (w.alloc (.cells #[.int .i64 h, .int .i64 l0, .int .i64 l1, .int .i64 l2, .int .i64 l3] 24)).heap.size = w.heap.size + 1 := by simp
    rw [hsz] at g
    exact ⟨f.1, f.2.1, f.2.2.1, f.2.2.2.1, f.2.2.2.2, g⟩
  have ht : Lib.TabIs Tryz.prog ((w.alloc (.cells #[.int .i64 h, .int .i64 l0, .int .i64 l1, .int .i64 l2, .int .i64 l3] 24)).alloc (.cells #[.int .i64 c0, .int .i64 c1, .int .i64 c2, .int .i64 c3] 22)) "internal/strconv.uint64pow10" .u64 Lib.pow10Tab := ((Lib.tabBelow_of_tabIs htab).on hb).here
  clear kk0 hb0 hal htab
  go_enter Tryz.func15, Tryz.ntmps15
  go_wp2_with fail
  go_region_held3 (fun w' => w'.cell? ⟨w.heap.size, 0, none⟩ = some (.int .i64 h) ∧ w'.cell? ⟨w.heap.size, 1, none⟩ = some (.int .i64 l0) ∧ w'.cell? ⟨w.heap.size, 2, none⟩ = some (.int .i64 l1) ∧ w'.cell? ⟨w.heap.size, 3, none⟩ = some (.int .i64 l2) ∧ w'.cell? ⟨w.heap.size, 4, none⟩ = some (.int .i64 l3) ∧ w'.cell? ⟨w.heap.size + 1, 0, none⟩ = some (.int .i64 c0) ∧ w'.cell? ⟨w.heap.size + 1, 1, none⟩ = some (.int .i64 c1) ∧ w'.cell? ⟨w.heap.size + 1, 2, none⟩ = some (.int .i64 c2) ∧ w'.cell? ⟨w.heap.size + 1, 3, none⟩ = some (.int .i64 c3)) (first | (exact kk) | (simp [go_sem]; done)) (first
    | (go_at_call 30; refine Calls.mono (knumber_int h l0 l1 l2 l3 _ _ (by decide) HL.out) ?_
       rintro e w3 ⟨rfl, hb3⟩
       have kk := nine_on hb3 kk
       have ht := tab_on hb3 ht
       have hb := below_on hb3 hb)
    | (go_at_call 34; refine Calls.mono (one_from _ _ (pick6 _) (by first | exact HC.out.1 | exact HC.out.2.1 | exact HC.out.2.2.1 | exact HC.out.2.2.2) ht) ?_
       rintro e w3 ⟨rfl, hb3⟩
       have kk := nine_on hb3 kk
       have ht := tab_on hb3 ht
       have hb := below_on hb3 hb)
    | (go_at_call 28; refine Calls.mono (join_any h l0 l1 l2 l3 _ _ _ _ _ HH.out.1 HH.out.2 (by rw [bytes_len]; exact oneP_len _ _ (pick6 _)) (by rw [bytes_len]; exact oneP_len _ _ (pick6 _)) (by rw [bytes_len]; exact oneP_len _ _ (pick6 _)) (by rw [bytes_len]; exact oneP_len _ _ (pick6 _))) ?_
       rintro e w3 ⟨rfl, hb3⟩
       have kk := nine_on hb3 kk
       have ht := tab_on hb3 ht
       have hb := below_on hb3 hb))
  go_wp2_with fail
  go_ret
  exact ⟨rfl, hb⟩
end Go.Proofs.YtghggcehloiemabGreatDoor
