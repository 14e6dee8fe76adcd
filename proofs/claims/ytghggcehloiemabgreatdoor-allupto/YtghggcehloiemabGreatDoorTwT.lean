import Derived.Test.YtghggcehloiemabGreatDoorTwW
namespace Go.Proofs.YtghggcehloiemabGreatDoor
open Go.RowKit
set_option linter.unusedVariables false
set_option maxRecDepth 16000
def knownC : Array Value := #[.int .i64 8, .int .i64 0, .int .i64 1, .int .i64 0, .int .i64 0, .int .i64 0, .string ⟨#[123, 117, 49, 44, 117, 50, 125]⟩, .string ⟨#[117, 49]⟩, .int .i64 9, .int .i64 0, .int .i64 0, .int .i64 0, .int .i64 0, .int .i64 0, .string ⟨#[123, 49, 44, 50, 125]⟩, .string ⟨#[51]⟩, .int .i64 9, .int .i64 0, .int .i64 0, .int .i64 0, .int .i64 0, .int .i64 0, .string ⟨#[123, 49, 44, 51, 125]⟩, .string ⟨#[51]⟩, .int .i64 10, .int .i64 0, .int .i64 0, .int .i64 0, .int .i64 0, .int .i64 0, .string ⟨#[123, 49, 44, 50, 125]⟩, .string ⟨#[]⟩]
theorem known_ops {w : World} {g : Nat} (h : w.heap[g]? = some (.cells knownC 86 (0, 0))) : OpsAt w (some ⟨g, 0, none⟩) 4 := by
  have hl := m_blk_lt h
  have cc : ∀ j v, knownC[j]? = some v → w.cell? ⟨g, j, none⟩ = some v := fun j v hv => by rw [cell_of_row _ _ _ _ _ _ h]; exact hv
  have six : ∀ z : Int, 0 ≤ z ∧ z ≤ 100 → I6o z := fun z hz => by unfold I6o; omega
  intro i hi
  have hc : i = 0 ∨ i = 1 ∨ i = 2 ∨ i = 3 := by omega
  rcases hc with rfl | rfl | rfl | rfl
  all_goals exact ⟨g, 0, _, _, _, _, _, _, _, _, rfl, hl, ⟨cc _ _ rfl, cc _ _ rfl, cc _ _ rfl, cc _ _ rfl, cc _ _ rfl, cc _ _ rfl, cc _ _ rfl, cc _ _ rfl⟩, ⟨six _ (by decide), six _ (by decide), six _ (by decide), six _ (by decide), six _ (by decide), six _ (by decide)⟩, by decide, by decide⟩
set_option maxHeartbeats 4000000 in
theorem known_any (w : World) (htab : Lib.TabIs Tryz.prog w "internal/strconv.uint64pow10" .u64 Lib.pow10Tab) :
    Calls Tryz.prog 20 #[] w fun e w' => e = .returned (.bool true) ∧ Below w.heap.size w w' := by
  have hb0 : Below w.heap.size w (w.alloc (.cells knownC 86)) := (Below.refl _ _).alloc (Nat.le_refl _) _
  have HP := hid_m (played_any (some ⟨w.heap.size, 0, none⟩) 4 4 false (w.alloc (.cells knownC 86)) (by decide) (known_ops (heap_alloc_new _ _)) ((Lib.tabBelow_of_tabIs htab).on hb0).here (fun h => by cases h))
  have B0 := hid_m hb0
  clear htab hb0
  go_enter Tryz.func20, Tryz.ntmps20
  go_wp2_with fail
  refine HP.out.mono ?_
  rintro e w1 ⟨rfl, hb1⟩
  have B1 := hid_m (B0.out.trans (hb1.mono B0.out.size))
  clear hb1 HP
  go_wp2_with fail
  go_ret
  exact ⟨rfl, B1.out⟩
set_option maxHeartbeats 4000000 in
theorem tables_any (x : Option Addr) (N cap : Nat) (w : World) (hN : N ≤ 1048576) (hts : OpsAt w x N) (htab : Lib.TabIs Tryz.prog w "internal/strconv.uint64pow10" .u64 Lib.pow10Tab) :
    Calls Tryz.prog 5 #[.slice x N cap] w fun e w' => e = .returned (.bool true) ∧ Below w.heap.size w w' := by
  have HK := hid_m (known_any w htab)
  have HP : Hid (∀ w', Below w.heap.size w w' → Calls Tryz.prog 21 #[.slice x N cap, .bool false] w' fun e w'' => e = .returned (.bool true) ∧ Below w'.heap.size w' w'') := fun w' hb => played_any x N cap false w' hN (hts.on hb) ((Lib.tabBelow_of_tabIs htab).on hb).here (fun h => by cases h)
  clear hN hts htab
  go_enter Tryz.func5, Tryz.ntmps5
  go_wp2_with fail
  refine HK.out.mono ?_
  rintro e w1 ⟨rfl, hb1⟩
  have B1 := hid_m hb1
  clear hb1
  go_wp2_with fail
  refine (HP.out _ B1.out).mono ?_
  rintro e w2 ⟨rfl, hb2⟩
  have B2 := hid_m (B1.out.trans (hb2.mono B1.out.size))
  clear hb2
  go_wp2_with fail
  go_ret
  exact ⟨by simp, B2.out⟩
end Go.Proofs.YtghggcehloiemabGreatDoor
