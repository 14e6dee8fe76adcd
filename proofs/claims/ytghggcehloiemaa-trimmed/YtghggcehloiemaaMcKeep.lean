import Derived.Test.YtghggcehloiemaaMcTrim
import Derived.Test.YtghggcehloiemaaMcRun3
namespace Go.Proofs.Ytghggcehloiemaa
open Go.RowKit
set_option linter.unusedVariables false
set_option maxRecDepth 16000

theorem run_example : P.runOf [1, 3, 0, 5, 0, 3, 0, 3, 0, 0, 0, 0, 0, 7, 0] [65] 4294967295 0 0 3 = ⟨[65], 4, 7, 3, 0⟩ := by kernel_rfl
theorem code_example : P.IsCode [11, 0, 0, 2, 0, 1, 0, 0, 9, 0, 0, 0, 0, 0, 0] := by decide +kernel
theorem list_example : P.codeOf [11, 0, 0, 2, 0, 1, 0, 0, 9, 0, 0, 0, 0, 0, 0] = [⟨11, 0, 0, 2⟩, ⟨1, 0, 0, 9⟩, ⟨0, 0, 0, 0⟩] := by decide +kernel
theorem flags_example : P.Flags (P.codeOf [11, 0, 0, 2, 0, 1, 0, 0, 9, 0, 0, 0, 0, 0, 0]) [true, false, true] := by
  rw [list_example]
  have r2 : P.Reach [⟨11, 0, 0, 2⟩, ⟨1, 0, 0, 9⟩, ⟨0, 0, 0, 0⟩] 2 := P.Reach.go (i := 0) (x := ⟨11, 0, 0, 2⟩) P.Reach.zero rfl (by decide)
  refine P.flags_of_closed rfl rfl ?_ ?_
  · intro i hi
    match i, hi with
    | 0, _ => exact P.Reach.zero
    | 1, h => cases h
    | 2, _ => exact r2
    | n + 3, h => cases h
  · intro i hi x hx hf
    match i, hx, hf with
    | 0, hx, _ => cases hx; exact ⟨fun _ => rfl, fun h => absurd (.inr rfl) h⟩
    | 1, _, h => cases h
    | 2, hx, _ => cases hx; exact ⟨fun h => absurd h (by decide), fun h => absurd (.inl rfl) h⟩
    | n + 3, hx, _ => cases hx
theorem trim_example {r : List UInt8} {er : Nat} (h : TrimOf [11, 0, 0, 2, 0, 1, 0, 0, 9, 0, 0, 0, 0, 0, 0] r er) : r = [11, 0, 0, 1, 0, 0, 0, 0, 0, 0] ∧ er = 0 := by
  have h' : TrimOf [11, 0, 0, 2, 0, 1, 0, 0, 9, 0, 0, 0, 0, 0, 0] [11, 0, 0, 1, 0, 0, 0, 0, 0, 0] 0 := .inl ⟨code_example, ⟨_, flags_example, by rw [list_example]; decide +kernel⟩, rfl⟩
  exact h.only h'

set_option maxHeartbeats 1000000 in
theorem running_any (w : World) : Calls Try.prog 24 #[] w fun e w' => e = .returned (.bool true) ∧ Below w.heap.size w w' := by
  go_enter Try.func24, Try.ntmps24
  go_wp2_with fail
  refine (run_any ⟨#[1, 3, 0, 5, 0, 3, 0, 3, 0, 0, 0, 0, 0, 7, 0]⟩ ⟨#[65]⟩ 4294967295 0 0 3 w (by decide) ⟨[65], 4, 7, 3, 0⟩ run_example).mono ?_
  rintro e w1 ⟨rfl, hb1⟩
  have HB1 := hid_m hb1
  clear hb1
  simp only [outV]
  go_wp2_with fail
  refine (trim_any ⟨#[11, 0, 0, 2, 0, 1, 0, 0, 9, 0, 0, 0, 0, 0, 0]⟩ _ (by decide)).mono ?_
  rintro e w2 ⟨⟨r, er, ht, rfl⟩, hb2⟩
  obtain ⟨rfl, rfl⟩ := trim_example ht
  have hbA : Below w1.heap.size w1 (w1.alloc (.cells #[.string ⟨#[65]⟩, .int .i64 4, .int .i64 7, .int .i64 3] 37)) := (Below.refl _ _).alloc (Nat.le_refl _) _
  have ko : w2.heap[w1.heap.size]? = some (.cells #[.string ⟨#[65]⟩, .int .i64 4, .int .i64 7, .int .i64 3] 37 (0, 0)) := by rw [hb2.block _ (by simp)]; exact heap_alloc_new _ _
  obtain ⟨o0, o1, o2, o3, of⟩ := out_facts ko
  have HB2 : Hid (Below w.heap.size w w2) := HB1.out.trans ((hbA.trans (hb2.mono hbA.size)).mono HB1.out.size)
  clear ht hb2 hbA ko of
  go_wp2_with fail
  go_ret
  exact ⟨by simp, HB2.out⟩
end Go.Proofs.Ytghggcehloiemaa
