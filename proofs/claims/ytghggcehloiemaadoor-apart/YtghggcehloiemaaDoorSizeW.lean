import Derived.Test.YtghggcehloiemaaDoorParseW
import Derived.Deep.RegionHeld3
import Derived.Deep.DrawnRows
namespace Go.Proofs.YtghggcehloiemaaDoor
open Go.RowKit
set_option linter.unusedVariables false
set_option maxRecDepth 16000

set_option maxHeartbeats 400000 in
theorem shSize_any (a c : Int) (x : Option Addr) (n k : Nat) (w : World) :
    Calls Tryd.prog 23 #[.agg #[.int .i64 a, .int .i64 c, .slice x n k]] w fun e w' => e = .returned (.int .i64 a) ∧ w' = w.alloc (.cells #[.int .i64 a, .int .i64 c, .slice x n k] 43) := by
  go_enter Tryd.func23, Tryd.ntmps23
  go_wp2
  go_ret
  exact ⟨rfl, rfl⟩
set_option maxHeartbeats 400000 in
theorem shStep_any (a c : Int) (x : Option Addr) (n k : Nat) (w : World) :
    Calls Tryd.prog 24 #[.agg #[.int .i64 a, .int .i64 c, .slice x n k]] w fun e w' => e = .returned (.int .i64 c) ∧ w' = w.alloc (.cells #[.int .i64 a, .int .i64 c, .slice x n k] 43) := by
  go_enter Tryd.func24, Tryd.ntmps24
  go_wp2
  go_ret
  exact ⟨rfl, rfl⟩

namespace P
def sizeOf (l : List UInt8) : Nat × Nat × Nat := match tyOf l with
  | some t => ((sz 4 t).1, (sz 4 t).2, 0)
  | none => (0, 0, 1)
end P

set_option maxHeartbeats 1000000 in
theorem size_any (s : ByteArray) (w : World) (hs : s.size ≤ maxLen) :
    Calls Tryd.prog 13 #[.string s] w fun e w' => e = .returned (.tuple #[.int .i64 (P.sizeOf s.data.toList).1, .int .i64 (P.sizeOf s.data.toList).2.1, .int .i64 (P.sizeOf s.data.toList).2.2]) ∧ Below w.heap.size w w' := by
  go_enter Tryd.func13, Tryd.ntmps13
  go_wp2_with fail
  refine (parse_any s w hs).mono ?_
  rintro e w1 ⟨hpost, hbe⟩
  cases ht : P.tyOf s.data.toList with
  | none =>
    rw [ht] at hpost
    simp only at hpost
    subst hpost
    have HT : Hid (P.sizeOf s.data.toList = (0, 0, 1)) := by unfold Hid P.sizeOf; rw [ht]
    clear ht
    go_wp2_with fail
    go_ret3
    exact ⟨by rw [HT.out]; rfl, hbe.alloc hbe.size _⟩
  | some t =>
    rw [ht] at hpost
    simp only at hpost
    obtain ⟨v, rfl, hown⟩ := hpost
    obtain ⟨a, N, cap, rfl⟩ := owns_slice hown
    obtain ⟨fs, hfs⟩ : ∃ fs, (P.sz 4 t).1 = fs := ⟨_, rfl⟩
    obtain ⟨fp, hfp⟩ : ∃ fp, (P.sz 4 t).2 = fp := ⟨_, rfl⟩
    have HT : Hid (P.sizeOf s.data.toList = (fs, fp, 0)) := by unfold Hid P.sizeOf; rw [ht, ← hfs, ← hfp]
    rw [hfs, hfp]
    clear ht hown hfs hfp
    go_wp2_with fail
    go_region_held3 (fun w' => w'.cell? ⟨w1.heap.size, 0, none⟩ = some (.int .i64 fs) ∧ w'.cell? ⟨w1.heap.size, 1, none⟩ = some (.int .i64 fp) ∧ w'.cell? ⟨w1.heap.size, 2, none⟩ = some (.slice a N cap) ) (simp [go_sem, World.cell?_alloc_past]) (first | (go_at_call 23; refine (shSize_any _ _ _ _ _ _).mono ?_; rintro e w' ⟨rfl, rfl⟩) | (go_at_call 24; refine (shStep_any _ _ _ _ _ _).mono ?_; rintro e w' ⟨rfl, rfl⟩))
    have hsz := hbe.size
    all_goals go_wp2_with fail
    all_goals go_ret3
    all_goals exact ⟨by rw [HT.out]; rfl, (((hbe.alloc hsz _).alloc (by simp; omega) _).alloc (by simp; omega) _).drew⟩
end Go.Proofs.YtghggcehloiemaaDoor
