import Derived.Test.YtghggcehloiemaaRefTop
namespace Go.Proofs.Ytghggcehloiemaa
open Go.RowKit
set_option linter.unusedVariables false
set_option maxRecDepth 16000

namespace P
def rsizeOf (l : List UInt8) : Nat × Nat × Nat := match rtyOf l with
  | some t => ((sz 4 t).1, (sz 4 t).2, 0)
  | none => (0, 0, 1)
end P

set_option maxHeartbeats 1000000 in
theorem rSize_any (s : ByteArray) (w : World) (hs : s.size ≤ maxLen) :
    Calls Try.prog 13 #[.string s] w fun e w' => e = .returned (.tuple #[.int .i64 (P.rsizeOf s.data.toList).1, .int .i64 (P.rsizeOf s.data.toList).2.1, .int .i64 (P.rsizeOf s.data.toList).2.2]) ∧ Below w.heap.size w w' := by
  go_enter Try.func13, Try.ntmps13
  go_wp2_with fail
  refine (rParse_any s w hs).mono ?_
  rintro e w1 ⟨hpost, hbe⟩
  cases ht : P.rtyOf s.data.toList with
  | none =>
    rw [ht] at hpost
    obtain ⟨v, rfl, a1, a2, a3, x', n1, k1, y, m1, j1, rfl⟩ := hpost
    have HT : Hid (P.rsizeOf s.data.toList = (0, 0, 1)) := by unfold Hid P.rsizeOf; rw [ht]
    clear ht
    go_wp2_with fail
    go_ret3
    exact ⟨by rw [HT.out]; rfl, hbe.alloc hbe.size _⟩
  | some t =>
    rw [ht] at hpost
    obtain ⟨v, S, rfl, hT, hS⟩ := hpost
    obtain ⟨a1, x', n1, k1, y, m1, j1, rfl⟩ := hT.is
    obtain ⟨fs, hfs⟩ : ∃ fs, (P.sz 4 t).1 = fs := ⟨_, rfl⟩
    obtain ⟨fp, hfp⟩ : ∃ fp, (P.sz 4 t).2 = fp := ⟨_, rfl⟩
    have HT : Hid (P.rsizeOf s.data.toList = (fs, fp, 0)) := by unfold Hid P.rsizeOf; rw [ht, ← hfs, ← hfp]
    rw [hfs, hfp]
    clear ht hT hfs hfp hS
    go_wp2_with fail
    go_quiet (fail)
    go_wp2_with fail
    go_ret3
    exact ⟨by rw [HT.out]; rfl, below_drewN (hbe.alloc hbe.size _) _⟩
end Go.Proofs.Ytghggcehloiemaa
