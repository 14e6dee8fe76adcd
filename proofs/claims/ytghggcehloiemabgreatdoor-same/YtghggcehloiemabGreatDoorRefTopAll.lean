import Derived.Test.YtghggcehloiemabGreatDoorRefStruct
namespace Go.Proofs.YtghggcehloiemabGreatDoor
open Go.RowKit
set_option linter.unusedVariables false
set_option maxRecDepth 16000

namespace P
/-- The type that a text is, by the reference. -/
def rtyOf (l : List UInt8) : Option (Ty 4) := if 80 < l.length then none else rp 4 l
end P

set_option maxHeartbeats 1000000 in
theorem rParse_any (s : ByteArray) (w : World) (hs : s.size ≤ maxLen) :
    Calls Tryz.prog 74 #[.string s] w fun e w' => RpPost 4 (P.rtyOf s.data.toList) w e w' := by
  unfold maxLen at hs
  have hl := tl_len s
  by_cases hlong : 80 < s.size
  · have HT : Hid (P.rtyOf s.data.toList = none) := by unfold Hid P.rtyOf; rw [if_pos (by omega)]
    go_enter Tryz.func74, Tryz.ntmps74
    go_wp2_with fail
    refine bodyPost_ret (v := .tuple #[zeroTyp, .bool false]) (by simp [results, Tryz.results74, go_sem, zeroTyp]) rfl ?_
    exact RpPost.no HT.out rfl isTyp_zero ((Below.refl _ _).alloc (Nat.le_refl _) _)
  · have HT : Hid (P.rtyOf s.data.toList = P.rp 4 s.data.toList) := by unfold Hid P.rtyOf; rw [if_neg (by omega)]
    go_enter Tryz.func74, Tryz.ntmps74
    go_wp2_with fail
    refine (rparse_all 4 0 s _ rfl (by omega)).mono ?_
    rintro e w2 ⟨hpost, hbe⟩
    have hres : w2.heap[w.heap.size]? = some (.cells #[.int .u8 0, .int .i64 0, .int .i64 0, .slice none 0 0, .slice none 0 0] 121 (0, 0)) := by
      rw [hbe.block _ (by simp)]; exact heap_alloc_new _ _
    obtain ⟨c0, c1, c2, c3, c4⟩ := cells5a hres
    have cf := froz5a hres
    have hsz := hbe.size
    simp at hsz
    have hbw : Below w.heap.size w w2 := ((Below.refl _ _).alloc (Nat.le_refl _) _).trans (hbe.mono (by simp))
    clear hres
    cases hr : P.rp 4 s.data.toList with
    | none =>
      rw [hr] at hpost
      obtain ⟨v, rfl, a1, a2, a3, x', n1, k1, y, m1, j1, rfl⟩ := hpost
      have HR : Hid (P.rp 4 s.data.toList = none) := hr
      clear hr
      go_wp2_with fail
      refine bodyPost_ret (v := .tuple #[.agg #[.int .u8 a1, .int .i64 a2, .int .i64 a3, .slice x' n1 k1, .slice y m1 j1], .bool false]) (by simp [results, Tryz.results74, go_sem, c0, c1, c2, c3, c4]) rfl ?_
      exact RpPost.no (by rw [HT.out, HR.out]) rfl ⟨_, _, _, _, _, _, _, _, _, rfl⟩ (Below.setCell (Below.setCell (Below.setCell (Below.setCell (Below.setCell (hbw.alloc (by omega) _) (Nat.le_refl _) _) (Nat.le_refl _) _) (Nat.le_refl _) _) (Nat.le_refl _) _) (Nat.le_refl _) _)
    | some t =>
      rw [hr] at hpost
      obtain ⟨v, S, rfl, hT, hS⟩ := hpost
      obtain ⟨a1, x', n1, k1, y, m1, j1, rfl⟩ := hT.is
      obtain ⟨fs, hfs⟩ : ∃ fs, (P.sz 4 t).1 = fs := ⟨_, rfl⟩
      obtain ⟨fp, hfp⟩ : ∃ fp, (P.sz 4 t).2 = fp := ⟨_, rfl⟩
      rw [hfs, hfp] at hT ⊢
      have HR : Hid (P.rp 4 s.data.toList = some t) := hr
      clear hr hfs hfp
      go_wp2_with fail
      have hh5 := set5_heap (w2.alloc (.cells #[.int .u8 a1, .int .i64 fs, .int .i64 fp, .slice x' n1 k1, .slice y m1 j1] 121)) w.heap.size (.int .u8 a1) (.int .i64 fs) (.int .i64 fp) (.slice x' n1 k1) (.slice y m1 j1)
      refine bodyPost_ret (v := .tuple #[.agg #[.int .u8 a1, .int .i64 fs, .int .i64 fp, .slice x' n1 k1, .slice y m1 j1], .bool true]) (by simp [results, Tryz.results74, go_sem, c0, c1, c2, c3, c4]) rfl ?_
      refine RpPost.yes (S := S) (t := t) (by rw [HT.out, HR.out]) rfl (hT.of (fun g hg => ?_) (fun g hg => hg)) (fun g hg => ?_) (Below.setCell (Below.setCell (Below.setCell (Below.setCell (Below.setCell (hbw.alloc (by omega) _) (Nat.le_refl _) _) (Nat.le_refl _) _) (Nat.le_refl _) _) (Nat.le_refl _) _) (Nat.le_refl _) _)
      · have hg' := hS g hg
        simp at hg'
        rw [hh5.1 g (by omega), Below.heap_alloc _ _ _ hg'.2]
      · have hg' := hS g hg
        simp at hg'
        rw [hh5.2]; simp; omega

end Go.Proofs.YtghggcehloiemabGreatDoor
namespace Go.Proofs.YtghggcehloiemabGreatDoor
open Go.RowKit
set_option linter.unusedVariables false
set_option maxRecDepth 16000

namespace P
def rsizeOf (l : List UInt8) : Nat × Nat × Nat := match rtyOf l with
  | some t => ((sz 4 t).1, (sz 4 t).2, 0)
  | none => (0, 0, 1)
end P

set_option maxHeartbeats 1000000 in
theorem rSize_any (s : ByteArray) (w : World) (hs : s.size ≤ maxLen) :
    Calls Tryz.prog 119 #[.string s] w fun e w' => e = .returned (.tuple #[.int .i64 (P.rsizeOf s.data.toList).1, .int .i64 (P.rsizeOf s.data.toList).2.1, .int .i64 (P.rsizeOf s.data.toList).2.2]) ∧ Below w.heap.size w w' := by
  go_enter Tryz.func119, Tryz.ntmps119
  go_wp2_with fail
  refine (rParse_any s w hs).mono ?_
  rintro e w1 ⟨hpost, hbe⟩
  cases ht : P.rtyOf s.data.toList with
  | none =>
    rw [ht] at hpost
    obtain ⟨v, rfl, a1, a2, a3, x', n1, k1, y, m1, j1, rfl⟩ := hpost
    have HT : Hid (P.rsizeOf s.data.toList = (0, 0, 1)) := by unfold Hid P.rsizeOf; rw [ht]
    clear ht
    go_wp2_with fail
    go_ret3
    exact ⟨by rw [HT.out]; rfl, hbe.alloc hbe.size _⟩
  | some t =>
    rw [ht] at hpost
    obtain ⟨v, S, rfl, hT, hS⟩ := hpost
    obtain ⟨a1, x', n1, k1, y, m1, j1, rfl⟩ := hT.is
    obtain ⟨fs, hfs⟩ : ∃ fs, (P.sz 4 t).1 = fs := ⟨_, rfl⟩
    obtain ⟨fp, hfp⟩ : ∃ fp, (P.sz 4 t).2 = fp := ⟨_, rfl⟩
    have HT : Hid (P.rsizeOf s.data.toList = (fs, fp, 0)) := by unfold Hid P.rsizeOf; rw [ht, ← hfs, ← hfp]
    rw [hfs, hfp]
    clear ht hT hfs hfp hS
    go_wp2_with fail
    go_quiet (fail)
    go_wp2_with fail
    go_ret3
    exact ⟨by rw [HT.out]; rfl, below_drewN (hbe.alloc hbe.size _) _⟩
end Go.Proofs.YtghggcehloiemabGreatDoor
