import Derived.Test.YtghggcehloiemaaRefStruct
namespace Go.Proofs.Ytghggcehloiemaa
open Go.RowKit
set_option linter.unusedVariables false
set_option maxRecDepth 16000

namespace P
/-- The type that a text is, by the reference. -/
def rtyOf (l : List UInt8) : Option (Ty 4) := if 80 < l.length then none else rp 4 l
end P

set_option maxHeartbeats 1000000 in
theorem rParse_any (s : ByteArray) (w : World) (hs : s.size ≤ maxLen) :
    Calls Try.prog 30 #[.string s] w fun e w' => RpPost 4 (P.rtyOf s.data.toList) w e w' := by
  unfold maxLen at hs
  have hl := tl_len s
  by_cases hlong : 80 < s.size
  · have HT : Hid (P.rtyOf s.data.toList = none) := by unfold Hid P.rtyOf; rw [if_pos (by omega)]
    go_enter Try.func30, Try.ntmps30
    go_wp2_with fail
    refine bodyPost_ret (v := .tuple #[zeroTyp, .bool false]) (by simp [results, Try.results30, go_sem, zeroTyp]) rfl ?_
    exact RpPost.no HT.out rfl isTyp_zero ((Below.refl _ _).alloc (Nat.le_refl _) _)
  · have HT : Hid (P.rtyOf s.data.toList = P.rp 4 s.data.toList) := by unfold Hid P.rtyOf; rw [if_neg (by omega)]
    go_enter Try.func30, Try.ntmps30
    go_wp2_with fail
    refine (rparse_all 4 0 s _ rfl (by omega)).mono ?_
    rintro e w2 ⟨hpost, hbe⟩
    have hres : w2.heap[w.heap.size]? = some (.cells #[.int .u8 0, .int .i64 0, .int .i64 0, .slice none 0 0, .slice none 0 0] 60 (0, 0)) := by
      rw [hbe.block _ (by simp)]; exact heap_alloc_new _ _
    obtain ⟨c0, c1, c2, c3, c4⟩ := cells5a hres
    have cf := froz5a hres
    have hsz := hbe.size
    simp at hsz
    have hbw : Below w.heap.size w w2 := ((Below.refl _ _).alloc (Nat.le_refl _) _).trans (hbe.mono (by simp))
    clear hres
    cases hr : P.rp 4 s.data.toList with
    | none =>
      rw [hr] at hpost
      obtain ⟨v, rfl, a1, a2, a3, x', n1, k1, y, m1, j1, rfl⟩ := hpost
      have HR : Hid (P.rp 4 s.data.toList = none) := hr
      clear hr
      go_wp2_with fail
      refine bodyPost_ret (v := .tuple #[.agg #[.int .u8 a1, .int .i64 a2, .int .i64 a3, .slice x' n1 k1, .slice y m1 j1], .bool false]) (by simp [results, Try.results30, go_sem, c0, c1, c2, c3, c4]) rfl ?_
      exact RpPost.no (by rw [HT.out, HR.out]) rfl ⟨_, _, _, _, _, _, _, _, _, rfl⟩ (Below.setCell (Below.setCell (Below.setCell (Below.setCell (Below.setCell (hbw.alloc (by omega) _) (Nat.le_refl _) _) (Nat.le_refl _) _) (Nat.le_refl _) _) (Nat.le_refl _) _) (Nat.le_refl _) _)
    | some t =>
      rw [hr] at hpost
      obtain ⟨v, S, rfl, hT, hS⟩ := hpost
      obtain ⟨a1, x', n1, k1, y, m1, j1, rfl⟩ := hT.is
      obtain ⟨fs, hfs⟩ : ∃ fs, (P.sz 4 t).1 = fs := ⟨_, rfl⟩
      obtain ⟨fp, hfp⟩ : ∃ fp, (P.sz 4 t).2 = fp := ⟨_, rfl⟩
      rw [hfs, hfp] at hT ⊢
      have HR : Hid (P.rp 4 s.data.toList = some t) := hr
      clear hr hfs hfp
      go_wp2_with fail
      have hh5 := set5_heap (w2.alloc (.cells #[.int .u8 a1, .int .i64 fs, .int .i64 fp, .slice x' n1 k1, .slice y m1 j1] 60)) w.heap.size (.int .u8 a1) (.int .i64 fs) (.int .i64 fp) (.slice x' n1 k1) (.slice y m1 j1)
      refine bodyPost_ret (v := .tuple #[.agg #[.int .u8 a1, .int .i64 fs, .int .i64 fp, .slice x' n1 k1, .slice y m1 j1], .bool true]) (by simp [results, Try.results30, go_sem, c0, c1, c2, c3, c4]) rfl ?_
      refine RpPost.yes (S := S) (t := t) (by rw [HT.out, HR.out]) rfl (hT.of (fun g hg => ?_) (fun g hg => hg)) (fun g hg => ?_) (Below.setCell (Below.setCell (Below.setCell (Below.setCell (Below.setCell (hbw.alloc (by omega) _) (Nat.le_refl _) _) (Nat.le_refl _) _) (Nat.le_refl _) _) (Nat.le_refl _) _) (Nat.le_refl _) _)
      · have hg' := hS g hg
        simp at hg'
        rw [hh5.1 g (by omega), Below.heap_alloc _ _ _ hg'.2]
      · have hg' := hS g hg
        simp at hg'
        rw [hh5.2]; simp; omega

end Go.Proofs.Ytghggcehloiemaa
