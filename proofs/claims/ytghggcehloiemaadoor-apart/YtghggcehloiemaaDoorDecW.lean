import Derived.Test.YtghggcehloiemaaDoorTellW2
import Derived.Test.YtghggcehloiemaaDoorEncW
namespace Go.Proofs.YtghggcehloiemaaDoor
open Go.RowKit
set_option linter.unusedVariables false
set_option maxRecDepth 16000

namespace P
def decOf (lt bs : List UInt8) : List UInt8 × Nat := match tyOf lt with
  | none => ([], 1)
  | some t => if bs.length = (sz 4 t).1 then (tellAll (parts 4 t) bs, 0) else ([], 3)
end P

set_option maxHeartbeats 1000000 in
theorem decode_any (s v : ByteArray) (w : World) (hs : s.size ≤ maxLen) (htab : Lib.TabIs Tryd.prog w "internal/strconv.uint64pow10" .u64 Lib.pow10Tab) :
    Calls Tryd.prog 6 #[.string s, .string v] w fun e w' => e = .returned (.tuple #[.string ⟨(P.decOf s.data.toList v.data.toList).1.toArray⟩, .int .i64 (P.decOf s.data.toList v.data.toList).2]) ∧ Below w.heap.size w w' := by
  have HTB : Hid (Lib.TabIs Tryd.prog w "internal/strconv.uint64pow10" .u64 Lib.pow10Tab) := htab
  clear htab
  go_enter Tryd.func6, Tryd.ntmps6
  go_wp2_with fail
  refine (parse_any s w hs).mono ?_
  rintro e w1 ⟨hpost, hbe⟩
  cases ht : P.tyOf s.data.toList with
  | none =>
    rw [ht] at hpost
    simp only at hpost
    subst hpost
    have HT : Hid (P.decOf s.data.toList v.data.toList = ([], 1)) := by unfold Hid P.decOf; rw [ht]
    clear ht
    go_wp2_with fail
    go_ret2
    exact ⟨by rw [HT.out]; rfl, hbe.alloc hbe.size _⟩
  | some t =>
    rw [ht] at hpost
    simp only at hpost
    obtain ⟨vv, rfl, hown⟩ := hpost
    obtain ⟨a, N, cap, rfl⟩ := owns_slice hown
    obtain ⟨hrd, hs32, hl80⟩ := tyOf_some ht
    obtain ⟨hfine, hplen⟩ := P.rd_fine 4 _ t [] hrd
    have HT : Hid (P.decOf s.data.toList v.data.toList = if v.size = (P.sz 4 t).1 then (P.tellAll (P.parts 4 t) v.data.toList, 0) else ([], 3)) := by unfold Hid P.decOf; rw [ht]; simp
    obtain ⟨fs, hfs⟩ : ∃ fs, (P.sz 4 t).1 = fs := ⟨_, rfl⟩
    obtain ⟨fp, hfp⟩ : ∃ fp, (P.sz 4 t).2 = fp := ⟨_, rfl⟩
    have hf1 := hfine.2.1
    have hf2 := hfine.2.2
    rw [hfs] at hf1 hf2 hs32 HT
    rw [hfs, hfp]
    have HOK : Hid (∀ x ∈ P.parts 4 t, P.PtOk fs x) := hf2
    have hp80 : (P.parts 4 t).length ≤ 80 := by simp only [List.length_nil, Nat.add_zero] at hplen; omega
    have HOWN : Hid ((w1.alloc (.cells #[.int .i64 fs, .int .i64 fp, .slice a N cap] 43)).ownsRow (w.heap.size + 1) 68 4 (.slice a N cap) (P.parts 4 t).length (cellsOf (P.parts 4 t))) := hown.alloc _
    clear hf2 hrd hfine ht hfs hfp hown hplen hl80
    have hsz1 := hbe.size
    have hbe' : Below w.heap.size w (w1.alloc (.cells #[.int .i64 fs, .int .i64 fp, .slice a N cap] 43)) := hbe.alloc hsz1 _
    have HTB2 : Hid (Lib.TabIs Tryd.prog (w1.alloc (.cells #[.int .i64 fs, .int .i64 fp, .slice a N cap] 43)) "internal/strconv.uint64pow10" .u64 Lib.pow10Tab) := ((Lib.tabBelow_of_tabIs HTB.out).on hbe').here
    go_wp2_with fail
    refine (Tell_any v _ fs fp (w.heap.size + 1) (.slice a N cap) (P.parts 4 t) HOWN.out hf1 hs32 hp80 HOK.out (Lib.tabBelow_of_tabIs HTB2.out)).mono ?_
    rintro e w2 ⟨hpost, hbe2⟩
    have hbe3 : Below w.heap.size w w2 := hbe'.trans (hbe2.mono (by simp; omega))
    by_cases hl : v.size = fs
    · rw [if_pos hl] at hpost
      simp only at hpost
      subst hpost
      have HE : Hid (P.decOf s.data.toList v.data.toList = (P.tellAll (P.parts 4 t) v.data.toList, 0)) := by unfold Hid; rw [HT.out, if_pos hl]
      clear hl hbe2
      go_wp2_with fail
      go_ret2
      exact ⟨by rw [HE.out]; rfl, hbe3⟩
    · rw [if_neg hl] at hpost
      simp only at hpost
      subst hpost
      have HE : Hid (P.decOf s.data.toList v.data.toList = ([], 3)) := by unfold Hid; rw [HT.out, if_neg hl]
      clear hl hbe2
      go_wp2_with fail
      go_ret2
      exact ⟨by rw [HE.out]; rfl, hbe3⟩
end Go.Proofs.YtghggcehloiemaaDoor
