import Derived.Test.YtghggcehloiemaaDoorRefValS
import Derived.Test.YtghggcehloiemaaDoorRefTop
namespace Go.Proofs.YtghggcehloiemaaDoor
open Go.RowKit
set_option linter.unusedVariables false
set_option maxRecDepth 16000

namespace P
def rdecOf (lt bs : List UInt8) : List UInt8 × Nat := match rtyOf lt with
  | none => ([], 1)
  | some t => if bs.length = (sz 4 t).1 then (valueP 4 t bs, 0) else ([], 3)
end P

set_option maxHeartbeats 1000000 in
theorem rdecode_any (s v : ByteArray) (w : World) (hs : s.size ≤ maxLen) :
    Calls Tryd.prog 7 #[.string s, .string v] w fun e w' => e = .returned (.tuple #[.string ⟨(P.rdecOf s.data.toList v.data.toList).1.toArray⟩, .int .i64 (P.rdecOf s.data.toList v.data.toList).2]) ∧ Below w.heap.size w w' := by
  go_enter Tryd.func7, Tryd.ntmps7
  go_wp2_with fail
  refine (rParse_any s w hs).mono ?_
  rintro e w1 ⟨hpost, hbe⟩
  cases ht : P.rtyOf s.data.toList with
  | none =>
    rw [ht] at hpost
    obtain ⟨vv, rfl, a1, a2, a3, x', n1, k1, y, m1, j1, rfl⟩ := hpost
    have HT : Hid (P.rdecOf s.data.toList v.data.toList = ([], 1)) := by unfold Hid P.rdecOf; rw [ht]
    clear ht
    go_wp2_with fail
    go_ret2
    exact ⟨by rw [HT.out]; rfl, hbe.alloc hbe.size _⟩
  | some t =>
    rw [ht] at hpost
    obtain ⟨vv, S, rfl, hT, hS⟩ := hpost
    have hrp : P.rp 4 s.data.toList = some t := by
      unfold P.rtyOf at ht
      split at ht
      · cases ht
      · exact ht
    have hsm := P.rp_sm 4 _ t hrp
    have hnm := P.rp_nm 4 _ t hrp
    obtain ⟨a0, x', n1, k1, y, m1, j1, rfl⟩ := hT.is
    have HT : Hid (P.rdecOf s.data.toList v.data.toList = if v.size = (P.sz 4 t).1 then (P.valueP 4 t v.data.toList, 0) else ([], 3)) := by unfold Hid P.rdecOf; rw [ht]; simp
    obtain ⟨f1, hf1⟩ : ∃ f1, (P.sz 4 t).1 = f1 := ⟨_, rfl⟩
    obtain ⟨f2, hf2⟩ : ∃ f2, (P.sz 4 t).2 = f2 := ⟨_, rfl⟩
    have HF1 : Hid ((P.sz 4 t).1 = f1) := hf1
    rw [hf1] at HT
    rw [hf1, hf2] at hT ⊢
    have hsz1 := hbe.size
    have hT2 : TypAt (w1.alloc (.cells #[.int .u8 a0, .int .i64 f1, .int .i64 f2, .slice x' n1 k1, .slice y m1 j1] 51)) 4 t (.agg #[.int .u8 a0, .int .i64 f1, .int .i64 f2, .slice x' n1 k1, .slice y m1 j1]) S := hT.of (fun g hg => Below.heap_alloc _ _ _ (hS g hg).2) (fun g hg => hg)
    have hS2 : ∀ g, S g → g < w1.heap.size := fun g hg => (hS g hg).2
    by_cases hl : v.size = f1
    · have HC : Hid (Calls Tryd.prog 18 #[.agg #[.int .u8 a0, .int .i64 f1, .int .i64 f2, .slice x' n1 k1, .slice y m1 j1], .string v] (w1.alloc (.cells #[.int .u8 a0, .int .i64 f1, .int .i64 f2, .slice x' n1 k1, .slice y m1 j1] 51)) fun e w' => e = .returned (.string ⟨(P.valueP 4 t v.data.toList).toArray⟩) ∧ Below (w1.alloc (.cells #[.int .u8 a0, .int .i64 f1, .int .i64 f2, .slice x' n1 k1, .slice y m1 j1] 51)).heap.size (w1.alloc (.cells #[.int .u8 a0, .int .i64 f1, .int .i64 f2, .slice x' n1 k1, .slice y m1 j1] 51)) w') :=
        value_all 4 t _ S v _ hsm hnm hT2 (fun g hg => by have := hS2 g hg; simp; omega) (by rw [hf1]; exact hl) (by omega)
      have HE : Hid (P.rdecOf s.data.toList v.data.toList = (P.valueP 4 t v.data.toList, 0)) := by unfold Hid; rw [HT.out, if_pos hl]
      have hlb : ((v.size : Int) == (f1 : Int)) = true := by rw [beq_iff_eq]; omega
      clear hT hT2 hS hf1 hf2 ht hrp hsm hnm hS2
      go_wp2_with fail
      refine Calls.mono HC.out ?_
      rintro e w2 ⟨rfl, hbe2⟩
      have hbe3 : Below w.heap.size w w2 := (hbe.alloc hsz1 _).trans (hbe2.mono (by simp; omega))
      go_wp2_with fail
      go_ret2
      exact ⟨by rw [HE.out]; rfl, hbe3⟩
    · have HE : Hid (P.rdecOf s.data.toList v.data.toList = ([], 3)) := by unfold Hid; rw [HT.out, if_neg hl]
      have hlb : ((v.size : Int) == (f1 : Int)) = false := by rw [beq_eq_false_iff_ne]; omega
      have hb2 : Below w.heap.size w (w1.alloc (.cells #[.int .u8 a0, .int .i64 f1, .int .i64 f2, .slice x' n1 k1, .slice y m1 j1] 51)) := hbe.alloc hsz1 _
      clear hT hT2 hS hf1 hf2 ht hrp hsm hnm hS2
      go_wp2_with fail
      go_ret2
      exact ⟨by rw [HE.out]; rfl, hb2⟩
end Go.Proofs.YtghggcehloiemaaDoor
