import Derived.Test.YtghggcehloiemabGreatDoorParseWAll
import Derived.Test.YtghggcehloiemabGreatDoorWriterAll
import Derived.Test.YtghggcehloiemabGreatDoorTellWAll
namespace Go.Proofs.YtghggcehloiemabGreatDoor
open Go.RowKit
set_option linter.unusedVariables false
set_option maxRecDepth 16000

namespace P
/-- The byte that comes into the gaps. -/
def fillB (fill : Int) : UInt8 := UInt8.ofNat (fill % 256).toNat
def encOf (lt lv : List UInt8) (fill : Int) : List UInt8 × Nat := match tyOf lt with
  | none => ([], 1)
  | some t => match layAll (parts 4 t) lv (List.replicate (sz 4 t).1 (fillB fill)) with
    | some ([], bs) => if fill < 0 ∨ 255 < fill then ([], 6) else (bs, 0)
    | _ => ([], 2)
end P

theorem and_255 (z : Int) : bits .and .i64 z 255 = z % 256 := by
  have h2 : (BitVec.ofInt 64 (255 : Int)).toNat = 255 := by decide
  show IntKind.i64.wrap ((BitVec.ofInt 64 z &&& BitVec.ofInt 64 255).toNat : Int) = _
  rw [BitVec.toNat_and, h2, show (255 : Nat) = 2 ^ 8 - 1 from rfl, Nat.and_two_pow_sub_one_eq_mod, BitVec.toNat_ofInt]
  simp only [IntKind.wrap, IntKind.signed, IntKind.bits]
  simp
  omega

theorem tyOf_some {l : List UInt8} {t : P.Ty 4} (h : P.tyOf l = some t) : P.rd 4 l = some (t, []) ∧ (P.sz 4 t).1 ≤ 32 ∧ l.length ≤ 80 := by
  unfold P.tyOf at h
  split at h
  · cases h
  · rename_i h80
    split at h
    · rename_i t' hr
      split at h
      · rename_i hle
        cases h
        exact ⟨hr, hle, by omega⟩
      · cases h
    · cases h

set_option maxHeartbeats 1000000 in
theorem encode_any (s v : ByteArray) (fill : Int) (w : World) (hs : s.size ≤ maxLen) (hv : v.size ≤ maxLen) :
    Calls Tryz.prog 22 #[.string s, .string v, .int .i64 fill] w fun e w' => e = .returned (.tuple #[.string ⟨(P.encOf s.data.toList v.data.toList fill).1.toArray⟩, .int .i64 (P.encOf s.data.toList v.data.toList fill).2]) ∧ Below w.heap.size w w' := by
  go_enter Tryz.func22, Tryz.ntmps22
  go_wp2_with fail
  refine (parse_any s w hs).mono ?_
  rintro e w1 ⟨hpost, hbe⟩
  cases ht : P.tyOf s.data.toList with
  | none =>
    rw [ht] at hpost
    simp only at hpost
    subst hpost
    have HT : Hid (P.encOf s.data.toList v.data.toList fill = ([], 1)) := by unfold Hid P.encOf; rw [ht]
    clear ht
    go_wp2_with fail
    go_ret2
    exact ⟨by rw [HT.out]; rfl, hbe.alloc hbe.size _⟩
  | some t =>
    rw [ht] at hpost
    simp only at hpost
    obtain ⟨vv, rfl, hown⟩ := hpost
    obtain ⟨a, N, cap, rfl⟩ := owns_slice hown
    obtain ⟨hrd, hs32, hl80⟩ := tyOf_some ht
    obtain ⟨hfine, hplen⟩ := P.rd_fine 4 _ t [] hrd
    have HT : Hid (P.encOf s.data.toList v.data.toList fill = match P.layAll (P.parts 4 t) v.data.toList (List.replicate (P.sz 4 t).1 (P.fillB fill)) with
      | some ([], bs) => if fill < 0 ∨ 255 < fill then ([], 6) else (bs, 0)
      | _ => ([], 2)) := by unfold Hid P.encOf; rw [ht]
    obtain ⟨fs, hfs⟩ : ∃ fs, (P.sz 4 t).1 = fs := ⟨_, rfl⟩
    obtain ⟨fp, hfp⟩ : ∃ fp, (P.sz 4 t).2 = fp := ⟨_, rfl⟩
    have hf1 := hfine.2.1
    have hf2 := hfine.2.2
    rw [hfs] at hf1 hf2 hs32 HT
    rw [hfs, hfp]
    have HOK : Hid (∀ x ∈ P.parts 4 t, P.PtOk fs x) := hf2
    have hp80 : (P.parts 4 t).length ≤ 80 := by simp only [List.length_nil, Nat.add_zero] at hplen; omega
    have HOWN : Hid ((w1.alloc (.cells #[.int .i64 fs, .int .i64 fp, .slice a N cap] 62)).ownsRow (w.heap.size + 1) 145 4 (.slice a N cap) (P.parts 4 t).length (cellsOf (P.parts 4 t))) := hown.alloc _
    clear hf2 hrd hfine ht hfs hfp hown hplen hl80
    have hand := and_255 fill
    have hfb : ((P.fillB fill).toNat : Int) = fill % 256 := by unfold P.fillB; simp; omega
    have HFB : Hid (((P.fillB fill).toNat : Int) = fill % 256) := hfb
    clear hfb
    have hm0 : 0 ≤ fill % 256 := by omega
    have hm1 : fill % 256 ≤ 255 := by omega
    have hsz1 := hbe.size
    go_wp2_with fail
    rw [← HFB.out]
    refine (Lay_any v _ fs fp (w.heap.size + 1) (.slice a N cap) (P.parts 4 t) (P.fillB fill) HOWN.out hf1 hs32 hp80 HOK.out hv).mono ?_
    rintro e w2 ⟨hpost, hbe2⟩
    have hbe3 : Below w.heap.size w w2 := (hbe.alloc hsz1 _).trans (hbe2.mono (by simp; omega))
    rw [HFB.out]
    cases hla : P.layAll (P.parts 4 t) v.data.toList (List.replicate fs (P.fillB fill)) with
    | none =>
      rw [hla] at hpost
      simp only at hpost
      subst hpost
      have HE : Hid (P.encOf s.data.toList v.data.toList fill = ([], 2)) := by unfold Hid; rw [HT.out, hla]
      clear hla
      go_wp2_with fail
      go_ret2
      exact ⟨by rw [HE.out]; rfl, hbe3⟩
    | some y =>
      obtain ⟨l', bs⟩ := y
      cases l' with
      | cons c r =>
        rw [hla] at hpost
        simp only at hpost
        subst hpost
        have HE : Hid (P.encOf s.data.toList v.data.toList fill = ([], 2)) := by unfold Hid; rw [HT.out, hla]
        clear hla
        go_wp2_with fail
        go_ret2
        exact ⟨by rw [HE.out]; rfl, hbe3⟩
      | nil =>
        rw [hla] at hpost
        simp only at hpost
        subst hpost
        have HE0 : Hid (P.encOf s.data.toList v.data.toList fill = if fill < 0 ∨ 255 < fill then ([], 6) else (bs, 0)) := by unfold Hid; rw [HT.out, hla]
        clear hla
        by_cases hneg : fill < 0
        · have HE : Hid (P.encOf s.data.toList v.data.toList fill = ([], 6)) := by unfold Hid; rw [HE0.out, if_pos (Or.inl hneg)]
          go_wp2_with fail
          go_ret2
          exact ⟨by rw [HE.out]; rfl, hbe3⟩
        · by_cases hbig : 255 < fill
          · have HE : Hid (P.encOf s.data.toList v.data.toList fill = ([], 6)) := by unfold Hid; rw [HE0.out, if_pos (Or.inr hbig)]
            go_wp2_with fail
            go_ret2
            exact ⟨by rw [HE.out]; rfl, hbe3⟩
          · have HE : Hid (P.encOf s.data.toList v.data.toList fill = (bs, 0)) := by unfold Hid; rw [HE0.out, if_neg (by omega)]
            go_wp2_with fail
            go_ret2
            exact ⟨by rw [HE.out]; rfl, hbe3⟩
end Go.Proofs.YtghggcehloiemabGreatDoor
namespace Go.Proofs.YtghggcehloiemabGreatDoor
open Go.RowKit
set_option linter.unusedVariables false
set_option maxRecDepth 16000

namespace P
def decOf (lt bs : List UInt8) : List UInt8 × Nat := match tyOf lt with
  | none => ([], 1)
  | some t => if bs.length = (sz 4 t).1 then (tellAll (parts 4 t) bs, 0) else ([], 3)
end P

set_option maxHeartbeats 1000000 in
theorem decode_any (s v : ByteArray) (w : World) (hs : s.size ≤ maxLen) (htab : Lib.TabIs Tryz.prog w "internal/strconv.uint64pow10" .u64 Lib.pow10Tab) :
    Calls Tryz.prog 23 #[.string s, .string v] w fun e w' => e = .returned (.tuple #[.string ⟨(P.decOf s.data.toList v.data.toList).1.toArray⟩, .int .i64 (P.decOf s.data.toList v.data.toList).2]) ∧ Below w.heap.size w w' := by
  have HTB : Hid (Lib.TabIs Tryz.prog w "internal/strconv.uint64pow10" .u64 Lib.pow10Tab) := htab
  clear htab
  go_enter Tryz.func23, Tryz.ntmps23
  go_wp2_with fail
  refine (parse_any s w hs).mono ?_
  rintro e w1 ⟨hpost, hbe⟩
  cases ht : P.tyOf s.data.toList with
  | none =>
    rw [ht] at hpost
    simp only at hpost
    subst hpost
    have HT : Hid (P.decOf s.data.toList v.data.toList = ([], 1)) := by unfold Hid P.decOf; rw [ht]
    clear ht
    go_wp2_with fail
    go_ret2
    exact ⟨by rw [HT.out]; rfl, hbe.alloc hbe.size _⟩
  | some t =>
    rw [ht] at hpost
    simp only at hpost
    obtain ⟨vv, rfl, hown⟩ := hpost
    obtain ⟨a, N, cap, rfl⟩ := owns_slice hown
    obtain ⟨hrd, hs32, hl80⟩ := tyOf_some ht
    obtain ⟨hfine, hplen⟩ := P.rd_fine 4 _ t [] hrd
    have HT : Hid (P.decOf s.data.toList v.data.toList = if v.size = (P.sz 4 t).1 then (P.tellAll (P.parts 4 t) v.data.toList, 0) else ([], 3)) := by unfold Hid P.decOf; rw [ht]; simp
    obtain ⟨fs, hfs⟩ : ∃ fs, (P.sz 4 t).1 = fs := ⟨_, rfl⟩
    obtain ⟨fp, hfp⟩ : ∃ fp, (P.sz 4 t).2 = fp := ⟨_, rfl⟩
    have hf1 := hfine.2.1
    have hf2 := hfine.2.2
    rw [hfs] at hf1 hf2 hs32 HT
    rw [hfs, hfp]
    have HOK : Hid (∀ x ∈ P.parts 4 t, P.PtOk fs x) := hf2
    have hp80 : (P.parts 4 t).length ≤ 80 := by simp only [List.length_nil, Nat.add_zero] at hplen; omega
    have HOWN : Hid ((w1.alloc (.cells #[.int .i64 fs, .int .i64 fp, .slice a N cap] 62)).ownsRow (w.heap.size + 1) 145 4 (.slice a N cap) (P.parts 4 t).length (cellsOf (P.parts 4 t))) := hown.alloc _
    clear hf2 hrd hfine ht hfs hfp hown hplen hl80
    have hsz1 := hbe.size
    have hbe' : Below w.heap.size w (w1.alloc (.cells #[.int .i64 fs, .int .i64 fp, .slice a N cap] 62)) := hbe.alloc hsz1 _
    have HTB2 : Hid (Lib.TabIs Tryz.prog (w1.alloc (.cells #[.int .i64 fs, .int .i64 fp, .slice a N cap] 62)) "internal/strconv.uint64pow10" .u64 Lib.pow10Tab) := ((Lib.tabBelow_of_tabIs HTB.out).on hbe').here
    go_wp2_with fail
    refine (Tell_any v _ fs fp (w.heap.size + 1) (.slice a N cap) (P.parts 4 t) HOWN.out hf1 hs32 hp80 HOK.out (Lib.tabBelow_of_tabIs HTB2.out)).mono ?_
    rintro e w2 ⟨hpost, hbe2⟩
    have hbe3 : Below w.heap.size w w2 := hbe'.trans (hbe2.mono (by simp; omega))
    by_cases hl : v.size = fs
    · rw [if_pos hl] at hpost
      simp only at hpost
      subst hpost
      have HE : Hid (P.decOf s.data.toList v.data.toList = (P.tellAll (P.parts 4 t) v.data.toList, 0)) := by unfold Hid; rw [HT.out, if_pos hl]
      clear hl hbe2
      go_wp2_with fail
      go_ret2
      exact ⟨by rw [HE.out]; rfl, hbe3⟩
    · rw [if_neg hl] at hpost
      simp only at hpost
      subst hpost
      have HE : Hid (P.decOf s.data.toList v.data.toList = ([], 3)) := by unfold Hid; rw [HT.out, if_neg hl]
      clear hl hbe2
      go_wp2_with fail
      go_ret2
      exact ⟨by rw [HE.out]; rfl, hbe3⟩
end Go.Proofs.YtghggcehloiemabGreatDoor
