import Derived.Test.YtghggcehloiemaaRefNum
import Derived.Lib.IndexBytes
namespace Go.Proofs.Ytghggcehloiemaa
open Go.RowKit
set_option linter.unusedVariables false
set_option maxRecDepth 16000

namespace P
def rleaf (l : List UInt8) : Option (Bool × Nat) := match l with
  | [] => none
  | c :: r => if c = 117 then (if rnum r = 1 ∨ rnum r = 2 ∨ rnum r = 4 then some (true, (rnum r).toNat) else none)
    else if c = 98 then (if 1 ≤ rnum r ∧ rnum r ≤ 16 then some (false, (rnum r).toNat) else none) else none
theorem rnum_bd (l : List UInt8) : -1 ≤ rnum l ∧ rnum l ≤ 10000000000 := by
  unfold rnum
  split
  · omega
  · rename_i h
    split
    · rename_i h2
      rw [List.all_eq_true] at h2
      have := val_bd l h2 (by omega)
      omega
    · omega
theorem rnum_nil : rnum [] = -1 := rfl
end P

def typV (l : Bool × Nat) : Value := .agg #[.int .u8 (if l.1 then 117 else 98), .int .i64 (P.lsz l).1, .int .i64 (P.lsz l).2, .slice none 0 0, .slice none 0 0]
def zeroTyp : Value := .agg #[.int .u8 0, .int .i64 0, .int .i64 0, .slice none 0 0, .slice none 0 0]

/-- What 'leaf' answers. -/
def LeafR (l : List UInt8) (w : World) (e : Ending) (w' : World) : Prop :=
  (match P.rleaf l with
    | some x => e = .returned (.tuple #[typV x, .bool true])
    | none => e = .returned (.tuple #[zeroTyp, .bool false])) ∧ Below w.heap.size w w'
theorem LeafR.no {l : List UInt8} {w w' : World} {e : Ending} (h : P.rleaf l = none) (he : e = .returned (.tuple #[zeroTyp, .bool false])) (hb : Below w.heap.size w w') : LeafR l w e w' := by
  unfold LeafR; rw [h]; exact ⟨he, hb⟩
theorem LeafR.yes {l : List UInt8} {w w' : World} {e : Ending} {x : Bool × Nat} (h : P.rleaf l = some x) (he : e = .returned (.tuple #[typV x, .bool true])) (hb : Below w.heap.size w w') : LeafR l w e w' := by
  unfold LeafR; rw [h]; exact ⟨he, hb⟩

theorem tl_len (s : ByteArray) : s.data.toList.length = s.size := by simp
theorem u8_of {c k : UInt8} (h : (c.toNat : Int) = (k.toNat : Int)) : c = k := UInt8.toNat_inj.1 (by omega)
theorem tail_of {s : ByteArray} (h : 1 ≤ s.size) : (s.extract 1 s.size).data.toList = s.data.toList.drop 1 := by
  have h2 : (s.extract 1 s.size).data.toList = (s.data.toList.drop 1).take (s.size - 1) := by simp [ByteArray.data_extract]
  rw [h2, List.take_of_length_le]
  simp
theorem list_split {s : ByteArray} (h : 1 ≤ s.size) : s.data.toList = s[0]'(by omega) :: s.data.toList.drop 1 := by
  have hl : 0 < s.data.toList.length := by have := tl_len s; omega
  have := List.drop_eq_getElem_cons (l := s.data.toList) (i := 0) hl
  rw [List.drop_zero] at this
  exact this

set_option maxHeartbeats 1000000 in
theorem rleaf_any (s : ByteArray) (w : World) (hs : s.size ≤ maxLen) :
    Calls Try.prog 74 #[.string s] w fun e w' => LeafR s.data.toList w e w' := by
  have hs' := hs
  unfold maxLen at hs
  by_cases h2 : s.size < 2
  · have HR : Hid (P.rleaf s.data.toList = none) := by
      unfold Hid
      rcases Nat.lt_or_ge s.size 1 with h | h
      · have : s.data.toList = [] := List.eq_nil_of_length_eq_zero (by have := tl_len s; omega)
        rw [this]; rfl
      · rw [list_split h, List.drop_eq_nil_of_le (by simp; omega)]
        simp [P.rleaf, P.rnum_nil]
    go_enter Try.func74, Try.ntmps74
    go_wp2_with fail
    refine bodyPost_ret (v := .tuple #[zeroTyp, .bool false]) (by simp [results, Try.results74, go_sem, zeroTyp]) rfl ?_
    exact LeafR.no HR.out rfl ((Below.refl _ _).alloc (Nat.le_refl _) _)
  · have hsp := list_split (s := s) (by omega)
    have htl := tail_of (s := s) (by omega)
    obtain ⟨c, hc⟩ : ∃ c, s[0]'(by omega) = c := ⟨_, rfl⟩
    obtain ⟨n, hn⟩ : ∃ n, P.rnum (s.data.toList.drop 1) = n := ⟨_, rfl⟩
    have hbd := P.rnum_bd (s.data.toList.drop 1)
    rw [hn] at hbd
    have HL : Hid (P.rleaf s.data.toList = if c = 117 then (if n = 1 ∨ n = 2 ∨ n = 4 then some (true, n.toNat) else none) else if c = 98 then (if 1 ≤ n ∧ n ≤ 16 then some (false, n.toNat) else none) else none) := by
      unfold Hid; rw [hsp, hc]; simp only [P.rleaf, hn]
    have HC : Hid (P.rnum (s.extract 1 s.size).data.toList = n) := by unfold Hid; rw [htl]; exact hn
    have hc0 : ((s[0]'(by omega)).toNat : Int) = (c.toNat : Int) := by rw [hc]
    clear hn htl hsp hc
    obtain ⟨hb1, hb2⟩ := hbd
    go_enter Try.func74, Try.ntmps74
    go_wp2_with fail
    refine (rnumber_any _ _ (by simp; unfold maxLen; omega)).mono ?_
    rintro e w1 ⟨rfl, rfl⟩
    rw [HC.out]
    by_cases hu : c = 117
    · subst hu
      have hc1 : ((s[0]'(by omega)).toNat : Int) = 117 := hc0
      have hq : (((s[0]'(by omega)).toNat : Int) == 117) = true := by rw [hc1]; rfl
      have hq2 : (((s[0]'(by omega)).toNat : Int) == 98) = false := by rw [hc1]; rfl
      clear hc0 hc1
      by_cases hv : n = 1 ∨ n = 2 ∨ n = 4
      · have HY := HL.out
        rw [if_pos rfl, if_pos hv] at HY
        have HY' : Hid _ := HY
        clear HY HL
        have HV : Hid (.agg #[.int .u8 117, .int .i64 n, .int .i64 n, .slice none 0 0, .slice none 0 0] = typV (true, n.toNat)) := by
          have e : ((n.toNat : Nat) : Int) = n := by omega
          simp only [Hid, typV, P.lsz, if_true, e]
        by_cases h1 : n = 1
        · have k1 : (n == 1) = true := beq_iff_eq.2 h1
          clear hv h1
          go_wp2_with fail
          refine bodyPost_ret (v := .tuple #[.agg #[.int .u8 117, .int .i64 n, .int .i64 n, .slice none 0 0, .slice none 0 0], .bool true]) (by simp [results, Try.results74, go_sem]) rfl ?_
          exact LeafR.yes HY'.out (by rw [HV.out]) ((Below.refl _ _).alloc (Nat.le_refl _) _)
        · have k1 : (n == 1) = false := beq_eq_false_iff_ne.2 h1
          by_cases h2 : n = 2
          · have k2 : (n == 2) = true := beq_iff_eq.2 h2
            clear hv h1 h2
            go_wp2_with fail
            refine bodyPost_ret (v := .tuple #[.agg #[.int .u8 117, .int .i64 n, .int .i64 n, .slice none 0 0, .slice none 0 0], .bool true]) (by simp [results, Try.results74, go_sem]) rfl ?_
            exact LeafR.yes HY'.out (by rw [HV.out]) ((Below.refl _ _).alloc (Nat.le_refl _) _)
          · have k2 : (n == 2) = false := beq_eq_false_iff_ne.2 h2
            have k4 : (n == 4) = true := beq_iff_eq.2 (by omega)
            clear hv h1 h2
            go_wp2_with fail
            refine bodyPost_ret (v := .tuple #[.agg #[.int .u8 117, .int .i64 n, .int .i64 n, .slice none 0 0, .slice none 0 0], .bool true]) (by simp [results, Try.results74, go_sem]) rfl ?_
            exact LeafR.yes HY'.out (by rw [HV.out]) ((Below.refl _ _).alloc (Nat.le_refl _) _)
      · have HY := HL.out
        rw [if_pos rfl, if_neg hv] at HY
        have HY' : Hid _ := HY
        clear HY HL
        have k1 : (n == 1) = false := beq_eq_false_iff_ne.2 (by omega)
        have k2 : (n == 2) = false := beq_eq_false_iff_ne.2 (by omega)
        have k4 : (n == 4) = false := beq_eq_false_iff_ne.2 (by omega)
        clear hv
        go_wp2_with fail
        refine bodyPost_ret (v := .tuple #[zeroTyp, .bool false]) (by simp [results, Try.results74, go_sem, zeroTyp]) rfl ?_
        exact LeafR.no HY'.out rfl ((Below.refl _ _).alloc (Nat.le_refl _) _)
    · have hne : ((s[0]'(by omega)).toNat : Int) ≠ 117 := by
        rw [hc0]; intro h; exact hu (u8_of (k := 117) h)
      have hq : (((s[0]'(by omega)).toNat : Int) == 117) = false := beq_eq_false_iff_ne.2 hne
      clear hne
      by_cases hb : c = 98
      · subst hb
        have hc1 : ((s[0]'(by omega)).toNat : Int) = 98 := hc0
        have hq2 : (((s[0]'(by omega)).toNat : Int) == 98) = true := by rw [hc1]; rfl
        clear hc0 hc1
        by_cases hv : 1 ≤ n ∧ n ≤ 16
        · have HY := HL.out
          rw [if_neg hu, if_pos rfl, if_pos hv] at HY
          have HY' : Hid _ := HY
          have HV : Hid (.agg #[.int .u8 98, .int .i64 n, .int .i64 1, .slice none 0 0, .slice none 0 0] = typV (false, n.toNat)) := by
            have e : ((n.toNat : Nat) : Int) = n := by omega
            simp only [Hid, typV, P.lsz, Bool.false_eq_true, if_false, e]; rfl
          clear HY HL
          obtain ⟨hv1, hv2⟩ := hv
          go_wp2_with fail
          refine bodyPost_ret (v := .tuple #[.agg #[.int .u8 98, .int .i64 n, .int .i64 1, .slice none 0 0, .slice none 0 0], .bool true]) (by simp [results, Try.results74, go_sem]) rfl ?_
          exact LeafR.yes HY'.out (by rw [HV.out]) ((Below.refl _ _).alloc (Nat.le_refl _) _)
        · have HY := HL.out
          rw [if_neg hu, if_pos rfl, if_neg hv] at HY
          have HY' : Hid _ := HY
          clear HY HL
          by_cases hv1 : 1 ≤ n
          · have hv2 : ¬ n ≤ 16 := fun h => hv ⟨hv1, h⟩
            clear hv
            go_wp2_with fail
            refine bodyPost_ret (v := .tuple #[zeroTyp, .bool false]) (by simp [results, Try.results74, go_sem, zeroTyp]) rfl ?_
            exact LeafR.no HY'.out rfl ((Below.refl _ _).alloc (Nat.le_refl _) _)
          · clear hv
            go_wp2_with fail
            refine bodyPost_ret (v := .tuple #[zeroTyp, .bool false]) (by simp [results, Try.results74, go_sem, zeroTyp]) rfl ?_
            exact LeafR.no HY'.out rfl ((Below.refl _ _).alloc (Nat.le_refl _) _)
      · have hne : ((s[0]'(by omega)).toNat : Int) ≠ 98 := by
          rw [hc0]; intro h; exact hb (u8_of (k := 98) h)
        have hq2 : (((s[0]'(by omega)).toNat : Int) == 98) = false := beq_eq_false_iff_ne.2 hne
        have HY := HL.out
        rw [if_neg hu, if_neg hb] at HY
        have HY' : Hid _ := HY
        clear HY HL hne hc0
        go_wp2_with fail
        refine bodyPost_ret (v := .tuple #[zeroTyp, .bool false]) (by simp [results, Try.results74, go_sem, zeroTyp]) rfl ?_
        exact LeafR.no HY'.out rfl ((Below.refl _ _).alloc (Nat.le_refl _) _)
end Go.Proofs.Ytghggcehloiemaa
