import Derived.Test.YtghggcehloiemabGreatDoorParseWAll
import Derived.Deep.RegionHeld3
import Derived.Deep.DrawnRows
import Derived.Test.YtghggcehloiemabGreatDoorSkimPAll
import Derived.Test.YtghggcehloiemabGreatDoorEncWAll
namespace Go.Proofs.YtghggcehloiemabGreatDoor
open Go.RowKit
set_option linter.unusedVariables false
set_option maxRecDepth 16000

set_option maxHeartbeats 400000 in
theorem shSize_any (a c : Int) (x : Option Addr) (n k : Nat) (w : World) :
    Calls Tryz.prog 70 #[.agg #[.int .i64 a, .int .i64 c, .slice x n k]] w fun e w' => e = .returned (.int .i64 a) ∧ w' = w.alloc (.cells #[.int .i64 a, .int .i64 c, .slice x n k] 62) := by
  go_enter Tryz.func70, Tryz.ntmps70
  go_wp2
  go_ret
  exact ⟨rfl, rfl⟩
set_option maxHeartbeats 400000 in
theorem shStep_any (a c : Int) (x : Option Addr) (n k : Nat) (w : World) :
    Calls Tryz.prog 147 #[.agg #[.int .i64 a, .int .i64 c, .slice x n k]] w fun e w' => e = .returned (.int .i64 c) ∧ w' = w.alloc (.cells #[.int .i64 a, .int .i64 c, .slice x n k] 62) := by
  go_enter Tryz.func147, Tryz.ntmps147
  go_wp2
  go_ret
  exact ⟨rfl, rfl⟩

namespace P
def sizeOf (l : List UInt8) : Nat × Nat × Nat := match tyOf l with
  | some t => ((sz 4 t).1, (sz 4 t).2, 0)
  | none => (0, 0, 1)
end P

set_option maxHeartbeats 1000000 in
theorem size_any (s : ByteArray) (w : World) (hs : s.size ≤ maxLen) :
    Calls Tryz.prog 118 #[.string s] w fun e w' => e = .returned (.tuple #[.int .i64 (P.sizeOf s.data.toList).1, .int .i64 (P.sizeOf s.data.toList).2.1, .int .i64 (P.sizeOf s.data.toList).2.2]) ∧ Below w.heap.size w w' := by
  go_enter Tryz.func118, Tryz.ntmps118
  go_wp2_with fail
  refine (parse_any s w hs).mono ?_
  rintro e w1 ⟨hpost, hbe⟩
  cases ht : P.tyOf s.data.toList with
  | none =>
    rw [ht] at hpost
    simp only at hpost
    subst hpost
    have HT : Hid (P.sizeOf s.data.toList = (0, 0, 1)) := by unfold Hid P.sizeOf; rw [ht]
    clear ht
    go_wp2_with fail
    go_ret3
    exact ⟨by rw [HT.out]; rfl, hbe.alloc hbe.size _⟩
  | some t =>
    rw [ht] at hpost
    simp only at hpost
    obtain ⟨v, rfl, hown⟩ := hpost
    obtain ⟨a, N, cap, rfl⟩ := owns_slice hown
    obtain ⟨fs, hfs⟩ : ∃ fs, (P.sz 4 t).1 = fs := ⟨_, rfl⟩
    obtain ⟨fp, hfp⟩ : ∃ fp, (P.sz 4 t).2 = fp := ⟨_, rfl⟩
    have HT : Hid (P.sizeOf s.data.toList = (fs, fp, 0)) := by unfold Hid P.sizeOf; rw [ht, ← hfs, ← hfp]
    rw [hfs, hfp]
    clear ht hown hfs hfp
    go_wp2_with fail
    go_region_held3 (fun w' => w'.cell? ⟨w1.heap.size, 0, none⟩ = some (.int .i64 fs) ∧ w'.cell? ⟨w1.heap.size, 1, none⟩ = some (.int .i64 fp) ∧ w'.cell? ⟨w1.heap.size, 2, none⟩ = some (.slice a N cap) ) (simp [go_sem, World.cell?_alloc_past]) (first | (go_at_call 70; refine (shSize_any _ _ _ _ _ _).mono ?_; rintro e w' ⟨rfl, rfl⟩) | (go_at_call 147; refine (shStep_any _ _ _ _ _ _).mono ?_; rintro e w' ⟨rfl, rfl⟩))
    have hsz := hbe.size
    all_goals go_wp2_with fail
    all_goals go_ret3
    all_goals exact ⟨by rw [HT.out]; rfl, (((hbe.alloc hsz _).alloc (by simp; omega) _).alloc (by simp; omega) _).drew⟩
end Go.Proofs.YtghggcehloiemabGreatDoor
namespace Go.Proofs.YtghggcehloiemabGreatDoor.P
set_option linter.unusedVariables false

/-- What holds of a value's text of a type's text with two fills. -/
structure Laid (lt lv : List UInt8) (f g : Int) (n st : Nat) (a b : List UInt8) : Prop where
  size : sizeOf lt = (n, st, 0)
  enc : encOf lt lv f = (a, 0)
  enc2 : encOf lt lv g = (b, 0)
  step : 1 ≤ st
  step4 : st ≤ 4
  divs : n % st = 0
  la : a.length = n
  lb : b.length = n
  small : n ≤ 32
  like : Like (fillB f) (fillB g) a b
  dec : decOf lt a = (lv, 0)
  dec2 : decOf lt b = (lv, 0)

theorem laid_of (how k0 k1 k2 k3 : Nat) (c0 c1 c2 c3 f g : Int) (h : how ≤ 5) (h0 : k0 ≤ 5) (h1 : k1 ≤ 5) (h2 : k2 ≤ 5) (h3 : k3 ≤ 5) (hf : 0 ≤ f ∧ f ≤ 255) (hg : 0 ≤ g ∧ g ≤ 255) :
    ∃ n st a b, Laid (joinP how (leafT k0) (leafT k1) (leafT k2) (leafT k3)) (joinP how (oneP k0 c0) (oneP k1 c1) (oneP k2 c2) (oneP k3 c3)) f g n st a b := by
  have hok := okS_all how k0 k1 k2 k3 h h0 h1 h2 h3
  have hsk := skim_join how k0 k1 k2 k3 c0 c1 c2 c3
  unfold okS at hok
  generalize joinP how (leafT k0) (leafT k1) (leafT k2) (leafT k3) = lt at hok ⊢
  generalize joinP how (oneP k0 c0) (oneP k1 c1) (oneP k2 c2) (oneP k3 c3) = lv at hsk ⊢
  cases ht : tyOf lt with
  | none => rw [ht] at hok; cases hok
  | some t =>
    rw [ht] at hok
    simp only [Bool.and_eq_true, decide_eq_true_eq] at hok
    obtain ⟨⟨hkey, hoff⟩, hdiv⟩ := hok
    obtain ⟨hrd, hs32, hl80⟩ := tyOf_some ht
    obtain ⟨hfine, hplen⟩ := rd_fine 4 _ t [] hrd
    rw [← hkey] at hsk
    obtain ⟨a, ha⟩ := skim_lay (parts 4 t) lv (List.replicate (sz 4 t).1 (fillB f)) [] hsk
    have hpa : ∀ y ∈ parts 4 t, PtOk (List.replicate (sz 4 t).1 (fillB f)).length y := by rw [List.length_replicate]; exact hfine.2.2
    have hpb : ∀ y ∈ parts 4 t, PtOk (List.replicate (sz 4 t).1 (fillB g)).length y := by rw [List.length_replicate]; exact hfine.2.2
    obtain ⟨b, hb, hlike⟩ := lay_like (parts 4 t) lv _ _ [] a hpa (like_fill (fillB f) (fillB g) (sz 4 t).1) ha
    have hla := lay_length _ _ _ _ _ hpa ha
    have hlb := lay_length _ _ _ _ _ hpb hb
    rw [List.length_replicate] at hla hlb
    have hta := lay_tell _ _ _ _ _ hpa (offB_pairwise _ hoff) ha
    have htb := lay_tell _ _ _ _ _ hpb (offB_pairwise _ hoff) hb
    rw [List.append_nil] at hta htb
    refine ⟨(sz 4 t).1, (sz 4 t).2, a, b, ?_⟩
    constructor
    · unfold sizeOf; rw [ht]
    · unfold encOf; rw [ht]; simp only; rw [ha]; simp only; rw [if_neg (by omega)]
    · unfold encOf; rw [ht]; simp only; rw [hb]; simp only; rw [if_neg (by omega)]
    · exact hfine.1.1
    · exact hfine.1.2.1
    · exact hdiv
    · exact hla
    · exact hlb
    · exact hs32
    · exact hlike
    · unfold decOf; rw [ht]; simp only; rw [if_pos hla, ← hta]
    · unfold decOf; rw [ht]; simp only; rw [if_pos hlb, ← htb]

/-- The document's example: its type, what is laid and told. -/
def exT : List UInt8 := [123, 117, 49, 44, 117, 52, 125]
def exV : List UInt8 := [123, 55, 44, 50, 53, 56, 125]
theorem ex_enc : encOf exT exV 255 = ([7, 255, 255, 255, 2, 1, 0, 0], 0) := by decide +kernel
theorem dec7 : Lib.decDigits 7 = [55] := by rw [Lib.decDigits]; rfl
theorem dec258 : Lib.decDigits 258 = [50, 53, 56] := by
  rw [Lib.decDigits, dif_neg (by decide), show 258 / 10 = 25 from rfl, Lib.decDigits, dif_neg (by decide), show 25 / 10 = 2 from rfl, Lib.decDigits, dif_pos (by decide)]; rfl
def exB : List UInt8 := [7, 1, 2, 3, 2, 1, 0, 0]
def quad (x : Pt) : Nat × Nat × Nat × Nat := (x.kind, x.mark, x.place, x.size)
def tellQ (bs : List UInt8) (q : Nat × Nat × Nat × Nat) : List UInt8 := tell1 bs ⟨q.1, q.2.1, q.2.2.1, q.2.2.2⟩
theorem tell_quad (ps : List Pt) (bs : List UInt8) : tellAll ps bs = (ps.map quad).flatMap (tellQ bs) := by
  unfold tellAll
  rw [List.flatMap_map]
  rfl
theorem ex_ty : (tyOf exT).map (fun t => ((sz 4 t).1, (parts 4 t).map quad)) = some (8, [(0, 123, 0, 0), (1, 0, 0, 1), (0, 44, 0, 0), (1, 0, 4, 4), (0, 125, 0, 0)]) := by decide +kernel
theorem ex_dec : decOf exT exB = (exV, 0) := by
  have h := ex_ty
  unfold decOf
  cases ht : tyOf exT with
  | none => rw [ht] at h; cases h
  | some t =>
    rw [ht] at h
    simp only [Option.map_some, Option.some.injEq, Prod.mk.injEq] at h
    simp only
    rw [if_pos (by rw [h.1]; rfl), tell_quad, h.2]
    have e1 : tellQ exB (1, 0, 0, 1) = [55] := dec7
    have e2 : tellQ exB (1, 0, 4, 4) = [50, 53, 56] := dec258
    simp only [List.flatMap_cons, List.flatMap_nil, e1, e2]
    rfl
end Go.Proofs.YtghggcehloiemabGreatDoor.P
