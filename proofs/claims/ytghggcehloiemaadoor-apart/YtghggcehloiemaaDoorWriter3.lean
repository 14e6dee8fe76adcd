import Derived.Test.YtghggcehloiemaaDoorWriter2
import Derived.Test.YtghggcehloiemaaDoorShift
import Derived.Laws.BytesArg
namespace Go.Proofs.YtghggcehloiemaaDoor
open Go.RowKit
set_option linter.unusedVariables false
set_option maxRecDepth 16000

namespace P
/-- One part of a value: how much of the text it takes, the bytes behind it. -/
def stepP (x : Pt) (l bs : List UInt8) : Option (Nat × List UInt8) :=
  if x.kind = 1 then (rdnum (256 ^ x.size - 1) l).map (fun y => (y.2, put bs x.place (le x.size y.1)))
  else if x.kind = 2 then (rdhex x.size l).map (fun xs => (2 * x.size, put bs x.place xs))
  else match l with
    | [] => none
    | c :: _ => if c.toNat = x.mark then some (1, bs) else none
def layAll : List Pt → List UInt8 → List UInt8 → Option (List UInt8 × List UInt8)
  | [], l, bs => some (l, bs)
  | x :: xs, l, bs => match stepP x l bs with
    | none => none
    | some (k, bs') => layAll xs (l.drop k) bs'
def PtOk (n : Nat) (x : Pt) : Prop := (x.kind = 1 ∧ x.mark = 0 ∧ 1 ≤ x.size ∧ x.size ≤ 4 ∧ x.place + x.size ≤ n) ∨ (x.kind = 2 ∧ x.mark = 0 ∧ 1 ≤ x.size ∧ x.size ≤ 16 ∧ x.place + x.size ≤ n) ∨ (x.kind = 0 ∧ x.mark < 256)
theorem stepP_length {x : Pt} {l bs bs' : List UInt8} {k : Nat} (hok : PtOk bs.length x) (h : stepP x l bs = some (k, bs')) : bs'.length = bs.length := by
  unfold stepP at h
  rcases hok with ⟨h1, _, _, _, h5⟩ | ⟨h1, _, _, _, h5⟩ | ⟨h1, _⟩
  · rw [if_pos h1] at h
    cases hr : rdnum (256 ^ x.size - 1) l with
    | none => rw [hr] at h; cases h
    | some y => rw [hr] at h; simp at h; obtain ⟨_, rfl⟩ := h; exact put_length _ _ _ (by rw [le_length]; omega)
  · rw [if_neg (by omega), if_pos h1] at h
    cases hr : rdhex x.size l with
    | none => rw [hr] at h; cases h
    | some y => rw [hr] at h; simp at h; obtain ⟨_, rfl⟩ := h; exact put_length _ _ _ (by rw [rdhex_length _ _ _ hr]; omega)
  · rw [if_neg (by omega), if_neg (by omega)] at h
    cases l with
    | nil => cases h
    | cons c r =>
      simp only at h
      split at h
      · cases h; rfl
      · cases h
end P

theorem hit_drop {s : ByteArray} {i : Nat} {m : UInt8} (h : hit s i m = true) : s.data.toList.drop i = m :: s.data.toList.drop (i + 1) := by
  have h' : s.data.toList[i]? = some m := by simpa [hit] using h
  obtain ⟨hl, he⟩ := List.getElem?_eq_some_iff.1 h'
  rw [List.drop_eq_getElem_cons hl, he]

def LPost (o : Option (Nat × List UInt8)) (s : ByteArray) (i b : Nat) (v : Value) (w : World) (e : Ending) (w' : World) : Prop :=
  (match o with
    | some (k, bs') => e = .returned (.bool true) ∧ Wr w' b s (i + k) v bs'
    | none => e = .returned (.bool false)) ∧ Below b w w'

theorem wlay_skip {b i : Nat} {s : ByteArray} {w : World} {v : Value} {bs : List UInt8} (m : UInt8) (pl sz : Nat) (h : Wr w b s i v bs) :
    Calls Tryd.prog 34 #[.pointer (some ⟨b, 0, none⟩), .int .u8 m.toNat] ((w.alloc (.cells #[.int .i64 0, .int .u8 m.toNat, .int .i64 pl, .int .i64 sz] 68)).drew) fun e w' => ∃ z, e = .returned (.bool z) ∧ LPost (P.stepP ⟨0, m.toNat, pl, sz⟩ (s.data.toList.drop i) bs) s i b v w e w' ∧ w'.cell? ⟨w.heap.size, 1, none⟩ = some (.int .u8 m.toNat) := by
  have hbl := h.cur.lt
  have hwb := h.below ((Below.refl _ _).alloc (Nat.le_refl w.heap.size) (.cells #[.int .i64 0, .int .u8 m.toNat, .int .i64 pl, .int .i64 sz] 68))
  have hbe1 : Below b w (w.alloc (.cells #[.int .i64 0, .int .u8 m.toNat, .int .i64 pl, .int .i64 sz] 68)) := (Below.refl _ _).alloc (by omega) _
  have hbox : ∀ w', Only b ((w.alloc (.cells #[.int .i64 0, .int .u8 m.toNat, .int .i64 pl, .int .i64 sz] 68)).drew) w' → w'.cell? ⟨w.heap.size, 1, none⟩ = some (.int .u8 m.toNat) := by
    intro w' ho
    have hh : w'.heap[w.heap.size]? = some (.cells #[.int .i64 0, .int .u8 m.toNat, .int .i64 pl, .int .i64 sz] 68 (0, 0)) := by
      rw [ho.block _ (by omega)]; exact heap_alloc_new w _
    exact (cells4 hh).2.1
  by_cases hh : hit s i m = true
  · refine (skip_yes (v := v) (T := 73) (by exact hwb.cur) h.long hh).mono ?_
    rintro e w' ⟨rfl, hi, hc, ho⟩
    refine ⟨true, rfl, ⟨?_, hbe1.trans ((⟨ho.os, ho.tape, ho.output, ho.size, ho.block⟩ : Only b (w.alloc _) w').below (Nat.le_refl _))⟩, hbox w' ho⟩
    rw [hit_drop hh]
    simp only [P.stepP]
    rw [if_neg (by omega), if_neg (by omega), if_pos trivial]
    exact ⟨trivial, hwb.only hc ⟨ho.os, ho.tape, ho.output, ho.size, ho.block⟩ hi⟩
  · refine (skip_no (v := v) (T := 73) (by exact hwb.cur) (by simpa using hh)).mono ?_
    rintro e w' ⟨rfl, hc, ho⟩
    refine ⟨false, rfl, ⟨?_, hbe1.trans ((⟨ho.os, ho.tape, ho.output, ho.size, ho.block⟩ : Only b (w.alloc _) w').below (Nat.le_refl _))⟩, hbox w' ho⟩
    have hn : P.stepP ⟨0, m.toNat, pl, sz⟩ (s.data.toList.drop i) bs = none := by
      simp only [P.stepP]
      rw [if_neg (by omega), if_neg (by omega)]
      cases hl : s.data.toList.drop i with
      | nil => rfl
      | cons c r =>
        simp only
        rw [if_neg]
        intro hcm
        apply hh
        have : s.data.toList[i]? = some c := by
          have h0 : (s.data.toList.drop i)[0]? = some c := by rw [hl]; rfl
          rwa [List.getElem?_drop, Nat.add_zero] at h0
        simp [hit, this, UInt8.toNat_inj.1 hcm]
    rw [hn]

set_option maxHeartbeats 1000000 in
theorem wlay_any {b i : Nat} {s : ByteArray} {w : World} {v : Value} {bs : List UInt8} (x : P.Pt) (h : Wr w b s i v bs) (hok : P.PtOk bs.length x) :
    Calls Tryd.prog 33 #[.pointer (some ⟨b, 0, none⟩), .agg #[.int .i64 x.kind, .int .u8 x.mark, .int .i64 x.place, .int .i64 x.size]] w fun e w' => LPost (P.stepP x (s.data.toList.drop i) bs) s i b v w e w' := by
  have hbl := h.cur.lt
  obtain ⟨kd, mk, pl, sz⟩ := x
  have hwb := h.below ((Below.refl _ _).alloc (Nat.le_refl w.heap.size) (.cells #[.int .i64 kd, .int .u8 mk, .int .i64 pl, .int .i64 sz] 68))
  have hbe1 : Below b w (w.alloc (.cells #[.int .i64 kd, .int .u8 mk, .int .i64 pl, .int .i64 sz] 68)) := (Below.refl _ _).alloc (by omega) _
  rcases hok with ⟨h1, h2, h3, h4, h5⟩ | ⟨h1, h2, h3, h4, h5⟩ | ⟨h1, h2⟩
  · simp only at h1 h2 h3 h4 h5
    subst h1 h2
    go_enter Tryd.func33, Tryd.ntmps33
    go_wp2_with fail
    refine (layNumber_any sz pl 1 hwb h3 h4 h5).mono ?_
    rintro e w2 ⟨hpost, hbe⟩
    have hfin : LPost (P.stepP ⟨1, 0, pl, sz⟩ (s.data.toList.drop i) bs) s i b v w e w2 := by
      refine ⟨?_, hbe1.trans hbe⟩
      simp only [P.stepP, if_true]
      cases hr : P.rdnum (256 ^ sz - 1) (s.data.toList.drop i) with
      | none => rw [hr] at hpost; exact hpost
      | some y => rw [hr] at hpost; exact hpost
    obtain ⟨z, rfl⟩ : ∃ z, e = .returned (.bool z) := by
      cases hr : P.rdnum (256 ^ sz - 1) (s.data.toList.drop i) with
      | none => rw [hr] at hpost; exact ⟨_, hpost⟩
      | some y => rw [hr] at hpost; exact ⟨_, hpost.1⟩
    have HF : Hid _ := hfin
    clear hfin hpost
    go_wp2_with fail
    go_ret
    exact HF.out
  · simp only at h1 h2 h3 h4 h5
    subst h1 h2
    go_enter Tryd.func33, Tryd.ntmps33
    go_wp2_with fail
    refine (layBytes_any sz pl 2 hwb h3 h4 h5).mono ?_
    rintro e w2 ⟨hpost, hbe⟩
    have hfin : LPost (P.stepP ⟨2, 0, pl, sz⟩ (s.data.toList.drop i) bs) s i b v w e w2 := by
      refine ⟨?_, hbe1.trans hbe⟩
      simp only [P.stepP]
      rw [if_neg (by omega), if_pos trivial]
      cases hr : P.rdhex sz (s.data.toList.drop i) with
      | none => rw [hr] at hpost; exact hpost
      | some y => rw [hr] at hpost; exact hpost
    obtain ⟨z, rfl⟩ : ∃ z, e = .returned (.bool z) := by
      cases hr : P.rdhex sz (s.data.toList.drop i) with
      | none => rw [hr] at hpost; exact ⟨_, hpost⟩
      | some y => rw [hr] at hpost; exact ⟨_, hpost.1⟩
    have HF : Hid _ := hfin
    clear hfin hpost
    go_wp2_with fail
    go_ret
    exact HF.out
  · simp only at h1 h2
    subst h1
    obtain ⟨m, hm⟩ : ∃ m : UInt8, m.toNat = mk := ⟨UInt8.ofNat mk, by simp; omega⟩
    subst hm
    go_enter Tryd.func33, Tryd.ntmps33
    go_wp2_with fail
    go_region_held3 (fun w' => w'.cell? ⟨w.heap.size, 1, none⟩ = some (.int .u8 m.toNat)) (first | (simp [go_sem]; done) | (exact hkk)) (first | (go_at_call 34; refine (wlay_skip (bs := bs) m pl sz h).mono ?_; rintro e w1 ⟨z, rfl, hp1, hkk⟩))
    go_wp2_with fail
    go_ret
    exact hp1
end Go.Proofs.YtghggcehloiemaaDoor
