import Derived.Test.YtghggcehloiemaaDoorWriter
namespace Go.Proofs.YtghggcehloiemaaDoor
open Go.RowKit
set_option linter.unusedVariables false
set_option maxRecDepth 16000

namespace P
def rdhex : Nat → List UInt8 → Option (List UInt8)
  | 0, _ => some []
  | k + 1, l => match l with
    | a :: c :: r => match hexv a, hexv c with
      | some x, some y => (rdhex k r).map (UInt8.ofNat (x * 16 + y) :: ·)
      | _, _ => none
    | _ => none
theorem rdhex_length : ∀ (k : Nat) (l xs : List UInt8), rdhex k l = some xs → xs.length = k := by
  intro k
  induction k with
  | zero => intro l xs h; simp [rdhex] at h; subst h; rfl
  | succ k ih =>
    intro l xs h
    cases l with
    | nil => simp [rdhex] at h
    | cons a l =>
      cases l with
      | nil => simp [rdhex] at h
      | cons c r =>
        simp only [rdhex] at h
        split at h
        · cases hr : rdhex k r with
          | none => rw [hr] at h; cases h
          | some ys => rw [hr] at h; simp at h; subst h; simp [ih _ _ hr]
        · cases h
end P

theorem rdhex_step {s : ByteArray} {j x y k : Nat} (hx : hexAt s j = some x) (hy : hexAt s (j + 1) = some y) : P.rdhex (k + 1) (s.data.toList.drop j) = (P.rdhex k (s.data.toList.drop (j + 2))).map (UInt8.ofNat (x * 16 + y) :: ·) := by
  unfold hexAt at hx hy
  cases h1 : s.data.toList[j]? with
  | none => rw [h1] at hx; cases hx
  | some a =>
    cases h2 : s.data.toList[j + 1]? with
    | none => rw [h2] at hy; cases hy
    | some c =>
      rw [h1] at hx
      rw [h2] at hy
      simp at hx hy
      obtain ⟨hl1, he1⟩ := List.getElem?_eq_some_iff.1 h1
      obtain ⟨hl2, he2⟩ := List.getElem?_eq_some_iff.1 h2
      rw [List.drop_eq_getElem_cons hl1, List.drop_eq_getElem_cons hl2, he1, he2]
      simp [P.rdhex, hx, hy]
theorem rdhex_no {s : ByteArray} {j k : Nat} (h : hexAt s j = none ∨ hexAt s (j + 1) = none) : P.rdhex (k + 1) (s.data.toList.drop j) = none := by
  unfold hexAt at h
  cases hl : s.data.toList.drop j with
  | nil => rfl
  | cons a r =>
    cases r with
    | nil => rfl
    | cons c r =>
      have h1 : s.data.toList[j]? = some a := by
        have : (s.data.toList.drop j)[0]? = some a := by rw [hl]; rfl
        rwa [List.getElem?_drop, Nat.add_zero] at this
      have h2 : s.data.toList[j + 1]? = some c := by
        have : (s.data.toList.drop j)[1]? = some c := by rw [hl]; rfl
        rwa [List.getElem?_drop] at this
      rw [h1, h2] at h
      simp at h
      rw [P.rdhex]
      rcases h with h | h
      · rw [h]
      · rw [h]; cases P.hexv a <;> rfl

theorem hexAt_lt {s : ByteArray} {i x : Nat} (hx : hexAt s i = some x) : x ≤ 15 := by
  unfold hexAt at hx
  cases h : s.data.toList[i]? with
  | none => rw [h] at hx; cases hx
  | some c => rw [h] at hx; exact P.hexv_lt hx

/-- What laying bytes answers. -/
def LByt (sz : Nat) (p : Nat) (s : ByteArray) (i b : Nat) (v : Value) (bs : List UInt8) (w : World) (e : Ending) (w' : World) : Prop :=
  (match P.rdhex sz (s.data.toList.drop i) with
    | some xs => e = .returned (.bool true) ∧ Wr w' b s (i + 2 * sz) v (P.put bs p xs)
    | none => e = .returned (.bool false)) ∧ Below b w w'

set_option maxHeartbeats 1000000 in
theorem layBytes_any {b i : Nat} {s : ByteArray} {w : World} {v : Value} {bs : List UInt8} (sz p kd : Nat) (h : Wr w b s i v bs) (hsz1 : 1 ≤ sz) (hsz : sz ≤ 16) (hp : p + sz ≤ bs.length) :
    Calls Tryd.prog 44 #[.pointer (some ⟨b, 0, none⟩), .agg #[.int .i64 kd, .int .u8 0, .int .i64 p, .int .i64 sz]] w fun e w' => LByt sz p s i b v bs w e w' := by
  have hb32 := h.size
  have hlong := h.long
  have hwb := h.below ((Below.refl _ _).alloc (Nat.le_refl w.heap.size) (.cells #[.int .i64 kd, .int .u8 0, .int .i64 p, .int .i64 sz] 68))
  have hbl := h.cur.lt
  obtain ⟨g, cap, hv, _, hgl⟩ := h.own.form (by omega)
  subst hv
  have hbe1 : Below b w (w.alloc (.cells #[.int .i64 kd, .int .u8 0, .int .i64 p, .int .i64 sz] 68)) := (Below.refl _ _).alloc (by omega) _
  go_enter Tryd.func44, Tryd.ntmps44
  go_wp2_with fail
  go_loopw [5] (fun j wr => ∃ (m : Nat) (xs : List UInt8), m ≤ sz ∧ j = .int .i64 ((p + m : Nat) : Int) ∧ Hid (xs.length = m ∧ P.rdhex sz (s.data.toList.drop i) = (P.rdhex (sz - m) (s.data.toList.drop (i + 2 * m))).map (xs ++ ·)) ∧ Wr wr b s (i + 2 * m) (.slice (some ⟨g, 0, none⟩) bs.length cap) (P.put bs p xs) ∧ wr.heap[w.heap.size]? = some (.cells #[.int .i64 kd, .int .u8 0, .int .i64 p, .int .i64 sz] 68 (0, 0)) ∧ Below b w wr) (fun j _ => p + sz - (intOf j).toNat)
  case atStart => exact ⟨0, [], by omega, rfl, ⟨rfl, by simp⟩, by simpa [P.put_nil] using hwb, heap_alloc_new w _, hbe1⟩
  case round =>
    obtain ⟨m, xs, hm, rfl, HX, hwr, hbx, hbe⟩ := hrel
    clear hwb hbe1
    obtain ⟨b0, b1, b2, b3, _, _, _, _⟩ := cells4 hbx
    obtain ⟨q, hq⟩ : ∃ q, q = p + m := ⟨_, rfl⟩
    rw [← hq]
    have HQ : Hid (q = p + m) := hq
    have hq1 : p ≤ q := by omega
    have hq2 : q ≤ p + sz := by omega
    clear hq
    have hxl := HX.out.1
    have hpl : (P.put bs p xs).length = bs.length := P.put_length _ _ _ (by omega)
    have HXL : Hid (xs.length = m) := hxl
    clear hxl
    by_cases hlt : q < p + sz
    · have hm1 : m + 1 ≤ sz := by have := HQ.out; omega
      have hq3 : q + 1 ≤ p + sz := by omega
      by_cases hyes : (∃ x y, hexAt s (i + 2 * m) = some x ∧ hexAt s (i + 2 * m + 1) = some y)
      · obtain ⟨x, y, hx, hy⟩ := hyes
        have HA : Hid (hexAt s (i + 2 * m) = some x) := hx
        have HB : Hid (hexAt s (i + 2 * m + 1) = some y) := hy
        clear hx hy
        go_wp2_with fail
        refine (hexByte_yes hwr.cur hlong HA.out HB.out).mono ?_
        rintro e w2 ⟨rfl, hi2, hc2, ho2⟩
        have hw2 := hwr.only hc2 ho2 (by omega)
        have hbx2 : w2.heap[w.heap.size]? = some (.cells #[.int .i64 kd, .int .u8 0, .int .i64 p, .int .i64 sz] 68 (0, 0)) := by
          rw [ho2.block _ (by omega)]; exact hbx
        have hbe2 := hbe.trans (ho2.below (Nat.le_refl b))
        obtain ⟨c, hc1, hcf, hc3, hc4, hc5⟩ := wr_cell hw2 (k := q) (by omega)
        have hset := wr_set (k := q) hw2 (UInt8.ofNat (x * 16 + y))
        have hx15 : x ≤ 15 := hexAt_lt HA.out
        have hy15 : y ≤ 15 := hexAt_lt HB.out
        have eu : u8v (UInt8.ofNat (x * 16 + y)) = .int .u8 ((x * 16 + y : Nat) : Int) := by unfold u8v; congr 1; simp; omega
        have el : (P.put bs p xs).set q (UInt8.ofNat (x * 16 + y)) = P.put bs p (xs ++ [UInt8.ofNat (x * 16 + y)]) := by
          have e1 : q = p + xs.length := by rw [HXL.out]; exact HQ.out
          rw [e1, P.put_snoc _ _ _ _ (by rw [HXL.out]; have := HQ.out; omega)]
        rw [eu, el] at hset
        have HS : Hid _ := hset
        have HE : Hid (P.rdhex sz (s.data.toList.drop i) = (P.rdhex (sz - (m + 1)) (s.data.toList.drop (i + 2 * (m + 1)))).map ((xs ++ [UInt8.ofNat (x * 16 + y)]) ++ ·)) := by
          unfold Hid
          rw [HX.out.2, show sz - m = (sz - (m + 1)) + 1 by omega, rdhex_step HA.out HB.out, show i + 2 * m + 2 = i + 2 * (m + 1) by omega]
          cases P.rdhex (sz - (m + 1)) (s.data.toList.drop (i + 2 * (m + 1))) <;> simp
        clear hset hc3 eu el b0 b1 b2 b3
        unfold u8v at hc1
        unfold maxLen at hc5
        have hqb : (q : Int) < (bs.length : Int) := by omega
        have h0q : (0 : Int) ≤ (q : Int) := by omega
        have c2 := hw2.cur.c2
        go_wp2_with fail
        refine ⟨⟨m + 1, xs ++ [UInt8.ofNat (x * 16 + y)], hm1, by have := HQ.out; go_num, ⟨by simp [HXL.out], HE.out⟩, ?_, ?_, ?_⟩, by simp [intOf]; omega⟩
        · have := HS.out.1
          rw [show i + 2 * m + 2 = i + 2 * (m + 1) by omega] at this
          exact this
        · have e2 := Below.heap_setCell w2 ⟨g, q, none⟩ (.int .u8 ((x * 16 + y : Nat) : Int)) w.heap.size (by simp; omega)
          exact e2.trans hbx2
        · exact hbe2.trans HS.out.2
      · have hno : hexAt s (i + 2 * m) = none ∨ hexAt s (i + 2 * m + 1) = none := by
          cases h1 : hexAt s (i + 2 * m) with
          | none => exact Or.inl rfl
          | some x =>
            cases h2 : hexAt s (i + 2 * m + 1) with
            | none => exact Or.inr rfl
            | some y => exact absurd ⟨x, y, h1, h2⟩ hyes
        have HNO : Hid _ := hno
        clear hno hyes
        have HE : Hid (P.rdhex sz (s.data.toList.drop i) = none) := by
          unfold Hid
          rw [HX.out.2, show sz - m = (sz - (m + 1)) + 1 by omega, rdhex_no HNO.out]; rfl
        go_wp2_with fail
        refine (hexByte_no hwr.cur hlong HNO.out).mono ?_
        rintro e w2 ⟨rfl, ho2⟩
        go_wp2_with fail
        go_ret
        refine ⟨?_, hbe.trans (ho2.below (Nat.le_refl b))⟩
        rw [HE.out]
        exact rfl
    · have hme : m = sz := by have := HQ.out; omega
      have HE : Hid (P.rdhex sz (s.data.toList.drop i) = some xs) := by
        unfold Hid
        rw [HX.out.2, hme, Nat.sub_self]; simp [P.rdhex]
      have HW : Hid (Wr wr b s (i + 2 * sz) (.slice (some ⟨g, 0, none⟩) bs.length cap) (P.put bs p xs)) := by
        rw [hme] at hwr; exact hwr
      clear hme
      go_wp2_with fail
      go_ret
      refine ⟨?_, hbe⟩
      rw [HE.out]
      exact ⟨rfl, HW.out⟩
end Go.Proofs.YtghggcehloiemaaDoor
