import Derived.Test.YtghggcehloiemabGreatDoorNumberAll
import Derived.Test.YtghggcehloiemabGreatDoorReaderAll
import Derived.Deep.RegionHeld3
import Derived.Deep.DrawnRows
import Derived.Laws.BytesArg
import Derived.Test.YtghggcehloiemabGreatDoorPureAll
namespace Go.Proofs.YtghggcehloiemabGreatDoor
open Go.RowKit
set_option linter.unusedVariables false
set_option maxRecDepth 16000

namespace P
def put (bs : List UInt8) (p : Nat) (xs : List UInt8) : List UInt8 := bs.take p ++ xs ++ bs.drop (p + xs.length)
def le : Nat → Nat → List UInt8
  | 0, _ => []
  | k + 1, n => le k n ++ [UInt8.ofNat (n / 256 ^ k % 256)]
theorem le_length (k n : Nat) : (le k n).length = k := by
  induction k with
  | zero => rfl
  | succ k ih => simp [le, ih]
theorem put_nil (bs : List UInt8) (p : Nat) : put bs p [] = bs := by simp [put]
theorem put_length (bs : List UInt8) (p : Nat) (xs : List UInt8) (h : p + xs.length ≤ bs.length) : (put bs p xs).length = bs.length := by
  simp [put]; omega
theorem put_snoc (bs : List UInt8) (p : Nat) (xs : List UInt8) (y : UInt8) (h : p + xs.length < bs.length) : (put bs p xs).set (p + xs.length) y = put bs p (xs ++ [y]) := by
  unfold put
  have hl : (bs.take p ++ xs).length = p + xs.length := by simp; omega
  rw [List.set_append_right _ _ (by omega), hl, Nat.sub_self]
  rw [List.drop_eq_getElem_cons h]
  simp [Nat.add_assoc]
end P

def u8v (c : UInt8) : Value := .int .u8 (c.toNat : Int)

/-- A writer at block b: its text, where it stands, the bytes. -/
structure Wr (w : World) (b : Nat) (s : ByteArray) (i : Nat) (v : Value) (bs : List UInt8) : Prop where
  cur : Cur w b s i v 143
  own : w.ownsRow (b + 1) 5 1 v bs.length (bs.map u8v)
  here : i ≤ s.size
  long : s.size ≤ maxLen
  size : bs.length ≤ 32

theorem Wr.only {w w' : World} {b i j : Nat} {s : ByteArray} {v : Value} {bs : List UInt8} (h : Wr w b s i v bs) (hc : Cur w' b s j v 143) (ho : Only b w w') (hj : j ≤ s.size) : Wr w' b s j v bs :=
  ⟨hc, ho.own h.own, hj, h.long, h.size⟩
theorem Wr.below {w w' : World} {b i : Nat} {s : ByteArray} {v : Value} {bs : List UInt8} (h : Wr w b s i v bs) (hb : Below w.heap.size w w') : Wr w' b s i v bs := by
  refine ⟨?_, ?_, h.here, h.long, h.size⟩
  · have := h.cur; unfold Cur at *; rw [hb.block _ h.cur.lt]; exact this
  · obtain ⟨h1, h2⟩ := h.own
    refine ⟨h1, ?_⟩
    rcases h2 with h2 | ⟨g, cap, cur, rfl, hbb, hg, hr⟩
    · exact .inl h2
    · refine .inr ⟨g, cap, cur, rfl, hbb, ?_, hr⟩
      have hl := (h.own.lt g rfl).2
      rw [hb.block _ hl]; exact hg

theorem wr_cell {w : World} {b i g n cap k : Nat} {s : ByteArray} {bs : List UInt8} (h : Wr w b s i (.slice (some ⟨g, 0, none⟩) n cap) bs) (hk : k < bs.length) : ∃ c, w.cell? ⟨g, k, none⟩ = some (u8v c) ∧ w.frozen? ⟨g, k, none⟩ = false ∧ n = bs.length ∧ n ≤ cap ∧ cap ≤ maxLen := by
  obtain ⟨h1, h2⟩ := h.own
  rcases h2 with ⟨h2, _⟩ | ⟨g', cap', cur, hv, hb, hg, hn, hm, hsz, htk⟩
  · cases h2
  · cases hv
    refine ⟨bs[k], ?_, by simp [World.frozen?, hg], rfl, hn, hm⟩
    rw [cell_of_row w g _ _ _ _ hg]
    have hget : (bs.map u8v)[k]? = some (u8v bs[k]) := by simp [List.getElem?_eq_getElem hk]
    rw [← htk, List.getElem?_take_of_lt (by omega)] at hget
    simpa using hget
theorem wr_set {w : World} {b i g n cap k : Nat} {s : ByteArray} {bs : List UInt8} (h : Wr w b s i (.slice (some ⟨g, 0, none⟩) n cap) bs) (c : UInt8) :
    Wr (w.setCell ⟨g, k, none⟩ (u8v c)) b s i (.slice (some ⟨g, 0, none⟩) n cap) (bs.set k c) ∧ Below b w (w.setCell ⟨g, k, none⟩ (u8v c)) := by
  obtain ⟨h1, h2⟩ := h.own
  rcases h2 with ⟨h2, _⟩ | ⟨g', cap', cur, hv, hb, hg, hn, hm, hsz, htk⟩
  · cases h2
  · cases hv
    refine ⟨⟨?_, ⟨?_, .inr ⟨g, cap, cur.setIfInBounds k (u8v c), by simp, hb, ?_, by simpa using hn, hm, by simpa using hsz, ?_⟩⟩, h.here, h.long, by simpa using h.size⟩, (Below.refl _ _).setCell (by simp; omega) _⟩
    · have := h.cur
      unfold Cur at *
      rw [Below.heap_setCell _ _ _ _ (by simp; omega)]; exact this
    · simp
    · simp [World.setCell, Array.getElem?_modify, hg]
    · rw [List.map_set, ← htk]
      simp [List.take_set]

theorem and_low8 (a : Nat) (ha : a < 9223372036854775808) : bits .and .i64 (a : Int) 255 = (a : Int) % 256 := by
  have h1 : (BitVec.ofInt 64 (a : Int)).toNat = a := by
    rw [BitVec.ofInt_natCast, BitVec.toNat_ofNat]; exact Nat.mod_eq_of_lt (by omega)
  have h2 : (BitVec.ofInt 64 (255 : Int)).toNat = 255 := by decide
  show IntKind.i64.wrap ((BitVec.ofInt 64 (a : Int) &&& BitVec.ofInt 64 255).toNat : Int) = _
  rw [BitVec.toNat_and, h1, h2, show (255 : Nat) = 2 ^ 8 - 1 from rfl, Nat.and_two_pow_sub_one_eq_mod]
  simp only [IntKind.wrap, IntKind.signed, IntKind.bits]
  simp
  omega
theorem box_kept {M : Nat} {s : ByteArray} {i b : Nat} {v : Value} {T : TypeId} {w w1 : World} {e : Ending} {x y z u : Value} {Tp : TypeId} (h : NumPost M s i b v T ((w.alloc (.cells #[x, y, z, u] Tp)).drew) e w1) (hb : b < w.heap.size) : w1.cell? ⟨w.heap.size, 3, none⟩ = some u := by
  have hh : w1.heap[w.heap.size]? = some (.cells #[x, y, z, u] Tp (0, 0)) := by
    rw [h.2.block _ (by omega)]; exact heap_alloc_new w _
  rw [cell_of_row w1 _ 3 _ _ _ hh]; rfl

theorem cells4 {w : World} {B : Nat} {a b c d : Value} {T : TypeId} (h : w.heap[B]? = some (.cells #[a, b, c, d] T (0, 0))) :
    w.cell? ⟨B, 0, none⟩ = some a ∧ w.cell? ⟨B, 1, none⟩ = some b ∧ w.cell? ⟨B, 2, none⟩ = some c ∧ w.cell? ⟨B, 3, none⟩ = some d ∧ w.frozen? ⟨B, 0, none⟩ = false ∧ w.frozen? ⟨B, 1, none⟩ = false ∧ w.frozen? ⟨B, 2, none⟩ = false ∧ w.frozen? ⟨B, 3, none⟩ = false := by
  refine ⟨?_, ?_, ?_, ?_, by simp [World.frozen?, h], by simp [World.frozen?, h], by simp [World.frozen?, h], by simp [World.frozen?, h]⟩ <;> rw [cell_of_row w B _ _ _ _ h] <;> rfl

/-- What laying a number answers. -/
def LNum (sz : Nat) (p : Nat) (s : ByteArray) (i b : Nat) (v : Value) (bs : List UInt8) (w : World) (e : Ending) (w' : World) : Prop :=
  (match P.rdnum (256 ^ sz - 1) (s.data.toList.drop i) with
    | some (n, k) => e = .returned (.bool true) ∧ Wr w' b s (i + k) v (P.put bs p (P.le sz n))
    | none => e = .returned (.bool false)) ∧ Below b w w'

theorem num_shape {most : Nat} {s : ByteArray} {i b : Nat} {v : Value} {T : TypeId} {w w' : World} {e : Ending} (h : NumPost most s i b v T w e w') : ∃ (x : Nat) (z : Bool), e = .returned (.tuple #[.int .i64 x, .bool z]) ∧ x ≤ most ∧
    ((z = true ∧ ∃ k, P.rdnum most (s.data.toList.drop i) = some (x, k) ∧ i + k ≤ s.size ∧ Cur w' b s (i + k) v T) ∨ (z = false ∧ P.rdnum most (s.data.toList.drop i) = none)) := by
  obtain ⟨h1, _⟩ := h
  cases hr : P.rdnum most (s.data.toList.drop i) with
  | none => rw [hr] at h1; exact ⟨0, false, h1.1, by omega, Or.inr ⟨rfl, rfl⟩⟩
  | some y =>
    obtain ⟨n, k⟩ := y
    rw [hr] at h1
    exact ⟨n, true, h1.1, rdnum_le hr, Or.inl ⟨rfl, k, rfl, h1.2.1, h1.2.2⟩⟩

set_option maxHeartbeats 1000000 in
theorem layNumber_any {b i : Nat} {s : ByteArray} {w : World} {v : Value} {bs : List UInt8} (sz p kd : Nat) (h : Wr w b s i v bs) (hsz1 : 1 ≤ sz) (hsz : sz ≤ 4) (hp : p + sz ≤ bs.length) :
    Calls Tryz.prog 135 #[.pointer (some ⟨b, 0, none⟩), .agg #[.int .i64 kd, .int .u8 0, .int .i64 p, .int .i64 sz]] w fun e w' => LNum sz p s i b v bs w e w' := by
  have hb32 := h.size
  have hmost : 256 ^ sz - 1 ≤ 4294967295 := by
    have : 256 ^ sz ≤ 256 ^ 4 := Nat.pow_le_pow_right (by omega) hsz
    omega
  have hwb := h.below ((Below.refl _ _).alloc (Nat.le_refl w.heap.size) (.cells #[.int .i64 kd, .int .u8 0, .int .i64 p, .int .i64 sz] 145))
  have hbl := h.cur.lt
  obtain ⟨M, hM⟩ : ∃ M, 256 ^ sz - 1 = M := ⟨_, rfl⟩
  have HM : Hid (256 ^ sz - 1 = M) := hM
  rw [hM] at hmost
  have HG : Hid (∀ w, Calls Tryz.prog 163 #[.int .i64 sz] w fun e w' => e = .returned (.int .i64 M) ∧ w' = w) := by
    intro w0; have := greatest_any sz w0 hsz; rw [hM] at this; exact this
  clear hM
  go_enter Tryz.func135, Tryz.ntmps135
  go_wp2_with fail
  go_region_held3 (fun w' => w'.cell? ⟨w.heap.size, 3, none⟩ = some (.int .i64 sz)) (first | (simp [go_sem]; done) | (exact box_kept hp1 hbl)) (first | (go_at_call 163; refine (HG.out _).mono ?_; rintro e w' ⟨rfl, rfl⟩) | (go_at_call 159; refine (number_any M hmost (by exact hwb.cur) h.long h.here).mono ?_; rintro e w1 hp1; obtain ⟨x, z, rfl, hxm, hcase⟩ := num_shape hp1))
  have hbox : w1.heap[w.heap.size]? = some (.cells #[.int .i64 kd, .int .u8 0, .int .i64 p, .int .i64 sz] 145 (0, 0)) := by
    rw [hp1.2.block _ (by omega)]; exact heap_alloc_new w _
  have hbe1 : Below b w w1 := ((Below.refl _ _).alloc (by omega) _).drew.trans (hp1.2.below (Nat.le_refl _))
  have hon := hp1.2
  have HP1 : Hid _ := hp1
  clear hp1
  rcases hcase with ⟨rfl, k, hr, hik, hcu⟩ | ⟨rfl, hr⟩
  · have HR : Hid (P.rdnum (256 ^ sz - 1) (s.data.toList.drop i) = some (x, k)) := by unfold Hid; rw [HM.out]; exact hr
    clear hr
    have hw1 : Wr w1 b s (i + k) v bs := hwb.only hcu ⟨hon.os, hon.tape, hon.output, hon.size, hon.block⟩ hik
    clear hwb hcu hon HP1
    obtain ⟨g, cap, hv, _, hgl⟩ := h.own.form (by omega)
    subst hv
    obtain ⟨b0, b1, b2, b3, _, _, _, _⟩ := cells4 hbox
    go_wp2_with fail
    go_loopw [5, 7] (fun n j wr => ∃ m nn : Nat, m ≤ sz ∧ j = .int .i64 ((p + m : Nat) : Int) ∧ n = .int .i64 nn ∧ nn ≤ M ∧ Hid (nn = x / 256 ^ m) ∧ Wr wr b s (i + k) (.slice (some ⟨g, 0, none⟩) bs.length cap) (P.put bs p (P.le m x)) ∧ wr.heap[w.heap.size]? = some (.cells #[.int .i64 kd, .int .u8 0, .int .i64 p, .int .i64 sz] 145 (0, 0)) ∧ Below b w wr) (fun _ j _ => p + sz - (intOf j).toNat)
    case atStart => exact ⟨0, x, by omega, rfl, rfl, hxm, by simp [Hid], by simpa [P.le, P.put_nil] using hw1, hbox, hbe1⟩
    case round =>
      obtain ⟨m, nn, hm, rfl, rfl, hnn, HN, hwr, hbx, hbe⟩ := hrel
      clear b0 b1 b2 b3 hbox hbe1 hw1
      obtain ⟨b0, b1, b2, b3, _, _, _, _⟩ := cells4 hbx
      obtain ⟨q, hq⟩ : ∃ q, q = p + m := ⟨_, rfl⟩
      rw [← hq]
      have HQ : Hid (q = p + m) := hq
      have hq1 : p ≤ q := by omega
      have hq2 : q ≤ p + sz := by omega
      clear hq
      have hpl : (P.put bs p (P.le m x)).length = bs.length := P.put_length _ _ _ (by rw [P.le_length]; omega)
      by_cases hlt : q < p + sz
      · obtain ⟨c, hc1, hc2, hc3, hc4, hc5⟩ := wr_cell hwr (k := q) (by omega)
        have hset := wr_set (k := q) hwr (UInt8.ofNat (nn % 256))
        have HS : Hid _ := hset
        clear hset hc3
        unfold u8v at hc1
        unfold maxLen at hc5
        have hand : bits .and .i64 (nn : Int) 255 = (nn : Int) % 256 := and_low8 nn (by omega)
        have hqb : (q : Int) < (bs.length : Int) := by omega
        have h0q : (0 : Int) ≤ (q : Int) := by omega
        have c2 := hwr.cur.c2
        have eu : u8v (UInt8.ofNat (nn % 256)) = .int .u8 ((nn : Int) % 256) := by unfold u8v; congr 1; simp
        have el : (P.put bs p (P.le m x)).set q (UInt8.ofNat (nn % 256)) = P.put bs p (P.le (m + 1) x) := by
          have e1 : q = p + (P.le m x).length := by rw [P.le_length]; exact HQ.out
          rw [e1, P.put_snoc _ _ _ _ (by rw [P.le_length]; have := HQ.out; omega), P.le, HN.out]
        have hm1 : m + 1 ≤ sz := by have := HQ.out; omega
        have hq3 : q + 1 ≤ p + sz := by omega
        have HE : Hid (u8v (UInt8.ofNat (nn % 256)) = .int .u8 ((nn : Int) % 256)) := eu
        have HL : Hid ((P.put bs p (P.le m x)).set q (UInt8.ofNat (nn % 256)) = P.put bs p (P.le (m + 1) x)) := el
        clear eu el
        go_wp2_with fail
        have hset := HS.out
        rw [HE.out, HL.out] at hset
        refine ⟨⟨m + 1, nn / 256, hm1, by have := HQ.out; go_num, by go_num, by omega, ?_, hset.1, ?_, hbe.trans hset.2⟩, by simp [intOf]; omega⟩
        · unfold Hid; rw [HN.out, Nat.div_div_eq_div_mul, Nat.pow_succ]
        · rw [Below.heap_setCell _ _ _ _ (by simp; omega)]; exact hbx
      · have hme : m = sz := by have := HQ.out; omega
        subst hme
        go_wp2_with fail
        go_ret
        refine ⟨?_, hbe⟩
        rw [HR.out]
        exact ⟨rfl, hwr⟩
  · have HR : Hid (P.rdnum (256 ^ sz - 1) (s.data.toList.drop i) = none) := by unfold Hid; rw [HM.out]; exact hr
    clear hr
    go_wp2_with fail
    go_ret
    refine ⟨?_, hbe1⟩
    rw [HR.out]
    exact rfl
end Go.Proofs.YtghggcehloiemabGreatDoor
namespace Go.Proofs.YtghggcehloiemabGreatDoor
open Go.RowKit
set_option linter.unusedVariables false
set_option maxRecDepth 16000

namespace P
def rdhex : Nat → List UInt8 → Option (List UInt8)
  | 0, _ => some []
  | k + 1, l => match l with
    | a :: c :: r => match hexv a, hexv c with
      | some x, some y => (rdhex k r).map (UInt8.ofNat (x * 16 + y) :: ·)
      | _, _ => none
    | _ => none
theorem rdhex_length : ∀ (k : Nat) (l xs : List UInt8), rdhex k l = some xs → xs.length = k := by
  intro k
  induction k with
  | zero => intro l xs h; simp [rdhex] at h; subst h; rfl
  | succ k ih =>
    intro l xs h
    cases l with
    | nil => simp [rdhex] at h
    | cons a l =>
      cases l with
      | nil => simp [rdhex] at h
      | cons c r =>
        simp only [rdhex] at h
        split at h
        · cases hr : rdhex k r with
          | none => rw [hr] at h; cases h
          | some ys => rw [hr] at h; simp at h; subst h; simp [ih _ _ hr]
        · cases h
end P

theorem rdhex_step {s : ByteArray} {j x y k : Nat} (hx : hexAt s j = some x) (hy : hexAt s (j + 1) = some y) : P.rdhex (k + 1) (s.data.toList.drop j) = (P.rdhex k (s.data.toList.drop (j + 2))).map (UInt8.ofNat (x * 16 + y) :: ·) := by
  unfold hexAt at hx hy
  cases h1 : s.data.toList[j]? with
  | none => rw [h1] at hx; cases hx
  | some a =>
    cases h2 : s.data.toList[j + 1]? with
    | none => rw [h2] at hy; cases hy
    | some c =>
      rw [h1] at hx
      rw [h2] at hy
      simp at hx hy
      obtain ⟨hl1, he1⟩ := List.getElem?_eq_some_iff.1 h1
      obtain ⟨hl2, he2⟩ := List.getElem?_eq_some_iff.1 h2
      rw [List.drop_eq_getElem_cons hl1, List.drop_eq_getElem_cons hl2, he1, he2]
      simp [P.rdhex, hx, hy]
theorem rdhex_no {s : ByteArray} {j k : Nat} (h : hexAt s j = none ∨ hexAt s (j + 1) = none) : P.rdhex (k + 1) (s.data.toList.drop j) = none := by
  unfold hexAt at h
  cases hl : s.data.toList.drop j with
  | nil => rfl
  | cons a r =>
    cases r with
    | nil => rfl
    | cons c r =>
      have h1 : s.data.toList[j]? = some a := by
        have : (s.data.toList.drop j)[0]? = some a := by rw [hl]; rfl
        rwa [List.getElem?_drop, Nat.add_zero] at this
      have h2 : s.data.toList[j + 1]? = some c := by
        have : (s.data.toList.drop j)[1]? = some c := by rw [hl]; rfl
        rwa [List.getElem?_drop] at this
      rw [h1, h2] at h
      simp at h
      rw [P.rdhex]
      rcases h with h | h
      · rw [h]
      · rw [h]; cases P.hexv a <;> rfl

theorem hexAt_lt {s : ByteArray} {i x : Nat} (hx : hexAt s i = some x) : x ≤ 15 := by
  unfold hexAt at hx
  cases h : s.data.toList[i]? with
  | none => rw [h] at hx; cases hx
  | some c => rw [h] at hx; exact P.hexv_lt hx

/-- What laying bytes answers. -/
def LByt (sz : Nat) (p : Nat) (s : ByteArray) (i b : Nat) (v : Value) (bs : List UInt8) (w : World) (e : Ending) (w' : World) : Prop :=
  (match P.rdhex sz (s.data.toList.drop i) with
    | some xs => e = .returned (.bool true) ∧ Wr w' b s (i + 2 * sz) v (P.put bs p xs)
    | none => e = .returned (.bool false)) ∧ Below b w w'

set_option maxHeartbeats 1000000 in
theorem layBytes_any {b i : Nat} {s : ByteArray} {w : World} {v : Value} {bs : List UInt8} (sz p kd : Nat) (h : Wr w b s i v bs) (hsz1 : 1 ≤ sz) (hsz : sz ≤ 16) (hp : p + sz ≤ bs.length) :
    Calls Tryz.prog 136 #[.pointer (some ⟨b, 0, none⟩), .agg #[.int .i64 kd, .int .u8 0, .int .i64 p, .int .i64 sz]] w fun e w' => LByt sz p s i b v bs w e w' := by
  have hb32 := h.size
  have hlong := h.long
  have hwb := h.below ((Below.refl _ _).alloc (Nat.le_refl w.heap.size) (.cells #[.int .i64 kd, .int .u8 0, .int .i64 p, .int .i64 sz] 145))
  have hbl := h.cur.lt
  obtain ⟨g, cap, hv, _, hgl⟩ := h.own.form (by omega)
  subst hv
  have hbe1 : Below b w (w.alloc (.cells #[.int .i64 kd, .int .u8 0, .int .i64 p, .int .i64 sz] 145)) := (Below.refl _ _).alloc (by omega) _
  go_enter Tryz.func136, Tryz.ntmps136
  go_wp2_with fail
  go_loopw [5] (fun j wr => ∃ (m : Nat) (xs : List UInt8), m ≤ sz ∧ j = .int .i64 ((p + m : Nat) : Int) ∧ Hid (xs.length = m ∧ P.rdhex sz (s.data.toList.drop i) = (P.rdhex (sz - m) (s.data.toList.drop (i + 2 * m))).map (xs ++ ·)) ∧ Wr wr b s (i + 2 * m) (.slice (some ⟨g, 0, none⟩) bs.length cap) (P.put bs p xs) ∧ wr.heap[w.heap.size]? = some (.cells #[.int .i64 kd, .int .u8 0, .int .i64 p, .int .i64 sz] 145 (0, 0)) ∧ Below b w wr) (fun j _ => p + sz - (intOf j).toNat)
  case atStart => exact ⟨0, [], by omega, rfl, ⟨rfl, by simp⟩, by simpa [P.put_nil] using hwb, heap_alloc_new w _, hbe1⟩
  case round =>
    obtain ⟨m, xs, hm, rfl, HX, hwr, hbx, hbe⟩ := hrel
    clear hwb hbe1
    obtain ⟨b0, b1, b2, b3, _, _, _, _⟩ := cells4 hbx
    obtain ⟨q, hq⟩ : ∃ q, q = p + m := ⟨_, rfl⟩
    rw [← hq]
    have HQ : Hid (q = p + m) := hq
    have hq1 : p ≤ q := by omega
    have hq2 : q ≤ p + sz := by omega
    clear hq
    have hxl := HX.out.1
    have hpl : (P.put bs p xs).length = bs.length := P.put_length _ _ _ (by omega)
    have HXL : Hid (xs.length = m) := hxl
    clear hxl
    by_cases hlt : q < p + sz
    · have hm1 : m + 1 ≤ sz := by have := HQ.out; omega
      have hq3 : q + 1 ≤ p + sz := by omega
      by_cases hyes : (∃ x y, hexAt s (i + 2 * m) = some x ∧ hexAt s (i + 2 * m + 1) = some y)
      · obtain ⟨x, y, hx, hy⟩ := hyes
        have HA : Hid (hexAt s (i + 2 * m) = some x) := hx
        have HB : Hid (hexAt s (i + 2 * m + 1) = some y) := hy
        clear hx hy
        go_wp2_with fail
        refine (hexByte_yes hwr.cur hlong HA.out HB.out).mono ?_
        rintro e w2 ⟨rfl, hi2, hc2, ho2⟩
        have hw2 := hwr.only hc2 ho2 (by omega)
        have hbx2 : w2.heap[w.heap.size]? = some (.cells #[.int .i64 kd, .int .u8 0, .int .i64 p, .int .i64 sz] 145 (0, 0)) := by
          rw [ho2.block _ (by omega)]; exact hbx
        have hbe2 := hbe.trans (ho2.below (Nat.le_refl b))
        obtain ⟨c, hc1, hcf, hc3, hc4, hc5⟩ := wr_cell hw2 (k := q) (by omega)
        have hset := wr_set (k := q) hw2 (UInt8.ofNat (x * 16 + y))
        have hx15 : x ≤ 15 := hexAt_lt HA.out
        have hy15 : y ≤ 15 := hexAt_lt HB.out
        have eu : u8v (UInt8.ofNat (x * 16 + y)) = .int .u8 ((x * 16 + y : Nat) : Int) := by unfold u8v; congr 1; simp; omega
        have el : (P.put bs p xs).set q (UInt8.ofNat (x * 16 + y)) = P.put bs p (xs ++ [UInt8.ofNat (x * 16 + y)]) := by
          have e1 : q = p + xs.length := by rw [HXL.out]; exact HQ.out
          rw [e1, P.put_snoc _ _ _ _ (by rw [HXL.out]; have := HQ.out; omega)]
        rw [eu, el] at hset
        have HS : Hid _ := hset
        have HE : Hid (P.rdhex sz (s.data.toList.drop i) = (P.rdhex (sz - (m + 1)) (s.data.toList.drop (i + 2 * (m + 1)))).map ((xs ++ [UInt8.ofNat (x * 16 + y)]) ++ ·)) := by
          unfold Hid
          rw [HX.out.2, show sz - m = (sz - (m + 1)) + 1 by omega, rdhex_step HA.out HB.out, show i + 2 * m + 2 = i + 2 * (m + 1) by omega]
          cases P.rdhex (sz - (m + 1)) (s.data.toList.drop (i + 2 * (m + 1))) <;> simp
        clear hset hc3 eu el b0 b1 b2 b3
        unfold u8v at hc1
        unfold maxLen at hc5
        have hqb : (q : Int) < (bs.length : Int) := by omega
        have h0q : (0 : Int) ≤ (q : Int) := by omega
        have c2 := hw2.cur.c2
        go_wp2_with fail
        refine ⟨⟨m + 1, xs ++ [UInt8.ofNat (x * 16 + y)], hm1, by have := HQ.out; go_num, ⟨by simp [HXL.out], HE.out⟩, ?_, ?_, ?_⟩, by simp [intOf]; omega⟩
        · have := HS.out.1
          rw [show i + 2 * m + 2 = i + 2 * (m + 1) by omega] at this
          exact this
        · have e2 := Below.heap_setCell w2 ⟨g, q, none⟩ (.int .u8 ((x * 16 + y : Nat) : Int)) w.heap.size (by simp; omega)
          exact e2.trans hbx2
        · exact hbe2.trans HS.out.2
      · have hno : hexAt s (i + 2 * m) = none ∨ hexAt s (i + 2 * m + 1) = none := by
          cases h1 : hexAt s (i + 2 * m) with
          | none => exact Or.inl rfl
          | some x =>
            cases h2 : hexAt s (i + 2 * m + 1) with
            | none => exact Or.inr rfl
            | some y => exact absurd ⟨x, y, h1, h2⟩ hyes
        have HNO : Hid _ := hno
        clear hno hyes
        have HE : Hid (P.rdhex sz (s.data.toList.drop i) = none) := by
          unfold Hid
          rw [HX.out.2, show sz - m = (sz - (m + 1)) + 1 by omega, rdhex_no HNO.out]; rfl
        go_wp2_with fail
        refine (hexByte_no hwr.cur hlong HNO.out).mono ?_
        rintro e w2 ⟨rfl, ho2⟩
        go_wp2_with fail
        go_ret
        refine ⟨?_, hbe.trans (ho2.below (Nat.le_refl b))⟩
        rw [HE.out]
        exact rfl
    · have hme : m = sz := by have := HQ.out; omega
      have HE : Hid (P.rdhex sz (s.data.toList.drop i) = some xs) := by
        unfold Hid
        rw [HX.out.2, hme, Nat.sub_self]; simp [P.rdhex]
      have HW : Hid (Wr wr b s (i + 2 * sz) (.slice (some ⟨g, 0, none⟩) bs.length cap) (P.put bs p xs)) := by
        rw [hme] at hwr; exact hwr
      clear hme
      go_wp2_with fail
      go_ret
      refine ⟨?_, hbe⟩
      rw [HE.out]
      exact ⟨rfl, HW.out⟩
end Go.Proofs.YtghggcehloiemabGreatDoor
namespace Go.Proofs.YtghggcehloiemabGreatDoor
open Go.RowKit
set_option linter.unusedVariables false
set_option maxRecDepth 16000

namespace P
/-- One part of a value: how much of the text it takes, the bytes behind it. -/
def stepP (x : Pt) (l bs : List UInt8) : Option (Nat × List UInt8) :=
  if x.kind = 1 then (rdnum (256 ^ x.size - 1) l).map (fun y => (y.2, put bs x.place (le x.size y.1)))
  else if x.kind = 2 then (rdhex x.size l).map (fun xs => (2 * x.size, put bs x.place xs))
  else match l with
    | [] => none
    | c :: _ => if c.toNat = x.mark then some (1, bs) else none
def layAll : List Pt → List UInt8 → List UInt8 → Option (List UInt8 × List UInt8)
  | [], l, bs => some (l, bs)
  | x :: xs, l, bs => match stepP x l bs with
    | none => none
    | some (k, bs') => layAll xs (l.drop k) bs'
def PtOk (n : Nat) (x : Pt) : Prop := (x.kind = 1 ∧ x.mark = 0 ∧ 1 ≤ x.size ∧ x.size ≤ 4 ∧ x.place + x.size ≤ n) ∨ (x.kind = 2 ∧ x.mark = 0 ∧ 1 ≤ x.size ∧ x.size ≤ 16 ∧ x.place + x.size ≤ n) ∨ (x.kind = 0 ∧ x.mark < 256)
theorem stepP_length {x : Pt} {l bs bs' : List UInt8} {k : Nat} (hok : PtOk bs.length x) (h : stepP x l bs = some (k, bs')) : bs'.length = bs.length := by
  unfold stepP at h
  rcases hok with ⟨h1, _, _, _, h5⟩ | ⟨h1, _, _, _, h5⟩ | ⟨h1, _⟩
  · rw [if_pos h1] at h
    cases hr : rdnum (256 ^ x.size - 1) l with
    | none => rw [hr] at h; cases h
    | some y => rw [hr] at h; simp at h; obtain ⟨_, rfl⟩ := h; exact put_length _ _ _ (by rw [le_length]; omega)
  · rw [if_neg (by omega), if_pos h1] at h
    cases hr : rdhex x.size l with
    | none => rw [hr] at h; cases h
    | some y => rw [hr] at h; simp at h; obtain ⟨_, rfl⟩ := h; exact put_length _ _ _ (by rw [rdhex_length _ _ _ hr]; omega)
  · rw [if_neg (by omega), if_neg (by omega)] at h
    cases l with
    | nil => cases h
    | cons c r =>
      simp only at h
      split at h
      · cases h; rfl
      · cases h
end P

theorem hit_drop {s : ByteArray} {i : Nat} {m : UInt8} (h : hit s i m = true) : s.data.toList.drop i = m :: s.data.toList.drop (i + 1) := by
  have h' : s.data.toList[i]? = some m := by simpa [hit] using h
  obtain ⟨hl, he⟩ := List.getElem?_eq_some_iff.1 h'
  rw [List.drop_eq_getElem_cons hl, he]

def LPost (o : Option (Nat × List UInt8)) (s : ByteArray) (i b : Nat) (v : Value) (w : World) (e : Ending) (w' : World) : Prop :=
  (match o with
    | some (k, bs') => e = .returned (.bool true) ∧ Wr w' b s (i + k) v bs'
    | none => e = .returned (.bool false)) ∧ Below b w w'

theorem wlay_skip {b i : Nat} {s : ByteArray} {w : World} {v : Value} {bs : List UInt8} (m : UInt8) (pl sz : Nat) (h : Wr w b s i v bs) :
    Calls Tryz.prog 131 #[.pointer (some ⟨b, 0, none⟩), .int .u8 m.toNat] ((w.alloc (.cells #[.int .i64 0, .int .u8 m.toNat, .int .i64 pl, .int .i64 sz] 145)).drew) fun e w' => ∃ z, e = .returned (.bool z) ∧ LPost (P.stepP ⟨0, m.toNat, pl, sz⟩ (s.data.toList.drop i) bs) s i b v w e w' ∧ w'.cell? ⟨w.heap.size, 1, none⟩ = some (.int .u8 m.toNat) := by
  have hbl := h.cur.lt
  have hwb := h.below ((Below.refl _ _).alloc (Nat.le_refl w.heap.size) (.cells #[.int .i64 0, .int .u8 m.toNat, .int .i64 pl, .int .i64 sz] 145))
  have hbe1 : Below b w (w.alloc (.cells #[.int .i64 0, .int .u8 m.toNat, .int .i64 pl, .int .i64 sz] 145)) := (Below.refl _ _).alloc (by omega) _
  have hbox : ∀ w', Only b ((w.alloc (.cells #[.int .i64 0, .int .u8 m.toNat, .int .i64 pl, .int .i64 sz] 145)).drew) w' → w'.cell? ⟨w.heap.size, 1, none⟩ = some (.int .u8 m.toNat) := by
    intro w' ho
    have hh : w'.heap[w.heap.size]? = some (.cells #[.int .i64 0, .int .u8 m.toNat, .int .i64 pl, .int .i64 sz] 145 (0, 0)) := by
      rw [ho.block _ (by omega)]; exact heap_alloc_new w _
    exact (cells4 hh).2.1
  by_cases hh : hit s i m = true
  · refine (skip_yes (v := v) (T := 143) (by exact hwb.cur) h.long hh).mono ?_
    rintro e w' ⟨rfl, hi, hc, ho⟩
    refine ⟨true, rfl, ⟨?_, hbe1.trans ((⟨ho.os, ho.tape, ho.output, ho.size, ho.block⟩ : Only b (w.alloc _) w').below (Nat.le_refl _))⟩, hbox w' ho⟩
    rw [hit_drop hh]
    simp only [P.stepP]
    rw [if_neg (by omega), if_neg (by omega), if_pos trivial]
    exact ⟨trivial, hwb.only hc ⟨ho.os, ho.tape, ho.output, ho.size, ho.block⟩ hi⟩
  · refine (skip_no (v := v) (T := 143) (by exact hwb.cur) (by simpa using hh)).mono ?_
    rintro e w' ⟨rfl, hc, ho⟩
    refine ⟨false, rfl, ⟨?_, hbe1.trans ((⟨ho.os, ho.tape, ho.output, ho.size, ho.block⟩ : Only b (w.alloc _) w').below (Nat.le_refl _))⟩, hbox w' ho⟩
    have hn : P.stepP ⟨0, m.toNat, pl, sz⟩ (s.data.toList.drop i) bs = none := by
      simp only [P.stepP]
      rw [if_neg (by omega), if_neg (by omega)]
      cases hl : s.data.toList.drop i with
      | nil => rfl
      | cons c r =>
        simp only
        rw [if_neg]
        intro hcm
        apply hh
        have : s.data.toList[i]? = some c := by
          have h0 : (s.data.toList.drop i)[0]? = some c := by rw [hl]; rfl
          rwa [List.getElem?_drop, Nat.add_zero] at h0
        simp [hit, this, UInt8.toNat_inj.1 hcm]
    rw [hn]

set_option maxHeartbeats 1000000 in
theorem wlay_any {b i : Nat} {s : ByteArray} {w : World} {v : Value} {bs : List UInt8} (x : P.Pt) (h : Wr w b s i v bs) (hok : P.PtOk bs.length x) :
    Calls Tryz.prog 89 #[.pointer (some ⟨b, 0, none⟩), .agg #[.int .i64 x.kind, .int .u8 x.mark, .int .i64 x.place, .int .i64 x.size]] w fun e w' => LPost (P.stepP x (s.data.toList.drop i) bs) s i b v w e w' := by
  have hbl := h.cur.lt
  obtain ⟨kd, mk, pl, sz⟩ := x
  have hwb := h.below ((Below.refl _ _).alloc (Nat.le_refl w.heap.size) (.cells #[.int .i64 kd, .int .u8 mk, .int .i64 pl, .int .i64 sz] 145))
  have hbe1 : Below b w (w.alloc (.cells #[.int .i64 kd, .int .u8 mk, .int .i64 pl, .int .i64 sz] 145)) := (Below.refl _ _).alloc (by omega) _
  rcases hok with ⟨h1, h2, h3, h4, h5⟩ | ⟨h1, h2, h3, h4, h5⟩ | ⟨h1, h2⟩
  · simp only at h1 h2 h3 h4 h5
    subst h1 h2
    go_enter Tryz.func89, Tryz.ntmps89
    go_wp2_with fail
    refine (layNumber_any sz pl 1 hwb h3 h4 h5).mono ?_
    rintro e w2 ⟨hpost, hbe⟩
    have hfin : LPost (P.stepP ⟨1, 0, pl, sz⟩ (s.data.toList.drop i) bs) s i b v w e w2 := by
      refine ⟨?_, hbe1.trans hbe⟩
      simp only [P.stepP, if_true]
      cases hr : P.rdnum (256 ^ sz - 1) (s.data.toList.drop i) with
      | none => rw [hr] at hpost; exact hpost
      | some y => rw [hr] at hpost; exact hpost
    obtain ⟨z, rfl⟩ : ∃ z, e = .returned (.bool z) := by
      cases hr : P.rdnum (256 ^ sz - 1) (s.data.toList.drop i) with
      | none => rw [hr] at hpost; exact ⟨_, hpost⟩
      | some y => rw [hr] at hpost; exact ⟨_, hpost.1⟩
    have HF : Hid _ := hfin
    clear hfin hpost
    go_wp2_with fail
    go_ret
    exact HF.out
  · simp only at h1 h2 h3 h4 h5
    subst h1 h2
    go_enter Tryz.func89, Tryz.ntmps89
    go_wp2_with fail
    refine (layBytes_any sz pl 2 hwb h3 h4 h5).mono ?_
    rintro e w2 ⟨hpost, hbe⟩
    have hfin : LPost (P.stepP ⟨2, 0, pl, sz⟩ (s.data.toList.drop i) bs) s i b v w e w2 := by
      refine ⟨?_, hbe1.trans hbe⟩
      simp only [P.stepP]
      rw [if_neg (by omega), if_pos trivial]
      cases hr : P.rdhex sz (s.data.toList.drop i) with
      | none => rw [hr] at hpost; exact hpost
      | some y => rw [hr] at hpost; exact hpost
    obtain ⟨z, rfl⟩ : ∃ z, e = .returned (.bool z) := by
      cases hr : P.rdhex sz (s.data.toList.drop i) with
      | none => rw [hr] at hpost; exact ⟨_, hpost⟩
      | some y => rw [hr] at hpost; exact ⟨_, hpost.1⟩
    have HF : Hid _ := hfin
    clear hfin hpost
    go_wp2_with fail
    go_ret
    exact HF.out
  · simp only at h1 h2
    subst h1
    obtain ⟨m, hm⟩ : ∃ m : UInt8, m.toNat = mk := ⟨UInt8.ofNat mk, by simp; omega⟩
    subst hm
    go_enter Tryz.func89, Tryz.ntmps89
    go_wp2_with fail
    go_region_held3 (fun w' => w'.cell? ⟨w.heap.size, 1, none⟩ = some (.int .u8 m.toNat)) (first | (simp [go_sem]; done) | (exact hkk)) (first | (go_at_call 131; refine (wlay_skip (bs := bs) m pl sz h).mono ?_; rintro e w1 ⟨z, rfl, hp1, hkk⟩))
    go_wp2_with fail
    go_ret
    exact hp1
end Go.Proofs.YtghggcehloiemabGreatDoor
namespace Go.Proofs.YtghggcehloiemabGreatDoor.P
set_option linter.unusedVariables false

theorem ptOk_sh {m n p : Nat} {x : Pt} (h : PtOk m x) (hn : m + p ≤ n) : PtOk n (x.sh p) := by
  rcases h with ⟨h1, h2, h3, h4, h5⟩ | ⟨h1, h2, h3, h4, h5⟩ | ⟨h1, h2⟩
  · exact Or.inl ⟨h1, h2, h3, h4, by simp only [Pt.sh]; omega⟩
  · exact Or.inr (Or.inl ⟨h1, h2, h3, h4, by simp only [Pt.sh]; omega⟩)
  · exact Or.inr (Or.inr ⟨h1, h2⟩)
theorem ptOk_mono {m n : Nat} {x : Pt} (h : PtOk m x) (hn : m ≤ n) : PtOk n x := by
  rcases h with ⟨h1, h2, h3, h4, h5⟩ | ⟨h1, h2, h3, h4, h5⟩ | ⟨h1, h2⟩
  · exact Or.inl ⟨h1, h2, h3, h4, by omega⟩
  · exact Or.inr (Or.inl ⟨h1, h2, h3, h4, by omega⟩)
  · exact Or.inr (Or.inr ⟨h1, h2⟩)
theorem ptOk_mark (n c : Nat) (h : c < 256) : PtOk n (markP c) := Or.inr (Or.inr ⟨rfl, h⟩)

theorem body_ok (xs : List (List Pt × (Nat × Nat))) : (∀ y ∈ xs, 1 ≤ y.2.2 ∧ y.2.2 ≤ 4 ∧ ∀ z ∈ y.1, PtOk y.2.1 z) → ∀ a : Nat × Nat, 1 ≤ a.2 → a.2 ≤ 4 → ∀ z ∈ body a xs, PtOk ((xs.map (·.2)).foldl lay1 a).1 z := by
  induction xs with
  | nil => intro _ a _ _ z hz; simp [body] at hz
  | cons x xs ih =>
    intro h a h1 h2 z hz
    have hx := h x (by simp)
    have hl := lay1_le (a := a) hx.1 hx.2.1
    have hm2 : 1 ≤ (lay1 a x.2).2 ∧ (lay1 a x.2).2 ≤ 4 := by simp only [lay1]; omega
    have hmono := fold_step (l := xs.map (·.2)) (by
      intro y hy
      obtain ⟨q, hq, rfl⟩ := List.mem_map.1 hy
      have := h q (by simp [hq]); exact ⟨this.1, this.2.1⟩) (lay1 a x.2) hm2.1 hm2.2
    simp only [List.map_cons, List.foldl_cons]
    rw [body, List.mem_append, List.mem_cons] at hz
    rcases hz with hz | rfl | hz
    · obtain ⟨q, hq, rfl⟩ := List.mem_map.1 hz
      exact ptOk_sh (hx.2.2 q hq) (by omega)
    · exact ptOk_mark _ _ (by omega)
    · exact ih (fun y hy => h y (by simp [hy])) _ hm2.1 hm2.2 z hz

def Fine (n : Nat) (t : Ty n) : Prop := Good n t ∧ 1 ≤ (sz n t).1 ∧ ∀ x ∈ parts n t, PtOk (sz n t).1 x

theorem fine_struct {n : Nat} {ts : List (Ty n)} (hne : ts ≠ []) (h : ∀ t ∈ ts, Fine n t) : Fine (n + 1) (.inr ts) := by
  have hg := good_struct (fun t ht => (h t ht).1)
  have hs : ∀ x ∈ ts.map (sz n), 1 ≤ x.2 ∧ x.2 ≤ 4 := by
    intro x hx
    obtain ⟨t, ht, rfl⟩ := List.mem_map.1 hx
    exact ⟨(h t ht).1.1, (h t ht).1.2.1⟩
  obtain ⟨h1, h2, _⟩ := fold_step hs (0, 1) (by simp) (by simp)
  have e : (ts.map (fun t => (parts n t, sz n t))).map (·.2) = ts.map (sz n) := by simp [Function.comp_def]
  have hup := le_up (fold (ts.map (sz n))).1 (fold (ts.map (sz n))).2 h1
  have hb : ∀ z ∈ body (0, 1) (ts.map fun t => (parts n t, sz n t)), PtOk (fold (ts.map (sz n))).1 z := by
    have := body_ok (ts.map fun t => (parts n t, sz n t)) (by
      intro y hy
      obtain ⟨t, ht, rfl⟩ := List.mem_map.1 hy
      exact ⟨(h t ht).1.1, (h t ht).1.2.1, (h t ht).2.2⟩) (0, 1) (by simp) (by simp)
    rw [e] at this; exact this
  refine ⟨hg, ?_, ?_⟩
  · cases ts with
    | nil => exact absurd rfl hne
    | cons t ts =>
      have ht := h t (by simp)
      have hl := lay1_le (a := (0, 1)) ht.1.1 ht.1.2.1
      have hm2 : 1 ≤ (lay1 (0, 1) (sz n t)).2 ∧ (lay1 (0, 1) (sz n t)).2 ≤ 4 := by have := ht.1.1; have := ht.1.2.1; simp only [lay1]; omega
      have hmono := fold_step (l := ts.map (sz n)) (fun x hx => hs x (by simp at hx ⊢; exact Or.inr hx)) (lay1 (0, 1) (sz n t)) hm2.1 hm2.2
      have e2 : fold ((t :: ts).map (sz n)) = (ts.map (sz n)).foldl lay1 (lay1 (0, 1) (sz n t)) := rfl
      simp only [sz, closed]
      have h1' := ht.2.1
      rw [e2] at hup ⊢
      omega
  · intro x hx
    simp only [parts, List.mem_cons, List.mem_append] at hx
    simp only [sz, closed]
    rcases hx with rfl | hx | hx
    · exact ptOk_mark _ _ (by omega)
    · exact ptOk_mono (hb x (List.dropLast_subset _ hx)) hup
    · simp at hx; subst hx; exact ptOk_mark _ _ (by omega)

theorem body_len (xs : List (List Pt × (Nat × Nat))) (x : List Pt × (Nat × Nat)) (a : Nat × Nat) : (body a (xs ++ [x])).length = (body a xs).length + x.1.length + 1 := by
  rw [body_snoc]; simp; omega

theorem rdF_fine {n : Nat} (ih : ∀ l t r, rd n l = some (t, r) → Fine n t ∧ (parts n t).length + r.length ≤ l.length) :
    ∀ (k : Nat) (acc : List (Ty n)) (s : List UInt8) (ts : List (Ty n)) (r : List UInt8) (M : Nat), rdF (rd n) k acc s = some (ts, r) → (∀ t ∈ acc, Fine n t) → (body (0, 1) (acc.map fun t => (parts n t, sz n t))).length + s.length ≤ M →
    (∀ t ∈ ts, Fine n t) ∧ ts ≠ [] ∧ (body (0, 1) (ts.map fun t => (parts n t, sz n t))).length + r.length ≤ M := by
  intro k
  induction k with
  | zero => intro acc s ts r M h; simp [rdF] at h
  | succ k ihk =>
    intro acc s ts r M h hacc hM
    rw [rdF] at h
    split at h
    · cases h
    · cases h
    · rename_i t c r' hf
      obtain ⟨hg, hle⟩ := ih _ _ _ hf
      have hgs : ∀ x ∈ acc ++ [t], Fine n x := by
        intro x hx
        rcases List.mem_append.1 hx with hx | hx
        · exact hacc x hx
        · simp at hx; subst hx; exact hg
      have hbl : (body (0, 1) ((acc ++ [t]).map fun t => (parts n t, sz n t))).length = (body (0, 1) (acc.map fun t => (parts n t, sz n t))).length + (parts n t).length + 1 := by
        rw [List.map_append, List.map_cons, List.map_nil, body_len]
      simp only [List.length_cons] at hle
      split at h
      · cases h
        exact ⟨hgs, by simp, by rw [hbl]; omega⟩
      · split at h
        · exact ihk _ _ _ _ M h hgs (by rw [hbl]; omega)
        · cases h

theorem rd_fine : ∀ (n : Nat) (l : List UInt8) (t : Ty n) (r : List UInt8), rd n l = some (t, r) → Fine n t ∧ (parts n t).length + r.length ≤ l.length := by
  intro n
  have leafcase : ∀ (n : Nat) (l : List UInt8) (t : Ty n) (r : List UInt8), rd n l = some (t, r) → (rdLeaf l).map (fun x => (lf n x.1, x.2)) = some (t, r) → Fine n t ∧ (parts n t).length + r.length ≤ l.length := by
    intro n l t r h0 h
    have hgood := (rd_good n l t r h0).1
    cases hx : rdLeaf l with
    | none => rw [hx] at h; cases h
    | some x =>
      rw [hx] at h
      simp at h
      obtain ⟨rfl, rfl⟩ := h
      have hg := rdLeaf_good hx
      refine ⟨⟨hgood, by rw [sz_lf]; exact hg.2.2.2.1, ?_⟩, by rw [parts_lf]; simp; omega⟩
      rw [parts_lf, sz_lf]
      intro y hy
      simp at hy; subst hy
      obtain ⟨⟨num, k⟩, r⟩ := x
      cases num with
      | true => exact Or.inl ⟨rfl, rfl, hg.2.2.2.1, hg.2.1, by simp [lpart, lsz]⟩
      | false => exact Or.inr (Or.inl ⟨rfl, rfl, hg.2.2.2.1, hg.2.2.1, by simp [lpart, lsz]⟩)
  induction n with
  | zero =>
    intro l t r h
    by_cases hl : leafy l = true
    · exact leafcase 0 l t r h (by rw [← rd_leafy _ _ hl]; exact h)
    · simp [rd, hl] at h
  | succ n ih =>
    intro l t r h
    by_cases hl : leafy l = true
    · exact leafcase _ l t r h (by rw [← rd_leafy _ _ hl]; exact h)
    · rw [rd_else _ _ (by simpa using hl)] at h
      cases l with
      | nil => simp [rdS] at h
      | cons c s =>
        simp only [rdS] at h
        split at h
        · cases hx : rdF (rd n) 8 [] s with
          | none => rw [hx] at h; cases h
          | some x =>
            obtain ⟨ts, r'⟩ := x
            rw [hx] at h
            simp at h
            obtain ⟨rfl, rfl⟩ := h
            obtain ⟨hg, hne, hle⟩ := rdF_fine ih 8 [] s ts _ s.length hx (by simp) (by simp [body])
            refine ⟨fine_struct hne hg, ?_⟩
            have hpos : 1 ≤ (body (0, 1) (ts.map fun t => (parts n t, sz n t))).length := by
              cases ts with
              | nil => exact absurd rfl hne
              | cons t ts => simp [body]; omega
            simp only [parts, List.length_cons, List.length_append, List.length_dropLast, List.length_nil]
            omega
        · cases h

end Go.Proofs.YtghggcehloiemabGreatDoor.P
