import Derived.Test.YtghggcehloiemaaDoorHex
import Derived.Test.YtghggcehloiemaaDoorReader
import Derived.Deep.RegionHeld3
import Derived.Deep.DrawnRows
namespace Go.Proofs.YtghggcehloiemaaDoor
open Go.RowKit
set_option linter.unusedVariables false
set_option maxRecDepth 16000

namespace P
def put (bs : List UInt8) (p : Nat) (xs : List UInt8) : List UInt8 := bs.take p ++ xs ++ bs.drop (p + xs.length)
def le : Nat → Nat → List UInt8
  | 0, _ => []
  | k + 1, n => le k n ++ [UInt8.ofNat (n / 256 ^ k % 256)]
theorem le_length (k n : Nat) : (le k n).length = k := by
  induction k with
  | zero => rfl
  | succ k ih => simp [le, ih]
theorem put_nil (bs : List UInt8) (p : Nat) : put bs p [] = bs := by simp [put]
theorem put_length (bs : List UInt8) (p : Nat) (xs : List UInt8) (h : p + xs.length ≤ bs.length) : (put bs p xs).length = bs.length := by
  simp [put]; omega
theorem put_snoc (bs : List UInt8) (p : Nat) (xs : List UInt8) (y : UInt8) (h : p + xs.length < bs.length) : (put bs p xs).set (p + xs.length) y = put bs p (xs ++ [y]) := by
  unfold put
  have hl : (bs.take p ++ xs).length = p + xs.length := by simp; omega
  rw [List.set_append_right _ _ (by omega), hl, Nat.sub_self]
  rw [List.drop_eq_getElem_cons h]
  simp [Nat.add_assoc]
end P

def u8v (c : UInt8) : Value := .int .u8 (c.toNat : Int)

/-- A writer at block b: its text, where it stands, the bytes. -/
structure Wr (w : World) (b : Nat) (s : ByteArray) (i : Nat) (v : Value) (bs : List UInt8) : Prop where
  cur : Cur w b s i v 73
  own : w.ownsRow (b + 1) 5 1 v bs.length (bs.map u8v)
  here : i ≤ s.size
  long : s.size ≤ maxLen
  size : bs.length ≤ 32

theorem Wr.only {w w' : World} {b i j : Nat} {s : ByteArray} {v : Value} {bs : List UInt8} (h : Wr w b s i v bs) (hc : Cur w' b s j v 73) (ho : Only b w w') (hj : j ≤ s.size) : Wr w' b s j v bs :=
  ⟨hc, ho.own h.own, hj, h.long, h.size⟩
theorem Wr.below {w w' : World} {b i : Nat} {s : ByteArray} {v : Value} {bs : List UInt8} (h : Wr w b s i v bs) (hb : Below w.heap.size w w') : Wr w' b s i v bs := by
  refine ⟨?_, ?_, h.here, h.long, h.size⟩
  · have := h.cur; unfold Cur at *; rw [hb.block _ h.cur.lt]; exact this
  · obtain ⟨h1, h2⟩ := h.own
    refine ⟨h1, ?_⟩
    rcases h2 with h2 | ⟨g, cap, cur, rfl, hbb, hg, hr⟩
    · exact .inl h2
    · refine .inr ⟨g, cap, cur, rfl, hbb, ?_, hr⟩
      have hl := (h.own.lt g rfl).2
      rw [hb.block _ hl]; exact hg

theorem wr_cell {w : World} {b i g n cap k : Nat} {s : ByteArray} {bs : List UInt8} (h : Wr w b s i (.slice (some ⟨g, 0, none⟩) n cap) bs) (hk : k < bs.length) : ∃ c, w.cell? ⟨g, k, none⟩ = some (u8v c) ∧ w.frozen? ⟨g, k, none⟩ = false ∧ n = bs.length ∧ n ≤ cap ∧ cap ≤ maxLen := by
  obtain ⟨h1, h2⟩ := h.own
  rcases h2 with ⟨h2, _⟩ | ⟨g', cap', cur, hv, hb, hg, hn, hm, hsz, htk⟩
  · cases h2
  · cases hv
    refine ⟨bs[k], ?_, by simp [World.frozen?, hg], rfl, hn, hm⟩
    rw [cell_of_row w g _ _ _ _ hg]
    have hget : (bs.map u8v)[k]? = some (u8v bs[k]) := by simp [List.getElem?_eq_getElem hk]
    rw [← htk, List.getElem?_take_of_lt (by omega)] at hget
    simpa using hget
theorem wr_set {w : World} {b i g n cap k : Nat} {s : ByteArray} {bs : List UInt8} (h : Wr w b s i (.slice (some ⟨g, 0, none⟩) n cap) bs) (c : UInt8) :
    Wr (w.setCell ⟨g, k, none⟩ (u8v c)) b s i (.slice (some ⟨g, 0, none⟩) n cap) (bs.set k c) ∧ Below b w (w.setCell ⟨g, k, none⟩ (u8v c)) := by
  obtain ⟨h1, h2⟩ := h.own
  rcases h2 with ⟨h2, _⟩ | ⟨g', cap', cur, hv, hb, hg, hn, hm, hsz, htk⟩
  · cases h2
  · cases hv
    refine ⟨⟨?_, ⟨?_, .inr ⟨g, cap, cur.setIfInBounds k (u8v c), by simp, hb, ?_, by simpa using hn, hm, by simpa using hsz, ?_⟩⟩, h.here, h.long, by simpa using h.size⟩, (Below.refl _ _).setCell (by simp; omega) _⟩
    · have := h.cur
      unfold Cur at *
      rw [Below.heap_setCell _ _ _ _ (by simp; omega)]; exact this
    · simp
    · simp [World.setCell, Array.getElem?_modify, hg]
    · rw [List.map_set, ← htk]
      simp [List.take_set]

theorem and_low8 (a : Nat) (ha : a < 9223372036854775808) : bits .and .i64 (a : Int) 255 = (a : Int) % 256 := by
  have h1 : (BitVec.ofInt 64 (a : Int)).toNat = a := by
    rw [BitVec.ofInt_natCast, BitVec.toNat_ofNat]; exact Nat.mod_eq_of_lt (by omega)
  have h2 : (BitVec.ofInt 64 (255 : Int)).toNat = 255 := by decide
  show IntKind.i64.wrap ((BitVec.ofInt 64 (a : Int) &&& BitVec.ofInt 64 255).toNat : Int) = _
  rw [BitVec.toNat_and, h1, h2, show (255 : Nat) = 2 ^ 8 - 1 from rfl, Nat.and_two_pow_sub_one_eq_mod]
  simp only [IntKind.wrap, IntKind.signed, IntKind.bits]
  simp
  omega
theorem box_kept {M : Nat} {s : ByteArray} {i b : Nat} {v : Value} {T : TypeId} {w w1 : World} {e : Ending} {x y z u : Value} {Tp : TypeId} (h : NumPost M s i b v T ((w.alloc (.cells #[x, y, z, u] Tp)).drew) e w1) (hb : b < w.heap.size) : w1.cell? ⟨w.heap.size, 3, none⟩ = some u := by
  have hh : w1.heap[w.heap.size]? = some (.cells #[x, y, z, u] Tp (0, 0)) := by
    rw [h.2.block _ (by omega)]; exact heap_alloc_new w _
  rw [cell_of_row w1 _ 3 _ _ _ hh]; rfl

theorem cells4 {w : World} {B : Nat} {a b c d : Value} {T : TypeId} (h : w.heap[B]? = some (.cells #[a, b, c, d] T (0, 0))) :
    w.cell? ⟨B, 0, none⟩ = some a ∧ w.cell? ⟨B, 1, none⟩ = some b ∧ w.cell? ⟨B, 2, none⟩ = some c ∧ w.cell? ⟨B, 3, none⟩ = some d ∧ w.frozen? ⟨B, 0, none⟩ = false ∧ w.frozen? ⟨B, 1, none⟩ = false ∧ w.frozen? ⟨B, 2, none⟩ = false ∧ w.frozen? ⟨B, 3, none⟩ = false := by
  refine ⟨?_, ?_, ?_, ?_, by simp [World.frozen?, h], by simp [World.frozen?, h], by simp [World.frozen?, h], by simp [World.frozen?, h]⟩ <;> rw [cell_of_row w B _ _ _ _ h] <;> rfl

/-- What laying a number answers. -/
def LNum (sz : Nat) (p : Nat) (s : ByteArray) (i b : Nat) (v : Value) (bs : List UInt8) (w : World) (e : Ending) (w' : World) : Prop :=
  (match P.rdnum (256 ^ sz - 1) (s.data.toList.drop i) with
    | some (n, k) => e = .returned (.bool true) ∧ Wr w' b s (i + k) v (P.put bs p (P.le sz n))
    | none => e = .returned (.bool false)) ∧ Below b w w'

theorem num_shape {most : Nat} {s : ByteArray} {i b : Nat} {v : Value} {T : TypeId} {w w' : World} {e : Ending} (h : NumPost most s i b v T w e w') : ∃ (x : Nat) (z : Bool), e = .returned (.tuple #[.int .i64 x, .bool z]) ∧ x ≤ most ∧
    ((z = true ∧ ∃ k, P.rdnum most (s.data.toList.drop i) = some (x, k) ∧ i + k ≤ s.size ∧ Cur w' b s (i + k) v T) ∨ (z = false ∧ P.rdnum most (s.data.toList.drop i) = none)) := by
  obtain ⟨h1, _⟩ := h
  cases hr : P.rdnum most (s.data.toList.drop i) with
  | none => rw [hr] at h1; exact ⟨0, false, h1.1, by omega, Or.inr ⟨rfl, rfl⟩⟩
  | some y =>
    obtain ⟨n, k⟩ := y
    rw [hr] at h1
    exact ⟨n, true, h1.1, rdnum_le hr, Or.inl ⟨rfl, k, rfl, h1.2.1, h1.2.2⟩⟩

set_option maxHeartbeats 1000000 in
theorem layNumber_any {b i : Nat} {s : ByteArray} {w : World} {v : Value} {bs : List UInt8} (sz p kd : Nat) (h : Wr w b s i v bs) (hsz1 : 1 ≤ sz) (hsz : sz ≤ 4) (hp : p + sz ≤ bs.length) :
    Calls Tryd.prog 43 #[.pointer (some ⟨b, 0, none⟩), .agg #[.int .i64 kd, .int .u8 0, .int .i64 p, .int .i64 sz]] w fun e w' => LNum sz p s i b v bs w e w' := by
  have hb32 := h.size
  have hmost : 256 ^ sz - 1 ≤ 4294967295 := by
    have : 256 ^ sz ≤ 256 ^ 4 := Nat.pow_le_pow_right (by omega) hsz
    omega
  have hwb := h.below ((Below.refl _ _).alloc (Nat.le_refl w.heap.size) (.cells #[.int .i64 kd, .int .u8 0, .int .i64 p, .int .i64 sz] 68))
  have hbl := h.cur.lt
  obtain ⟨M, hM⟩ : ∃ M, 256 ^ sz - 1 = M := ⟨_, rfl⟩
  have HM : Hid (256 ^ sz - 1 = M) := hM
  rw [hM] at hmost
  have HG : Hid (∀ w, Calls Tryd.prog 51 #[.int .i64 sz] w fun e w' => e = .returned (.int .i64 M) ∧ w' = w) := by
    intro w0; have := greatest_any sz w0 hsz; rw [hM] at this; exact this
  clear hM
  go_enter Tryd.func43, Tryd.ntmps43
  go_wp2_with fail
  go_region_held3 (fun w' => w'.cell? ⟨w.heap.size, 3, none⟩ = some (.int .i64 sz)) (first | (simp [go_sem]; done) | (exact box_kept hp1 hbl)) (first | (go_at_call 51; refine (HG.out _).mono ?_; rintro e w' ⟨rfl, rfl⟩) | (go_at_call 45; refine (number_any M hmost (by exact hwb.cur) h.long h.here).mono ?_; rintro e w1 hp1; obtain ⟨x, z, rfl, hxm, hcase⟩ := num_shape hp1))
  have hbox : w1.heap[w.heap.size]? = some (.cells #[.int .i64 kd, .int .u8 0, .int .i64 p, .int .i64 sz] 68 (0, 0)) := by
    rw [hp1.2.block _ (by omega)]; exact heap_alloc_new w _
  have hbe1 : Below b w w1 := ((Below.refl _ _).alloc (by omega) _).drew.trans (hp1.2.below (Nat.le_refl _))
  have hon := hp1.2
  have HP1 : Hid _ := hp1
  clear hp1
  rcases hcase with ⟨rfl, k, hr, hik, hcu⟩ | ⟨rfl, hr⟩
  · have HR : Hid (P.rdnum (256 ^ sz - 1) (s.data.toList.drop i) = some (x, k)) := by unfold Hid; rw [HM.out]; exact hr
    clear hr
    have hw1 : Wr w1 b s (i + k) v bs := hwb.only hcu ⟨hon.os, hon.tape, hon.output, hon.size, hon.block⟩ hik
    clear hwb hcu hon HP1
    obtain ⟨g, cap, hv, _, hgl⟩ := h.own.form (by omega)
    subst hv
    obtain ⟨b0, b1, b2, b3, _, _, _, _⟩ := cells4 hbox
    go_wp2_with fail
    go_loopw [5, 7] (fun n j wr => ∃ m nn : Nat, m ≤ sz ∧ j = .int .i64 ((p + m : Nat) : Int) ∧ n = .int .i64 nn ∧ nn ≤ M ∧ Hid (nn = x / 256 ^ m) ∧ Wr wr b s (i + k) (.slice (some ⟨g, 0, none⟩) bs.length cap) (P.put bs p (P.le m x)) ∧ wr.heap[w.heap.size]? = some (.cells #[.int .i64 kd, .int .u8 0, .int .i64 p, .int .i64 sz] 68 (0, 0)) ∧ Below b w wr) (fun _ j _ => p + sz - (intOf j).toNat)
    case atStart => exact ⟨0, x, by omega, rfl, rfl, hxm, by simp [Hid], by simpa [P.le, P.put_nil] using hw1, hbox, hbe1⟩
    case round =>
      obtain ⟨m, nn, hm, rfl, rfl, hnn, HN, hwr, hbx, hbe⟩ := hrel
      clear b0 b1 b2 b3 hbox hbe1 hw1
      obtain ⟨b0, b1, b2, b3, _, _, _, _⟩ := cells4 hbx
      obtain ⟨q, hq⟩ : ∃ q, q = p + m := ⟨_, rfl⟩
      rw [← hq]
      have HQ : Hid (q = p + m) := hq
      have hq1 : p ≤ q := by omega
      have hq2 : q ≤ p + sz := by omega
      clear hq
      have hpl : (P.put bs p (P.le m x)).length = bs.length := P.put_length _ _ _ (by rw [P.le_length]; omega)
      by_cases hlt : q < p + sz
      · obtain ⟨c, hc1, hc2, hc3, hc4, hc5⟩ := wr_cell hwr (k := q) (by omega)
        have hset := wr_set (k := q) hwr (UInt8.ofNat (nn % 256))
        have HS : Hid _ := hset
        clear hset hc3
        unfold u8v at hc1
        unfold maxLen at hc5
        have hand : bits .and .i64 (nn : Int) 255 = (nn : Int) % 256 := and_low8 nn (by omega)
        have hqb : (q : Int) < (bs.length : Int) := by omega
        have h0q : (0 : Int) ≤ (q : Int) := by omega
        have c2 := hwr.cur.c2
        have eu : u8v (UInt8.ofNat (nn % 256)) = .int .u8 ((nn : Int) % 256) := by unfold u8v; congr 1; simp
        have el : (P.put bs p (P.le m x)).set q (UInt8.ofNat (nn % 256)) = P.put bs p (P.le (m + 1) x) := by
          have e1 : q = p + (P.le m x).length := by rw [P.le_length]; exact HQ.out
          rw [e1, P.put_snoc _ _ _ _ (by rw [P.le_length]; have := HQ.out; omega), P.le, HN.out]
        have hm1 : m + 1 ≤ sz := by have := HQ.out; omega
        have hq3 : q + 1 ≤ p + sz := by omega
        have HE : Hid (u8v (UInt8.ofNat (nn % 256)) = .int .u8 ((nn : Int) % 256)) := eu
        have HL : Hid ((P.put bs p (P.le m x)).set q (UInt8.ofNat (nn % 256)) = P.put bs p (P.le (m + 1) x)) := el
        clear eu el
        go_wp2_with fail
        have hset := HS.out
        rw [HE.out, HL.out] at hset
        refine ⟨⟨m + 1, nn / 256, hm1, by have := HQ.out; go_num, by go_num, by omega, ?_, hset.1, ?_, hbe.trans hset.2⟩, by simp [intOf]; omega⟩
        · unfold Hid; rw [HN.out, Nat.div_div_eq_div_mul, Nat.pow_succ]
        · rw [Below.heap_setCell _ _ _ _ (by simp; omega)]; exact hbx
      · have hme : m = sz := by have := HQ.out; omega
        subst hme
        go_wp2_with fail
        go_ret
        refine ⟨?_, hbe⟩
        rw [HR.out]
        exact ⟨rfl, hwr⟩
  · have HR : Hid (P.rdnum (256 ^ sz - 1) (s.data.toList.drop i) = none) := by unfold Hid; rw [HM.out]; exact hr
    clear hr
    go_wp2_with fail
    go_ret
    refine ⟨?_, hbe1⟩
    rw [HR.out]
    exact rfl
end Go.Proofs.YtghggcehloiemaaDoor
