import Derived.Test.YtghggcehloiemabGreatDoorPrOAll
import Derived.Laws.MathBits
import Derived.Deep.RegionHeld3
import Derived.Deep.DrawnRows
import Derived.Test.YtghggcehloiemabGreatDoorRefStruct
namespace Go.Proofs.YtghggcehloiemabGreatDoor
open Go.RowKit
set_option linter.unusedVariables false
set_option maxRecDepth 16000

namespace P
def hexv (c : UInt8) : Option Nat := if 48 ≤ c.toNat ∧ c.toNat ≤ 57 then some (c.toNat - 48) else if 97 ≤ c.toNat ∧ c.toNat ≤ 102 then some (c.toNat - 87) else none
theorem hexv_lt {c : UInt8} {d : Nat} (h : hexv c = some d) : d ≤ 15 := by
  unfold hexv at h
  split at h
  · cases h; omega
  · split at h
    · cases h; omega
    · cases h
end P

set_option maxHeartbeats 400000 in
theorem peek_in {b i : Nat} {s : ByteArray} {w : World} {v : Value} {T : TypeId} (hc : Cur w b s i v T) (hi : i < s.size) :
    Calls Tryz.prog 182 #[.pointer (some ⟨b, 0, none⟩)] w fun e w' => e = .returned (.int .u8 s[i].toNat) ∧ ∃ n, w' = w.drewN n := by
  have h0 := hc.c0
  have h1 := hc.c1
  clear hc
  have hd : decide ((s.size : Int) ≤ (i : Int)) = false := by simp; omega
  go_enter Tryz.func182, Tryz.ntmps182
  go_wp2_with fail
  go_quiet (fail)
  go_wp2_with fail
  go_quiet (fail)
  go_wp2_with fail
  go_ret
  exact ⟨rfl, _, by rw [World.drewN_drewN]⟩
set_option maxHeartbeats 400000 in
theorem peek_out {b i : Nat} {s : ByteArray} {w : World} {v : Value} {T : TypeId} (hc : Cur w b s i v T) (hi : s.size ≤ i) :
    Calls Tryz.prog 182 #[.pointer (some ⟨b, 0, none⟩)] w fun e w' => e = .returned (.int .u8 0) ∧ ∃ n, w' = w.drewN n := by
  have h0 := hc.c0
  have h1 := hc.c1
  clear hc
  have hd : decide ((s.size : Int) ≤ (i : Int)) = true := by simp; omega
  go_enter Tryz.func182, Tryz.ntmps182
  go_wp2_with fail
  go_quiet (fail)
  go_wp2_with fail
  go_ret
  exact ⟨rfl, _, rfl⟩

/-- What a hexadecimal digit at place i is. -/
def hexAt (s : ByteArray) (i : Nat) : Option Nat := (s.data.toList[i]?).bind P.hexv

set_option maxHeartbeats 1000000 in
theorem hexDigit_yes {b i d : Nat} {s : ByteArray} {w : World} {v : Value} {T : TypeId} (hc : Cur w b s i v T) (hm : s.size ≤ maxLen) (hx : hexAt s i = some d) :
    Calls Tryz.prog 176 #[.pointer (some ⟨b, 0, none⟩)] w fun e w' => e = .returned (.tuple #[.int .u8 d, .bool true]) ∧ i < s.size ∧ Cur w' b s (i + 1) v T ∧ Only b w w' := by
  have hi : i < s.size := by
    rcases Nat.lt_or_ge i s.size with h | h
    · exact h
    · simp [hexAt, get_none h] at hx
  have hv : P.hexv s[i] = some d := by simpa [hexAt, get_of hi] using hx
  unfold maxLen at hm
  clear hx
  unfold P.hexv at hv
  split at hv
  · rename_i hd
    have hdb : digB (s[i].toNat : Int) = true := by simp [digB]; omega
    have HV : Hid ((d : Int) = (s[i].toNat : Int) - 48) := by cases hv; unfold Hid; omega
    clear hv
    have hd1 : (48 : Int) ≤ (s[i].toNat : Int) := by omega
    have hd2 : (s[i].toNat : Int) ≤ 57 := by omega
    clear hd
    go_enter Tryz.func176, Tryz.ntmps176
    go_wp2_with fail
    refine (peek_in hc hi).mono ?_
    rintro e w1 ⟨rfl, n, rfl⟩
    go_wp2_with fail
    refine (isDigit_yes _ _ hdb).mono ?_
    rintro e w2 ⟨rfl, rfl⟩
    have g1 := hc.c1
    have gf := hc.fz 1
    go_wp2_with fail
    go_ret2
    exact ⟨by rw [HV.out]; rfl, hi, (hc.drewN n).set1 (i + 1), ((Only.refl b w).drewN n).setCell 1 _⟩
  · rename_i hd
    split at hv
    · rename_i hd'
      have hdb : digB (s[i].toNat : Int) = false := by simp [digB]; omega
      have HV : Hid ((d : Int) = (s[i].toNat : Int) - 97 + 10) := by cases hv; unfold Hid; omega
      clear hv
      have hd1 : (97 : Int) ≤ (s[i].toNat : Int) := by omega
      have hd2 : (s[i].toNat : Int) ≤ 102 := by omega
      clear hd hd'
      go_enter Tryz.func176, Tryz.ntmps176
      go_wp2_with fail
      refine (peek_in hc hi).mono ?_
      rintro e w1 ⟨rfl, n, rfl⟩
      go_wp2_with fail
      refine (isDigit_no _ _ hdb).mono ?_
      rintro e w2 ⟨rfl, rfl⟩
      have g1 := hc.c1
      have gf := hc.fz 1
      go_wp2_with fail
      go_ret2
      exact ⟨by rw [HV.out]; rfl, hi, (hc.drewN n).set1 (i + 1), ((Only.refl b w).drewN n).setCell 1 _⟩
    · cases hv

set_option maxHeartbeats 1000000 in
theorem hexDigit_no {b i : Nat} {s : ByteArray} {w : World} {v : Value} {T : TypeId} (hc : Cur w b s i v T) (hx : hexAt s i = none) :
    Calls Tryz.prog 176 #[.pointer (some ⟨b, 0, none⟩)] w fun e w' => e = .returned (.tuple #[.int .u8 0, .bool false]) ∧ Only b w w' := by
  rcases Nat.lt_or_ge i s.size with hi | hi
  · have hv : P.hexv s[i] = none := by simpa [hexAt, get_of hi] using hx
    clear hx
    unfold P.hexv at hv
    split at hv
    · cases hv
    · split at hv
      · cases hv
      · rename_i h1 h2
        have hdb : digB (s[i].toNat : Int) = false := by simp [digB]; omega
        clear hv
        by_cases hge : (97 : Int) ≤ (s[i].toNat : Int)
        · have hle : ¬ (s[i].toNat : Int) ≤ 102 := by omega
          clear h1 h2
          go_enter Tryz.func176, Tryz.ntmps176
          go_wp2_with fail
          refine (peek_in hc hi).mono ?_
          rintro e w1 ⟨rfl, n, rfl⟩
          go_wp2_with fail
          refine (isDigit_no _ _ hdb).mono ?_
          rintro e w2 ⟨rfl, rfl⟩
          go_wp2_with fail
          go_ret2
          exact ⟨rfl, (Only.refl b w).drewN n⟩
        · clear h1 h2
          go_enter Tryz.func176, Tryz.ntmps176
          go_wp2_with fail
          refine (peek_in hc hi).mono ?_
          rintro e w1 ⟨rfl, n, rfl⟩
          go_wp2_with fail
          refine (isDigit_no _ _ hdb).mono ?_
          rintro e w2 ⟨rfl, rfl⟩
          go_wp2_with fail
          go_ret2
          exact ⟨rfl, (Only.refl b w).drewN n⟩
  · have hdb : digB (0 : Int) = false := by decide
    go_enter Tryz.func176, Tryz.ntmps176
    go_wp2_with fail
    refine (peek_out hc hi).mono ?_
    rintro e w1 ⟨rfl, n, rfl⟩
    go_wp2_with fail
    refine (isDigit_no _ _ hdb).mono ?_
    rintro e w2 ⟨rfl, rfl⟩
    go_wp2_with fail
    go_ret2
    exact ⟨rfl, (Only.refl b w).drewN n⟩

set_option maxHeartbeats 400000 in
theorem hexByte_yes {b i x y : Nat} {s : ByteArray} {w : World} {v : Value} {T : TypeId} (hc : Cur w b s i v T) (hm : s.size ≤ maxLen) (hx : hexAt s i = some x) (hy : hexAt s (i + 1) = some y) :
    Calls Tryz.prog 164 #[.pointer (some ⟨b, 0, none⟩)] w fun e w' => e = .returned (.tuple #[.int .u8 ((x * 16 + y : Nat) : Int), .bool true]) ∧ i + 1 < s.size ∧ Cur w' b s (i + 2) v T ∧ Only b w w' := by
  have hx15 : x ≤ 15 := by
    unfold hexAt at hx; cases h : s.data.toList[i]? with
    | none => rw [h] at hx; cases hx
    | some c => rw [h] at hx; exact P.hexv_lt hx
  have hy15 : y ≤ 15 := by
    unfold hexAt at hy; cases h : s.data.toList[i + 1]? with
    | none => rw [h] at hy; cases hy
    | some c => rw [h] at hy; exact P.hexv_lt hy
  have HX : Hid (hexAt s i = some x) := hx
  have HY : Hid (hexAt s (i + 1) = some y) := hy
  clear hx hy
  go_enter Tryz.func164, Tryz.ntmps164
  go_wp2_with fail
  refine (hexDigit_yes hc hm HX.out).mono ?_
  rintro e w1 ⟨rfl, hi, hc1, ho1⟩
  go_wp2_with fail
  refine (hexDigit_yes hc1 hm HY.out).mono ?_
  rintro e w2 ⟨rfl, hi2, hc2, ho2⟩
  go_wp2_with fail
  go_ret2
  exact ⟨by go_num, hi2, hc2, ho1.trans ho2⟩
set_option maxHeartbeats 400000 in
theorem hexByte_no {b i : Nat} {s : ByteArray} {w : World} {v : Value} {T : TypeId} (hc : Cur w b s i v T) (hm : s.size ≤ maxLen) (hx : hexAt s i = none ∨ hexAt s (i + 1) = none) :
    Calls Tryz.prog 164 #[.pointer (some ⟨b, 0, none⟩)] w fun e w' => e = .returned (.tuple #[.int .u8 0, .bool false]) ∧ Only b w w' := by
  cases h1 : hexAt s i with
  | none =>
    have HX : Hid (hexAt s i = none) := h1
    clear h1 hx
    go_enter Tryz.func164, Tryz.ntmps164
    go_wp2_with fail
    refine (hexDigit_no hc HX.out).mono ?_
    rintro e w1 ⟨rfl, ho1⟩
    go_wp2_with fail
    go_ret2
    exact ⟨rfl, ho1⟩
  | some x =>
    have h2 : hexAt s (i + 1) = none := by
      rcases hx with h | h
      · rw [h1] at h; cases h
      · exact h
    have HX : Hid (hexAt s i = some x) := h1
    have HY : Hid (hexAt s (i + 1) = none) := h2
    clear h1 h2 hx
    go_enter Tryz.func164, Tryz.ntmps164
    go_wp2_with fail
    refine (hexDigit_yes hc hm HX.out).mono ?_
    rintro e w1 ⟨rfl, hi, hc1, ho1⟩
    go_wp2_with fail
    refine (hexDigit_no hc1 HY.out).mono ?_
    rintro e w2 ⟨rfl, ho2⟩
    go_wp2_with fail
    go_ret2
    exact ⟨rfl, ho1.trans ho2⟩

set_option maxHeartbeats 400000 in
theorem greatest_any (n : Nat) (w : World) (hn : n ≤ 4) :
    Calls Tryz.prog 163 #[.int .i64 n] w fun e w' => e = .returned (.int .i64 ((256 ^ n - 1 : Nat) : Int)) ∧ w' = w := by
  have hb : ∀ k : Nat, k ≤ 4 → 256 ^ k - 1 ≤ 4294967295 := by
    intro k hk
    have : 256 ^ k ≤ 256 ^ 4 := Nat.pow_le_pow_right (by omega) hk
    omega
  have HB : Hid _ := hb
  clear hb
  go_enter Tryz.func163, Tryz.ntmps163
  go_wp2_with fail
  go_loop [3, 4] (fun x i => ∃ k m : Nat, k ≤ n ∧ i = .int .i64 k ∧ x = .int .i64 m ∧ m ≤ 4294967295 ∧ Hid (m = 256 ^ k - 1)) (fun _ i => n - (intOf i).toNat)
  case atStart => exact ⟨0, 0, Nat.zero_le _, rfl, rfl, by omega, rfl⟩
  case round =>
    obtain ⟨k, m, hk, rfl, rfl, hm, HM⟩ := hrel
    by_cases hlt : k < n
    · go_wp2_with fail
      refine ⟨⟨k + 1, m * 256 + 255, by omega, by go_num, by go_num, ?_, ?_⟩, by simp [intOf]; omega⟩
      · have := HB.out (k + 1) (by omega)
        have hp : 1 ≤ 256 ^ k := Nat.pos_of_ne_zero (by simp)
        rw [HM.out]
        rw [Nat.pow_succ] at this
        omega
      · have hp : 1 ≤ 256 ^ k := Nat.pos_of_ne_zero (by simp)
        unfold Hid
        rw [HM.out, Nat.pow_succ]
        omega
    · have hke : k = n := by omega
      subst hke
      go_wp2_with fail
      go_ret
      exact ⟨congrArg (fun x : Int => Ending.returned (.int .i64 x)) (by rw [HM.out]), rfl⟩
end Go.Proofs.YtghggcehloiemabGreatDoor
namespace Go.Proofs.YtghggcehloiemabGreatDoor
open Go.RowKit
set_option linter.unusedVariables false
set_option maxRecDepth 16000

namespace P
def put (bs : List UInt8) (p : Nat) (xs : List UInt8) : List UInt8 := bs.take p ++ xs ++ bs.drop (p + xs.length)
def le : Nat → Nat → List UInt8
  | 0, _ => []
  | k + 1, n => le k n ++ [UInt8.ofNat (n / 256 ^ k % 256)]
theorem le_length (k n : Nat) : (le k n).length = k := by
  induction k with
  | zero => rfl
  | succ k ih => simp [le, ih]
theorem put_nil (bs : List UInt8) (p : Nat) : put bs p [] = bs := by simp [put]
theorem put_length (bs : List UInt8) (p : Nat) (xs : List UInt8) (h : p + xs.length ≤ bs.length) : (put bs p xs).length = bs.length := by
  simp [put]; omega
theorem put_snoc (bs : List UInt8) (p : Nat) (xs : List UInt8) (y : UInt8) (h : p + xs.length < bs.length) : (put bs p xs).set (p + xs.length) y = put bs p (xs ++ [y]) := by
  unfold put
  have hl : (bs.take p ++ xs).length = p + xs.length := by simp; omega
  rw [List.set_append_right _ _ (by omega), hl, Nat.sub_self]
  rw [List.drop_eq_getElem_cons h]
  simp [Nat.add_assoc]
end P

def u8v (c : UInt8) : Value := .int .u8 (c.toNat : Int)

/-- A writer at block b: its text, where it stands, the bytes. -/
structure Wr (w : World) (b : Nat) (s : ByteArray) (i : Nat) (v : Value) (bs : List UInt8) : Prop where
  cur : Cur w b s i v 143
  own : w.ownsRow (b + 1) 5 1 v bs.length (bs.map u8v)
  here : i ≤ s.size
  long : s.size ≤ maxLen
  size : bs.length ≤ 32

theorem Wr.only {w w' : World} {b i j : Nat} {s : ByteArray} {v : Value} {bs : List UInt8} (h : Wr w b s i v bs) (hc : Cur w' b s j v 143) (ho : Only b w w') (hj : j ≤ s.size) : Wr w' b s j v bs :=
  ⟨hc, ho.own h.own, hj, h.long, h.size⟩
theorem Wr.below {w w' : World} {b i : Nat} {s : ByteArray} {v : Value} {bs : List UInt8} (h : Wr w b s i v bs) (hb : Below w.heap.size w w') : Wr w' b s i v bs := by
  refine ⟨?_, ?_, h.here, h.long, h.size⟩
  · have := h.cur; unfold Cur at *; rw [hb.block _ h.cur.lt]; exact this
  · obtain ⟨h1, h2⟩ := h.own
    refine ⟨h1, ?_⟩
    rcases h2 with h2 | ⟨g, cap, cur, rfl, hbb, hg, hr⟩
    · exact .inl h2
    · refine .inr ⟨g, cap, cur, rfl, hbb, ?_, hr⟩
      have hl := (h.own.lt g rfl).2
      rw [hb.block _ hl]; exact hg

theorem wr_cell {w : World} {b i g n cap k : Nat} {s : ByteArray} {bs : List UInt8} (h : Wr w b s i (.slice (some ⟨g, 0, none⟩) n cap) bs) (hk : k < bs.length) : ∃ c, w.cell? ⟨g, k, none⟩ = some (u8v c) ∧ w.frozen? ⟨g, k, none⟩ = false ∧ n = bs.length ∧ n ≤ cap ∧ cap ≤ maxLen := by
  obtain ⟨h1, h2⟩ := h.own
  rcases h2 with ⟨h2, _⟩ | ⟨g', cap', cur, hv, hb, hg, hn, hm, hsz, htk⟩
  · cases h2
  · cases hv
    refine ⟨bs[k], ?_, by simp [World.frozen?, hg], rfl, hn, hm⟩
    rw [cell_of_row w g _ _ _ _ hg]
    have hget : (bs.map u8v)[k]? = some (u8v bs[k]) := by simp [List.getElem?_eq_getElem hk]
    rw [← htk, List.getElem?_take_of_lt (by omega)] at hget
    simpa using hget
theorem wr_set {w : World} {b i g n cap k : Nat} {s : ByteArray} {bs : List UInt8} (h : Wr w b s i (.slice (some ⟨g, 0, none⟩) n cap) bs) (c : UInt8) :
    Wr (w.setCell ⟨g, k, none⟩ (u8v c)) b s i (.slice (some ⟨g, 0, none⟩) n cap) (bs.set k c) ∧ Below b w (w.setCell ⟨g, k, none⟩ (u8v c)) := by
  obtain ⟨h1, h2⟩ := h.own
  rcases h2 with ⟨h2, _⟩ | ⟨g', cap', cur, hv, hb, hg, hn, hm, hsz, htk⟩
  · cases h2
  · cases hv
    refine ⟨⟨?_, ⟨?_, .inr ⟨g, cap, cur.setIfInBounds k (u8v c), by simp, hb, ?_, by simpa using hn, hm, by simpa using hsz, ?_⟩⟩, h.here, h.long, by simpa using h.size⟩, (Below.refl _ _).setCell (by simp; omega) _⟩
    · have := h.cur
      unfold Cur at *
      rw [Below.heap_setCell _ _ _ _ (by simp; omega)]; exact this
    · simp
    · simp [World.setCell, Array.getElem?_modify, hg]
    · rw [List.map_set, ← htk]
      simp [List.take_set]

theorem and_low8 (a : Nat) (ha : a < 9223372036854775808) : bits .and .i64 (a : Int) 255 = (a : Int) % 256 := by
  have h1 : (BitVec.ofInt 64 (a : Int)).toNat = a := by
    rw [BitVec.ofInt_natCast, BitVec.toNat_ofNat]; exact Nat.mod_eq_of_lt (by omega)
  have h2 : (BitVec.ofInt 64 (255 : Int)).toNat = 255 := by decide
  show IntKind.i64.wrap ((BitVec.ofInt 64 (a : Int) &&& BitVec.ofInt 64 255).toNat : Int) = _
  rw [BitVec.toNat_and, h1, h2, show (255 : Nat) = 2 ^ 8 - 1 from rfl, Nat.and_two_pow_sub_one_eq_mod]
  simp only [IntKind.wrap, IntKind.signed, IntKind.bits]
  simp
  omega
theorem box_kept {M : Nat} {s : ByteArray} {i b : Nat} {v : Value} {T : TypeId} {w w1 : World} {e : Ending} {x y z u : Value} {Tp : TypeId} (h : NumPost M s i b v T ((w.alloc (.cells #[x, y, z, u] Tp)).drew) e w1) (hb : b < w.heap.size) : w1.cell? ⟨w.heap.size, 3, none⟩ = some u := by
  have hh : w1.heap[w.heap.size]? = some (.cells #[x, y, z, u] Tp (0, 0)) := by
    rw [h.2.block _ (by omega)]; exact heap_alloc_new w _
  rw [cell_of_row w1 _ 3 _ _ _ hh]; rfl

theorem cells4 {w : World} {B : Nat} {a b c d : Value} {T : TypeId} (h : w.heap[B]? = some (.cells #[a, b, c, d] T (0, 0))) :
    w.cell? ⟨B, 0, none⟩ = some a ∧ w.cell? ⟨B, 1, none⟩ = some b ∧ w.cell? ⟨B, 2, none⟩ = some c ∧ w.cell? ⟨B, 3, none⟩ = some d ∧ w.frozen? ⟨B, 0, none⟩ = false ∧ w.frozen? ⟨B, 1, none⟩ = false ∧ w.frozen? ⟨B, 2, none⟩ = false ∧ w.frozen? ⟨B, 3, none⟩ = false := by
  refine ⟨?_, ?_, ?_, ?_, by simp [World.frozen?, h], by simp [World.frozen?, h], by simp [World.frozen?, h], by simp [World.frozen?, h]⟩ <;> rw [cell_of_row w B _ _ _ _ h] <;> rfl

/-- What laying a number answers. -/
def LNum (sz : Nat) (p : Nat) (s : ByteArray) (i b : Nat) (v : Value) (bs : List UInt8) (w : World) (e : Ending) (w' : World) : Prop :=
  (match P.rdnum (256 ^ sz - 1) (s.data.toList.drop i) with
    | some (n, k) => e = .returned (.bool true) ∧ Wr w' b s (i + k) v (P.put bs p (P.le sz n))
    | none => e = .returned (.bool false)) ∧ Below b w w'

theorem num_shape {most : Nat} {s : ByteArray} {i b : Nat} {v : Value} {T : TypeId} {w w' : World} {e : Ending} (h : NumPost most s i b v T w e w') : ∃ (x : Nat) (z : Bool), e = .returned (.tuple #[.int .i64 x, .bool z]) ∧ x ≤ most ∧
    ((z = true ∧ ∃ k, P.rdnum most (s.data.toList.drop i) = some (x, k) ∧ i + k ≤ s.size ∧ Cur w' b s (i + k) v T) ∨ (z = false ∧ P.rdnum most (s.data.toList.drop i) = none)) := by
  obtain ⟨h1, _⟩ := h
  cases hr : P.rdnum most (s.data.toList.drop i) with
  | none => rw [hr] at h1; exact ⟨0, false, h1.1, by omega, Or.inr ⟨rfl, rfl⟩⟩
  | some y =>
    obtain ⟨n, k⟩ := y
    rw [hr] at h1
    exact ⟨n, true, h1.1, rdnum_le hr, Or.inl ⟨rfl, k, rfl, h1.2.1, h1.2.2⟩⟩

set_option maxHeartbeats 1000000 in
theorem layNumber_any {b i : Nat} {s : ByteArray} {w : World} {v : Value} {bs : List UInt8} (sz p kd : Nat) (h : Wr w b s i v bs) (hsz1 : 1 ≤ sz) (hsz : sz ≤ 4) (hp : p + sz ≤ bs.length) :
    Calls Tryz.prog 135 #[.pointer (some ⟨b, 0, none⟩), .agg #[.int .i64 kd, .int .u8 0, .int .i64 p, .int .i64 sz]] w fun e w' => LNum sz p s i b v bs w e w' := by
  have hb32 := h.size
  have hmost : 256 ^ sz - 1 ≤ 4294967295 := by
    have : 256 ^ sz ≤ 256 ^ 4 := Nat.pow_le_pow_right (by omega) hsz
    omega
  have hwb := h.below ((Below.refl _ _).alloc (Nat.le_refl w.heap.size) (.cells #[.int .i64 kd, .int .u8 0, .int .i64 p, .int .i64 sz] 145))
  have hbl := h.cur.lt
  obtain ⟨M, hM⟩ : ∃ M, 256 ^ sz - 1 = M := ⟨_, rfl⟩
  have HM : Hid (256 ^ sz - 1 = M) := hM
  rw [hM] at hmost
  have HG : Hid (∀ w, Calls Tryz.prog 163 #[.int .i64 sz] w fun e w' => e = .returned (.int .i64 M) ∧ w' = w) := by
    intro w0; have := greatest_any sz w0 hsz; rw [hM] at this; exact this
  clear hM
  go_enter Tryz.func135, Tryz.ntmps135
  go_wp2_with fail
  go_region_held3 (fun w' => w'.cell? ⟨w.heap.size, 3, none⟩ = some (.int .i64 sz)) (first | (simp [go_sem]; done) | (exact box_kept hp1 hbl)) (first | (go_at_call 163; refine (HG.out _).mono ?_; rintro e w' ⟨rfl, rfl⟩) | (go_at_call 159; refine (number_any M hmost (by exact hwb.cur) h.long h.here).mono ?_; rintro e w1 hp1; obtain ⟨x, z, rfl, hxm, hcase⟩ := num_shape hp1))
  have hbox : w1.heap[w.heap.size]? = some (.cells #[.int .i64 kd, .int .u8 0, .int .i64 p, .int .i64 sz] 145 (0, 0)) := by
    rw [hp1.2.block _ (by omega)]; exact heap_alloc_new w _
  have hbe1 : Below b w w1 := ((Below.refl _ _).alloc (by omega) _).drew.trans (hp1.2.below (Nat.le_refl _))
  have hon := hp1.2
  have HP1 : Hid _ := hp1
  clear hp1
  rcases hcase with ⟨rfl, k, hr, hik, hcu⟩ | ⟨rfl, hr⟩
  · have HR : Hid (P.rdnum (256 ^ sz - 1) (s.data.toList.drop i) = some (x, k)) := by unfold Hid; rw [HM.out]; exact hr
    clear hr
    have hw1 : Wr w1 b s (i + k) v bs := hwb.only hcu ⟨hon.os, hon.tape, hon.output, hon.size, hon.block⟩ hik
    clear hwb hcu hon HP1
    obtain ⟨g, cap, hv, _, hgl⟩ := h.own.form (by omega)
    subst hv
    obtain ⟨b0, b1, b2, b3, _, _, _, _⟩ := cells4 hbox
    go_wp2_with fail
    go_loopw [5, 7] (fun n j wr => ∃ m nn : Nat, m ≤ sz ∧ j = .int .i64 ((p + m : Nat) : Int) ∧ n = .int .i64 nn ∧ nn ≤ M ∧ Hid (nn = x / 256 ^ m) ∧ Wr wr b s (i + k) (.slice (some ⟨g, 0, none⟩) bs.length cap) (P.put bs p (P.le m x)) ∧ wr.heap[w.heap.size]? = some (.cells #[.int .i64 kd, .int .u8 0, .int .i64 p, .int .i64 sz] 145 (0, 0)) ∧ Below b w wr) (fun _ j _ => p + sz - (intOf j).toNat)
    case atStart => exact ⟨0, x, by omega, rfl, rfl, hxm, by simp [Hid], by simpa [P.le, P.put_nil] using hw1, hbox, hbe1⟩
    case round =>
      obtain ⟨m, nn, hm, rfl, rfl, hnn, HN, hwr, hbx, hbe⟩ := hrel
      clear b0 b1 b2 b3 hbox hbe1 hw1
      obtain ⟨b0, b1, b2, b3, _, _, _, _⟩ := cells4 hbx
      obtain ⟨q, hq⟩ : ∃ q, q = p + m := ⟨_, rfl⟩
      rw [← hq]
      have HQ : Hid (q = p + m) := hq
      have hq1 : p ≤ q := by omega
      have hq2 : q ≤ p + sz := by omega
      clear hq
      have hpl : (P.put bs p (P.le m x)).length = bs.length := P.put_length _ _ _ (by rw [P.le_length]; omega)
      by_cases hlt : q < p + sz
      · obtain ⟨c, hc1, hc2, hc3, hc4, hc5⟩ := wr_cell hwr (k := q) (by omega)
        have hset := wr_set (k := q) hwr (UInt8.ofNat (nn % 256))
        have HS : Hid _ := hset
        clear hset hc3
        unfold u8v at hc1
        unfold maxLen at hc5
        have hand : bits .and .i64 (nn : Int) 255 = (nn : Int) % 256 := and_low8 nn (by omega)
        have hqb : (q : Int) < (bs.length : Int) := by omega
        have h0q : (0 : Int) ≤ (q : Int) := by omega
        have c2 := hwr.cur.c2
        have eu : u8v (UInt8.ofNat (nn % 256)) = .int .u8 ((nn : Int) % 256) := by unfold u8v; congr 1; simp
        have el : (P.put bs p (P.le m x)).set q (UInt8.ofNat (nn % 256)) = P.put bs p (P.le (m + 1) x) := by
          have e1 : q = p + (P.le m x).length := by rw [P.le_length]; exact HQ.out
          rw [e1, P.put_snoc _ _ _ _ (by rw [P.le_length]; have := HQ.out; omega), P.le, HN.out]
        have hm1 : m + 1 ≤ sz := by have := HQ.out; omega
        have hq3 : q + 1 ≤ p + sz := by omega
        have HE : Hid (u8v (UInt8.ofNat (nn % 256)) = .int .u8 ((nn : Int) % 256)) := eu
        have HL : Hid ((P.put bs p (P.le m x)).set q (UInt8.ofNat (nn % 256)) = P.put bs p (P.le (m + 1) x)) := el
        clear eu el
        go_wp2_with fail
        have hset := HS.out
        rw [HE.out, HL.out] at hset
        refine ⟨⟨m + 1, nn / 256, hm1, by have := HQ.out; go_num, by go_num, by omega, ?_, hset.1, ?_, hbe.trans hset.2⟩, by simp [intOf]; omega⟩
        · unfold Hid; rw [HN.out, Nat.div_div_eq_div_mul, Nat.pow_succ]
        · rw [Below.heap_setCell _ _ _ _ (by simp; omega)]; exact hbx
      · have hme : m = sz := by have := HQ.out; omega
        subst hme
        go_wp2_with fail
        go_ret
        refine ⟨?_, hbe⟩
        rw [HR.out]
        exact ⟨rfl, hwr⟩
  · have HR : Hid (P.rdnum (256 ^ sz - 1) (s.data.toList.drop i) = none) := by unfold Hid; rw [HM.out]; exact hr
    clear hr
    go_wp2_with fail
    go_ret
    refine ⟨?_, hbe1⟩
    rw [HR.out]
    exact rfl
end Go.Proofs.YtghggcehloiemabGreatDoor
namespace Go.Proofs.YtghggcehloiemabGreatDoor
open Go.RowKit
set_option linter.unusedVariables false
set_option maxRecDepth 16000

namespace P
def rdhex : Nat → List UInt8 → Option (List UInt8)
  | 0, _ => some []
  | k + 1, l => match l with
    | a :: c :: r => match hexv a, hexv c with
      | some x, some y => (rdhex k r).map (UInt8.ofNat (x * 16 + y) :: ·)
      | _, _ => none
    | _ => none
theorem rdhex_length : ∀ (k : Nat) (l xs : List UInt8), rdhex k l = some xs → xs.length = k := by
  intro k
  induction k with
  | zero => intro l xs h; simp [rdhex] at h; subst h; rfl
  | succ k ih =>
    intro l xs h
    cases l with
    | nil => simp [rdhex] at h
    | cons a l =>
      cases l with
      | nil => simp [rdhex] at h
      | cons c r =>
        simp only [rdhex] at h
        split at h
        · cases hr : rdhex k r with
          | none => rw [hr] at h; cases h
          | some ys => rw [hr] at h; simp at h; subst h; simp [ih _ _ hr]
        · cases h
end P

theorem rdhex_step {s : ByteArray} {j x y k : Nat} (hx : hexAt s j = some x) (hy : hexAt s (j + 1) = some y) : P.rdhex (k + 1) (s.data.toList.drop j) = (P.rdhex k (s.data.toList.drop (j + 2))).map (UInt8.ofNat (x * 16 + y) :: ·) := by
  unfold hexAt at hx hy
  cases h1 : s.data.toList[j]? with
  | none => rw [h1] at hx; cases hx
  | some a =>
    cases h2 : s.data.toList[j + 1]? with
    | none => rw [h2] at hy; cases hy
    | some c =>
      rw [h1] at hx
      rw [h2] at hy
      simp at hx hy
      obtain ⟨hl1, he1⟩ := List.getElem?_eq_some_iff.1 h1
      obtain ⟨hl2, he2⟩ := List.getElem?_eq_some_iff.1 h2
      rw [List.drop_eq_getElem_cons hl1, List.drop_eq_getElem_cons hl2, he1, he2]
      simp [P.rdhex, hx, hy]
theorem rdhex_no {s : ByteArray} {j k : Nat} (h : hexAt s j = none ∨ hexAt s (j + 1) = none) : P.rdhex (k + 1) (s.data.toList.drop j) = none := by
  unfold hexAt at h
  cases hl : s.data.toList.drop j with
  | nil => rfl
  | cons a r =>
    cases r with
    | nil => rfl
    | cons c r =>
      have h1 : s.data.toList[j]? = some a := by
        have : (s.data.toList.drop j)[0]? = some a := by rw [hl]; rfl
        rwa [List.getElem?_drop, Nat.add_zero] at this
      have h2 : s.data.toList[j + 1]? = some c := by
        have : (s.data.toList.drop j)[1]? = some c := by rw [hl]; rfl
        rwa [List.getElem?_drop] at this
      rw [h1, h2] at h
      simp at h
      rw [P.rdhex]
      rcases h with h | h
      · rw [h]
      · rw [h]; cases P.hexv a <;> rfl

theorem hexAt_lt {s : ByteArray} {i x : Nat} (hx : hexAt s i = some x) : x ≤ 15 := by
  unfold hexAt at hx
  cases h : s.data.toList[i]? with
  | none => rw [h] at hx; cases hx
  | some c => rw [h] at hx; exact P.hexv_lt hx

/-- What laying bytes answers. -/
def LByt (sz : Nat) (p : Nat) (s : ByteArray) (i b : Nat) (v : Value) (bs : List UInt8) (w : World) (e : Ending) (w' : World) : Prop :=
  (match P.rdhex sz (s.data.toList.drop i) with
    | some xs => e = .returned (.bool true) ∧ Wr w' b s (i + 2 * sz) v (P.put bs p xs)
    | none => e = .returned (.bool false)) ∧ Below b w w'

set_option maxHeartbeats 1000000 in
theorem layBytes_any {b i : Nat} {s : ByteArray} {w : World} {v : Value} {bs : List UInt8} (sz p kd : Nat) (h : Wr w b s i v bs) (hsz1 : 1 ≤ sz) (hsz : sz ≤ 16) (hp : p + sz ≤ bs.length) :
    Calls Tryz.prog 136 #[.pointer (some ⟨b, 0, none⟩), .agg #[.int .i64 kd, .int .u8 0, .int .i64 p, .int .i64 sz]] w fun e w' => LByt sz p s i b v bs w e w' := by
  have hb32 := h.size
  have hlong := h.long
  have hwb := h.below ((Below.refl _ _).alloc (Nat.le_refl w.heap.size) (.cells #[.int .i64 kd, .int .u8 0, .int .i64 p, .int .i64 sz] 145))
  have hbl := h.cur.lt
  obtain ⟨g, cap, hv, _, hgl⟩ := h.own.form (by omega)
  subst hv
  have hbe1 : Below b w (w.alloc (.cells #[.int .i64 kd, .int .u8 0, .int .i64 p, .int .i64 sz] 145)) := (Below.refl _ _).alloc (by omega) _
  go_enter Tryz.func136, Tryz.ntmps136
  go_wp2_with fail
  go_loopw [5] (fun j wr => ∃ (m : Nat) (xs : List UInt8), m ≤ sz ∧ j = .int .i64 ((p + m : Nat) : Int) ∧ Hid (xs.length = m ∧ P.rdhex sz (s.data.toList.drop i) = (P.rdhex (sz - m) (s.data.toList.drop (i + 2 * m))).map (xs ++ ·)) ∧ Wr wr b s (i + 2 * m) (.slice (some ⟨g, 0, none⟩) bs.length cap) (P.put bs p xs) ∧ wr.heap[w.heap.size]? = some (.cells #[.int .i64 kd, .int .u8 0, .int .i64 p, .int .i64 sz] 145 (0, 0)) ∧ Below b w wr) (fun j _ => p + sz - (intOf j).toNat)
  case atStart => exact ⟨0, [], by omega, rfl, ⟨rfl, by simp⟩, by simpa [P.put_nil] using hwb, heap_alloc_new w _, hbe1⟩
  case round =>
    obtain ⟨m, xs, hm, rfl, HX, hwr, hbx, hbe⟩ := hrel
    clear hwb hbe1
    obtain ⟨b0, b1, b2, b3, _, _, _, _⟩ := cells4 hbx
    obtain ⟨q, hq⟩ : ∃ q, q = p + m := ⟨_, rfl⟩
    rw [← hq]
    have HQ : Hid (q = p + m) := hq
    have hq1 : p ≤ q := by omega
    have hq2 : q ≤ p + sz := by omega
    clear hq
    have hxl := HX.out.1
    have hpl : (P.put bs p xs).length = bs.length := P.put_length _ _ _ (by omega)
    have HXL : Hid (xs.length = m) := hxl
    clear hxl
    by_cases hlt : q < p + sz
    · have hm1 : m + 1 ≤ sz := by have := HQ.out; omega
      have hq3 : q + 1 ≤ p + sz := by omega
      by_cases hyes : (∃ x y, hexAt s (i + 2 * m) = some x ∧ hexAt s (i + 2 * m + 1) = some y)
      · obtain ⟨x, y, hx, hy⟩ := hyes
        have HA : Hid (hexAt s (i + 2 * m) = some x) := hx
        have HB : Hid (hexAt s (i + 2 * m + 1) = some y) := hy
        clear hx hy
        go_wp2_with fail
        refine (hexByte_yes hwr.cur hlong HA.out HB.out).mono ?_
        rintro e w2 ⟨rfl, hi2, hc2, ho2⟩
        have hw2 := hwr.only hc2 ho2 (by omega)
        have hbx2 : w2.heap[w.heap.size]? = some (.cells #[.int .i64 kd, .int .u8 0, .int .i64 p, .int .i64 sz] 145 (0, 0)) := by
          rw [ho2.block _ (by omega)]; exact hbx
        have hbe2 := hbe.trans (ho2.below (Nat.le_refl b))
        obtain ⟨c, hc1, hcf, hc3, hc4, hc5⟩ := wr_cell hw2 (k := q) (by omega)
        have hset := wr_set (k := q) hw2 (UInt8.ofNat (x * 16 + y))
        have hx15 : x ≤ 15 := hexAt_lt HA.out
        have hy15 : y ≤ 15 := hexAt_lt HB.out
        have eu : u8v (UInt8.ofNat (x * 16 + y)) = .int .u8 ((x * 16 + y : Nat) : Int) := by unfold u8v; congr 1; simp; omega
        have el : (P.put bs p xs).set q (UInt8.ofNat (x * 16 + y)) = P.put bs p (xs ++ [UInt8.ofNat (x * 16 + y)]) := by
          have e1 : q = p + xs.length := by rw [HXL.out]; exact HQ.out
          rw [e1, P.put_snoc _ _ _ _ (by rw [HXL.out]; have := HQ.out; omega)]
        rw [eu, el] at hset
        have HS : Hid _ := hset
        have HE : Hid (P.rdhex sz (s.data.toList.drop i) = (P.rdhex (sz - (m + 1)) (s.data.toList.drop (i + 2 * (m + 1)))).map ((xs ++ [UInt8.ofNat (x * 16 + y)]) ++ ·)) := by
          unfold Hid
          rw [HX.out.2, show sz - m = (sz - (m + 1)) + 1 by omega, rdhex_step HA.out HB.out, show i + 2 * m + 2 = i + 2 * (m + 1) by omega]
          cases P.rdhex (sz - (m + 1)) (s.data.toList.drop (i + 2 * (m + 1))) <;> simp
        clear hset hc3 eu el b0 b1 b2 b3
        unfold u8v at hc1
        unfold maxLen at hc5
        have hqb : (q : Int) < (bs.length : Int) := by omega
        have h0q : (0 : Int) ≤ (q : Int) := by omega
        have c2 := hw2.cur.c2
        go_wp2_with fail
        refine ⟨⟨m + 1, xs ++ [UInt8.ofNat (x * 16 + y)], hm1, by have := HQ.out; go_num, ⟨by simp [HXL.out], HE.out⟩, ?_, ?_, ?_⟩, by simp [intOf]; omega⟩
        · have := HS.out.1
          rw [show i + 2 * m + 2 = i + 2 * (m + 1) by omega] at this
          exact this
        · have e2 := Below.heap_setCell w2 ⟨g, q, none⟩ (.int .u8 ((x * 16 + y : Nat) : Int)) w.heap.size (by simp; omega)
          exact e2.trans hbx2
        · exact hbe2.trans HS.out.2
      · have hno : hexAt s (i + 2 * m) = none ∨ hexAt s (i + 2 * m + 1) = none := by
          cases h1 : hexAt s (i + 2 * m) with
          | none => exact Or.inl rfl
          | some x =>
            cases h2 : hexAt s (i + 2 * m + 1) with
            | none => exact Or.inr rfl
            | some y => exact absurd ⟨x, y, h1, h2⟩ hyes
        have HNO : Hid _ := hno
        clear hno hyes
        have HE : Hid (P.rdhex sz (s.data.toList.drop i) = none) := by
          unfold Hid
          rw [HX.out.2, show sz - m = (sz - (m + 1)) + 1 by omega, rdhex_no HNO.out]; rfl
        go_wp2_with fail
        refine (hexByte_no hwr.cur hlong HNO.out).mono ?_
        rintro e w2 ⟨rfl, ho2⟩
        go_wp2_with fail
        go_ret
        refine ⟨?_, hbe.trans (ho2.below (Nat.le_refl b))⟩
        rw [HE.out]
        exact rfl
    · have hme : m = sz := by have := HQ.out; omega
      have HE : Hid (P.rdhex sz (s.data.toList.drop i) = some xs) := by
        unfold Hid
        rw [HX.out.2, hme, Nat.sub_self]; simp [P.rdhex]
      have HW : Hid (Wr wr b s (i + 2 * sz) (.slice (some ⟨g, 0, none⟩) bs.length cap) (P.put bs p xs)) := by
        rw [hme] at hwr; exact hwr
      clear hme
      go_wp2_with fail
      go_ret
      refine ⟨?_, hbe⟩
      rw [HE.out]
      exact ⟨rfl, HW.out⟩
end Go.Proofs.YtghggcehloiemabGreatDoor
namespace Go.Proofs.YtghggcehloiemabGreatDoor
open Go.RowKit
set_option linter.unusedVariables false
set_option maxRecDepth 16000

namespace P
def padTo (L : List (Option UInt8)) (n : Nat) : List (Option UInt8) := L ++ List.replicate (n - L.length) none
def lieF : List (Option (List (Option UInt8)) × Nat) → List (Option UInt8) → Option (List (Option UInt8))
  | [], L => some L
  | (x, p) :: r, L => match x with
    | none => none
    | some y => lieF r (padTo L p ++ y)
def lieLeaf (l : Bool × Nat) (s : List UInt8) : Option (List (Option UInt8)) :=
  if l.1 = true then (if 0 ≤ rnum s ∧ (rnum s).toNat / 256 ^ l.2 = 0 then some ((le l.2 (rnum s).toNat).map some) else none)
  else (if s.length = 2 * l.2 then (rdhex l.2 s).map (·.map some) else none)
def lieP : (n : Nat) → Ty n → List UInt8 → Option (List (Option UInt8))
  | 0, l, s => lieLeaf l s
  | _ + 1, .inl l, s => lieLeaf l s
  | n + 1, .inr ts, s => match cut s with
    | none => none
    | some ps => if ps.length = ts.length then (lieF (List.zip (List.zipWith (lieP n) ts ps) (places (0, 1) (ts.map (sz n)))) []).map (fun L => padTo L (sz (n + 1) (.inr ts)).1) else none
def tbl : List UInt8 := [48, 49, 50, 51, 52, 53, 54, 55, 56, 57, 97, 98, 99, 100, 101, 102]
def hexI (c : UInt8) : Int := match hexv c with
  | some d => (d : Int)
  | none => -1
theorem tbl_hit (c : UInt8) : ∀ k, tbl[k]? = some c → hexv c = some k := by
  intro k h
  have hk : k < 16 := (List.getElem?_eq_some_iff.1 h).1
  match k, hk with
  | 0, _ | 1, _ | 2, _ | 3, _ | 4, _ | 5, _ | 6, _ | 7, _ | 8, _ | 9, _ | 10, _ | 11, _ | 12, _ | 13, _ | 14, _ | 15, _ => simp [tbl] at h; subst h; rfl
theorem tbl_miss (c : UInt8) (h : ∀ k, k < 16 → tbl[k]? ≠ some c) : hexv c = none := by
  unfold hexv
  have hne : ∀ k x, tbl[k]? = some x → k < 16 → c ≠ x := fun k x hx hk e => h k hk (by rw [e]; exact hx)
  rw [if_neg, if_neg]
  · rintro ⟨h1, h2⟩
    have : c.toNat = 97 ∨ c.toNat = 98 ∨ c.toNat = 99 ∨ c.toNat = 100 ∨ c.toNat = 101 ∨ c.toNat = 102 := by omega
    rcases this with e | e | e | e | e | e
    · exact hne 10 97 rfl (by omega) (UInt8.toNat_inj.1 (by simpa using e))
    · exact hne 11 98 rfl (by omega) (UInt8.toNat_inj.1 (by simpa using e))
    · exact hne 12 99 rfl (by omega) (UInt8.toNat_inj.1 (by simpa using e))
    · exact hne 13 100 rfl (by omega) (UInt8.toNat_inj.1 (by simpa using e))
    · exact hne 14 101 rfl (by omega) (UInt8.toNat_inj.1 (by simpa using e))
    · exact hne 15 102 rfl (by omega) (UInt8.toNat_inj.1 (by simpa using e))
  · rintro ⟨h1, h2⟩
    have : c.toNat = 48 ∨ c.toNat = 49 ∨ c.toNat = 50 ∨ c.toNat = 51 ∨ c.toNat = 52 ∨ c.toNat = 53 ∨ c.toNat = 54 ∨ c.toNat = 55 ∨ c.toNat = 56 ∨ c.toNat = 57 := by omega
    rcases this with e | e | e | e | e | e | e | e | e | e
    · exact hne 0 48 rfl (by omega) (UInt8.toNat_inj.1 (by simpa using e))
    · exact hne 1 49 rfl (by omega) (UInt8.toNat_inj.1 (by simpa using e))
    · exact hne 2 50 rfl (by omega) (UInt8.toNat_inj.1 (by simpa using e))
    · exact hne 3 51 rfl (by omega) (UInt8.toNat_inj.1 (by simpa using e))
    · exact hne 4 52 rfl (by omega) (UInt8.toNat_inj.1 (by simpa using e))
    · exact hne 5 53 rfl (by omega) (UInt8.toNat_inj.1 (by simpa using e))
    · exact hne 6 54 rfl (by omega) (UInt8.toNat_inj.1 (by simpa using e))
    · exact hne 7 55 rfl (by omega) (UInt8.toNat_inj.1 (by simpa using e))
    · exact hne 8 56 rfl (by omega) (UInt8.toNat_inj.1 (by simpa using e))
    · exact hne 9 57 rfl (by omega) (UInt8.toNat_inj.1 (by simpa using e))
end P

set_option maxHeartbeats 1000000 in
theorem rhex_any (c : UInt8) (w : World) :
    Calls Tryz.prog 174 #[.int .u8 c.toNat] w fun e w' => e = .returned (.int .i64 (P.hexI c)) ∧ w' = w := by
  go_enter Tryz.func174, Tryz.ntmps174
  go_wp2_with fail
  go_loop [3] (fun i => ∃ k : Nat, k ≤ 16 ∧ i = .int .i64 k ∧ Hid (∀ j, j < k → P.tbl[j]? ≠ some c)) (fun i => 16 - (intOf i).toNat)
  case atStart => exact ⟨0, by omega, rfl, fun j hj => by omega⟩
  case round =>
    obtain ⟨k, hk, rfl, HK⟩ := hrel
    by_cases hlt : k < 16
    · go_wp2_with fail
      · have h1 := ‹(_ == (c.toNat : Int)) = true›
        rw [beq_iff_eq] at h1
        have hc := u8_of h1
        have ht : P.tbl[k]? = some c := by
          rw [← hc]; exact get_of (s := ⟨#[48, 49, 50, 51, 52, 53, 54, 55, 56, 57, 97, 98, 99, 100, 101, 102]⟩) (i := k) hlt
        go_ret
        exact ⟨ret_i64 (by simp [P.hexI, P.tbl_hit c k ht]), rfl⟩
      · have h1 := ‹(_ == (c.toNat : Int)) = false›
        rw [beq_eq_false_iff_ne] at h1
        refine ⟨⟨k + 1, by omega, by go_num, ?_⟩, by simp [intOf]; omega⟩
        intro j hj
        rcases Nat.lt_or_ge j k with h | h
        · exact HK.out j h
        · have hjk : j = k := by omega
          subst hjk
          intro e
          have hg := get_of (s := ⟨#[48, 49, 50, 51, 52, 53, 54, 55, 56, 57, 97, 98, 99, 100, 101, 102]⟩) (i := j) hlt
          have hg' : P.tbl[j]? = _ := hg
          rw [hg'] at e
          exact h1 (by rw [Option.some.inj e])
    · have HE : Hid (P.hexI c = -1) := by
        unfold Hid P.hexI; rw [P.tbl_miss c (fun j hj => HK.out j (by omega))]
      go_wp2_with fail
      go_ret
      exact ⟨by rw [HE.out]; rfl, rfl⟩
end Go.Proofs.YtghggcehloiemabGreatDoor
