import Derived.Test.YtghggcehloiemabGreatDoorNumberAll
import Derived.Test.YtghggcehloiemabGreatDoorPureAll
import Derived.Deep.AppendLies
namespace Go.Proofs.YtghggcehloiemabGreatDoor
open Go.RowKit
set_option linter.unusedVariables false
set_option maxRecDepth 16000

theorem Tryz.infoPart : (Tryz.prog.info? 145).map (fun i => (i.zero, i.size, i.bytes)) = some (some (.agg #[.int .i64 0, .int .u8 0, .int .i64 0, .int .i64 0]), 4, 32) := by kernel_rfl

def ptCells (x : P.Pt) : List Value := [.int .i64 x.kind, .int .u8 x.mark, .int .i64 x.place, .int .i64 x.size]
def cellsOf (ps : List P.Pt) : List Value := ps.flatMap ptCells
theorem cellsOf_length (ps : List P.Pt) : (cellsOf ps).length = ps.length * 4 := by
  induction ps with
  | nil => rfl
  | cons x xs ih => simp [cellsOf, ptCells] at *; omega
theorem cellsOf_append (ps qs : List P.Pt) : cellsOf (ps ++ qs) = cellsOf ps ++ cellsOf qs := by simp [cellsOf]

/-- A reader at block b: its text, where it stands, the parts so far. -/
structure Rd (w : World) (b : Nat) (s : ByteArray) (i : Nat) (v : Value) (ps : List P.Pt) : Prop where
  cur : Cur w b s i v 139
  own : w.ownsRow (b + 1) 145 4 v ps.length (cellsOf ps)
  here : i ≤ s.size
  short : s.size ≤ 80
  few : ps.length ≤ i

theorem Only.own {b : Nat} {w w' : World} {e : TypeId} {size n : Nat} {v : Value} {xs : List Value} (ho : Only b w w') (h : w.ownsRow (b + 1) e size v n xs) : w'.ownsRow (b + 1) e size v n xs := by
  obtain ⟨h1, h2⟩ := h
  refine ⟨h1, ?_⟩
  rcases h2 with h2 | ⟨g, cap, cur, hv, hb, hg, hr⟩
  · exact .inl h2
  · exact .inr ⟨g, cap, cur, hv, hb, by rw [ho.block g (by omega)]; exact hg, hr⟩

set_option maxHeartbeats 400000 in
theorem roundUp_any (e p : Nat) (w : World) (he : e ≤ 100000) (hp1 : 1 ≤ p) (hp2 : p ≤ 16) :
    Calls Tryz.prog 161 #[.int .i64 e, .int .i64 p] w fun r w' => r = .returned (.int .i64 (P.up e p)) ∧ w' = w := by
  have h1 : ¬ (p : Int) < 1 := by omega
  have hz : ((p : Int) == 0) = false := by rw [beq_eq_false_iff_ne]; omega
  go_enter Tryz.func161, Tryz.ntmps161
  go_wp2
  go_ret
  refine ⟨congrArg (fun x : Int => Ending.returned (.int .i64 x)) ?_, rfl⟩
  have hq : (((e + p - 1) / p * p : Nat) : Int) = ((e : Int) + p - 1) / p * p := by
    rw [Int.natCast_mul, Int.natCast_ediv]; congr 2; omega
  have hle : (e + p - 1) / p * p ≤ e + p - 1 := Nat.div_mul_le_self _ _
  rw [← hq]
  unfold P.up
  unfold wrap64; omega
theorem cell_four_new (w : World) (a b c d : Value) (t : TypeId) : ∀ j u, [a, b, c, d][j]? = some u → (w.alloc (.cells #[a, b, c, d] t)).cell? ((⟨w.heap.size, 0, none⟩ : Addr).add j) = some u :=
  World.news_of_block (heap_alloc_new w _)
theorem grown_cur {w1 w3 : World} {b j : Nat} {s : ByteArray} {v : Value} {T e : TypeId} {size n : Nat} {xs : List Value} {o : Obj} (hc : Cur w1 b s j v T) (hown : w1.ownsRow (b + 1) e size v n xs) (hg : (w1.alloc o).grownBy w3 v.ownBlock) : Cur w3 b s j v T := by
  have hl := hc.lt
  unfold Cur at *
  rw [hg.block b (by simp; omega) (fun h => by have := (hown.lt _ h.symm).1; omega), Below.heap_alloc _ _ _ hl]
  exact hc
theorem grown_rd {w1 w3 : World} {b j : Nat} {s : ByteArray} {v v' : Value} {ps : List P.Pt} {x : P.Pt} {o : Obj} (hc : Cur w1 b s j v 139) (hown : w1.ownsRow (b + 1) 145 4 v ps.length (cellsOf ps)) (hg : (w1.alloc o).grownBy w3 v.ownBlock)
    (hown' : w3.ownsRow (b + 1) 145 4 v' (ps.length + 1) (cellsOf ps ++ ptCells x)) (hj : j ≤ s.size) (hs : s.size ≤ 80) (hf : ps.length + 1 ≤ j) : Rd (w3.setCell ⟨b, 2, none⟩ v') b s j v' (ps ++ [x]) ∧ Below b w1 (w3.setCell ⟨b, 2, none⟩ v') := by
  have hc3 := grown_cur hc hown hg
  have hl := hc.lt
  refine ⟨⟨hc3.set2 v', ?_, hj, hs, by simpa using hf⟩, ?_⟩
  · have := ((Only.refl b w3).setCell 2 v').own hown'
    simpa [cellsOf] using this
  · exact (Below.grown ((Below.refl b w1).alloc (by omega) o) hg (by simp; omega) (fun k hk => by have := (hown.lt _ hk).1; omega)).setCell (Nat.le_refl _) v'
set_option maxHeartbeats 400000 in
theorem readMark_no {b i : Nat} {s : ByteArray} {m : UInt8} {w : World} {v : Value} {ps : List P.Pt} (h : Rd w b s i v ps) (hh : hit s i m = false) :
    Calls Tryz.prog 160 #[.pointer (some ⟨b, 0, none⟩), .int .u8 m.toNat] w fun e w' => e = .returned (.bool false) ∧ Rd w' b s i v ps ∧ Below b w w' := by
  go_enter Tryz.func160, Tryz.ntmps160
  go_wp2_with (go_at_call 131; refine (skip_no h.cur hh).mono ?_; rintro e w' ⟨rfl, hc, ho⟩)
  go_ret
  exact ⟨rfl, ⟨hc, ho.own h.own, h.here, h.short, h.few⟩, ho.below (Nat.le_refl _)⟩
set_option maxHeartbeats 400000 in
theorem readMark_yes {b i : Nat} {s : ByteArray} {m : UInt8} {w : World} {v : Value} {ps : List P.Pt} (h : Rd w b s i v ps) (hh : hit s i m = true) :
    Calls Tryz.prog 160 #[.pointer (some ⟨b, 0, none⟩), .int .u8 m.toNat] w fun e w' => e = .returned (.bool true) ∧ i < s.size ∧ (∃ v', Rd w' b s (i + 1) v' (ps ++ [P.markP m.toNat])) ∧ Below b w w' := by
  have hs := h.short
  have hfew := h.few
  obtain ⟨i0, hi0, hz0, hz1, hz2⟩ := info_parts Tryz.infoPart
  go_enter Tryz.func160, Tryz.ntmps160
  go_wp2_with (first
    | (go_at_call 131; refine (skip_yes h.cur (by unfold maxLen; omega) hh).mono ?_; rintro e w1 ⟨rfl, hi, hc, ho⟩; have c2 := hc.c2; have hown := ho.own h.own)
    | (at_builtin; refine wpList_append_lies _ rfl _ _ 60 rfl (b + 1) 145 i0 (.agg #[.int .i64 0, .int .u8 0, .int .i64 0, .int .i64 0]) 4 32 Tryz.underlying60 hi0 hz0 hz1 hz2 rfl (by decide) v ps.length (cellsOf ps) rfl (hown.alloc _) ⟨w1.heap.size, 0, none⟩ 1 1 (ptCells (P.markP m.toNat)) rfl rfl (cell_four_new _ _ _ _ _ _) (fun x hx => by simp [ptCells] at hx; rcases hx with rfl | rfl | rfl | rfl <;> rfl) (by omega) (by unfold maxLen; omega) (by omega) (by have := hc.lt; simp; omega) _ rfl ?_; intro g cap w3 hown' hgrow hat hlt
       have hc3 := grown_cur hc hown hgrow
       have cf := hc3.fz 2; have cc := hc3.c2
       have X := grown_rd hc hown hgrow hown' hi hs (by omega)))
  go_ret
  exact ⟨rfl, hi, ⟨_, X.1⟩, (ho.below (Nat.le_refl _)).trans X.2⟩

/-- A leaf's post: 'bytes' or 'number' was read. -/
def LeafPost (num : Bool) (s : ByteArray) (i b : Nat) (ps : List P.Pt) (w : World) (e : Ending) (w' : World) : Prop :=
  (match P.rdnum (if num then 4 else 16) (s.data.toList.drop i) with
    | some (n, k) => if n = 0 ∨ (num = true ∧ n = 3) then e = .returned (.tuple #[.int .i64 0, .int .i64 0, .bool false])
      else e = .returned (.tuple #[.int .i64 (P.lsz (num, n)).1, .int .i64 (P.lsz (num, n)).2, .bool true]) ∧ i + k ≤ s.size ∧ ∃ v', Rd w' b s (i + k) v' (ps ++ [P.lpart (num, n)])
    | none => e = .returned (.tuple #[.int .i64 0, .int .i64 0, .bool false])) ∧ Below b w w'

theorem rdnum_le {most : Nat} {l : List UInt8} {n k : Nat} (h : P.rdnum most l = some (n, k)) : n ≤ most := by
  unfold P.rdnum at h
  split at h
  · cases h
  · rename_i hn
    simp at h hn
    omega

set_option maxHeartbeats 1000000 in
theorem readNumber_any {b i : Nat} {s : ByteArray} {w : World} {v : Value} {ps : List P.Pt} (h : Rd w b s i v ps) (hpos : 1 ≤ i) (hfew : ps.length + 1 ≤ i) :
    Calls Tryz.prog 132 #[.pointer (some ⟨b, 0, none⟩)] w fun e w' => LeafPost true s i b ps w e w' := by
  have hs := h.short
  obtain ⟨i0, hi0, hz0, hz1, hz2⟩ := info_parts Tryz.infoPart
  go_enter Tryz.func132, Tryz.ntmps132
  go_wp2_with fail
  refine (number_any 4 (by omega) h.cur (by unfold maxLen; omega) h.here).mono ?_
  rintro e w1 ⟨hpost, ho⟩
  cases hn : P.rdnum 4 (s.data.toList.drop i) with
  | none =>
    simp only [hn] at hpost
    have Hn : Hid (P.rdnum 4 (s.data.toList.drop i) = none) := hn
    clear hn
    obtain ⟨rfl, _⟩ := hpost
    go_wp2_with fail
    go_ret3
    refine ⟨?_, ho.below (Nat.le_refl _)⟩
    simp [Hn.out]
  | some x =>
    obtain ⟨n, k⟩ := x
    have hle := rdnum_le hn
    simp only [hn] at hpost
    have Hn : Hid (P.rdnum 4 (s.data.toList.drop i) = some (n, k)) := hn
    clear hn
    obtain ⟨rfl, hik, hc⟩ := hpost
    have c2 := hc.c2
    have hown := ho.own h.own
    by_cases hbad : n = 0 ∨ n = 3
    · have hb : ((n : Int) == 0 || (n : Int) == 3) = true := by simp; omega
      rcases hbad with rfl | rfl
      · go_wp2_with fail
        go_ret3
        refine ⟨?_, ho.below (Nat.le_refl _)⟩
        simp [Hn.out]
      · go_wp2_with fail
        go_ret3
        refine ⟨?_, ho.below (Nat.le_refl _)⟩
        simp [Hn.out]
    · have HB : Hid (¬ (n = 0 ∨ n = 3)) := hbad
      have hb0 : ((n : Int) == 0) = false := by rw [beq_eq_false_iff_ne]; omega
      have hb3 : ((n : Int) == 3) = false := by rw [beq_eq_false_iff_ne]; omega
      clear hbad
      go_wp2_with (first
      | (at_builtin; refine wpList_append_lies _ rfl _ _ 60 rfl (b + 1) 145 i0 (.agg #[.int .i64 0, .int .u8 0, .int .i64 0, .int .i64 0]) 4 32 Tryz.underlying60 hi0 hz0 hz1 hz2 rfl (by decide) v ps.length (cellsOf ps) rfl (hown.alloc _) ⟨w1.heap.size, 0, none⟩ 1 1 (ptCells (P.lpart (true, n))) rfl rfl (cell_four_new _ _ _ _ _ _) (fun x hx => by simp [ptCells] at hx; rcases hx with rfl | rfl | rfl | rfl <;> rfl) (by omega) (by unfold maxLen; omega) (by omega) (by have := hc.lt; simp; omega) _ rfl ?_; intro g cap w3 hown' hgrow hat hlt
         have hc3 := grown_cur hc hown hgrow
         have cf := hc3.fz 2; have cc := hc3.c2
         have X := grown_rd hc hown hgrow hown' hik hs (by omega)))
      go_ret3
      refine ⟨?_, (ho.below (Nat.le_refl _)).trans X.2⟩
      simp only [Hn.out, if_true]
      rw [if_neg (by simpa using HB.out)]
      exact ⟨rfl, hik, _, X.1⟩

set_option maxHeartbeats 1000000 in
theorem readBytes_any {b i : Nat} {s : ByteArray} {w : World} {v : Value} {ps : List P.Pt} (h : Rd w b s i v ps) (hpos : 1 ≤ i) (hfew : ps.length + 1 ≤ i) :
    Calls Tryz.prog 133 #[.pointer (some ⟨b, 0, none⟩)] w fun e w' => LeafPost false s i b ps w e w' := by
  have hs := h.short
  obtain ⟨i0, hi0, hz0, hz1, hz2⟩ := info_parts Tryz.infoPart
  go_enter Tryz.func133, Tryz.ntmps133
  go_wp2_with fail
  refine (number_any 16 (by omega) h.cur (by unfold maxLen; omega) h.here).mono ?_
  rintro e w1 ⟨hpost, ho⟩
  cases hn : P.rdnum 16 (s.data.toList.drop i) with
  | none =>
    simp only [hn] at hpost
    have Hn : Hid (P.rdnum 16 (s.data.toList.drop i) = none) := hn
    clear hn
    obtain ⟨rfl, _⟩ := hpost
    go_wp2_with fail
    go_ret3
    refine ⟨?_, ho.below (Nat.le_refl _)⟩
    simp [Hn.out]
  | some x =>
    obtain ⟨n, k⟩ := x
    have hle := rdnum_le hn
    simp only [hn] at hpost
    have Hn : Hid (P.rdnum 16 (s.data.toList.drop i) = some (n, k)) := hn
    clear hn
    obtain ⟨rfl, hik, hc⟩ := hpost
    have c2 := hc.c2
    have hown := ho.own h.own
    by_cases hbad : n = 0
    · subst hbad
      go_wp2_with fail
      go_ret3
      refine ⟨?_, ho.below (Nat.le_refl _)⟩
      simp [Hn.out]
    · have HB : Hid (¬ (n = 0)) := hbad
      have hb0 : ((n : Int) == 0) = false := by rw [beq_eq_false_iff_ne]; omega
      clear hbad
      go_wp2_with (first
      | (at_builtin; refine wpList_append_lies _ rfl _ _ 60 rfl (b + 1) 145 i0 (.agg #[.int .i64 0, .int .u8 0, .int .i64 0, .int .i64 0]) 4 32 Tryz.underlying60 hi0 hz0 hz1 hz2 rfl (by decide) v ps.length (cellsOf ps) rfl (hown.alloc _) ⟨w1.heap.size, 0, none⟩ 1 1 (ptCells (P.lpart (false, n))) rfl rfl (cell_four_new _ _ _ _ _ _) (fun x hx => by simp [ptCells] at hx; rcases hx with rfl | rfl | rfl | rfl <;> rfl) (by omega) (by unfold maxLen; omega) (by omega) (by have := hc.lt; simp; omega) _ rfl ?_; intro g cap w3 hown' hgrow hat hlt
         have hc3 := grown_cur hc hown hgrow
         have cf := hc3.fz 2; have cc := hc3.c2
         have X := grown_rd hc hown hgrow hown' hik hs (by omega)))
      go_ret3
      refine ⟨?_, (ho.below (Nat.le_refl _)).trans X.2⟩
      simp only [Hn.out, Bool.false_eq_true, if_false]
      rw [if_neg (by simpa using HB.out)]
      exact ⟨rfl, hik, _, X.1⟩

end Go.Proofs.YtghggcehloiemabGreatDoor
namespace Go.Proofs.YtghggcehloiemabGreatDoor
open Go.RowKit
set_option linter.unusedVariables false
set_option maxRecDepth 16000

theorem cellsOf_get (ps : List P.Pt) : ∀ (i k : Nat) (x : P.Pt), ps[i]? = some x → k < 4 → (cellsOf ps)[i * 4 + k]? = (ptCells x)[k]? := by
  induction ps with
  | nil => intro i k x h; simp at h
  | cons y ps ih =>
    intro i k x h hk
    have e : cellsOf (y :: ps) = ptCells y ++ cellsOf ps := by simp [cellsOf]
    have hl : (ptCells y).length = 4 := rfl
    rw [e]
    cases i with
    | zero =>
      simp at h; subst h
      rw [List.getElem?_append_left (by omega)]; simp
    | succ i =>
      simp at h
      rw [List.getElem?_append_right (by omega), hl, show (i + 1) * 4 + k - 4 = i * 4 + k by omega]
      exact ih i k x h hk
theorem cellsOf_set (A B : List P.Pt) (x : P.Pt) (q : Nat) : (cellsOf (A ++ x :: B)).set (A.length * 4 + 2) (.int .i64 q) = cellsOf (A ++ { x with place := q } :: B) := by
  have hl := cellsOf_length A
  have e1 : cellsOf (A ++ x :: B) = cellsOf A ++ (ptCells x ++ cellsOf B) := by simp [cellsOf]
  have e2 : cellsOf (A ++ { x with place := q } :: B) = cellsOf A ++ (ptCells { x with place := q } ++ cellsOf B) := by simp [cellsOf]
  rw [e1, e2, List.set_append_right _ _ (by omega)]
  congr 1
  rw [show A.length * 4 + 2 - (cellsOf A).length = 2 by omega]
  simp [ptCells]

/-- Where the parts lie. -/
theorem rd_cell {w : World} {b j g n cap : Nat} {s : ByteArray} {A B : List P.Pt} {x : P.Pt} (h : Rd w b s j (.slice (some ⟨g, 0, none⟩) n cap) (A ++ x :: B)) : w.cell? ⟨g, A.length * 4 + 2, none⟩ = some (.int .i64 x.place) ∧ w.frozen? ⟨g, A.length * 4 + 2, none⟩ = false ∧ n = A.length + 1 + B.length ∧ n ≤ cap ∧ cap ≤ maxLen := by
  have hx := h.own
  obtain ⟨h1, h2⟩ := hx
  rcases h2 with ⟨h2, _⟩ | ⟨g', cap', cur, hv, hb, hg, hn, hm, hsz, htk⟩
  · cases h2
  · cases hv
    refine ⟨?_, by simp [World.frozen?, hg], by simp; omega, hn, hm⟩
    rw [cell_of_row w g _ _ _ _ hg]
    have hget := cellsOf_get (A ++ x :: B) A.length 2 x (by simp) (by omega)
    rw [← htk] at hget
    rw [List.getElem?_take_of_lt (by simp; omega)] at hget
    simpa [ptCells] using hget
theorem rd_set {w : World} {b j g n cap : Nat} {s : ByteArray} {A B : List P.Pt} {x : P.Pt} (h : Rd w b s j (.slice (some ⟨g, 0, none⟩) n cap) (A ++ x :: B)) (q : Nat) :
    Rd (w.setCell ⟨g, A.length * 4 + 2, none⟩ (.int .i64 q)) b s j (.slice (some ⟨g, 0, none⟩) n cap) (A ++ { x with place := q } :: B) ∧ Below b w (w.setCell ⟨g, A.length * 4 + 2, none⟩ (.int .i64 q)) := by
  have hx := h.own
  obtain ⟨h1, h2⟩ := hx
  rcases h2 with ⟨h2, _⟩ | ⟨g', cap', cur, hv, hb, hg, hn, hm, hsz, htk⟩
  · cases h2
  · cases hv
    refine ⟨⟨?_, ⟨?_, .inr ⟨g, cap, cur.setIfInBounds (A.length * 4 + 2) (.int .i64 q), by simp, hb, ?_, by simpa using hn, hm, by simpa using hsz, ?_⟩⟩, h.here, h.short, by simpa using h.few⟩, (Below.refl _ _).setCell (by simp; omega) _⟩
    · have := h.cur
      unfold Cur at *
      rw [Below.heap_setCell _ _ _ _ (by simp; omega)]; exact this
    · rw [cellsOf_length]
    · simp [World.setCell, Array.getElem?_modify, hg]
    · rw [← cellsOf_set, ← htk]
      simp [List.take_set]

set_option maxHeartbeats 1000000 in
theorem shift_any {b j : Nat} {s : ByteArray} {w : World} {v : Value} {ps qs : List P.Pt} {p : Nat} (h : Rd w b s j v (ps ++ qs)) (hp : p ≤ 100000) (hq : ∀ x ∈ qs, x.place ≤ 100000) :
    Calls Tryz.prog 162 #[.pointer (some ⟨b, 0, none⟩), .int .i64 ps.length, .int .i64 p] w fun e w' => e = .returned (.tuple #[]) ∧ Rd w' b s j v (ps ++ qs.map (P.Pt.sh p)) ∧ Below b w w' := by
  have hs := h.short
  have hfew := h.few
  have hj := h.here
  simp only [List.length_append] at hfew
  go_enter Tryz.func162, Tryz.ntmps162
  go_wp2_with fail
  go_loopw [6] (fun i wr => ∃ (don tod : List P.Pt) (K : Nat), qs = don ++ tod ∧ K = ps.length + don.length ∧ i = .int .i64 K ∧ Rd wr b s j v (ps ++ don.map (P.Pt.sh p) ++ tod) ∧ Below b w wr) (fun i _ => ps.length + qs.length - (intOf i).toNat)
  case atStart => exact ⟨[], qs, ps.length, rfl, rfl, rfl, by simpa using h, Below.refl _ _⟩
  case round =>
    obtain ⟨don, tod, K, hqs, hK, rfl, hrd, hbw⟩ := hrel
    have HQ : Hid (qs = don ++ tod) := hqs
    have HK : Hid (K = ps.length + don.length) := hK
    have hlen : K + tod.length ≤ j := by rw [hqs, List.length_append] at hfew; omega
    have hlen2 : K + tod.length ≤ qs.length + ps.length := by rw [hqs, List.length_append]; omega
    have c2 := hrd.cur.c2
    have hlt := hrd.cur.lt
    clear hqs
    cases tod with
    | nil =>
      rw [List.append_nil] at hrd
      have hl : (ps ++ don.map (P.Pt.sh p)).length = K := by simp; omega
      have hfin : don = qs := by have := HQ.out; simpa using this.symm
      have how := hrd.own
      rw [hl] at how
      have HF : Hid (Rd wr b s j v (ps ++ don.map (P.Pt.sh p))) := hrd
      have HD : Hid (don = qs) := hfin
      clear hfin hrd hl hK
      rcases how.2 with ⟨rfl, h0⟩ | ⟨g, cap, cur, rfl, _⟩
      · clear how
        have HZ : Hid (K = 0) := h0
        have h00 : ¬ ((K : Int) < 0) := by omega
        clear h0
        go_wp2_with fail
        go_end0
        exact ⟨rfl, by rw [← HD.out]; exact HF.out, hbw⟩
      · clear how
        go_wp2_with fail
        go_end0
        exact ⟨rfl, by rw [← HD.out]; exact HF.out, hbw⟩
    | cons x tod =>
      simp only [List.length_cons] at hlen hlen2
      obtain ⟨g, cap, hv, _, _⟩ := hrd.own.form (by simp; omega)
      obtain ⟨N, hN⟩ : ∃ N, N = (ps ++ don.map (P.Pt.sh p) ++ x :: tod).length := ⟨_, rfl⟩
      rw [← hN] at hv
      subst hv
      obtain ⟨cc, cf, hn, hn2, hn3⟩ := rd_cell hrd
      have hset := rd_set hrd (x.place + p)
      have hA : (ps ++ don.map (P.Pt.sh p)).length = K := by simp; omega
      rw [hA] at cc cf hn hset
      have hxp : x.place ≤ 100000 := hq x (by rw [HQ.out]; simp)
      have HS : Hid _ := hset
      have hKN : (K : Int) < (N : Int) := by omega
      unfold maxLen at hn3
      have hNb : N ≤ 80 := by have := hrd.few; omega
      have h0K : (0 : Int) ≤ (K : Int) := by omega
      clear hset hN hn hK hA hrd hq
      go_wp2_with fail
      refine ⟨⟨don ++ [x], tod, K + 1, by rw [HQ.out]; simp, by have := HK.out; simp; omega, by go_num, ?_, hbw.trans HS.out.2⟩, by simp [intOf]; omega⟩
      have hfin := HS.out.1
      rw [show ps ++ List.map (P.Pt.sh p) (don ++ [x]) ++ tod = ps ++ don.map (P.Pt.sh p) ++ { x with place := x.place + p } :: tod by simp [P.Pt.sh]]
      exact hfin
end Go.Proofs.YtghggcehloiemabGreatDoor
