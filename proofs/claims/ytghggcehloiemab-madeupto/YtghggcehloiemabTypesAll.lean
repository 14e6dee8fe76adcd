import Derived.Test.YtghggcehloiemabPureAll
import Derived.Test.YtghggcehloiemabNumber
import Derived.Deep.AppendLies
namespace Go.Proofs.Ytghggcehloiemab.P
set_option linter.unusedVariables false

/-- A part of a type, as the reader gathers them. -/
structure Pt where
  kind : Nat
  mark : Nat
  place : Nat
  size : Nat
def Pt.sh (p : Nat) (x : Pt) : Pt := { x with place := x.place + p }

/-- Types, at most so many structs deep: a leaf (a number?, its bytes), or a struct. -/
def Ty : Nat → Type
  | 0 => Bool × Nat
  | n + 1 => (Bool × Nat) ⊕ List (Ty n)
def lf : (n : Nat) → Bool × Nat → Ty n
  | 0, l => l
  | _ + 1, l => .inl l

def up (e p : Nat) : Nat := (e + p - 1) / p * p
theorem up_le (e p : Nat) (hp : 1 ≤ p) : up e p ≤ e + p - 1 := by unfold up; exact Nat.div_mul_le_self _ _
theorem le_up (e p : Nat) (hp : 1 ≤ p) : e ≤ up e p := by
  unfold up
  have h := Nat.div_add_mod (e + p - 1) p
  have h2 := Nat.mod_lt (e + p - 1) (show 0 < p by omega)
  rw [Nat.mul_comm]; omega

def lsz (l : Bool × Nat) : Nat × Nat := (l.2, if l.1 then l.2 else 1)
def lay1 (a b : Nat × Nat) : Nat × Nat := (up a.1 b.2 + b.1, max a.2 b.2)
def fold (l : List (Nat × Nat)) : Nat × Nat := l.foldl lay1 (0, 1)
def closed (a : Nat × Nat) : Nat × Nat := (up a.1 a.2, a.2)
theorem fold_snoc (l : List (Nat × Nat)) (x : Nat × Nat) : fold (l ++ [x]) = lay1 (fold l) x := by simp [fold]
def sz : (n : Nat) → Ty n → Nat × Nat
  | 0, l => lsz l
  | _ + 1, .inl l => lsz l
  | n + 1, .inr ts => closed (fold (ts.map (sz n)))

def lpart (l : Bool × Nat) : Pt := ⟨if l.1 then 1 else 2, 0, 0, l.2⟩
def markP (c : Nat) : Pt := ⟨0, c, 0, 0⟩
/-- The fields' parts, each at its place, a comma behind each. -/
def body (a : Nat × Nat) : List (List Pt × (Nat × Nat)) → List Pt
  | [] => []
  | x :: xs => x.1.map (Pt.sh (up a.1 x.2.2)) ++ markP 44 :: body (lay1 a x.2) xs
def parts : (n : Nat) → Ty n → List Pt
  | 0, l => [lpart l]
  | _ + 1, .inl l => [lpart l]
  | n + 1, .inr ts => markP 123 :: ((body (0, 1) (ts.map fun t => (parts n t, sz n t))).dropLast ++ [markP 125])

theorem body_snoc (xs : List (List Pt × (Nat × Nat))) (x : List Pt × (Nat × Nat)) : ∀ a, body a (xs ++ [x]) = body a xs ++ x.1.map (Pt.sh (up ((xs.map (·.2)).foldl lay1 a).1 x.2.2)) ++ [markP 44] := by
  induction xs with
  | nil => intro a; simp [body]
  | cons y ys ih => intro a; simp [body, ih]

theorem sz_lf (n : Nat) (l : Bool × Nat) : sz n (lf n l) = lsz l := by cases n <;> rfl
theorem parts_lf (n : Nat) (l : Bool × Nat) : parts n (lf n l) = [lpart l] := by cases n <;> rfl
theorem parts_struct (n : Nat) (ts : List (Ty n)) (t : Ty n) :
    parts (n + 1) (.inr (ts ++ [t])) = markP 123 :: body (0, 1) (ts.map fun t => (parts n t, sz n t)) ++ (parts n t).map (Pt.sh (up (fold (ts.map (sz n))).1 (sz n t).2)) ++ [markP 125] := by
  have e : (ts.map (fun t => (parts n t, sz n t))).map (·.2) = ts.map (sz n) := by simp [Function.comp_def]
  simp only [parts, List.map_append, List.map_cons, List.map_nil, body_snoc]
  rw [List.dropLast_concat]
  rw [e]
  simp [fold]

/-- A leaf, read off a text's head. -/
def rdLeaf (l : List UInt8) : Option ((Bool × Nat) × List UInt8) := match l with
  | [] => none
  | c :: r => if c = 117 then (match rdnum 4 r with
      | some (k, m) => if k = 0 ∨ k = 3 then none else some ((true, k), r.drop m)
      | none => none)
    else (match rdnum 16 r with
      | some (k, m) => if k = 0 then none else some ((false, k), r.drop m)
      | none => none)
def leafy (l : List UInt8) : Bool := l.head? == some 117 || l.head? == some 98

def rdF {α : Type} (f : List UInt8 → Option (α × List UInt8)) : Nat → List α → List UInt8 → Option (List α × List UInt8)
  | 0, _, _ => none
  | k + 1, acc, s => match f s with
    | none => none
    | some (_, []) => none
    | some (t, c :: r) => if c = 125 then some (acc ++ [t], r) else if c = 44 then rdF f k (acc ++ [t]) r else none

def rd : (n : Nat) → List UInt8 → Option (Ty n × List UInt8)
  | 0, l => if leafy l = true then (rdLeaf l).map (fun x => (lf 0 x.1, x.2)) else none
  | n + 1, l => if leafy l = true then (rdLeaf l).map (fun x => (lf (n + 1) x.1, x.2)) else (match l with
    | [] => none
    | c :: r => if c = 123 then (rdF (rd n) 8 [] r).map (fun x => (.inr x.1, x.2)) else none)
def rdS : (n : Nat) → List UInt8 → Option (Ty n × List UInt8)
  | 0, _ => none
  | n + 1, l => match l with
    | [] => none
    | c :: r => if c = 123 then (rdF (rd n) 8 [] r).map (fun x => (.inr x.1, x.2)) else none
theorem rd_leafy (n : Nat) (l : List UInt8) (h : leafy l = true) : rd n l = (rdLeaf l).map (fun x => (lf n x.1, x.2)) := by
  cases n <;> simp [rd, h]
theorem rd_else (n : Nat) (l : List UInt8) (h : leafy l = false) : rd n l = rdS n l := by
  cases n <;> simp [rd, rdS, h]

end Go.Proofs.Ytghggcehloiemab.P
namespace Go.Proofs.Ytghggcehloiemab
open Go.RowKit
set_option linter.unusedVariables false
set_option maxRecDepth 16000

theorem Try.infoPart : (Try.prog.info? 129).map (fun i => (i.zero, i.size, i.bytes)) = some (some (.agg #[.int .i64 0, .int .u8 0, .int .i64 0, .int .i64 0]), 4, 32) := by kernel_rfl

def ptCells (x : P.Pt) : List Value := [.int .i64 x.kind, .int .u8 x.mark, .int .i64 x.place, .int .i64 x.size]
def cellsOf (ps : List P.Pt) : List Value := ps.flatMap ptCells
theorem cellsOf_length (ps : List P.Pt) : (cellsOf ps).length = ps.length * 4 := by
  induction ps with
  | nil => rfl
  | cons x xs ih => simp [cellsOf, ptCells] at *; omega
theorem cellsOf_append (ps qs : List P.Pt) : cellsOf (ps ++ qs) = cellsOf ps ++ cellsOf qs := by simp [cellsOf]

/-- A reader at block b: its text, where it stands, the parts so far. -/
structure Rd (w : World) (b : Nat) (s : ByteArray) (i : Nat) (v : Value) (ps : List P.Pt) : Prop where
  cur : Cur w b s i v 110
  own : w.ownsRow (b + 1) 129 4 v ps.length (cellsOf ps)
  here : i ≤ s.size
  short : s.size ≤ 80
  few : ps.length ≤ i

theorem Only.own {b : Nat} {w w' : World} {e : TypeId} {size n : Nat} {v : Value} {xs : List Value} (ho : Only b w w') (h : w.ownsRow (b + 1) e size v n xs) : w'.ownsRow (b + 1) e size v n xs := by
  obtain ⟨h1, h2⟩ := h
  refine ⟨h1, ?_⟩
  rcases h2 with h2 | ⟨g, cap, cur, hv, hb, hg, hr⟩
  · exact .inl h2
  · exact .inr ⟨g, cap, cur, hv, hb, by rw [ho.block g (by omega)]; exact hg, hr⟩

set_option maxHeartbeats 400000 in
theorem roundUp_any (e p : Nat) (w : World) (he : e ≤ 100000) (hp1 : 1 ≤ p) (hp2 : p ≤ 16) :
    Calls Try.prog 85 #[.int .i64 e, .int .i64 p] w fun r w' => r = .returned (.int .i64 (P.up e p)) ∧ w' = w := by
  have h1 : ¬ (p : Int) < 1 := by omega
  have hz : ((p : Int) == 0) = false := by rw [beq_eq_false_iff_ne]; omega
  go_enter Try.func85, Try.ntmps85
  go_wp2
  go_ret
  refine ⟨congrArg (fun x : Int => Ending.returned (.int .i64 x)) ?_, rfl⟩
  have hq : (((e + p - 1) / p * p : Nat) : Int) = ((e : Int) + p - 1) / p * p := by
    rw [Int.natCast_mul, Int.natCast_ediv]; congr 2; omega
  have hle : (e + p - 1) / p * p ≤ e + p - 1 := Nat.div_mul_le_self _ _
  rw [← hq]
  unfold P.up
  unfold wrap64; omega
theorem cell_four_new (w : World) (a b c d : Value) (t : TypeId) : ∀ j u, [a, b, c, d][j]? = some u → (w.alloc (.cells #[a, b, c, d] t)).cell? ((⟨w.heap.size, 0, none⟩ : Addr).add j) = some u :=
  World.news_of_block (heap_alloc_new w _)
theorem grown_cur {w1 w3 : World} {b j : Nat} {s : ByteArray} {v : Value} {T e : TypeId} {size n : Nat} {xs : List Value} {o : Obj} (hc : Cur w1 b s j v T) (hown : w1.ownsRow (b + 1) e size v n xs) (hg : (w1.alloc o).grownBy w3 v.ownBlock) : Cur w3 b s j v T := by
  have hl := hc.lt
  unfold Cur at *
  rw [hg.block b (by simp; omega) (fun h => by have := (hown.lt _ h.symm).1; omega), Below.heap_alloc _ _ _ hl]
  exact hc
theorem grown_rd {w1 w3 : World} {b j : Nat} {s : ByteArray} {v v' : Value} {ps : List P.Pt} {x : P.Pt} {o : Obj} (hc : Cur w1 b s j v 110) (hown : w1.ownsRow (b + 1) 129 4 v ps.length (cellsOf ps)) (hg : (w1.alloc o).grownBy w3 v.ownBlock)
    (hown' : w3.ownsRow (b + 1) 129 4 v' (ps.length + 1) (cellsOf ps ++ ptCells x)) (hj : j ≤ s.size) (hs : s.size ≤ 80) (hf : ps.length + 1 ≤ j) : Rd (w3.setCell ⟨b, 2, none⟩ v') b s j v' (ps ++ [x]) ∧ Below b w1 (w3.setCell ⟨b, 2, none⟩ v') := by
  have hc3 := grown_cur hc hown hg
  have hl := hc.lt
  refine ⟨⟨hc3.set2 v', ?_, hj, hs, by simpa using hf⟩, ?_⟩
  · have := ((Only.refl b w3).setCell 2 v').own hown'
    simpa [cellsOf] using this
  · exact (Below.grown ((Below.refl b w1).alloc (by omega) o) hg (by simp; omega) (fun k hk => by have := (hown.lt _ hk).1; omega)).setCell (Nat.le_refl _) v'
set_option maxHeartbeats 400000 in
theorem readMark_no {b i : Nat} {s : ByteArray} {m : UInt8} {w : World} {v : Value} {ps : List P.Pt} (h : Rd w b s i v ps) (hh : hit s i m = false) :
    Calls Try.prog 84 #[.pointer (some ⟨b, 0, none⟩), .int .u8 m.toNat] w fun e w' => e = .returned (.bool false) ∧ Rd w' b s i v ps ∧ Below b w w' := by
  go_enter Try.func84, Try.ntmps84
  go_wp2_with (go_at_call 78; refine (skip_no h.cur hh).mono ?_; rintro e w' ⟨rfl, hc, ho⟩)
  go_ret
  exact ⟨rfl, ⟨hc, ho.own h.own, h.here, h.short, h.few⟩, ho.below (Nat.le_refl _)⟩
set_option maxHeartbeats 400000 in
theorem readMark_yes {b i : Nat} {s : ByteArray} {m : UInt8} {w : World} {v : Value} {ps : List P.Pt} (h : Rd w b s i v ps) (hh : hit s i m = true) :
    Calls Try.prog 84 #[.pointer (some ⟨b, 0, none⟩), .int .u8 m.toNat] w fun e w' => e = .returned (.bool true) ∧ i < s.size ∧ (∃ v', Rd w' b s (i + 1) v' (ps ++ [P.markP m.toNat])) ∧ Below b w w' := by
  have hs := h.short
  have hfew := h.few
  obtain ⟨i0, hi0, hz0, hz1, hz2⟩ := info_parts Try.infoPart
  go_enter Try.func84, Try.ntmps84
  go_wp2_with (first
    | (go_at_call 78; refine (skip_yes h.cur (by unfold maxLen; omega) hh).mono ?_; rintro e w1 ⟨rfl, hi, hc, ho⟩; have c2 := hc.c2; have hown := ho.own h.own)
    | (at_builtin; refine wpList_append_lies _ rfl _ _ 80 rfl (b + 1) 129 i0 (.agg #[.int .i64 0, .int .u8 0, .int .i64 0, .int .i64 0]) 4 32 Try.underlying80 hi0 hz0 hz1 hz2 rfl (by decide) v ps.length (cellsOf ps) rfl (hown.alloc _) ⟨w1.heap.size, 0, none⟩ 1 1 (ptCells (P.markP m.toNat)) rfl rfl (cell_four_new _ _ _ _ _ _) (fun x hx => by simp [ptCells] at hx; rcases hx with rfl | rfl | rfl | rfl <;> rfl) (by omega) (by unfold maxLen; omega) (by omega) (by have := hc.lt; simp; omega) _ rfl ?_; intro g cap w3 hown' hgrow hat hlt
       have hc3 := grown_cur hc hown hgrow
       have cf := hc3.fz 2; have cc := hc3.c2
       have X := grown_rd hc hown hgrow hown' hi hs (by omega)))
  go_ret
  exact ⟨rfl, hi, ⟨_, X.1⟩, (ho.below (Nat.le_refl _)).trans X.2⟩

/-- A leaf's post: 'bytes' or 'number' was read. -/
def LeafPost (num : Bool) (s : ByteArray) (i b : Nat) (ps : List P.Pt) (w : World) (e : Ending) (w' : World) : Prop :=
  (match P.rdnum (if num then 4 else 16) (s.data.toList.drop i) with
    | some (n, k) => if n = 0 ∨ (num = true ∧ n = 3) then e = .returned (.tuple #[.int .i64 0, .int .i64 0, .bool false])
      else e = .returned (.tuple #[.int .i64 (P.lsz (num, n)).1, .int .i64 (P.lsz (num, n)).2, .bool true]) ∧ i + k ≤ s.size ∧ ∃ v', Rd w' b s (i + k) v' (ps ++ [P.lpart (num, n)])
    | none => e = .returned (.tuple #[.int .i64 0, .int .i64 0, .bool false])) ∧ Below b w w'

theorem rdnum_le {most : Nat} {l : List UInt8} {n k : Nat} (h : P.rdnum most l = some (n, k)) : n ≤ most := by
  unfold P.rdnum at h
  split at h
  · cases h
  · rename_i hn
    simp at h hn
    omega

set_option maxHeartbeats 1000000 in
theorem readNumber_any {b i : Nat} {s : ByteArray} {w : World} {v : Value} {ps : List P.Pt} (h : Rd w b s i v ps) (hpos : 1 ≤ i) (hfew : ps.length + 1 ≤ i) :
    Calls Try.prog 79 #[.pointer (some ⟨b, 0, none⟩)] w fun e w' => LeafPost true s i b ps w e w' := by
  have hs := h.short
  obtain ⟨i0, hi0, hz0, hz1, hz2⟩ := info_parts Try.infoPart
  go_enter Try.func79, Try.ntmps79
  go_wp2_with fail
  refine (number_any 4 (by omega) h.cur (by unfold maxLen; omega) h.here).mono ?_
  rintro e w1 ⟨hpost, ho⟩
  cases hn : P.rdnum 4 (s.data.toList.drop i) with
  | none =>
    simp only [hn] at hpost
    have Hn : Hid (P.rdnum 4 (s.data.toList.drop i) = none) := hn
    clear hn
    obtain ⟨rfl, _⟩ := hpost
    go_wp2_with fail
    go_ret3
    refine ⟨?_, ho.below (Nat.le_refl _)⟩
    simp [Hn.out]
  | some x =>
    obtain ⟨n, k⟩ := x
    have hle := rdnum_le hn
    simp only [hn] at hpost
    have Hn : Hid (P.rdnum 4 (s.data.toList.drop i) = some (n, k)) := hn
    clear hn
    obtain ⟨rfl, hik, hc⟩ := hpost
    have c2 := hc.c2
    have hown := ho.own h.own
    by_cases hbad : n = 0 ∨ n = 3
    · have hb : ((n : Int) == 0 || (n : Int) == 3) = true := by simp; omega
      rcases hbad with rfl | rfl
      · go_wp2_with fail
        go_ret3
        refine ⟨?_, ho.below (Nat.le_refl _)⟩
        simp [Hn.out]
      · go_wp2_with fail
        go_ret3
        refine ⟨?_, ho.below (Nat.le_refl _)⟩
        simp [Hn.out]
    · have HB : Hid (¬ (n = 0 ∨ n = 3)) := hbad
      have hb0 : ((n : Int) == 0) = false := by rw [beq_eq_false_iff_ne]; omega
      have hb3 : ((n : Int) == 3) = false := by rw [beq_eq_false_iff_ne]; omega
      clear hbad
      go_wp2_with (first
      | (at_builtin; refine wpList_append_lies _ rfl _ _ 80 rfl (b + 1) 129 i0 (.agg #[.int .i64 0, .int .u8 0, .int .i64 0, .int .i64 0]) 4 32 Try.underlying80 hi0 hz0 hz1 hz2 rfl (by decide) v ps.length (cellsOf ps) rfl (hown.alloc _) ⟨w1.heap.size, 0, none⟩ 1 1 (ptCells (P.lpart (true, n))) rfl rfl (cell_four_new _ _ _ _ _ _) (fun x hx => by simp [ptCells] at hx; rcases hx with rfl | rfl | rfl | rfl <;> rfl) (by omega) (by unfold maxLen; omega) (by omega) (by have := hc.lt; simp; omega) _ rfl ?_; intro g cap w3 hown' hgrow hat hlt
         have hc3 := grown_cur hc hown hgrow
         have cf := hc3.fz 2; have cc := hc3.c2
         have X := grown_rd hc hown hgrow hown' hik hs (by omega)))
      go_ret3
      refine ⟨?_, (ho.below (Nat.le_refl _)).trans X.2⟩
      simp only [Hn.out, if_true]
      rw [if_neg (by simpa using HB.out)]
      exact ⟨rfl, hik, _, X.1⟩

set_option maxHeartbeats 1000000 in
theorem readBytes_any {b i : Nat} {s : ByteArray} {w : World} {v : Value} {ps : List P.Pt} (h : Rd w b s i v ps) (hpos : 1 ≤ i) (hfew : ps.length + 1 ≤ i) :
    Calls Try.prog 80 #[.pointer (some ⟨b, 0, none⟩)] w fun e w' => LeafPost false s i b ps w e w' := by
  have hs := h.short
  obtain ⟨i0, hi0, hz0, hz1, hz2⟩ := info_parts Try.infoPart
  go_enter Try.func80, Try.ntmps80
  go_wp2_with fail
  refine (number_any 16 (by omega) h.cur (by unfold maxLen; omega) h.here).mono ?_
  rintro e w1 ⟨hpost, ho⟩
  cases hn : P.rdnum 16 (s.data.toList.drop i) with
  | none =>
    simp only [hn] at hpost
    have Hn : Hid (P.rdnum 16 (s.data.toList.drop i) = none) := hn
    clear hn
    obtain ⟨rfl, _⟩ := hpost
    go_wp2_with fail
    go_ret3
    refine ⟨?_, ho.below (Nat.le_refl _)⟩
    simp [Hn.out]
  | some x =>
    obtain ⟨n, k⟩ := x
    have hle := rdnum_le hn
    simp only [hn] at hpost
    have Hn : Hid (P.rdnum 16 (s.data.toList.drop i) = some (n, k)) := hn
    clear hn
    obtain ⟨rfl, hik, hc⟩ := hpost
    have c2 := hc.c2
    have hown := ho.own h.own
    by_cases hbad : n = 0
    · subst hbad
      go_wp2_with fail
      go_ret3
      refine ⟨?_, ho.below (Nat.le_refl _)⟩
      simp [Hn.out]
    · have HB : Hid (¬ (n = 0)) := hbad
      have hb0 : ((n : Int) == 0) = false := by rw [beq_eq_false_iff_ne]; omega
      clear hbad
      go_wp2_with (first
      | (at_builtin; refine wpList_append_lies _ rfl _ _ 80 rfl (b + 1) 129 i0 (.agg #[.int .i64 0, .int .u8 0, .int .i64 0, .int .i64 0]) 4 32 Try.underlying80 hi0 hz0 hz1 hz2 rfl (by decide) v ps.length (cellsOf ps) rfl (hown.alloc _) ⟨w1.heap.size, 0, none⟩ 1 1 (ptCells (P.lpart (false, n))) rfl rfl (cell_four_new _ _ _ _ _ _) (fun x hx => by simp [ptCells] at hx; rcases hx with rfl | rfl | rfl | rfl <;> rfl) (by omega) (by unfold maxLen; omega) (by omega) (by have := hc.lt; simp; omega) _ rfl ?_; intro g cap w3 hown' hgrow hat hlt
         have hc3 := grown_cur hc hown hgrow
         have cf := hc3.fz 2; have cc := hc3.c2
         have X := grown_rd hc hown hgrow hown' hik hs (by omega)))
      go_ret3
      refine ⟨?_, (ho.below (Nat.le_refl _)).trans X.2⟩
      simp only [Hn.out, Bool.false_eq_true, if_false]
      rw [if_neg (by simpa using HB.out)]
      exact ⟨rfl, hik, _, X.1⟩

end Go.Proofs.Ytghggcehloiemab
