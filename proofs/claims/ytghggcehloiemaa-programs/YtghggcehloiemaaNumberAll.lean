import Derived.Test.YtghggcehloiemaaCursor
import Derived.Test.YtghggcehloiemaaPure
import Derived.Deep.AppendLies
namespace Go.Proofs.Ytghggcehloiemaa
open Go.RowKit
set_option linter.unusedVariables false
set_option maxRecDepth 16000

/-- What 'number' answers. -/
def NumPost (most : Nat) (s : ByteArray) (i b : Nat) (v : Value) (T : TypeId) (w : World) (e : Ending) (w' : World) : Prop :=
  (match P.rdnum most (s.data.toList.drop i) with
    | some (n, k) => e = .returned (.tuple #[.int .i64 n, .bool true]) ∧ i + k ≤ s.size ∧ Cur w' b s (i + k) v T
    | none => e = .returned (.tuple #[.int .i64 0, .bool false]) ∧ ∃ j, j ≤ s.size ∧ Cur w' b s j v T) ∧ Only b w w'
theorem NumPost.no {most : Nat} {s : ByteArray} {i b : Nat} {v : Value} {T : TypeId} {w w' : World} {e : Ending} (h : P.rdnum most (s.data.toList.drop i) = none) (he : e = .returned (.tuple #[.int .i64 0, .bool false])) {j : Nat} (hj : j ≤ s.size) (hc : Cur w' b s j v T) (ho : Only b w w') : NumPost most s i b v T w e w' := by
  unfold NumPost; rw [h]; exact ⟨⟨he, j, hj, hc⟩, ho⟩
theorem NumPost.yes {most : Nat} {s : ByteArray} {i b : Nat} {v : Value} {T : TypeId} {w w' : World} {e : Ending} {n k : Nat} (h : P.rdnum most (s.data.toList.drop i) = some (n, k)) (he : e = .returned (.tuple #[.int .i64 n, .bool true])) (hj : i + k ≤ s.size) (hc : Cur w' b s (i + k) v T) (ho : Only b w w') : NumPost most s i b v T w e w' := by
  unfold NumPost; rw [h]; exact ⟨⟨he, hj, hc⟩, ho⟩

theorem dig_iff (c : UInt8) : digB (c.toNat : Int) = P.isDig c := by
  unfold digB P.isDig
  congr 1 <;> simp <;> omega
theorem drop_get {s : ByteArray} {i k : Nat} (h : i + k < s.size) : (s.data.toList.drop i)[k]? = some s[i + k] := by
  rw [List.getElem?_drop]; exact get_of h
theorem drop_none {s : ByteArray} {i k : Nat} (h : s.size ≤ i + k) : (s.data.toList.drop i)[k]? = none := by
  rw [List.getElem?_drop]; exact get_none h

theorem step_stop {s : ByteArray} {i p most nn : Nat} (hip : i ≤ p) (h : P.NumInv (s.data.toList.drop i) most (p - i) nn) (hs : ∀ h : p < s.size, P.isDig s[p] = false) : ∀ c, (s.data.toList.drop i)[p - i]? = some c → P.isDig c = false := by
  intro c hc
  rcases Nat.lt_or_ge p s.size with hl | hl
  · rw [drop_get (s := s) (i := i) (k := p - i) (by omega)] at hc
    have : s[i + (p - i)]'(by omega) = s[p] := by congr 1; omega
    rw [this] at hc
    have := hs hl
    simp at hc; subst hc; exact this
  · rw [drop_none (by omega)] at hc; cases hc
theorem get_p {s : ByteArray} {i p : Nat} (hip : i ≤ p) (h : p < s.size) : (s.data.toList.drop i)[p - i]? = some s[p] := by
  rw [drop_get (s := s) (i := i) (k := p - i) (by omega)]
  congr 2; omega

theorem meas_dn {w w' : World} {b p : Nat} {s : ByteArray} {v : Value} {T : TypeId} (h : Cur w b s p v T) (hlt : p < s.size) (h' : Cur w' b s (p + 1) v T) : s.size - atOf w' b < s.size - atOf w b := by
  rw [h.atOf, h'.atOf]; omega
set_option maxHeartbeats 1000000 in
theorem number_any {b i : Nat} {s : ByteArray} {w : World} {v : Value} {T : TypeId} (most : Nat) (hmost : most ≤ 4294967295) (hc : Cur w b s i v T) (hm : s.size ≤ maxLen) (hi : i ≤ s.size) :
    Calls Try.prog 97 #[.pointer (some ⟨b, 0, none⟩), .int .i64 most] w fun e w' => NumPost most s i b v T w e w' := by
  unfold maxLen at hm
  have h1 := hc.c1
  go_enter Try.func97, Try.ntmps97
  go_wp2_with fail
  go_loopw [7] (fun n wr => ∃ p nn : Nat, P.NumInv (s.data.toList.drop i) most (p - i) nn ∧ n = .int .i64 nn ∧ i ≤ p ∧ p ≤ s.size ∧ Cur wr b s p v T ∧ Only b w wr) (fun _ wr => s.size - atOf wr b)
  case atStart => exact ⟨i, 0, by rw [Nat.sub_self]; exact P.numInv_start _ _, rfl, Nat.le_refl _, hi, hc, Only.refl _ _⟩
  case round =>
    obtain ⟨p, nn, hinv, rfl, hip, hps, hcur, honly⟩ := hrel
    clear h1 hc
    have g0 := hcur.c0
    have g1 := hcur.c1
    have gf := hcur.fz 1
    have hnn := hinv.2.2.1
    have HI : Hid (P.NumInv (s.data.toList.drop i) most (p - i) nn) := hinv
    clear hinv
    by_cases hlt : p < s.size
    · have hds : decide ((p : Int) < (s.size : Int)) = true := by simp; omega
      by_cases hdg : digB (s[p].toNat : Int) = true
      · have hdig : P.isDig s[p] = true := by rw [← dig_iff]; exact hdg
        have hsub := P.isDig_sub hdig
        have HD : Hid (P.isDig s[p] = true) := hdig
        clear hdig
        have hs1 : (48 : Int) ≤ (s[p].toNat : Int) := by omega
        have hs2 : (s[p].toNat : Int) ≤ 57 := by omega
        clear hsub
        go_wp2_with fail
        go_quiet ((go_at_call 119; exact Calls.quiet_of_same (isDigit_yes _ _ hdg)))
        clear hdg
        by_cases hz : nn = 0
        · have HZ : Hid (nn = 0) := hz
          have hzb : ((nn : Int) == 0) = true := by rw [beq_iff_eq]; omega
          clear hz
          by_cases hpi : i < p
          · go_wp2_with fail
            go_quiet (fail)
            go_wp2_with fail
            go_ret2
            exact NumPost.no (P.num_bad1 HI.out (get_p hip hlt) HD.out HZ.out (by omega)) rfl hps (by repeat (first | exact hcur | apply Cur.drewN)) (by repeat (first | exact honly | apply Only.drewN))
          · by_cases hgt : (most : Int) < (nn : Int) * 10 + ((s[p].toNat : Int) - 48)
            · go_wp2_with fail
              go_quiet (fail)
              go_wp2_with fail
              go_ret2
              exact NumPost.no (P.num_bad2 HI.out (get_p hip hlt) HD.out (by omega)) rfl hps (by repeat (first | exact hcur | apply Cur.drewN)) (by repeat (first | exact honly | apply Only.drewN))
            · go_wp2_with fail
              go_quiet (fail)
              go_wp2_with fail
              go_roundw
              case rel => exact ⟨p + 1, nn * 10 + (s[p].toNat - 48), by rw [show p + 1 - i = p - i + 1 by omega]; exact P.num_ok HI.out (get_p hip hlt) HD.out (by omega) (by omega), by go_num, by omega, by omega, by repeat (first | exact hcur | apply Cur.drewN | apply Cur.set1), by repeat (first | exact honly | apply Only.drewN | apply Only.setCell)⟩
              case measure => exact meas_dn hcur hlt (by repeat (first | exact hcur | apply Cur.drewN | apply Cur.set1))
        · have HZ : Hid (nn ≠ 0) := hz
          have hzb : ((nn : Int) == 0) = false := by rw [beq_eq_false_iff_ne]; omega
          clear hz
          by_cases hgt : (most : Int) < (nn : Int) * 10 + ((s[p].toNat : Int) - 48)
          · go_wp2_with fail
            go_quiet (fail)
            go_wp2_with fail
            go_ret2
            exact NumPost.no (P.num_bad2 HI.out (get_p hip hlt) HD.out (by omega)) rfl hps (by repeat (first | exact hcur | apply Cur.drewN)) (by repeat (first | exact honly | apply Only.drewN))
          · go_wp2_with fail
            go_quiet (fail)
            go_wp2_with fail
            go_roundw
            case rel => exact ⟨p + 1, nn * 10 + (s[p].toNat - 48), by rw [show p + 1 - i = p - i + 1 by omega]; exact P.num_ok HI.out (get_p hip hlt) HD.out (fun h => HZ.out h.1) (by omega), by go_num, by omega, by omega, by repeat (first | exact hcur | apply Cur.drewN | apply Cur.set1), by repeat (first | exact honly | apply Only.drewN | apply Only.setCell)⟩
            case measure => exact meas_dn hcur hlt (by repeat (first | exact hcur | apply Cur.drewN | apply Cur.set1))
      · have hdg' : digB (s[p].toNat : Int) = false := by simpa using hdg
        clear hdg
        have HS : Hid (P.isDig s[p] = false) := by unfold Hid; rw [← dig_iff]; exact hdg'
        go_wp2_with fail
        go_quiet ((go_at_call 119; exact Calls.quiet_of_same (isDigit_no _ _ hdg')))
        clear hdg'
        go_wp2_with fail
        go_quiet (fail)
        go_wp2_with fail
        go_ret2
        by_cases hpi : i < p
        · exact NumPost.yes (P.num_stop HI.out (step_stop hip HI.out (fun _ => HS.out)) (by omega)) (by simp; omega) (by omega) (by rw [show i + (p - i) = p by omega]; repeat (first | exact hcur | apply Cur.drewN)) (by repeat (first | exact honly | apply Only.drewN))
        · have : p = i := by omega
          subst this
          have hI := HI.out
          rw [Nat.sub_self] at hI
          exact NumPost.no (P.num_stop0 hI (by have := step_stop hip HI.out (fun _ => HS.out); rwa [Nat.sub_self] at this)) (by simp; exact hI.2.1) hps (by repeat (first | exact hcur | apply Cur.drewN)) (by repeat (first | exact honly | apply Only.drewN))
    · have hds : decide ((p : Int) < (s.size : Int)) = false := by simp; omega
      go_wp2_with fail
      go_quiet (fail)
      go_wp2_with fail
      go_quiet (fail)
      go_wp2_with fail
      go_ret2
      by_cases hpi : i < p
      · exact NumPost.yes (P.num_stop HI.out (step_stop hip HI.out (fun h => absurd h hlt)) (by omega)) (by simp; omega) (by omega) (by rw [show i + (p - i) = p by omega]; repeat (first | exact hcur | apply Cur.drewN)) (by repeat (first | exact honly | apply Only.drewN))
      · have : p = i := by omega
        subst this
        have hI := HI.out
        rw [Nat.sub_self] at hI
        exact NumPost.no (P.num_stop0 hI (by have := step_stop hip HI.out (fun h => absurd h hlt); rwa [Nat.sub_self] at this)) (by simp; exact hI.2.1) hps (by repeat (first | exact hcur | apply Cur.drewN)) (by repeat (first | exact honly | apply Only.drewN))
end Go.Proofs.Ytghggcehloiemaa
namespace Go.Proofs.Ytghggcehloiemaa.P
set_option linter.unusedVariables false

/-- A part of a type, as the reader gathers them. -/
structure Pt where
  kind : Nat
  mark : Nat
  place : Nat
  size : Nat
def Pt.sh (p : Nat) (x : Pt) : Pt := { x with place := x.place + p }

/-- Types, at most so many structs deep: a leaf (a number?, its bytes), or a struct. -/
def Ty : Nat → Type
  | 0 => Bool × Nat
  | n + 1 => (Bool × Nat) ⊕ List (Ty n)
def lf : (n : Nat) → Bool × Nat → Ty n
  | 0, l => l
  | _ + 1, l => .inl l

def up (e p : Nat) : Nat := (e + p - 1) / p * p
theorem up_le (e p : Nat) (hp : 1 ≤ p) : up e p ≤ e + p - 1 := by unfold up; exact Nat.div_mul_le_self _ _
theorem le_up (e p : Nat) (hp : 1 ≤ p) : e ≤ up e p := by
  unfold up
  have h := Nat.div_add_mod (e + p - 1) p
  have h2 := Nat.mod_lt (e + p - 1) (show 0 < p by omega)
  rw [Nat.mul_comm]; omega

def lsz (l : Bool × Nat) : Nat × Nat := (l.2, if l.1 then l.2 else 1)
def lay1 (a b : Nat × Nat) : Nat × Nat := (up a.1 b.2 + b.1, max a.2 b.2)
def fold (l : List (Nat × Nat)) : Nat × Nat := l.foldl lay1 (0, 1)
def closed (a : Nat × Nat) : Nat × Nat := (up a.1 a.2, a.2)
theorem fold_snoc (l : List (Nat × Nat)) (x : Nat × Nat) : fold (l ++ [x]) = lay1 (fold l) x := by simp [fold]
def sz : (n : Nat) → Ty n → Nat × Nat
  | 0, l => lsz l
  | _ + 1, .inl l => lsz l
  | n + 1, .inr ts => closed (fold (ts.map (sz n)))

def lpart (l : Bool × Nat) : Pt := ⟨if l.1 then 1 else 2, 0, 0, l.2⟩
def markP (c : Nat) : Pt := ⟨0, c, 0, 0⟩
/-- The fields' parts, each at its place, a comma behind each. -/
def body (a : Nat × Nat) : List (List Pt × (Nat × Nat)) → List Pt
  | [] => []
  | x :: xs => x.1.map (Pt.sh (up a.1 x.2.2)) ++ markP 44 :: body (lay1 a x.2) xs
def parts : (n : Nat) → Ty n → List Pt
  | 0, l => [lpart l]
  | _ + 1, .inl l => [lpart l]
  | n + 1, .inr ts => markP 123 :: ((body (0, 1) (ts.map fun t => (parts n t, sz n t))).dropLast ++ [markP 125])

theorem body_snoc (xs : List (List Pt × (Nat × Nat))) (x : List Pt × (Nat × Nat)) : ∀ a, body a (xs ++ [x]) = body a xs ++ x.1.map (Pt.sh (up ((xs.map (·.2)).foldl lay1 a).1 x.2.2)) ++ [markP 44] := by
  induction xs with
  | nil => intro a; simp [body]
  | cons y ys ih => intro a; simp [body, ih]

theorem sz_lf (n : Nat) (l : Bool × Nat) : sz n (lf n l) = lsz l := by cases n <;> rfl
theorem parts_lf (n : Nat) (l : Bool × Nat) : parts n (lf n l) = [lpart l] := by cases n <;> rfl
theorem parts_struct (n : Nat) (ts : List (Ty n)) (t : Ty n) :
    parts (n + 1) (.inr (ts ++ [t])) = markP 123 :: body (0, 1) (ts.map fun t => (parts n t, sz n t)) ++ (parts n t).map (Pt.sh (up (fold (ts.map (sz n))).1 (sz n t).2)) ++ [markP 125] := by
  have e : (ts.map (fun t => (parts n t, sz n t))).map (·.2) = ts.map (sz n) := by simp [Function.comp_def]
  simp only [parts, List.map_append, List.map_cons, List.map_nil, body_snoc]
  rw [List.dropLast_concat]
  rw [e]
  simp [fold]

/-- A leaf, read off a text's head. -/
def rdLeaf (l : List UInt8) : Option ((Bool × Nat) × List UInt8) := match l with
  | [] => none
  | c :: r => if c = 117 then (match rdnum 4 r with
      | some (k, m) => if k = 0 ∨ k = 3 then none else some ((true, k), r.drop m)
      | none => none)
    else (match rdnum 16 r with
      | some (k, m) => if k = 0 then none else some ((false, k), r.drop m)
      | none => none)
def leafy (l : List UInt8) : Bool := l.head? == some 117 || l.head? == some 98

def rdF {α : Type} (f : List UInt8 → Option (α × List UInt8)) : Nat → List α → List UInt8 → Option (List α × List UInt8)
  | 0, _, _ => none
  | k + 1, acc, s => match f s with
    | none => none
    | some (_, []) => none
    | some (t, c :: r) => if c = 125 then some (acc ++ [t], r) else if c = 44 then rdF f k (acc ++ [t]) r else none

def rd : (n : Nat) → List UInt8 → Option (Ty n × List UInt8)
  | 0, l => if leafy l = true then (rdLeaf l).map (fun x => (lf 0 x.1, x.2)) else none
  | n + 1, l => if leafy l = true then (rdLeaf l).map (fun x => (lf (n + 1) x.1, x.2)) else (match l with
    | [] => none
    | c :: r => if c = 123 then (rdF (rd n) 8 [] r).map (fun x => (.inr x.1, x.2)) else none)
def rdS : (n : Nat) → List UInt8 → Option (Ty n × List UInt8)
  | 0, _ => none
  | n + 1, l => match l with
    | [] => none
    | c :: r => if c = 123 then (rdF (rd n) 8 [] r).map (fun x => (.inr x.1, x.2)) else none
theorem rd_leafy (n : Nat) (l : List UInt8) (h : leafy l = true) : rd n l = (rdLeaf l).map (fun x => (lf n x.1, x.2)) := by
  cases n <;> simp [rd, h]
theorem rd_else (n : Nat) (l : List UInt8) (h : leafy l = false) : rd n l = rdS n l := by
  cases n <;> simp [rd, rdS, h]

end Go.Proofs.Ytghggcehloiemaa.P
namespace Go.Proofs.Ytghggcehloiemaa
open Go.RowKit
set_option linter.unusedVariables false
set_option maxRecDepth 16000

theorem Try.infoPart : (Try.prog.info? 99).map (fun i => (i.zero, i.size, i.bytes)) = some (some (.agg #[.int .i64 0, .int .u8 0, .int .i64 0, .int .i64 0]), 4, 32) := by kernel_rfl

def ptCells (x : P.Pt) : List Value := [.int .i64 x.kind, .int .u8 x.mark, .int .i64 x.place, .int .i64 x.size]
def cellsOf (ps : List P.Pt) : List Value := ps.flatMap ptCells
theorem cellsOf_length (ps : List P.Pt) : (cellsOf ps).length = ps.length * 4 := by
  induction ps with
  | nil => rfl
  | cons x xs ih => simp [cellsOf, ptCells] at *; omega
theorem cellsOf_append (ps qs : List P.Pt) : cellsOf (ps ++ qs) = cellsOf ps ++ cellsOf qs := by simp [cellsOf]

/-- A reader at block b: its text, where it stands, the parts so far. -/
structure Rd (w : World) (b : Nat) (s : ByteArray) (i : Nat) (v : Value) (ps : List P.Pt) : Prop where
  cur : Cur w b s i v 92
  own : w.ownsRow (b + 1) 99 4 v ps.length (cellsOf ps)
  here : i ≤ s.size
  short : s.size ≤ 80
  few : ps.length ≤ i

theorem Only.own {b : Nat} {w w' : World} {e : TypeId} {size n : Nat} {v : Value} {xs : List Value} (ho : Only b w w') (h : w.ownsRow (b + 1) e size v n xs) : w'.ownsRow (b + 1) e size v n xs := by
  obtain ⟨h1, h2⟩ := h
  refine ⟨h1, ?_⟩
  rcases h2 with h2 | ⟨g, cap, cur, hv, hb, hg, hr⟩
  · exact .inl h2
  · exact .inr ⟨g, cap, cur, hv, hb, by rw [ho.block g (by omega)]; exact hg, hr⟩

set_option maxHeartbeats 400000 in
theorem roundUp_any (e p : Nat) (w : World) (he : e ≤ 100000) (hp1 : 1 ≤ p) (hp2 : p ≤ 16) :
    Calls Try.prog 99 #[.int .i64 e, .int .i64 p] w fun r w' => r = .returned (.int .i64 (P.up e p)) ∧ w' = w := by
  have h1 : ¬ (p : Int) < 1 := by omega
  have hz : ((p : Int) == 0) = false := by rw [beq_eq_false_iff_ne]; omega
  go_enter Try.func99, Try.ntmps99
  go_wp2
  go_ret
  refine ⟨congrArg (fun x : Int => Ending.returned (.int .i64 x)) ?_, rfl⟩
  have hq : (((e + p - 1) / p * p : Nat) : Int) = ((e : Int) + p - 1) / p * p := by
    rw [Int.natCast_mul, Int.natCast_ediv]; congr 2; omega
  have hle : (e + p - 1) / p * p ≤ e + p - 1 := Nat.div_mul_le_self _ _
  rw [← hq]
  unfold P.up
  unfold wrap64; omega
theorem cell_four_new (w : World) (a b c d : Value) (t : TypeId) : ∀ j u, [a, b, c, d][j]? = some u → (w.alloc (.cells #[a, b, c, d] t)).cell? ((⟨w.heap.size, 0, none⟩ : Addr).add j) = some u :=
  World.news_of_block (heap_alloc_new w _)
theorem grown_cur {w1 w3 : World} {b j : Nat} {s : ByteArray} {v : Value} {T e : TypeId} {size n : Nat} {xs : List Value} {o : Obj} (hc : Cur w1 b s j v T) (hown : w1.ownsRow (b + 1) e size v n xs) (hg : (w1.alloc o).grownBy w3 v.ownBlock) : Cur w3 b s j v T := by
  have hl := hc.lt
  unfold Cur at *
  rw [hg.block b (by simp; omega) (fun h => by have := (hown.lt _ h.symm).1; omega), Below.heap_alloc _ _ _ hl]
  exact hc
theorem grown_rd {w1 w3 : World} {b j : Nat} {s : ByteArray} {v v' : Value} {ps : List P.Pt} {x : P.Pt} {o : Obj} (hc : Cur w1 b s j v 92) (hown : w1.ownsRow (b + 1) 99 4 v ps.length (cellsOf ps)) (hg : (w1.alloc o).grownBy w3 v.ownBlock)
    (hown' : w3.ownsRow (b + 1) 99 4 v' (ps.length + 1) (cellsOf ps ++ ptCells x)) (hj : j ≤ s.size) (hs : s.size ≤ 80) (hf : ps.length + 1 ≤ j) : Rd (w3.setCell ⟨b, 2, none⟩ v') b s j v' (ps ++ [x]) ∧ Below b w1 (w3.setCell ⟨b, 2, none⟩ v') := by
  have hc3 := grown_cur hc hown hg
  have hl := hc.lt
  refine ⟨⟨hc3.set2 v', ?_, hj, hs, by simpa using hf⟩, ?_⟩
  · have := ((Only.refl b w3).setCell 2 v').own hown'
    simpa [cellsOf] using this
  · exact (Below.grown ((Below.refl b w1).alloc (by omega) o) hg (by simp; omega) (fun k hk => by have := (hown.lt _ hk).1; omega)).setCell (Nat.le_refl _) v'
set_option maxHeartbeats 400000 in
theorem readMark_no {b i : Nat} {s : ByteArray} {m : UInt8} {w : World} {v : Value} {ps : List P.Pt} (h : Rd w b s i v ps) (hh : hit s i m = false) :
    Calls Try.prog 98 #[.pointer (some ⟨b, 0, none⟩), .int .u8 m.toNat] w fun e w' => e = .returned (.bool false) ∧ Rd w' b s i v ps ∧ Below b w w' := by
  go_enter Try.func98, Try.ntmps98
  go_wp2_with (go_at_call 70; refine (skip_no h.cur hh).mono ?_; rintro e w' ⟨rfl, hc, ho⟩)
  go_ret
  exact ⟨rfl, ⟨hc, ho.own h.own, h.here, h.short, h.few⟩, ho.below (Nat.le_refl _)⟩
set_option maxHeartbeats 400000 in
theorem readMark_yes {b i : Nat} {s : ByteArray} {m : UInt8} {w : World} {v : Value} {ps : List P.Pt} (h : Rd w b s i v ps) (hh : hit s i m = true) :
    Calls Try.prog 98 #[.pointer (some ⟨b, 0, none⟩), .int .u8 m.toNat] w fun e w' => e = .returned (.bool true) ∧ i < s.size ∧ (∃ v', Rd w' b s (i + 1) v' (ps ++ [P.markP m.toNat])) ∧ Below b w w' := by
  have hs := h.short
  have hfew := h.few
  obtain ⟨i0, hi0, hz0, hz1, hz2⟩ := info_parts Try.infoPart
  go_enter Try.func98, Try.ntmps98
  go_wp2_with (first
    | (go_at_call 70; refine (skip_yes h.cur (by unfold maxLen; omega) hh).mono ?_; rintro e w1 ⟨rfl, hi, hc, ho⟩; have c2 := hc.c2; have hown := ho.own h.own)
    | (at_builtin; refine wpList_append_lies _ rfl _ _ 52 rfl (b + 1) 99 i0 (.agg #[.int .i64 0, .int .u8 0, .int .i64 0, .int .i64 0]) 4 32 Try.underlying52 hi0 hz0 hz1 hz2 rfl (by decide) v ps.length (cellsOf ps) rfl (hown.alloc _) ⟨w1.heap.size, 0, none⟩ 1 1 (ptCells (P.markP m.toNat)) rfl rfl (cell_four_new _ _ _ _ _ _) (fun x hx => by simp [ptCells] at hx; rcases hx with rfl | rfl | rfl | rfl <;> rfl) (by omega) (by unfold maxLen; omega) (by omega) (by have := hc.lt; simp; omega) _ rfl ?_; intro g cap w3 hown' hgrow hat hlt
       have hc3 := grown_cur hc hown hgrow
       have cf := hc3.fz 2; have cc := hc3.c2
       have X := grown_rd hc hown hgrow hown' hi hs (by omega)))
  go_ret
  exact ⟨rfl, hi, ⟨_, X.1⟩, (ho.below (Nat.le_refl _)).trans X.2⟩

/-- A leaf's post: 'bytes' or 'number' was read. -/
def LeafPost (num : Bool) (s : ByteArray) (i b : Nat) (ps : List P.Pt) (w : World) (e : Ending) (w' : World) : Prop :=
  (match P.rdnum (if num then 4 else 16) (s.data.toList.drop i) with
    | some (n, k) => if n = 0 ∨ (num = true ∧ n = 3) then e = .returned (.tuple #[.int .i64 0, .int .i64 0, .bool false])
      else e = .returned (.tuple #[.int .i64 (P.lsz (num, n)).1, .int .i64 (P.lsz (num, n)).2, .bool true]) ∧ i + k ≤ s.size ∧ ∃ v', Rd w' b s (i + k) v' (ps ++ [P.lpart (num, n)])
    | none => e = .returned (.tuple #[.int .i64 0, .int .i64 0, .bool false])) ∧ Below b w w'

theorem rdnum_le {most : Nat} {l : List UInt8} {n k : Nat} (h : P.rdnum most l = some (n, k)) : n ≤ most := by
  unfold P.rdnum at h
  split at h
  · cases h
  · rename_i hn
    simp at h hn
    omega

set_option maxHeartbeats 1000000 in
theorem readNumber_any {b i : Nat} {s : ByteArray} {w : World} {v : Value} {ps : List P.Pt} (h : Rd w b s i v ps) (hpos : 1 ≤ i) (hfew : ps.length + 1 ≤ i) :
    Calls Try.prog 71 #[.pointer (some ⟨b, 0, none⟩)] w fun e w' => LeafPost true s i b ps w e w' := by
  have hs := h.short
  obtain ⟨i0, hi0, hz0, hz1, hz2⟩ := info_parts Try.infoPart
  go_enter Try.func71, Try.ntmps71
  go_wp2_with fail
  refine (number_any 4 (by omega) h.cur (by unfold maxLen; omega) h.here).mono ?_
  rintro e w1 ⟨hpost, ho⟩
  cases hn : P.rdnum 4 (s.data.toList.drop i) with
  | none =>
    simp only [hn] at hpost
    have Hn : Hid (P.rdnum 4 (s.data.toList.drop i) = none) := hn
    clear hn
    obtain ⟨rfl, _⟩ := hpost
    go_wp2_with fail
    go_ret3
    refine ⟨?_, ho.below (Nat.le_refl _)⟩
    simp [Hn.out]
  | some x =>
    obtain ⟨n, k⟩ := x
    have hle := rdnum_le hn
    simp only [hn] at hpost
    have Hn : Hid (P.rdnum 4 (s.data.toList.drop i) = some (n, k)) := hn
    clear hn
    obtain ⟨rfl, hik, hc⟩ := hpost
    have c2 := hc.c2
    have hown := ho.own h.own
    by_cases hbad : n = 0 ∨ n = 3
    · have hb : ((n : Int) == 0 || (n : Int) == 3) = true := by simp; omega
      rcases hbad with rfl | rfl
      · go_wp2_with fail
        go_ret3
        refine ⟨?_, ho.below (Nat.le_refl _)⟩
        simp [Hn.out]
      · go_wp2_with fail
        go_ret3
        refine ⟨?_, ho.below (Nat.le_refl _)⟩
        simp [Hn.out]
    · have HB : Hid (¬ (n = 0 ∨ n = 3)) := hbad
      have hb0 : ((n : Int) == 0) = false := by rw [beq_eq_false_iff_ne]; omega
      have hb3 : ((n : Int) == 3) = false := by rw [beq_eq_false_iff_ne]; omega
      clear hbad
      go_wp2_with (first
      | (at_builtin; refine wpList_append_lies _ rfl _ _ 52 rfl (b + 1) 99 i0 (.agg #[.int .i64 0, .int .u8 0, .int .i64 0, .int .i64 0]) 4 32 Try.underlying52 hi0 hz0 hz1 hz2 rfl (by decide) v ps.length (cellsOf ps) rfl (hown.alloc _) ⟨w1.heap.size, 0, none⟩ 1 1 (ptCells (P.lpart (true, n))) rfl rfl (cell_four_new _ _ _ _ _ _) (fun x hx => by simp [ptCells] at hx; rcases hx with rfl | rfl | rfl | rfl <;> rfl) (by omega) (by unfold maxLen; omega) (by omega) (by have := hc.lt; simp; omega) _ rfl ?_; intro g cap w3 hown' hgrow hat hlt
         have hc3 := grown_cur hc hown hgrow
         have cf := hc3.fz 2; have cc := hc3.c2
         have X := grown_rd hc hown hgrow hown' hik hs (by omega)))
      go_ret3
      refine ⟨?_, (ho.below (Nat.le_refl _)).trans X.2⟩
      simp only [Hn.out, if_true]
      rw [if_neg (by simpa using HB.out)]
      exact ⟨rfl, hik, _, X.1⟩

set_option maxHeartbeats 1000000 in
theorem readBytes_any {b i : Nat} {s : ByteArray} {w : World} {v : Value} {ps : List P.Pt} (h : Rd w b s i v ps) (hpos : 1 ≤ i) (hfew : ps.length + 1 ≤ i) :
    Calls Try.prog 72 #[.pointer (some ⟨b, 0, none⟩)] w fun e w' => LeafPost false s i b ps w e w' := by
  have hs := h.short
  obtain ⟨i0, hi0, hz0, hz1, hz2⟩ := info_parts Try.infoPart
  go_enter Try.func72, Try.ntmps72
  go_wp2_with fail
  refine (number_any 16 (by omega) h.cur (by unfold maxLen; omega) h.here).mono ?_
  rintro e w1 ⟨hpost, ho⟩
  cases hn : P.rdnum 16 (s.data.toList.drop i) with
  | none =>
    simp only [hn] at hpost
    have Hn : Hid (P.rdnum 16 (s.data.toList.drop i) = none) := hn
    clear hn
    obtain ⟨rfl, _⟩ := hpost
    go_wp2_with fail
    go_ret3
    refine ⟨?_, ho.below (Nat.le_refl _)⟩
    simp [Hn.out]
  | some x =>
    obtain ⟨n, k⟩ := x
    have hle := rdnum_le hn
    simp only [hn] at hpost
    have Hn : Hid (P.rdnum 16 (s.data.toList.drop i) = some (n, k)) := hn
    clear hn
    obtain ⟨rfl, hik, hc⟩ := hpost
    have c2 := hc.c2
    have hown := ho.own h.own
    by_cases hbad : n = 0
    · subst hbad
      go_wp2_with fail
      go_ret3
      refine ⟨?_, ho.below (Nat.le_refl _)⟩
      simp [Hn.out]
    · have HB : Hid (¬ (n = 0)) := hbad
      have hb0 : ((n : Int) == 0) = false := by rw [beq_eq_false_iff_ne]; omega
      clear hbad
      go_wp2_with (first
      | (at_builtin; refine wpList_append_lies _ rfl _ _ 52 rfl (b + 1) 99 i0 (.agg #[.int .i64 0, .int .u8 0, .int .i64 0, .int .i64 0]) 4 32 Try.underlying52 hi0 hz0 hz1 hz2 rfl (by decide) v ps.length (cellsOf ps) rfl (hown.alloc _) ⟨w1.heap.size, 0, none⟩ 1 1 (ptCells (P.lpart (false, n))) rfl rfl (cell_four_new _ _ _ _ _ _) (fun x hx => by simp [ptCells] at hx; rcases hx with rfl | rfl | rfl | rfl <;> rfl) (by omega) (by unfold maxLen; omega) (by omega) (by have := hc.lt; simp; omega) _ rfl ?_; intro g cap w3 hown' hgrow hat hlt
         have hc3 := grown_cur hc hown hgrow
         have cf := hc3.fz 2; have cc := hc3.c2
         have X := grown_rd hc hown hgrow hown' hik hs (by omega)))
      go_ret3
      refine ⟨?_, (ho.below (Nat.le_refl _)).trans X.2⟩
      simp only [Hn.out, Bool.false_eq_true, if_false]
      rw [if_neg (by simpa using HB.out)]
      exact ⟨rfl, hik, _, X.1⟩

end Go.Proofs.Ytghggcehloiemaa
namespace Go.Proofs.Ytghggcehloiemaa.P

def Good (n : Nat) (t : Ty n) : Prop := 1 ≤ (sz n t).2 ∧ (sz n t).2 ≤ 4 ∧ ∀ x ∈ parts n t, x.place ≤ (sz n t).1

theorem rdnum_some {most : Nat} {l : List UInt8} {n k : Nat} (h : rdnum most l = some (n, k)) : n ≤ most ∧ 1 ≤ k ∧ k ≤ l.length := by
  unfold rdnum at h
  split at h
  · cases h
  · rename_i hn
    have hl : (digs l).length ≤ l.length := by
      unfold digs
      exact (List.takeWhile_sublist _).length_le
    simp at h
    have h1 : digs l ≠ [] := fun e => hn (Or.inl e)
    have h2 : 0 < (digs l).length := List.length_pos_iff.2 h1
    refine ⟨?_, by omega, by omega⟩
    rcases Nat.lt_or_ge most (val (digs l)) with h3 | h3
    · exact absurd (Or.inr (Or.inr h3)) hn
    · omega

theorem rdLeaf_good {l : List UInt8} {x : (Bool × Nat) × List UInt8} (h : rdLeaf l = some x) : 1 ≤ (lsz x.1).2 ∧ (lsz x.1).2 ≤ 4 ∧ (lsz x.1).1 ≤ 16 ∧ 1 ≤ (lsz x.1).1 ∧ x.2.length + 2 ≤ l.length := by
  unfold rdLeaf at h
  cases l with
  | nil => cases h
  | cons c r =>
    simp only at h
    split at h
    · cases hn : rdnum 4 r with
      | none => rw [hn] at h; cases h
      | some y =>
        obtain ⟨k, m⟩ := y
        obtain ⟨h1, h2, h3⟩ := rdnum_some hn
        rw [hn] at h
        simp only at h
        split at h
        · cases h
        · cases h; simp [lsz]; omega
    · cases hn : rdnum 16 r with
      | none => rw [hn] at h; cases h
      | some y =>
        obtain ⟨k, m⟩ := y
        obtain ⟨h1, h2, h3⟩ := rdnum_some hn
        rw [hn] at h
        simp only at h
        split at h
        · cases h
        · cases h; simp [lsz]; omega

theorem lay1_le {a b : Nat × Nat} (hb1 : 1 ≤ b.2) (hb4 : b.2 ≤ 4) : a.1 + b.1 ≤ (lay1 a b).1 ∧ (lay1 a b).1 ≤ a.1 + 3 + b.1 ∧ up a.1 b.2 + b.1 = (lay1 a b).1 := by
  have h1 := up_le a.1 b.2 hb1
  have h2 := le_up a.1 b.2 hb1
  simp only [lay1]; refine ⟨?_, ?_, trivial⟩ <;> omega

theorem fold_step {l : List (Nat × Nat)} : (∀ x ∈ l, 1 ≤ x.2 ∧ x.2 ≤ 4) → ∀ a : Nat × Nat, 1 ≤ a.2 → a.2 ≤ 4 → 1 ≤ (l.foldl lay1 a).2 ∧ (l.foldl lay1 a).2 ≤ 4 ∧ a.1 ≤ (l.foldl lay1 a).1 := by
  induction l with
  | nil => intro _ a h1 h2; exact ⟨h1, h2, Nat.le_refl _⟩
  | cons x l ih =>
    intro h a h1 h2
    have hx := h x (by simp)
    have hl := lay1_le (a := a) hx.1 hx.2
    have := ih (fun y hy => h y (by simp [hy])) (lay1 a x) (by simp [lay1]; omega) (by simp [lay1]; omega)
    rw [List.foldl_cons]
    omega

theorem body_le (xs : List (List Pt × (Nat × Nat))) : (∀ y ∈ xs, 1 ≤ y.2.2 ∧ y.2.2 ≤ 4 ∧ ∀ z ∈ y.1, z.place ≤ y.2.1) → ∀ a : Nat × Nat, 1 ≤ a.2 → a.2 ≤ 4 → ∀ z ∈ body a xs, z.place ≤ ((xs.map (·.2)).foldl lay1 a).1 := by
  induction xs with
  | nil => intro _ a _ _ z hz; simp [body] at hz
  | cons x xs ih =>
    intro h a h1 h2 z hz
    have hx := h x (by simp)
    have hl := lay1_le (a := a) hx.1 hx.2.1
    have hm2 : 1 ≤ (lay1 a x.2).2 ∧ (lay1 a x.2).2 ≤ 4 := by simp only [lay1]; omega
    have hmono := fold_step (l := xs.map (·.2)) (by
      intro y hy
      obtain ⟨q, hq, rfl⟩ := List.mem_map.1 hy
      have := h q (by simp [hq]); exact ⟨this.1, this.2.1⟩) (lay1 a x.2) hm2.1 hm2.2
    simp only [List.map_cons, List.foldl_cons]
    rw [body, List.mem_append, List.mem_cons] at hz
    rcases hz with hz | rfl | hz
    · obtain ⟨q, hq, rfl⟩ := List.mem_map.1 hz
      have := hx.2.2 q hq
      simp only [Pt.sh]
      omega
    · simp [markP]
    · exact ih (fun y hy => h y (by simp [hy])) _ hm2.1 hm2.2 z hz

theorem good_struct {n : Nat} {ts : List (Ty n)} (h : ∀ t ∈ ts, Good n t) : Good (n + 1) (.inr ts) := by
  have hs : ∀ x ∈ ts.map (sz n), 1 ≤ x.2 ∧ x.2 ≤ 4 := by
    intro x hx
    obtain ⟨t, ht, rfl⟩ := List.mem_map.1 hx
    exact ⟨(h t ht).1, (h t ht).2.1⟩
  obtain ⟨h1, h2, _⟩ := fold_step hs (0, 1) (by simp) (by simp)
  have e : (ts.map (fun t => (parts n t, sz n t))).map (·.2) = ts.map (sz n) := by simp [Function.comp_def]
  have hup := le_up (fold (ts.map (sz n))).1 (fold (ts.map (sz n))).2 h1
  refine ⟨h1, h2, ?_⟩
  intro x hx
  have hb : ∀ z ∈ body (0, 1) (ts.map fun t => (parts n t, sz n t)), z.place ≤ (fold (ts.map (sz n))).1 := by
    have := body_le (ts.map fun t => (parts n t, sz n t)) (by
      intro y hy
      obtain ⟨t, ht, rfl⟩ := List.mem_map.1 hy
      exact h t ht) (0, 1) (by simp) (by simp)
    rw [e] at this; exact this
  simp only [parts, List.mem_cons, List.mem_append] at hx
  simp only [sz, closed]
  rcases hx with rfl | hx | hx
  · simp [markP]
  · have := hb x (List.dropLast_subset _ hx); omega
  · simp at hx; subst hx; simp [markP]

theorem rdF_good {n : Nat} (ih : ∀ l t r, rd n l = some (t, r) → Good n t ∧ (sz n t).1 + 16 * r.length ≤ 16 * l.length) :
    ∀ (k : Nat) (acc : List (Ty n)) (s : List UInt8) (ts : List (Ty n)) (r : List UInt8) (M : Nat), rdF (rd n) k acc s = some (ts, r) → (∀ t ∈ acc, Good n t) → (fold (acc.map (sz n))).1 + 16 * s.length ≤ M →
    (∀ t ∈ ts, Good n t) ∧ (fold (ts.map (sz n))).1 + 3 + 16 * r.length ≤ M := by
  intro k
  induction k with
  | zero => intro acc s ts r M h; simp [rdF] at h
  | succ k ihk =>
    intro acc s ts r M h hacc hM
    rw [rdF] at h
    split at h
    · cases h
    · cases h
    · rename_i t c r' hf
      obtain ⟨hg, hle⟩ := ih _ _ _ hf
      have hgs : ∀ x ∈ acc ++ [t], Good n x := by
        intro x hx
        rcases List.mem_append.1 hx with hx | hx
        · exact hacc x hx
        · simp at hx; subst hx; exact hg
      have hl := lay1_le (a := fold (acc.map (sz n))) hg.1 hg.2.1
      have hfd : fold ((acc ++ [t]).map (sz n)) = lay1 (fold (acc.map (sz n))) (sz n t) := by rw [List.map_append, List.map_cons, List.map_nil, fold_snoc]
      simp only [List.length_cons] at hle
      split at h
      · cases h
        refine ⟨hgs, ?_⟩
        rw [hfd]; omega
      · split at h
        · exact ihk _ _ _ _ M h hgs (by rw [hfd]; omega)
        · cases h

theorem rd_good : ∀ (n : Nat) (l : List UInt8) (t : Ty n) (r : List UInt8), rd n l = some (t, r) → Good n t ∧ (sz n t).1 + 16 * r.length ≤ 16 * l.length := by
  intro n
  have leafcase : ∀ (n : Nat) (l : List UInt8) (t : Ty n) (r : List UInt8), (rdLeaf l).map (fun x => (lf n x.1, x.2)) = some (t, r) → Good n t ∧ (sz n t).1 + 16 * r.length ≤ 16 * l.length := by
    intro n l t r h
    cases hx : rdLeaf l with
    | none => rw [hx] at h; cases h
    | some x =>
      rw [hx] at h
      simp at h
      obtain ⟨rfl, rfl⟩ := h
      have hg := rdLeaf_good hx
      refine ⟨⟨by rw [sz_lf]; exact hg.1, by rw [sz_lf]; exact hg.2.1, ?_⟩, by rw [sz_lf]; omega⟩
      rw [parts_lf]
      intro y hy
      simp at hy; subst hy; simp [lpart]
  induction n with
  | zero =>
    intro l t r h
    by_cases hl : leafy l = true
    · rw [rd_leafy _ _ hl] at h; exact leafcase 0 l t r h
    · simp [rd, hl] at h
  | succ n ih =>
    intro l t r h
    by_cases hl : leafy l = true
    · rw [rd_leafy _ _ hl] at h; exact leafcase _ l t r h
    · rw [rd_else _ _ (by simpa using hl)] at h
      cases l with
      | nil => simp [rdS] at h
      | cons c s =>
        simp only [rdS] at h
        split at h
        · cases hx : rdF (rd n) 8 [] s with
          | none => rw [hx] at h; cases h
          | some x =>
            obtain ⟨ts, r'⟩ := x
            rw [hx] at h
            simp at h
            obtain ⟨rfl, rfl⟩ := h
            obtain ⟨hg, hle⟩ := rdF_good ih 8 [] s ts _ (16 * s.length) hx (by simp) (by simp [fold])
            have hgd := good_struct hg
            refine ⟨hgd, ?_⟩
            have h1 := hgd.1
            have h2 := hgd.2.1
            simp only [sz, closed] at h1 h2 ⊢
            have := up_le (fold (ts.map (sz n))).1 (fold (ts.map (sz n))).2 h1
            simp only [List.length_cons]
            omega
        · cases h

end Go.Proofs.Ytghggcehloiemaa.P
namespace Go.Proofs.Ytghggcehloiemaa
open Go.RowKit
set_option linter.unusedVariables false
set_option maxRecDepth 16000

theorem cellsOf_get (ps : List P.Pt) : ∀ (i k : Nat) (x : P.Pt), ps[i]? = some x → k < 4 → (cellsOf ps)[i * 4 + k]? = (ptCells x)[k]? := by
  induction ps with
  | nil => intro i k x h; simp at h
  | cons y ps ih =>
    intro i k x h hk
    have e : cellsOf (y :: ps) = ptCells y ++ cellsOf ps := by simp [cellsOf]
    have hl : (ptCells y).length = 4 := rfl
    rw [e]
    cases i with
    | zero =>
      simp at h; subst h
      rw [List.getElem?_append_left (by omega)]; simp
    | succ i =>
      simp at h
      rw [List.getElem?_append_right (by omega), hl, show (i + 1) * 4 + k - 4 = i * 4 + k by omega]
      exact ih i k x h hk
theorem cellsOf_set (A B : List P.Pt) (x : P.Pt) (q : Nat) : (cellsOf (A ++ x :: B)).set (A.length * 4 + 2) (.int .i64 q) = cellsOf (A ++ { x with place := q } :: B) := by
  have hl := cellsOf_length A
  have e1 : cellsOf (A ++ x :: B) = cellsOf A ++ (ptCells x ++ cellsOf B) := by simp [cellsOf]
  have e2 : cellsOf (A ++ { x with place := q } :: B) = cellsOf A ++ (ptCells { x with place := q } ++ cellsOf B) := by simp [cellsOf]
  rw [e1, e2, List.set_append_right _ _ (by omega)]
  congr 1
  rw [show A.length * 4 + 2 - (cellsOf A).length = 2 by omega]
  simp [ptCells]

/-- Where the parts lie. -/
theorem rd_cell {w : World} {b j g n cap : Nat} {s : ByteArray} {A B : List P.Pt} {x : P.Pt} (h : Rd w b s j (.slice (some ⟨g, 0, none⟩) n cap) (A ++ x :: B)) : w.cell? ⟨g, A.length * 4 + 2, none⟩ = some (.int .i64 x.place) ∧ w.frozen? ⟨g, A.length * 4 + 2, none⟩ = false ∧ n = A.length + 1 + B.length ∧ n ≤ cap ∧ cap ≤ maxLen := by
  have hx := h.own
  obtain ⟨h1, h2⟩ := hx
  rcases h2 with ⟨h2, _⟩ | ⟨g', cap', cur, hv, hb, hg, hn, hm, hsz, htk⟩
  · cases h2
  · cases hv
    refine ⟨?_, by simp [World.frozen?, hg], by simp; omega, hn, hm⟩
    rw [cell_of_row w g _ _ _ _ hg]
    have hget := cellsOf_get (A ++ x :: B) A.length 2 x (by simp) (by omega)
    rw [← htk] at hget
    rw [List.getElem?_take_of_lt (by simp; omega)] at hget
    simpa [ptCells] using hget
theorem rd_set {w : World} {b j g n cap : Nat} {s : ByteArray} {A B : List P.Pt} {x : P.Pt} (h : Rd w b s j (.slice (some ⟨g, 0, none⟩) n cap) (A ++ x :: B)) (q : Nat) :
    Rd (w.setCell ⟨g, A.length * 4 + 2, none⟩ (.int .i64 q)) b s j (.slice (some ⟨g, 0, none⟩) n cap) (A ++ { x with place := q } :: B) ∧ Below b w (w.setCell ⟨g, A.length * 4 + 2, none⟩ (.int .i64 q)) := by
  have hx := h.own
  obtain ⟨h1, h2⟩ := hx
  rcases h2 with ⟨h2, _⟩ | ⟨g', cap', cur, hv, hb, hg, hn, hm, hsz, htk⟩
  · cases h2
  · cases hv
    refine ⟨⟨?_, ⟨?_, .inr ⟨g, cap, cur.setIfInBounds (A.length * 4 + 2) (.int .i64 q), by simp, hb, ?_, by simpa using hn, hm, by simpa using hsz, ?_⟩⟩, h.here, h.short, by simpa using h.few⟩, (Below.refl _ _).setCell (by simp; omega) _⟩
    · have := h.cur
      unfold Cur at *
      rw [Below.heap_setCell _ _ _ _ (by simp; omega)]; exact this
    · rw [cellsOf_length]
    · simp [World.setCell, Array.getElem?_modify, hg]
    · rw [← cellsOf_set, ← htk]
      simp [List.take_set]

set_option maxHeartbeats 1000000 in
theorem shift_any {b j : Nat} {s : ByteArray} {w : World} {v : Value} {ps qs : List P.Pt} {p : Nat} (h : Rd w b s j v (ps ++ qs)) (hp : p ≤ 100000) (hq : ∀ x ∈ qs, x.place ≤ 100000) :
    Calls Try.prog 100 #[.pointer (some ⟨b, 0, none⟩), .int .i64 ps.length, .int .i64 p] w fun e w' => e = .returned (.tuple #[]) ∧ Rd w' b s j v (ps ++ qs.map (P.Pt.sh p)) ∧ Below b w w' := by
  have hs := h.short
  have hfew := h.few
  have hj := h.here
  simp only [List.length_append] at hfew
  go_enter Try.func100, Try.ntmps100
  go_wp2_with fail
  go_loopw [6] (fun i wr => ∃ (don tod : List P.Pt) (K : Nat), qs = don ++ tod ∧ K = ps.length + don.length ∧ i = .int .i64 K ∧ Rd wr b s j v (ps ++ don.map (P.Pt.sh p) ++ tod) ∧ Below b w wr) (fun i _ => ps.length + qs.length - (intOf i).toNat)
  case atStart => exact ⟨[], qs, ps.length, rfl, rfl, rfl, by simpa using h, Below.refl _ _⟩
  case round =>
    obtain ⟨don, tod, K, hqs, hK, rfl, hrd, hbw⟩ := hrel
    have HQ : Hid (qs = don ++ tod) := hqs
    have HK : Hid (K = ps.length + don.length) := hK
    have hlen : K + tod.length ≤ j := by rw [hqs, List.length_append] at hfew; omega
    have hlen2 : K + tod.length ≤ qs.length + ps.length := by rw [hqs, List.length_append]; omega
    have c2 := hrd.cur.c2
    have hlt := hrd.cur.lt
    clear hqs
    cases tod with
    | nil =>
      rw [List.append_nil] at hrd
      have hl : (ps ++ don.map (P.Pt.sh p)).length = K := by simp; omega
      have hfin : don = qs := by have := HQ.out; simpa using this.symm
      have how := hrd.own
      rw [hl] at how
      have HF : Hid (Rd wr b s j v (ps ++ don.map (P.Pt.sh p))) := hrd
      have HD : Hid (don = qs) := hfin
      clear hfin hrd hl hK
      rcases how.2 with ⟨rfl, h0⟩ | ⟨g, cap, cur, rfl, _⟩
      · clear how
        have HZ : Hid (K = 0) := h0
        have h00 : ¬ ((K : Int) < 0) := by omega
        clear h0
        go_wp2_with fail
        go_end0
        exact ⟨rfl, by rw [← HD.out]; exact HF.out, hbw⟩
      · clear how
        go_wp2_with fail
        go_end0
        exact ⟨rfl, by rw [← HD.out]; exact HF.out, hbw⟩
    | cons x tod =>
      simp only [List.length_cons] at hlen hlen2
      obtain ⟨g, cap, hv, _, _⟩ := hrd.own.form (by simp; omega)
      obtain ⟨N, hN⟩ : ∃ N, N = (ps ++ don.map (P.Pt.sh p) ++ x :: tod).length := ⟨_, rfl⟩
      rw [← hN] at hv
      subst hv
      obtain ⟨cc, cf, hn, hn2, hn3⟩ := rd_cell hrd
      have hset := rd_set hrd (x.place + p)
      have hA : (ps ++ don.map (P.Pt.sh p)).length = K := by simp; omega
      rw [hA] at cc cf hn hset
      have hxp : x.place ≤ 100000 := hq x (by rw [HQ.out]; simp)
      have HS : Hid _ := hset
      have hKN : (K : Int) < (N : Int) := by omega
      unfold maxLen at hn3
      have hNb : N ≤ 80 := by have := hrd.few; omega
      have h0K : (0 : Int) ≤ (K : Int) := by omega
      clear hset hN hn hK hA hrd hq
      go_wp2_with fail
      refine ⟨⟨don ++ [x], tod, K + 1, by rw [HQ.out]; simp, by have := HK.out; simp; omega, by go_num, ?_, hbw.trans HS.out.2⟩, by simp [intOf]; omega⟩
      have hfin := HS.out.1
      rw [show ps ++ List.map (P.Pt.sh p) (don ++ [x]) ++ tod = ps ++ don.map (P.Pt.sh p) ++ { x with place := x.place + p } :: tod by simp [P.Pt.sh]]
      exact hfin
end Go.Proofs.Ytghggcehloiemaa
namespace Go.Proofs.Ytghggcehloiemaa
open Go.RowKit
set_option linter.unusedVariables false
set_option maxRecDepth 16000

/-- What a reading of a type answers. -/
def RdPost (n : Nat) (o : Option (P.Ty n × List UInt8)) (s : ByteArray) (i b : Nat) (ps : List P.Pt) (w : World) (e : Ending) (w' : World) : Prop :=
  (match o with
    | some (t, r) => e = .returned (.tuple #[.int .i64 (P.sz n t).1, .int .i64 (P.sz n t).2, .bool true]) ∧ ∃ j v', i ≤ j ∧ s.data.toList.drop j = r ∧ Rd w' b s j v' (ps ++ P.parts n t)
    | none => e = .returned (.tuple #[.int .i64 0, .int .i64 0, .bool false])) ∧ Below b w w'
theorem RdPost.no {n : Nat} {o : Option (P.Ty n × List UInt8)} {s : ByteArray} {i b : Nat} {ps : List P.Pt} {w w' : World} {e : Ending} (ho : o = none) (he : e = .returned (.tuple #[.int .i64 0, .int .i64 0, .bool false])) (hb : Below b w w') : RdPost n o s i b ps w e w' := by
  subst ho; exact ⟨he, hb⟩
theorem RdPost.yes {n : Nat} {o : Option (P.Ty n × List UInt8)} {s : ByteArray} {i b : Nat} {ps : List P.Pt} {w w' : World} {e : Ending} {t : P.Ty n} {r : List UInt8} {j : Nat} {v' : Value} (ho : o = some (t, r)) (he : e = .returned (.tuple #[.int .i64 (P.sz n t).1, .int .i64 (P.sz n t).2, .bool true])) (hj : i ≤ j) (hr : s.data.toList.drop j = r) (hrd : Rd w' b s j v' (ps ++ P.parts n t)) (hb : Below b w w') : RdPost n o s i b ps w e w' := by
  subst ho; exact ⟨⟨he, j, v', hj, hr, hrd⟩, hb⟩
theorem RdPost.trans {n : Nat} {o : Option (P.Ty n × List UInt8)} {s : ByteArray} {i i' b : Nat} {ps : List P.Pt} {w w1 w' : World} {e : Ending} (h : RdPost n o s i' b ps w1 e w') (hb : Below b w w1) (hi : i ≤ i') : RdPost n o s i b ps w e w' := by
  obtain ⟨h1, h2⟩ := h
  refine ⟨?_, hb.trans h2⟩
  cases o with
  | none => exact h1
  | some x => obtain ⟨t, r⟩ := x; obtain ⟨he, j, v', hj, hr⟩ := h1; exact ⟨he, j, v', by omega, hr⟩

theorem hit_yes {s : ByteArray} {i : Nat} {m : UInt8} (h : hit s i m = true) : s.data.toList.drop i = m :: s.data.toList.drop (i + 1) := by
  have h' : s.data.toList[i]? = some m := by simpa [hit] using h
  obtain ⟨hl, he⟩ := List.getElem?_eq_some_iff.1 h'
  rw [List.drop_eq_getElem_cons hl, he]
theorem hit_no {s : ByteArray} {i : Nat} {m : UInt8} (h : hit s i m = false) : (s.data.toList.drop i).head? ≠ some m := by
  intro hh
  rw [List.head?_drop] at hh
  simp [hit, hh] at h

theorem leaf_to_rd {n : Nat} {num : Bool} {s : ByteArray} {i b : Nat} {ps : List P.Pt} {w w1 w' : World} {e : Ending} (h : LeafPost num s (i + 1) b ps w1 e w') (hb : Below b w w1) (hh : hit s i (if num then 117 else 98) = true) : RdPost n (P.rd n (s.data.toList.drop i)) s i b ps w e w' := by
  obtain ⟨h1, h2⟩ := h
  have hd := hit_yes hh
  have hl : P.leafy (s.data.toList.drop i) = true := by rw [hd]; cases num <;> simp [P.leafy]
  rw [P.rd_leafy _ _ hl, hd]
  cases hn : P.rdnum (if num then 4 else 16) (s.data.toList.drop (i + 1)) with
  | none =>
    rw [hn] at h1
    refine RdPost.no ?_ h1 (hb.trans h2)
    cases num <;> simp_all [P.rdLeaf]
  | some x =>
    obtain ⟨k, m⟩ := x
    rw [hn] at h1
    simp only at h1
    split at h1
    · rename_i hbad
      refine RdPost.no ?_ h1 (hb.trans h2)
      cases num <;> simp_all [P.rdLeaf]
    · rename_i hok
      obtain ⟨he, hik, v', hrd⟩ := h1
      refine RdPost.yes (t := P.lf n (num, k)) (r := (s.data.toList.drop (i + 1)).drop m) (j := i + 1 + m) (v' := v') ?_ (by rw [P.sz_lf]; exact he) (by omega) (by rw [List.drop_drop]) (by rw [P.parts_lf]; exact hrd) (hb.trans h2)
      cases num <;> simp_all [P.rdLeaf]

def RS (n : Nat) : Prop := ∀ (b i d : Nat) (s : ByteArray) (w : World) (v : Value) (ps : List P.Pt), d + n = 5 → Rd w b s i v ps →
  Calls Try.prog 73 #[.pointer (some ⟨b, 0, none⟩), .int .i64 d] w fun e w' => RdPost n (P.rdS n (s.data.toList.drop i)) s i b ps w e w'
def RT (n : Nat) : Prop := ∀ (b i d : Nat) (s : ByteArray) (w : World) (v : Value) (ps : List P.Pt), d + n = 4 → Rd w b s i v ps →
  Calls Try.prog 50 #[.pointer (some ⟨b, 0, none⟩), .int .i64 d] w fun e w' => RdPost n (P.rd n (s.data.toList.drop i)) s i b ps w e w'

theorem Rd.move {w w1 : World} {b i : Nat} {s : ByteArray} {v : Value} {ps : List P.Pt} (h : Rd w b s i v ps) (hc : Cur w1 b s (i + 1) v 92) (ho : Only b w w1) (hi : i < s.size) : Rd w1 b s (i + 1) v ps :=
  ⟨hc, ho.own h.own, hi, h.short, by have := h.few; omega⟩
theorem Rd.stay {w w1 : World} {b i : Nat} {s : ByteArray} {v : Value} {ps : List P.Pt} (h : Rd w b s i v ps) (hc : Cur w1 b s i v 92) (ho : Only b w w1) : Rd w1 b s i v ps :=
  ⟨hc, ho.own h.own, h.here, h.short, h.few⟩

theorem triple (b : Nat) {e : Ending} {w' : World} {n : Nat} {o : Option (P.Ty n × List UInt8)} {s : ByteArray} {i : Nat} {ps : List P.Pt} {w : World} (h : RdPost n o s i b ps w e w') :
    ∃ (x y : Int) (z : Bool), e = .returned (.tuple #[.int .i64 x, .int .i64 y, .bool z]) := by
  obtain ⟨h1, _⟩ := h
  cases o with
  | none => exact ⟨_, _, _, h1⟩
  | some x => exact ⟨_, _, _, h1.1⟩

set_option maxHeartbeats 1000000 in
theorem readType_of {n : Nat} (hS : RS n) : RT n := by
  intro b i d s w v ps hd h
  have hs := h.short
  have hdb : d ≤ 4 := by omega
  by_cases h117 : hit s i 117 = true
  · have HH : Hid (hit s i 117 = true) := h117
    clear h117
    go_enter Try.func50, Try.ntmps50
    go_wp2_with fail
    refine (skip_yes (m := 117) h.cur (by unfold maxLen; omega) HH.out).mono ?_
    rintro e w1 ⟨rfl, hi, hc, ho⟩
    go_wp2_with fail
    refine (readNumber_any (h.move hc ho hi) (by omega) (by have := h.few; omega)).mono ?_
    intro e w2 hp
    have hp2 := leaf_to_rd (n := n) hp (ho.below (Nat.le_refl _)) HH.out
    obtain ⟨x, y, z, rfl⟩ := triple b hp2
    have HP := hp2
    clear hp2 hp
    go_wp2_with fail
    go_ret3
    exact HP
  · have hno : hit s i 117 = false := by simpa using h117
    by_cases h98 : hit s i 98 = true
    · have HH : Hid (hit s i 98 = true) := h98
      have HN : Hid (hit s i 117 = false) := hno
      clear h98 hno h117
      go_enter Try.func50, Try.ntmps50
      go_wp2_with fail
      refine (skip_no (m := 117) h.cur HN.out).mono ?_
      rintro e w1 ⟨rfl, hc, ho⟩
      have h1 := h.stay hc ho
      have hbe := ho.below (Nat.le_refl b)
      clear hc ho
      go_wp2_with fail
      refine (skip_yes (m := 98) h1.cur (by unfold maxLen; omega) HH.out).mono ?_
      rintro e w2 ⟨rfl, hi, hc, ho⟩
      go_wp2_with fail
      refine (readBytes_any (h1.move hc ho hi) (by omega) (by have := h.few; omega)).mono ?_
      intro e w3 hp
      have hp2 := leaf_to_rd (n := n) hp (hbe.trans (ho.below (Nat.le_refl _))) HH.out
      obtain ⟨x, y, z, rfl⟩ := triple b hp2
      have HP := hp2
      clear hp2 hp
      go_wp2_with fail
      go_ret3
      exact HP
    · have HH : Hid (hit s i 98 = false) := by simpa [Hid] using h98
      have HN : Hid (hit s i 117 = false) := hno
      clear h98 hno h117
      go_enter Try.func50, Try.ntmps50
      go_wp2_with fail
      refine (skip_no (m := 117) h.cur HN.out).mono ?_
      rintro e w1 ⟨rfl, hc, ho⟩
      have h1 := h.stay hc ho
      have hbe := ho.below (Nat.le_refl b)
      clear hc ho
      go_wp2_with fail
      refine (skip_no (m := 98) h1.cur HH.out).mono ?_
      rintro e w2 ⟨rfl, hc, ho⟩
      have h2 := h1.stay hc ho
      have hbe2 := hbe.trans (ho.below (Nat.le_refl b))
      clear hc ho
      go_wp2_with fail
      refine (hS b i (d + 1) s _ v ps (by omega) h2).mono ?_
      intro e w3 hp
      have hl : P.leafy (s.data.toList.drop i) = false := by
        simp only [P.leafy, Bool.or_eq_false_iff, beq_eq_false_iff_ne]
        exact ⟨hit_no HN.out, hit_no HH.out⟩
      have hp2 : RdPost n (P.rd n (s.data.toList.drop i)) s i b ps w e w3 := by rw [P.rd_else _ _ hl]; exact hp.trans hbe2 (Nat.le_refl _)
      obtain ⟨x, y, z, rfl⟩ := triple b hp2
      have HP := hp2
      clear hp2 hp hl
      go_wp2_with fail
      go_ret3
      exact HP
end Go.Proofs.Ytghggcehloiemaa
namespace Go.Proofs.Ytghggcehloiemaa
open Go.RowKit
set_option linter.unusedVariables false
set_option maxRecDepth 16000

set_option maxHeartbeats 400000 in
theorem readStruct_zero : RS 0 := by
  intro b i d s w v ps hd h
  have hd5 : (4 : Int) < (d : Int) := by omega
  clear h
  go_enter Try.func73, Try.ntmps73
  go_wp2_with fail
  go_ret3
  exact RdPost.no rfl rfl (Below.refl _ _)

theorem rdF_no {α : Type} {f : List UInt8 → Option (α × List UInt8)} {k : Nat} {acc : List α} {l : List UInt8} (h : f l = none) : P.rdF f (k + 1) acc l = none := by simp [P.rdF, h]
theorem rdF_close {α : Type} {f : List UInt8 → Option (α × List UInt8)} {k : Nat} {acc : List α} {l r : List UInt8} {t : α} (h : f l = some (t, 125 :: r)) : P.rdF f (k + 1) acc l = some (acc ++ [t], r) := by simp [P.rdF, h]
theorem rdF_comma {α : Type} {f : List UInt8 → Option (α × List UInt8)} {k : Nat} {acc : List α} {l r : List UInt8} {t : α} (h : f l = some (t, 44 :: r)) : P.rdF f (k + 1) acc l = P.rdF f k (acc ++ [t]) r := by simp [P.rdF, h]
theorem rdF_bad {α : Type} {f : List UInt8 → Option (α × List UInt8)} {k : Nat} {acc : List α} {l r : List UInt8} {t : α} (h : f l = some (t, r)) (h1 : r.head? ≠ some 125) (h2 : r.head? ≠ some 44) : P.rdF f (k + 1) acc l = none := by
  rw [P.rdF, h]
  cases r with
  | nil => rfl
  | cons c r => simp at h1 h2; simp [h1, h2]

/-- What holds at the head of each round of 'readStruct'. -/
structure Inv (m : Nat) (b i : Nat) (s : ByteArray) (ps : List P.Pt) (w : World) (ts : List (P.Ty m)) (p e1 e2 : Nat) (v' : Value) (wr : World) : Prop where
  rd : Rd wr b s p v' (ps ++ P.markP 123 :: P.body (0, 1) (ts.map fun t => (P.parts m t, P.sz m t)))
  below : Below b w wr
  go : P.rdF (P.rd m) (8 - ts.length) ts (s.data.toList.drop p) = P.rdF (P.rd m) 8 [] (s.data.toList.drop (i + 1))
  le : i + 1 ≤ p
  fold : P.fold (ts.map (P.sz m)) = (e1, e2)
  few : ts.length ≤ 8
  b1 : e1 + 16 * (s.size - p) ≤ 1280
  b2 : 1 ≤ e2
  b3 : e2 ≤ 4

theorem rdS_eq {m : Nat} {s : ByteArray} {i : Nat} (hh : hit s i 123 = true) : P.rdS (m + 1) (s.data.toList.drop i) = (P.rdF (P.rd m) 8 [] (s.data.toList.drop (i + 1))).map (fun x => (.inr x.1, x.2)) := by
  rw [hit_yes hh]; simp [P.rdS]
theorem rdS_no {m : Nat} {s : ByteArray} {i : Nat} (hh : hit s i 123 = false) : P.rdS (m + 1) (s.data.toList.drop i) = none := by
  have h := hit_no hh
  cases hl : s.data.toList.drop i with
  | nil => rfl
  | cons c r => rw [hl] at h; simp at h; simp [P.rdS, h]

theorem shift_at {b j first : Nat} {s : ByteArray} {w : World} {v : Value} {ps qs : List P.Pt} {p : Nat} (h : Rd w b s j v (ps ++ qs)) (hf : first = ps.length) (hp : p ≤ 100000) (hq : ∀ x ∈ qs, x.place ≤ 100000) :
    Calls Try.prog 100 #[.pointer (some ⟨b, 0, none⟩), .int .i64 first, .int .i64 p] w fun e w' => e = .returned (.tuple #[]) ∧ Rd w' b s j v (ps ++ qs.map (P.Pt.sh p)) ∧ Below b w w' := by
  subst hf; exact shift_any h hp hq

set_option maxHeartbeats 2000000 in
theorem readStruct_of {m : Nat} (hT : RT m) : RS (m + 1) := by
  intro b i d s w v ps hd h
  have hs := h.short
  have hd5 : ¬ (4 : Int) < (d : Int) := by omega
  by_cases h123 : hit s i 123 = true
  · have HH : Hid (hit s i 123 = true) := h123
    clear h123
    go_enter Try.func73, Try.ntmps73
    go_wp2_with fail
    refine (readMark_yes (m := 123) h HH.out).mono ?_
    rintro e w1 ⟨rfl, hi, ⟨v1, h1⟩, hbe⟩
    clear h
    go_wp2_with fail
    go_loopw [7, 8, 9] (fun x y z wr => ∃ (ts : List (P.Ty m)) (p e1 e2 : Nat) (v' : Value), x = .int .i64 e1 ∧ y = .int .i64 e2 ∧ z = .int .i64 ts.length ∧ Inv m b i s ps w ts p e1 e2 v' wr) (fun _ _ z _ => 8 - (intOf z).toNat)
    case atStart => exact ⟨[], i + 1, 0, 1, v1, rfl, rfl, rfl, ⟨by simpa [P.body] using h1, hbe, rfl, Nat.le_refl _, rfl, by simp, by omega, by omega, by omega⟩⟩
    case round =>
      obtain ⟨ts, p, e1, e2, v', rfl, rfl, rfl, hinv⟩ := hrel
      clear h1 hbe
      obtain ⟨K, hK⟩ : ∃ K, K = ts.length := ⟨_, rfl⟩
      rw [← hK]
      have HK : Hid (K = ts.length) := hK
      clear hK
      have he1 := hinv.b1
      have he2 := hinv.b2
      have he3 := hinv.b3
      have hfew := hinv.few
      by_cases hlt : K < 8
      · obtain ⟨g, cap, hv, _, _⟩ := hinv.rd.own.form (by simp; omega)
        obtain ⟨N, hN⟩ : ∃ N, N = (ps ++ P.markP 123 :: P.body (0, 1) (ts.map fun t => (P.parts m t, P.sz m t))).length := ⟨_, rfl⟩
        rw [← hN] at hv
        subst hv
        have HNN : Hid (N = _) := hN
        clear hN
        have c2 := hinv.rd.cur.c2
        go_wp2_with fail
        refine (hT b p d s _ _ _ (by omega) hinv.rd).mono ?_
        rintro e w2 ⟨hpost, hbe2⟩
        clear c2
        cases hrd : P.rd m (s.data.toList.drop p) with
        | none =>
          rw [hrd] at hpost
          simp only at hpost
          subst hpost
          have hgo : P.rdS (m + 1) (s.data.toList.drop i) = none := by
            rw [rdS_eq HH.out, ← hinv.go, ← HK.out, show 8 - K = (8 - K - 1) + 1 by omega, rdF_no hrd]; rfl
          have HG : Hid (P.rdS (m + 1) (s.data.toList.drop i) = none) := hgo
          have HB : Below b w w2 := hinv.below.trans hbe2
          clear hrd hgo
          go_wp2_with fail
          go_ret3
          exact RdPost.no HG.out rfl HB
        | some x =>
          obtain ⟨t, r⟩ := x
          have hgood := P.rd_good m _ t r hrd
          rw [hrd] at hpost
          simp only at hpost
          obtain ⟨rfl, j, v2, hpj, hjr, hrd2⟩ := hpost
          have hj := hrd2.here
          have hfold := hinv.fold
          have hle := hinv.le
          obtain ⟨⟨hg1, hg2, hg3⟩, hg4⟩ := hgood
          obtain ⟨fs, hfs⟩ : ∃ fs, fs = (P.sz m t).1 := ⟨_, rfl⟩
          obtain ⟨fp, hfp⟩ : ∃ fp, fp = (P.sz m t).2 := ⟨_, rfl⟩
          have hsz : P.sz m t = (fs, fp) := by rw [hfs, hfp]
          rw [← hfs] at hg3 hg4
          rw [← hfp] at hg1 hg2
          rw [← hjr] at hg4
          simp only [List.length_drop, Array.length_toList, ByteArray.size_data] at hg4
          have hgp : Hid (∀ x ∈ P.parts m t, x.place ≤ fs) := hg3
          obtain ⟨U, hU⟩ : ∃ U, P.up e1 fp = U := ⟨_, rfl⟩
          have hU1 : e1 ≤ U := by rw [← hU]; exact P.le_up _ _ hg1
          have hU2 : U ≤ e1 + 3 := by have := P.up_le e1 fp hg1; omega
          have HU : Hid (P.up e1 fp = U) := hU
          have Hrd : Hid (P.rd m (s.data.toList.drop p) = some (t, r)) := hrd
          have Hr : Hid (s.data.toList.drop j = r) := hjr
          have HFS : Hid (P.sz m t = (fs, fp)) := hsz
          have HF : Hid (P.fold (ts.map (P.sz m)) = (e1, e2)) := hfold
          have HMM : Hid ((((ts.map fun t => (P.parts m t, P.sz m t)).map (·.2)).foldl P.lay1 (0, 1)) = (e1, e2)) := by
            have e : (ts.map (fun t => (P.parts m t, P.sz m t))).map (·.2) = ts.map (P.sz m) := by simp [Function.comp_def]
            unfold Hid; rw [e]; exact hfold
          have HB : Below b w w2 := hinv.below.trans hbe2
          rw [← hfs, ← hfp]
          clear hg3 hU hrd hjr hsz hfold hfs hfp hbe2
          have hbig : fs ≤ 1280 := by omega
          by_cases hmax : (e2 : Int) < (fp : Int)
          · have HFOLD : Hid (P.fold ((ts ++ [t]).map (P.sz m)) = (U + fs, fp)) := by
              unfold Hid; rw [List.map_append, List.map_cons, List.map_nil, P.fold_snoc, HF.out, HFS.out]; simp only [P.lay1, HU.out]; congr 1; omega
            have HSZ : Hid (P.sz (m + 1) (.inr (ts ++ [t])) = (P.up (U + fs) fp, fp)) := by
              unfold Hid; simp only [P.sz, P.closed, HFOLD.out]
            go_wp2_with fail
            refine (roundUp_any e1 fp _ (by omega) (by omega) (by omega)).mono ?_
            rintro e w3 ⟨rfl, rfl⟩
            rw [HU.out]
            go_wp2_with fail
            refine (shift_at hrd2 HNN.out (by omega) (fun x hx => Nat.le_trans (hgp.out x hx) (by omega))).mono ?_
            rintro e w4 ⟨rfl, hrd4, hbe4⟩
            by_cases h125 : hit s j 125 = true
            · have H5 : Hid (hit s j 125 = true) := h125
              clear h125
              go_wp2_with fail
              refine (readMark_yes (m := 125) hrd4 H5.out).mono ?_
              rintro e w5 ⟨rfl, hj5, ⟨v5, hrd5⟩, hbe5⟩
              go_wp2_with fail
              refine (roundUp_any (U + fs) fp _ (by omega) (by omega) (by omega)).mono ?_
              rintro e w6 ⟨rfl, rfl⟩
              go_wp2_with fail
              go_ret3
              refine RdPost.yes (t := .inr (ts ++ [t])) (r := s.data.toList.drop (j + 1)) (j := j + 1) (v' := v5) ?_ ?_ (by omega) rfl ?_ (HB.trans (hbe4.trans hbe5))
              · rw [rdS_eq HH.out, ← hinv.go, ← HK.out, show 8 - K = (8 - K - 1) + 1 by omega, rdF_close (by rw [Hrd.out, ← Hr.out, hit_yes H5.out])]; rfl
              · rw [HSZ.out]; rfl
              · rw [P.parts_struct, HF.out, HFS.out]
                simpa [HU.out] using hrd5
            · have H5 : Hid (hit s j 125 = false) := by simpa [Hid] using h125
              clear h125
              by_cases h44 : hit s j 44 = true
              · have H4 : Hid (hit s j 44 = true) := h44
                clear h44
                go_wp2_with fail
                refine (readMark_no (m := 125) hrd4 H5.out).mono ?_
                rintro e w5 ⟨rfl, hrd5, hbe5⟩
                go_wp2_with fail
                refine (readMark_yes (m := 44) hrd5 H4.out).mono ?_
                rintro e w6 ⟨rfl, hj6, ⟨v6, hrd6⟩, hbe6⟩
                go_wp2_with fail
                refine ⟨⟨ts ++ [t], j + 1, U + fs, fp, v6, by go_num, rfl, by have := HK.out; simp; omega, ⟨?_, HB.trans (hbe4.trans (hbe5.trans hbe6)), ?_, by omega, HFOLD.out, by have := HK.out; simp; omega, by omega, by omega, by omega⟩⟩, by simp [intOf]; omega⟩
                · rw [List.map_append, List.map_cons, List.map_nil, P.body_snoc, HMM.out, HFS.out]
                  simpa [HU.out] using hrd6
                · rw [← hinv.go]
                  have e8 : 8 - ts.length = (8 - (ts ++ [t]).length) + 1 := by have := HK.out; simp; omega
                  rw [e8, rdF_comma (by rw [Hrd.out, ← Hr.out, hit_yes H4.out])]
              · have H4 : Hid (hit s j 44 = false) := by simpa [Hid] using h44
                clear h44
                go_wp2_with fail
                refine (readMark_no (m := 125) hrd4 H5.out).mono ?_
                rintro e w5 ⟨rfl, hrd5, hbe5⟩
                go_wp2_with fail
                refine (readMark_no (m := 44) hrd5 H4.out).mono ?_
                rintro e w6 ⟨rfl, hrd6, hbe6⟩
                go_wp2_with fail
                go_ret3
                refine RdPost.no ?_ rfl (HB.trans (hbe4.trans (hbe5.trans hbe6)))
                rw [rdS_eq HH.out, ← hinv.go, ← HK.out, show 8 - K = (8 - K - 1) + 1 by omega, rdF_bad Hrd.out (by rw [← Hr.out]; exact hit_no H5.out) (by rw [← Hr.out]; exact hit_no H4.out)]; rfl
          · have HFOLD : Hid (P.fold ((ts ++ [t]).map (P.sz m)) = (U + fs, e2)) := by
              unfold Hid; rw [List.map_append, List.map_cons, List.map_nil, P.fold_snoc, HF.out, HFS.out]; simp only [P.lay1, HU.out]; congr 1; omega
            have HSZ : Hid (P.sz (m + 1) (.inr (ts ++ [t])) = (P.up (U + fs) e2, e2)) := by
              unfold Hid; simp only [P.sz, P.closed, HFOLD.out]
            go_wp2_with fail
            refine (roundUp_any e1 fp _ (by omega) (by omega) (by omega)).mono ?_
            rintro e w3 ⟨rfl, rfl⟩
            rw [HU.out]
            go_wp2_with fail
            refine (shift_at hrd2 HNN.out (by omega) (fun x hx => Nat.le_trans (hgp.out x hx) (by omega))).mono ?_
            rintro e w4 ⟨rfl, hrd4, hbe4⟩
            by_cases h125 : hit s j 125 = true
            · have H5 : Hid (hit s j 125 = true) := h125
              clear h125
              go_wp2_with fail
              refine (readMark_yes (m := 125) hrd4 H5.out).mono ?_
              rintro e w5 ⟨rfl, hj5, ⟨v5, hrd5⟩, hbe5⟩
              go_wp2_with fail
              refine (roundUp_any (U + fs) e2 _ (by omega) (by omega) (by omega)).mono ?_
              rintro e w6 ⟨rfl, rfl⟩
              go_wp2_with fail
              go_ret3
              refine RdPost.yes (t := .inr (ts ++ [t])) (r := s.data.toList.drop (j + 1)) (j := j + 1) (v' := v5) ?_ ?_ (by omega) rfl ?_ (HB.trans (hbe4.trans hbe5))
              · rw [rdS_eq HH.out, ← hinv.go, ← HK.out, show 8 - K = (8 - K - 1) + 1 by omega, rdF_close (by rw [Hrd.out, ← Hr.out, hit_yes H5.out])]; rfl
              · rw [HSZ.out]; rfl
              · rw [P.parts_struct, HF.out, HFS.out]
                simpa [HU.out] using hrd5
            · have H5 : Hid (hit s j 125 = false) := by simpa [Hid] using h125
              clear h125
              by_cases h44 : hit s j 44 = true
              · have H4 : Hid (hit s j 44 = true) := h44
                clear h44
                go_wp2_with fail
                refine (readMark_no (m := 125) hrd4 H5.out).mono ?_
                rintro e w5 ⟨rfl, hrd5, hbe5⟩
                go_wp2_with fail
                refine (readMark_yes (m := 44) hrd5 H4.out).mono ?_
                rintro e w6 ⟨rfl, hj6, ⟨v6, hrd6⟩, hbe6⟩
                go_wp2_with fail
                refine ⟨⟨ts ++ [t], j + 1, U + fs, e2, v6, by go_num, rfl, by have := HK.out; simp; omega, ⟨?_, HB.trans (hbe4.trans (hbe5.trans hbe6)), ?_, by omega, HFOLD.out, by have := HK.out; simp; omega, by omega, by omega, by omega⟩⟩, by simp [intOf]; omega⟩
                · rw [List.map_append, List.map_cons, List.map_nil, P.body_snoc, HMM.out, HFS.out]
                  simpa [HU.out] using hrd6
                · rw [← hinv.go]
                  have e8 : 8 - ts.length = (8 - (ts ++ [t]).length) + 1 := by have := HK.out; simp; omega
                  rw [e8, rdF_comma (by rw [Hrd.out, ← Hr.out, hit_yes H4.out])]
              · have H4 : Hid (hit s j 44 = false) := by simpa [Hid] using h44
                clear h44
                go_wp2_with fail
                refine (readMark_no (m := 125) hrd4 H5.out).mono ?_
                rintro e w5 ⟨rfl, hrd5, hbe5⟩
                go_wp2_with fail
                refine (readMark_no (m := 44) hrd5 H4.out).mono ?_
                rintro e w6 ⟨rfl, hrd6, hbe6⟩
                go_wp2_with fail
                go_ret3
                refine RdPost.no ?_ rfl (HB.trans (hbe4.trans (hbe5.trans hbe6)))
                rw [rdS_eq HH.out, ← hinv.go, ← HK.out, show 8 - K = (8 - K - 1) + 1 by omega, rdF_bad Hrd.out (by rw [← Hr.out]; exact hit_no H5.out) (by rw [← Hr.out]; exact hit_no H4.out)]; rfl
      · have HZ : Hid (8 - ts.length = 0) := by have := HK.out; unfold Hid; omega
        go_wp2_with fail
        go_ret3
        refine RdPost.no ?_ rfl hinv.below
        rw [rdS_eq HH.out, ← hinv.go, HZ.out]; rfl
  · have hno : hit s i 123 = false := by simpa using h123
    have HN : Hid (hit s i 123 = false) := hno
    clear h123 hno
    go_enter Try.func73, Try.ntmps73
    go_wp2_with fail
    refine (readMark_no (m := 123) h HN.out).mono ?_
    rintro e w1 ⟨rfl, _, hbe⟩
    go_wp2_with fail
    go_ret3
    exact RdPost.no (rdS_no HN.out) rfl hbe

theorem reads (n : Nat) : RS n ∧ RT n := by
  induction n with
  | zero => exact ⟨readStruct_zero, readType_of readStruct_zero⟩
  | succ n ih => exact ⟨readStruct_of ih.2, readType_of (readStruct_of ih.2)⟩
end Go.Proofs.Ytghggcehloiemaa
namespace Go.Proofs.Ytghggcehloiemaa
open Go.RowKit
set_option linter.unusedVariables false
set_option maxRecDepth 16000

namespace P
/-- The type that a text is, by the program's reader. -/
def tyOf (l : List UInt8) : Option (Ty 4) := if 80 < l.length then none else match rd 4 l with
  | some (t, []) => if (sz 4 t).1 ≤ 32 then some t else none
  | _ => none
end P

def ParsePost (s : ByteArray) (w : World) (e : Ending) (w' : World) : Prop :=
  (match P.tyOf s.data.toList with
    | some t => ∃ v, e = .returned (.tuple #[.agg #[.int .i64 (P.sz 4 t).1, .int .i64 (P.sz 4 t).2, v], .bool true]) ∧ w'.ownsRow (w.heap.size + 1) 99 4 v (P.parts 4 t).length (cellsOf (P.parts 4 t))
    | none => e = .returned (.tuple #[.agg #[.int .i64 0, .int .i64 0, .slice none 0 0], .bool false])) ∧ Below w.heap.size w w'

theorem cells3 {w : World} {B : Nat} {x y z : Value} {T : TypeId} (h : w.heap[B]? = some (.cells #[x, y, z] T (0, 0))) : w.cell? ⟨B, 0, none⟩ = some x ∧ w.cell? ⟨B, 1, none⟩ = some y ∧ w.cell? ⟨B, 2, none⟩ = some z ∧ w.frozen? ⟨B, 0, none⟩ = false ∧ w.frozen? ⟨B, 1, none⟩ = false ∧ w.frozen? ⟨B, 2, none⟩ = false := by
  refine ⟨?_, ?_, ?_, by simp [World.frozen?, h], by simp [World.frozen?, h], by simp [World.frozen?, h]⟩
  · rw [cell_of_row w B 0 _ _ _ h]; rfl
  · rw [cell_of_row w B 1 _ _ _ h]; rfl
  · rw [cell_of_row w B 2 _ _ _ h]; rfl

theorem owns_slice {w : World} {base : Nat} {e : TypeId} {size n : Nat} {v : Value} {xs : List Value} (h : w.ownsRow base e size v n xs) : ∃ a N cap, v = .slice a N cap := by
  rcases h.2 with ⟨h, _⟩ | ⟨g, cap, cur, h, _⟩
  · exact ⟨_, _, _, h⟩
  · exact ⟨_, _, _, h⟩
theorem owns_drewN {w : World} {base : Nat} {e : TypeId} {size n : Nat} {v : Value} {xs : List Value} (h : w.ownsRow base e size v n xs) (k : Nat) : (w.drewN k).ownsRow base e size v n xs := h
theorem p_owns_less {w : World} {base base' : Nat} {e : TypeId} {size n : Nat} {v : Value} {xs : List Value} (h : w.ownsRow base e size v n xs) (hb : base' ≤ base) : w.ownsRow base' e size v n xs := by
  obtain ⟨h1, h2⟩ := h
  refine ⟨h1, ?_⟩
  rcases h2 with h2 | ⟨g, cap, cur, hv, hb', hr⟩
  · exact .inl h2
  · exact .inr ⟨g, cap, cur, hv, by omega, hr⟩

set_option maxHeartbeats 1000000 in
theorem parse_any (s : ByteArray) (w : World) (hs : s.size ≤ maxLen) :
    Calls Try.prog 27 #[.string s] w fun e w' => ParsePost s w e w' := by
  unfold maxLen at hs
  by_cases hlong : 80 < s.size
  · have HT : Hid (P.tyOf s.data.toList = none) := by unfold Hid P.tyOf; rw [if_pos (by simpa using hlong)]
    have hl2 : (80 : Int) < (s.size : Int) := by omega
    go_enter Try.func27, Try.ntmps27
    go_wp2_with fail
    refine bodyPost_ret (v := .tuple #[.agg #[.int .i64 0, .int .i64 0, .slice none 0 0], .bool false]) (by simp [results, Try.results27, go_sem]) rfl ⟨?_, (Below.refl _ _).alloc (Nat.le_refl _) _⟩
    rw [HT.out]
  · have HL : Hid (¬ 80 < s.data.toList.length) := by simpa [Hid] using hlong
    go_enter Try.func27, Try.ntmps27
    go_wp2_with fail
    refine ((reads 4).2 (w.heap.size + 1) 0 0 s _ (.slice none 0 0) [] rfl ⟨?_, ?_, Nat.zero_le _, by omega, by simp⟩).mono ?_
    · unfold Cur; rw [show w.heap.size + 1 = (w.alloc (Obj.cells #[Value.int IntKind.i64 0, Value.int IntKind.i64 0, Value.slice none 0 0] 54)).heap.size by simp]; exact heap_alloc_new _ _
    · exact World.ownsRow_nil _ _ _ _
    · rintro e w2 ⟨hpost, hbe⟩
      rw [List.drop_zero] at hpost
      have hres : w2.heap[w.heap.size]? = some (.cells #[Value.int IntKind.i64 0, Value.int IntKind.i64 0, Value.slice none 0 0] 54 (0, 0)) := by
        rw [hbe.block _ (by omega), Below.heap_alloc _ _ _ (by simp)]; exact heap_alloc_new _ _
      obtain ⟨c0, c1, c2, f0, f1, f2⟩ := cells3 hres
      have hbw : Below w.heap.size w w2 := (((Below.refl _ _).alloc (Nat.le_refl _) _).alloc (by simp) _).trans (hbe.mono (by omega))
      have hsz2 := hbe.size
      simp at hsz2
      clear hbe
      cases hrd : P.rd 4 s.data.toList with
      | none =>
        rw [hrd] at hpost
        simp only at hpost
        subst hpost
        have HT : Hid (P.tyOf s.data.toList = none) := by unfold Hid P.tyOf; rw [if_neg HL.out, hrd]
        clear hrd hres
        go_wp2_with fail
        refine bodyPost_ret (v := .tuple #[.agg #[.int .i64 0, .int .i64 0, .slice none 0 0], .bool false]) (by simp [results, Try.results27, go_sem, c0, c1, c2]) rfl ⟨?_, ?_⟩
        · rw [HT.out]
        · exact ((hbw.setCell (Nat.le_refl _) _).setCell (Nat.le_refl _) _).setCell (Nat.le_refl _) _
      | some x =>
        obtain ⟨t, r⟩ := x
        rw [hrd] at hpost
        simp only at hpost
        obtain ⟨rfl, j, v2, _, hjr, hrd2⟩ := hpost
        have hgood := P.rd_good 4 _ t r hrd
        rw [List.nil_append] at hrd2
        have hj := hrd2.here
        have hlen : r.length = s.size - j := by rw [← hjr]; simp
        have hbb : (P.sz 4 t).1 ≤ 1280 := by have := hgood.2; simp at this; omega
        have hb2 := hgood.1.2.1
        obtain ⟨fs, hfs⟩ : ∃ fs, (P.sz 4 t).1 = fs := ⟨_, rfl⟩
        obtain ⟨fp, hfp⟩ : ∃ fp, (P.sz 4 t).2 = fp := ⟨_, rfl⟩
        rw [hfs] at hbb
        rw [hfp] at hb2
        rw [hfs, hfp]
        clear hgood
        by_cases hbig : 32 < fs
        · have HT : Hid (P.tyOf s.data.toList = none) := by
            unfold Hid P.tyOf; rw [if_neg HL.out, hrd]
            cases r with
            | nil => simp only; rw [if_neg (by omega)]
            | cons c r => rfl
          clear hrd hres hjr hlen hfs hfp
          go_wp2_with fail
          refine bodyPost_ret (v := .tuple #[.agg #[.int .i64 0, .int .i64 0, .slice none 0 0], .bool false]) (by simp [results, Try.results27, go_sem, c0, c1, c2]) rfl ⟨?_, ?_⟩
          · rw [HT.out]
          · exact ((hbw.setCell (Nat.le_refl _) _).setCell (Nat.le_refl _) _).setCell (Nat.le_refl _) _
        · by_cases hend : s.size ≤ j
          · have HT : Hid (P.tyOf s.data.toList = some t) := by
              unfold Hid P.tyOf; rw [if_neg HL.out, hrd]
              cases r with
              | nil => simp only; rw [if_pos (by omega)]
              | cons c r => simp at hlen; omega
            have H1 : Hid ((P.sz 4 t).1 = fs) := hfs
            have H2 : Hid ((P.sz 4 t).2 = fp) := hfp
            clear hrd hres hjr hlen hfs hfp
            go_wp2_with fail
            refine (ended_any hrd2.cur).mono ?_
            rintro e w3 ⟨rfl, n, rfl⟩
            rw [decide_eq_true hend]
            obtain ⟨a, N, cap, rfl⟩ := owns_slice hrd2.own
            have g2 := hrd2.cur.c2
            go_wp2_with fail
            refine bodyPost_ret (v := .tuple #[.agg #[.int .i64 fs, .int .i64 fp, .slice a N cap], .bool true]) (by simp [results, Try.results27, go_sem, c0, c1, c2]) rfl ⟨?_, ?_⟩
            · rw [HT.out]
              refine ⟨.slice a N cap, by rw [H1.out, H2.out], ?_⟩
              exact p_owns_less (ownsRow_setCell_below (ownsRow_setCell_below (ownsRow_setCell_below (owns_drewN hrd2.own n) (by simp; omega) _) (by simp; omega) _) (by simp; omega) _) (by omega)
            · exact (((below_drewN hbw n).setCell (Nat.le_refl _) _).setCell (Nat.le_refl _) _).setCell (Nat.le_refl _) _
          · have HT : Hid (P.tyOf s.data.toList = none) := by
              unfold Hid P.tyOf; rw [if_neg HL.out, hrd]
              cases r with
              | nil => simp at hlen; omega
              | cons c r => rfl
            clear hrd hres hjr hlen hfs hfp
            go_wp2_with fail
            refine (ended_any hrd2.cur).mono ?_
            rintro e w3 ⟨rfl, n, rfl⟩
            rw [decide_eq_false hend]
            go_wp2_with fail
            refine bodyPost_ret (v := .tuple #[.agg #[.int .i64 0, .int .i64 0, .slice none 0 0], .bool false]) (by simp [results, Try.results27, go_sem, c0, c1, c2]) rfl ⟨?_, ?_⟩
            · rw [HT.out]
            · exact (((below_drewN hbw n).setCell (Nat.le_refl _) _).setCell (Nat.le_refl _) _).setCell (Nat.le_refl _) _
end Go.Proofs.Ytghggcehloiemaa
