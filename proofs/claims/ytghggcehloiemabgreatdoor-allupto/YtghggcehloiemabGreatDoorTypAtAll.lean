import Derived.Test.YtghggcehloiemabGreatDoorRefNumAll
import Derived.Test.YtghggcehloiemabGreatDoorGoodAll
namespace Go.Proofs.YtghggcehloiemabGreatDoor
open Go.RowKit
set_option linter.unusedVariables false
set_option maxRecDepth 16000

namespace P
def allM {α β : Type} (f : α → Option β) : List α → Option (List β)
  | [] => some []
  | x :: xs => match f x with
    | none => none
    | some y => (allM f xs).map (y :: ·)
/-- The reference's reading of a type. -/
def rp : (n : Nat) → List UInt8 → Option (Ty n)
  | 0, l => if l.head? = some 123 then none else (rleaf l).map (lf 0)
  | n + 1, l => if l.head? = some 123 then (match cut l with
      | none => none
      | some ps => if 8 < ps.length then none else (match allM (rp n) ps with
        | none => none
        | some ts => if (sz (n + 1) (.inr ts)).1 ≤ 32 then some (.inr ts) else none)) else (rleaf l).map (lf (n + 1))

def places (a : Nat × Nat) : List (Nat × Nat) → List Nat
  | [] => []
  | x :: xs => up a.1 x.2 :: places (lay1 a x) xs
theorem places_snoc (xs : List (Nat × Nat)) (x : Nat × Nat) : ∀ a, places a (xs ++ [x]) = places a xs ++ [up (xs.foldl lay1 a).1 x.2] := by
  induction xs with
  | nil => intro a; rfl
  | cons y ys ih => intro a; simp [places, ih]
theorem places_length (xs : List (Nat × Nat)) : ∀ a, (places a xs).length = xs.length := by
  induction xs with
  | nil => intro a; rfl
  | cons y ys ih => intro a; simp [places, ih]

theorem rleaf_good {l : List UInt8} {x : Bool × Nat} (h : rleaf l = some x) : 1 ≤ (lsz x).2 ∧ (lsz x).2 ≤ 4 ∧ (lsz x).1 ≤ 32 := by
  unfold rleaf at h
  cases l with
  | nil => cases h
  | cons c r =>
    simp only at h
    split at h
    · split at h
      · cases h; simp only [lsz, if_true]; omega
      · cases h
    · split at h
      · split at h
        · cases h; simp only [lsz]; simp; omega
        · cases h
      · cases h
theorem allM_mem {α β : Type} {f : α → Option β} : ∀ {l : List α} {ys : List β}, allM f l = some ys → ∀ y ∈ ys, ∃ x ∈ l, f x = some y := by
  intro l
  induction l with
  | nil => intro ys h y hy; simp [allM] at h; subst h; simp at hy
  | cons a l ih =>
    intro ys h y hy
    rw [allM] at h
    cases ha : f a with
    | none => rw [ha] at h; cases h
    | some b =>
      rw [ha] at h
      cases hl : allM f l with
      | none => rw [hl] at h; cases h
      | some bs =>
        rw [hl] at h
        simp at h
        subst h
        rcases List.mem_cons.1 hy with rfl | hy
        · exact ⟨a, by simp, ha⟩
        · obtain ⟨x, hx, hf⟩ := ih hl y hy
          exact ⟨x, by simp [hx], hf⟩
theorem rp_good : ∀ (n : Nat) (l : List UInt8) (t : Ty n), rp n l = some t → 1 ≤ (sz n t).2 ∧ (sz n t).2 ≤ 4 ∧ (sz n t).1 ≤ 32 := by
  intro n
  have leafcase : ∀ (n : Nat) (l : List UInt8) (t : Ty n), (rleaf l).map (lf n) = some t → 1 ≤ (sz n t).2 ∧ (sz n t).2 ≤ 4 ∧ (sz n t).1 ≤ 32 := by
    intro n l t h
    cases hx : rleaf l with
    | none => rw [hx] at h; cases h
    | some x => rw [hx] at h; simp at h; subst h; rw [sz_lf]; exact rleaf_good hx
  induction n with
  | zero =>
    intro l t h
    rw [rp] at h
    split at h
    · cases h
    · exact leafcase 0 l t h
  | succ n ih =>
    intro l t h
    rw [rp] at h
    split at h
    · split at h
      · cases h
      · split at h
        · cases h
        · split at h
          · cases h
          · rename_i ts hts
            split at h
            · rename_i hle
              cases h
              obtain ⟨h1, h2, _⟩ := fold_step (l := ts.map (sz n)) (by
                intro x hx
                obtain ⟨t, ht, rfl⟩ := List.mem_map.1 hx
                obtain ⟨y, _, hy⟩ := allM_mem hts t ht
                have := ih _ _ hy
                exact ⟨this.1, this.2.1⟩) (0, 1) (by simp) (by simp)
              exact ⟨h1, h2, hle⟩
            · cases h
    · exact leafcase _ l t h
end P

/-- A row that lies in blocks of S. -/
def RowIn (w : World) (e : TypeId) (size : Nat) (v : Value) (n : Nat) (xs : List Value) (S : Nat → Prop) : Prop := w.ownsRow 0 e size v n xs ∧ ∀ g, v.ownBlock = some g → S g

/-- The value v is the type t, told in w, all that it holds in blocks of S. -/
def TypAt (w : World) : (n : Nat) → P.Ty n → Value → (Nat → Prop) → Prop
  | 0, l, v, _ => v = typV l
  | _ + 1, .inl l, v, _ => v = typV l
  | n + 1, .inr ts, v, S => ∃ (vF vA : Value) (fs : List (Array Value)), v = .agg #[.int .u8 123, .int .i64 (P.sz (n + 1) (.inr ts)).1, .int .i64 (P.sz (n + 1) (.inr ts)).2, vF, vA] ∧
      RowIn w 121 5 vF ts.length (fs.flatMap Array.toList) S ∧ RowIn w 3 1 vA ts.length ((P.places (0, 1) (ts.map (P.sz n))).map fun x : Nat => Value.int .i64 (x : Int)) S ∧ fs.length = ts.length ∧
      ∀ (i : Nat) (t : P.Ty n) (c : Array Value), ts[i]? = some t → fs[i]? = some c → c.size = 5 ∧ TypAt w n t (.agg c) S

theorem owns_of {w w' : World} {base : Nat} {e : TypeId} {size n : Nat} {v : Value} {xs : List Value} (h : w.ownsRow base e size v n xs) (hs : ∀ g, v.ownBlock = some g → w'.heap[g]? = w.heap[g]?) : w'.ownsRow base e size v n xs := by
  obtain ⟨h1, h2⟩ := h
  refine ⟨h1, ?_⟩
  rcases h2 with h2 | ⟨g, cap, cur, rfl, hb, hg, hr⟩
  · exact .inl h2
  · exact .inr ⟨g, cap, cur, rfl, hb, by rw [hs g rfl]; exact hg, hr⟩
theorem RowIn.of {w w' : World} {e : TypeId} {size n : Nat} {v : Value} {xs : List Value} {S S' : Nat → Prop} (h : RowIn w e size v n xs S) (hs : ∀ g, S g → w'.heap[g]? = w.heap[g]?) (hS : ∀ g, S g → S' g) : RowIn w' e size v n xs S' :=
  ⟨owns_of h.1 (fun g hg => hs g (h.2 g hg)), fun g hg => hS g (h.2 g hg)⟩
theorem TypAt.of {w w' : World} : ∀ {n : Nat} {t : P.Ty n} {v : Value} {S S' : Nat → Prop}, TypAt w n t v S → (∀ g, S g → w'.heap[g]? = w.heap[g]?) → (∀ g, S g → S' g) → TypAt w' n t v S' := by
  intro n
  induction n with
  | zero => intro t v S S' h _ _; exact h
  | succ n ih =>
    intro t v S S' h hs hS
    cases t with
    | inl l => exact h
    | inr ts =>
      obtain ⟨vF, vA, fs, hv, hF, hA, hl, hc⟩ := h
      exact ⟨vF, vA, fs, hv, hF.of hs hS, hA.of hs hS, hl, fun i t c ht hc' => ⟨(hc i t c ht hc').1, ih (hc i t c ht hc').2 hs hS⟩⟩

/-- What a value of type Typ looks like. -/
def IsTyp (v : Value) : Prop := ∃ (a b c : Int) (x : Option Addr) (n k : Nat) (y : Option Addr) (m j : Nat), v = .agg #[.int .u8 a, .int .i64 b, .int .i64 c, .slice x n k, .slice y m j]
theorem isTyp_leaf (l : Bool × Nat) : IsTyp (typV l) := ⟨_, _, _, _, _, _, _, _, _, rfl⟩
theorem isTyp_zero : IsTyp zeroTyp := ⟨_, _, _, _, _, _, _, _, _, rfl⟩
theorem owns_form {w : World} {base : Nat} {e : TypeId} {size n : Nat} {v : Value} {xs : List Value} (h : w.ownsRow base e size v n xs) : ∃ a N cap, v = .slice a N cap := by
  rcases h.2 with ⟨h, _⟩ | ⟨g, cap, cur, h, _⟩
  · exact ⟨_, _, _, h⟩
  · exact ⟨_, _, _, h⟩
theorem TypAt.is {w : World} {n : Nat} {t : P.Ty n} {v : Value} {S : Nat → Prop} (h : TypAt w n t v S) : ∃ (a : Int) (x : Option Addr) (n' k : Nat) (y : Option Addr) (m j : Nat), v = .agg #[.int .u8 a, .int .i64 (P.sz n t).1, .int .i64 (P.sz n t).2, .slice x n' k, .slice y m j] := by
  cases n with
  | zero => cases h; exact ⟨_, _, _, _, _, _, _, rfl⟩
  | succ n =>
    cases t with
    | inl l => cases h; exact ⟨_, _, _, _, _, _, _, rfl⟩
    | inr ts =>
      obtain ⟨vF, vA, fs, hv, hF, hA, hl, hc⟩ := h
      obtain ⟨a, N, cap, rfl⟩ := owns_form hF.1
      obtain ⟨a', N', cap', rfl⟩ := owns_form hA.1
      exact ⟨_, _, _, _, _, _, _, hv⟩

end Go.Proofs.YtghggcehloiemabGreatDoor
namespace Go.Proofs.YtghggcehloiemabGreatDoor
open Go.RowKit
set_option linter.unusedVariables false
set_option maxRecDepth 16000

namespace P
def AInv {α β : Type} (f : α → Option β) (ps : List α) (i : Nat) (ts : List β) : Prop := allM f ps = (allM f (ps.drop i)).map (ts ++ ·)
theorem ai_start {α β : Type} (f : α → Option β) (ps : List α) : AInv f ps 0 [] := by
  unfold AInv; rw [List.drop_zero]; cases allM f ps <;> simp
theorem drop_at' {α : Type} {l : List α} {i : Nat} {c : α} (hc : l[i]? = some c) : l.drop i = c :: l.drop (i + 1) := by
  obtain ⟨hl, he⟩ := List.getElem?_eq_some_iff.1 hc
  rw [List.drop_eq_getElem_cons hl, he]
theorem ai_none {α β : Type} {f : α → Option β} {ps : List α} {i : Nat} {ts : List β} {x : α} (h : AInv f ps i ts) (hx : ps[i]? = some x) (hf : f x = none) : allM f ps = none := by
  unfold AInv at h; rw [h, drop_at' hx, allM, hf]; rfl
theorem ai_some {α β : Type} {f : α → Option β} {ps : List α} {i : Nat} {ts : List β} {x : α} {y : β} (h : AInv f ps i ts) (hx : ps[i]? = some x) (hf : f x = some y) : AInv f ps (i + 1) (ts ++ [y]) := by
  unfold AInv at *; rw [h, drop_at' hx, allM, hf]; cases allM f (ps.drop (i + 1)) <;> simp
theorem ai_end {α β : Type} {f : α → Option β} {ps : List α} {i : Nat} {ts : List β} (h : AInv f ps i ts) (hi : ps.length ≤ i) : allM f ps = some ts := by
  unfold AInv at h; rw [h, List.drop_eq_nil_of_le hi]; simp [allM]
end P

theorem Tryz.infoTyp : (Tryz.prog.info? 121).map (fun i => (i.zero, i.size, i.bytes)) = some (some (.agg #[.int .u8 0, .int .i64 0, .int .i64 0, .slice none 0 0, .slice none 0 0]), 5, 72) := by kernel_rfl
theorem Tryz.infoInt : (Tryz.prog.info? 3).map (fun i => (i.zero, i.size, i.bytes)) = some (some (.int .i64 0), 1, 8) := by kernel_rfl

/-- What 'parse' answers. -/
def RpPost (n : Nat) (o : Option (P.Ty n)) (w : World) (e : Ending) (w' : World) : Prop :=
  (match o with
    | some t => ∃ v S, e = .returned (.tuple #[v, .bool true]) ∧ TypAt w' n t v S ∧ ∀ g, S g → w.heap.size ≤ g ∧ g < w'.heap.size
    | none => ∃ v, e = .returned (.tuple #[v, .bool false]) ∧ IsTyp v) ∧ Below w.heap.size w w'
theorem RpPost.no {n : Nat} {o : Option (P.Ty n)} {w w' : World} {e : Ending} {v : Value} (h : o = none) (he : e = .returned (.tuple #[v, .bool false])) (hv : IsTyp v) (hb : Below w.heap.size w w') : RpPost n o w e w' := by
  subst h; exact ⟨⟨v, he, hv⟩, hb⟩
theorem RpPost.yes {n : Nat} {o : Option (P.Ty n)} {w w' : World} {e : Ending} {v : Value} {t : P.Ty n} {S : Nat → Prop} (h : o = some t) (he : e = .returned (.tuple #[v, .bool true])) (hv : TypAt w' n t v S) (hS : ∀ g, S g → w.heap.size ≤ g ∧ g < w'.heap.size) (hb : Below w.heap.size w w') : RpPost n o w e w' := by
  subst h; exact ⟨⟨v, S, he, hv, hS⟩, hb⟩

def RP (n : Nat) : Prop := ∀ (d : Nat) (s : ByteArray) (w : World), d + n = 4 → s.size ≤ 80 →
  Calls Tryz.prog 117 #[.string s, .int .i64 d] w fun e w' => RpPost n (P.rp n s.data.toList) w e w'

structure Cells5 (w : World) (B : Nat) (a b c d e : Value) : Prop where
  blk : w.heap[B]? = some (.cells #[a, b, c, d, e] 121 (0, 0))
theorem cells5 {w : World} {B : Nat} {a b c d e : Value} {T : TypeId} (h : w.heap[B]? = some (.cells #[a, b, c, d, e] T (0, 0))) :
    w.cell? ⟨B, 0, none⟩ = some a ∧ w.cell? ⟨B, 1, none⟩ = some b ∧ w.cell? ⟨B, 2, none⟩ = some c ∧ w.cell? ⟨B, 3, none⟩ = some d ∧ w.cell? ⟨B, 4, none⟩ = some e := by
  refine ⟨?_, ?_, ?_, ?_, ?_⟩ <;> rw [cell_of_row w B _ _ _ _ h] <;> rfl
theorem froz5 {w : World} {B : Nat} {cs : Array Value} {T : TypeId} (h : w.heap[B]? = some (.cells cs T (0, 0))) :
    w.frozen? ⟨B, 0, none⟩ = false ∧ w.frozen? ⟨B, 1, none⟩ = false ∧ w.frozen? ⟨B, 2, none⟩ = false ∧ w.frozen? ⟨B, 3, none⟩ = false ∧ w.frozen? ⟨B, 4, none⟩ = false := by
  refine ⟨?_, ?_, ?_, ?_, ?_⟩ <;> simp [World.frozen?, h]

theorem blk_lt {w : World} {B : Nat} {o : Obj} (h : w.heap[B]? = some o) : B < w.heap.size := by
  rcases Nat.lt_or_ge B w.heap.size with hl | hl
  · exact hl
  · rw [Array.getElem?_eq_none hl] at h; cases h
theorem blk_alloc {w : World} {B : Nat} {o : Obj} (h : w.heap[B]? = some o) (o' : Obj) : (w.alloc o').heap[B]? = some o := by
  rw [Below.heap_alloc _ _ _ (blk_lt h)]; exact h
theorem cells5a {w : World} {B : Nat} {a b c d e : Value} {T : TypeId} (h : w.heap[B]? = some (.cells #[a, b, c, d, e] T (0, 0))) :
    (∀ o, (w.alloc o).cell? ⟨B, 0, none⟩ = some a) ∧ (∀ o, (w.alloc o).cell? ⟨B, 1, none⟩ = some b) ∧ (∀ o, (w.alloc o).cell? ⟨B, 2, none⟩ = some c) ∧ (∀ o, (w.alloc o).cell? ⟨B, 3, none⟩ = some d) ∧ (∀ o, (w.alloc o).cell? ⟨B, 4, none⟩ = some e) :=
  ⟨fun o => (cells5 (blk_alloc h o)).1, fun o => (cells5 (blk_alloc h o)).2.1, fun o => (cells5 (blk_alloc h o)).2.2.1, fun o => (cells5 (blk_alloc h o)).2.2.2.1, fun o => (cells5 (blk_alloc h o)).2.2.2.2⟩
theorem froz5a {w : World} {B : Nat} {cs : Array Value} {T : TypeId} (h : w.heap[B]? = some (.cells cs T (0, 0))) :
    ∀ o k, (w.alloc o).frozen? ⟨B, k, none⟩ = false := fun o k => by simp [World.frozen?, blk_alloc h o]
theorem leaf_is {n : Nat} {l : List UInt8} {w w1 : World} {e : Ending} (h : LeafR l w1 e w) : ∃ v b, e = .returned (.tuple #[v, .bool b]) ∧ IsTyp v := by
  obtain ⟨h1, _⟩ := h
  cases hr : P.rleaf l with
  | none => rw [hr] at h1; exact ⟨_, _, h1, isTyp_zero⟩
  | some x => rw [hr] at h1; exact ⟨_, _, h1, isTyp_leaf x⟩

theorem typAt_lf {n : Nat} {w : World} {l : Bool × Nat} {S : Nat → Prop} : TypAt w n (P.lf n l) (typV l) S := by
  cases n <;> rfl

theorem leaf_to_rp {n : Nat} {l : List UInt8} {w w1 w2 W : World} {e : Ending} (h : LeafR l w1 e w2) (hrp : P.rp n l = (P.rleaf l).map (P.lf n)) (hb : Below w.heap.size w W) : RpPost n (P.rp n l) w e W := by
  obtain ⟨h1, _⟩ := h
  cases hr : P.rleaf l with
  | none => rw [hr] at h1 hrp; exact RpPost.no hrp h1 isTyp_zero hb
  | some x => rw [hr] at h1 hrp; exact RpPost.yes (S := fun _ => False) hrp h1 typAt_lf (fun _ h => h.elim) hb

set_option maxHeartbeats 1000000 in
theorem rparse_leaf {n : Nat} (d : Nat) (s : ByteArray) (w : World) (hs : s.size ≤ 80) (hd : d ≤ 4) (hh : s.data.toList.head? ≠ some 123) :
    Calls Tryz.prog 117 #[.string s, .int .i64 d] w fun e w' => RpPost n (P.rp n s.data.toList) w e w' := by
  have hrp : P.rp n s.data.toList = (P.rleaf s.data.toList).map (P.lf n) := by cases n <;> simp [P.rp, hh]
  have HRP : Hid _ := hrp
  clear hrp
  by_cases h0 : s.size = 0
  · have hb : ((s.size : Int) == 0) = true := by rw [h0]; rfl
    clear hh h0
    go_enter Tryz.func117, Tryz.ntmps117
    go_wp2_with fail
    refine (rleaf_any s _ (by unfold maxLen; omega)).mono ?_
    intro e w2 hL
    obtain ⟨v, b, rfl, a1, a2, a3, x, n1, k1, y, m1, j1, rfl⟩ := leaf_is (n := n) hL
    have hbe := hL.2
    have hres : w2.heap[w.heap.size]? = some (.cells #[.int .u8 0, .int .i64 0, .int .i64 0, .slice none 0 0, .slice none 0 0] 121 (0, 0)) := by
      rw [hbe.block _ (by simp)]; exact heap_alloc_new _ _
    obtain ⟨c0, c1, c2, c3, c4⟩ := cells5a hres
    have cf := froz5a hres
    have hsz := hbe.size
    simp at hsz
    have hbw : Below w.heap.size w w2 := ((Below.refl _ _).alloc (Nat.le_refl _) _).trans (hbe.mono (by simp))
    go_wp2_with fail
    refine bodyPost_ret (v := .tuple #[.agg #[.int .u8 a1, .int .i64 a2, .int .i64 a3, .slice x n1 k1, .slice y m1 j1], .bool b]) (by simp [results, Tryz.results117, go_sem, c0, c1, c2, c3, c4]) rfl ?_
    exact leaf_to_rp hL HRP.out (Below.setCell (Below.setCell (Below.setCell (Below.setCell (Below.setCell (hbw.alloc (by omega) _) (Nat.le_refl _) _) (Nat.le_refl _) _) (Nat.le_refl _) _) (Nat.le_refl _) _) (Nat.le_refl _) _)
  · have hb : ((s.size : Int) == 0) = false := by rw [beq_eq_false_iff_ne]; omega
    have hc : (((s[0]'(by omega)).toNat : Int) != 123) = true := by
      rw [bne_iff_ne]
      intro h
      apply hh
      rw [List.head?_eq_getElem?, get_of (by omega), u8_of (k := 123) h]
    clear hh
    go_enter Tryz.func117, Tryz.ntmps117
    go_wp2_with fail
    refine (rleaf_any s _ (by unfold maxLen; omega)).mono ?_
    intro e w2 hL
    obtain ⟨v, b, rfl, a1, a2, a3, x, n1, k1, y, m1, j1, rfl⟩ := leaf_is (n := n) hL
    have hbe := hL.2
    have hres : w2.heap[w.heap.size]? = some (.cells #[.int .u8 0, .int .i64 0, .int .i64 0, .slice none 0 0, .slice none 0 0] 121 (0, 0)) := by
      rw [hbe.block _ (by simp)]; exact heap_alloc_new _ _
    obtain ⟨c0, c1, c2, c3, c4⟩ := cells5a hres
    have cf := froz5a hres
    have hsz := hbe.size
    simp at hsz
    have hbw : Below w.heap.size w w2 := ((Below.refl _ _).alloc (Nat.le_refl _) _).trans (hbe.mono (by simp))
    go_wp2_with fail
    refine bodyPost_ret (v := .tuple #[.agg #[.int .u8 a1, .int .i64 a2, .int .i64 a3, .slice x n1 k1, .slice y m1 j1], .bool b]) (by simp [results, Tryz.results117, go_sem, c0, c1, c2, c3, c4]) rfl ?_
    exact leaf_to_rp hL HRP.out (Below.setCell (Below.setCell (Below.setCell (Below.setCell (Below.setCell (hbw.alloc (by omega) _) (Nat.le_refl _) _) (Nat.le_refl _) _) (Nat.le_refl _) _) (Nat.le_refl _) _) (Nat.le_refl _) _)

set_option maxHeartbeats 1000000 in
theorem rparse_deep (s : ByteArray) (w : World) (hs : s.size ≤ 80) (hh : s.data.toList.head? = some 123) :
    Calls Tryz.prog 117 #[.string s, .int .i64 4] w fun e w' => RpPost 0 (P.rp 0 s.data.toList) w e w' := by
  have HRP : Hid (P.rp 0 s.data.toList = none) := by unfold Hid; simp [P.rp, hh]
  have h0 : 0 < s.size := by
    rcases Nat.lt_or_ge 0 s.size with h | h
    · exact h
    · have e : s.data.toList = [] := List.eq_nil_of_length_eq_zero (by have := tl_len s; omega)
      rw [e] at hh; cases hh
  have hb : ((s.size : Int) == 0) = false := by rw [beq_eq_false_iff_ne]; omega
  have hc : (((s[0]'(by omega)).toNat : Int) != 123) = false := by
    rw [List.head?_eq_getElem?, get_of h0] at hh
    simp at hh
    rw [hh]; rfl
  clear hh
  go_enter Tryz.func117, Tryz.ntmps117
  go_wp2_with fail
  refine (cut_any s _ (by omega)).mono ?_
  rintro e w2 ⟨hpost, hbe⟩
  have hres : w2.heap[w.heap.size]? = some (.cells #[.int .u8 0, .int .i64 0, .int .i64 0, .slice none 0 0, .slice none 0 0] 121 (0, 0)) := by
    rw [hbe.block _ (by simp)]; exact heap_alloc_new _ _
  obtain ⟨c0, c1, c2, c3, c4⟩ := cells5 hres
  obtain ⟨f0, f1, f2, f3, f4⟩ := froz5 hres
  have hbw : Below w.heap.size w w2 := ((Below.refl _ _).alloc (Nat.le_refl _) _).trans (hbe.mono (by simp))
  have hsl : ∃ a N cap b, e = .returned (.tuple #[.slice a N cap, .bool b]) := by
    cases hcut : P.cut s.data.toList with
    | none => rw [hcut] at hpost; exact ⟨_, _, _, _, hpost⟩
    | some ps =>
      rw [hcut] at hpost
      obtain ⟨ss, v, he, _, ho⟩ := hpost
      obtain ⟨a, N, cap, rfl⟩ := owns_slice' ho
      exact ⟨_, _, _, _, he⟩
  obtain ⟨a, N, cap, b, rfl⟩ := hsl
  clear hpost hres
  cases b
  all_goals
    go_wp2_with fail
    refine bodyPost_ret (v := .tuple #[zeroTyp, .bool false]) (by simp [results, Tryz.results117, go_sem, c0, c1, c2, c3, c4, zeroTyp]) rfl ?_
    exact RpPost.no HRP.out rfl isTyp_zero (Below.setCell (Below.setCell (Below.setCell (Below.setCell (Below.setCell hbw (Nat.le_refl _) _) (Nat.le_refl _) _) (Nat.le_refl _) _) (Nat.le_refl _) _) (Nat.le_refl _) _)
end Go.Proofs.YtghggcehloiemabGreatDoor
namespace Go.Proofs.YtghggcehloiemabGreatDoor
open Go.RowKit
set_option linter.unusedVariables false
set_option maxRecDepth 16000

/-- What stands while the reference gathers a struct's fields: its result's box, its variable t at T, the strings, the two rows; blocks of S are as in w0. -/
structure Q (w : World) (T : Nat) (vS : Value) (ss : List ByteArray) (w0 : World) (S : Nat → Prop) (x1 x2 xF xA vF : Value) (nF : Nat) (XF : List Value) (vA : Value) (nA : Nat) (XA : List Value) (wr : World) : Prop where
  res : wr.heap[w.heap.size]? = some (.cells #[.int .u8 0, .int .i64 0, .int .i64 0, .slice none 0 0, .slice none 0 0] 121 (0, 0))
  lt : w.heap.size < T
  var : wr.heap[T]? = some (.cells #[.int .u8 123, x1, x2, xF, xA] 121 (0, 0))
  strs : wr.ownsRow (w.heap.size + 1) 9 1 vS ss.length (ss.map Value.string)
  strsT : ∀ g, vS.ownBlock = some g → g < T
  rowF : wr.ownsRow (T + 1) 121 5 vF nF XF
  rowA : wr.ownsRow (T + 1) 3 1 vA nA XA
  ne : ∀ g, vF.ownBlock = some g → vA.ownBlock ≠ some g
  foot : ∀ g, S g → T < g ∧ g < wr.heap.size ∧ vF.ownBlock ≠ some g ∧ vA.ownBlock ≠ some g
  keep : ∀ g, S g → wr.heap[g]? = w0.heap[g]?
  below : Below w.heap.size w wr

section
variable {w : World} {T : Nat} {vS : Value} {ss : List ByteArray} {w0 : World} {S : Nat → Prop} {x1 x2 xF xA vF : Value} {nF : Nat} {XF : List Value} {vA : Value} {nA : Nat} {XA : List Value} {wr : World}

theorem Q.tlt (h : Q w T vS ss w0 S x1 x2 xF xA vF nF XF vA nA XA wr) : T < wr.heap.size := blk_lt h.var
/-- A call that makes memory alone; new blocks may come under S. -/
theorem Q.on (h : Q w T vS ss w0 S x1 x2 xF xA vF nF XF vA nA XA wr) {w' : World} (hb : Below wr.heap.size wr w') {S' : Nat → Prop} (hS : ∀ g, S' g → S g ∨ (wr.heap.size ≤ g ∧ g < w'.heap.size)) : Q w T vS ss w' S' x1 x2 xF xA vF nF XF vA nA XA w' := by
  have hT := h.tlt
  have hl := h.lt
  have hsz := hb.size
  have hF : ∀ g, vF.ownBlock = some g → g < wr.heap.size := fun g hg => (h.rowF.lt _ hg).2
  have hA : ∀ g, vA.ownBlock = some g → g < wr.heap.size := fun g hg => (h.rowA.lt _ hg).2
  refine ⟨by rw [hb.block _ (by omega)]; exact h.res, hl, by rw [hb.block _ hT]; exact h.var, owns_of h.strs (fun g hg => hb.block _ (by have := h.strsT g hg; omega)), h.strsT, owns_of h.rowF (fun g hg => hb.block _ (hF g hg)), owns_of h.rowA (fun g hg => hb.block _ (hA g hg)), h.ne, ?_, fun _ _ => rfl, h.below.trans (hb.mono (by omega))⟩
  intro g hg
  rcases hS g hg with h1 | ⟨h1, h2⟩
  · have := h.foot g h1; exact ⟨this.1, by omega, this.2.2⟩
  · exact ⟨by omega, h2, fun e => by have := hF g e; omega, fun e => by have := hA g e; omega⟩
theorem Q.setCell (h : Q w T vS ss w0 S x1 x2 xF xA vF nF XF vA nA XA wr) (k : Nat) (u : Value) {y1 y2 yF yA : Value} (hy : (#[.int .u8 123, x1, x2, xF, xA] : Array Value).setIfInBounds k u = #[.int .u8 123, y1, y2, yF, yA]) : Q w T vS ss w0 S y1 y2 yF yA vF nF XF vA nA XA (wr.setCell ⟨T, k, none⟩ u) := by
  have hl := h.lt
  have ho : ∀ g, g ≠ T → (wr.setCell ⟨T, k, none⟩ u).heap[g]? = wr.heap[g]? := fun g hg => Below.heap_setCell _ _ _ _ hg
  refine ⟨by rw [ho _ (by omega)]; exact h.res, hl, ?_, owns_of h.strs (fun g hg => ho _ (by have := h.strsT g hg; omega)), h.strsT, owns_of h.rowF (fun g hg => ho _ (by have := (h.rowF.lt _ hg).1; omega)), owns_of h.rowA (fun g hg => ho _ (by have := (h.rowA.lt _ hg).1; omega)), h.ne, ?_, ?_, h.below.setCell (by simp; omega) _⟩
  · simp [World.setCell, Array.getElem?_modify, h.var, hy]
  · intro g hg; have := h.foot g hg; exact ⟨this.1, by simpa [World.setCell] using this.2.1, this.2.2⟩
  · intro g hg; have := h.foot g hg; rw [ho _ (by omega)]; exact h.keep g hg
theorem Q.appF (h : Q w T vS ss w0 S x1 x2 xF xA vF nF XF vA nA XA wr) {o : Obj} {w3 : World} {g n k : Nat} {X : List Value} (hg : (wr.alloc o).grownBy w3 vF.ownBlock) (hown : w3.ownsRow (T + 1) 121 5 (.slice (some ⟨g, 0, none⟩) n k) n X) (hat : vF.ownBlock = some g ∨ g = wr.heap.size + 1) :
    Q w T vS ss w0 S x1 x2 xF xA (.slice (some ⟨g, 0, none⟩) n k) n X vA nA XA w3 := by
  have hl := h.lt
  have hT := h.tlt
  have hsz := hg.size
  simp at hsz
  have ho : ∀ j, j < wr.heap.size → vF.ownBlock ≠ some j → w3.heap[j]? = wr.heap[j]? := fun j hj hne => by
    rw [hg.block j (by simp; omega) (fun e => hne e.symm), Below.heap_alloc _ _ _ hj]
  have hlow : ∀ j, j ≤ T → vF.ownBlock ≠ some j := fun j hj e => by have := (h.rowF.lt _ e).1; omega
  refine ⟨by rw [ho _ (by omega) (hlow _ (by omega))]; exact h.res, hl, by rw [ho _ hT (hlow _ (by omega))]; exact h.var, owns_of h.strs (fun j hj => ho _ (by have := h.strsT j hj; omega) (hlow _ (by have := h.strsT j hj; omega))), h.strsT, hown, owns_of h.rowA (fun j hj => ho _ (h.rowA.lt _ hj).2 (fun e => h.ne j e hj)), ?_, ?_, ?_, ?_⟩
  · intro j hj e
    simp [Value.ownBlock] at hj
    subst hj
    rcases hat with hat | hat
    · exact h.ne _ hat e
    · have := (h.rowA.lt _ e).2; omega
  · intro j hj
    have := h.foot j hj
    refine ⟨this.1, by omega, ?_, this.2.2.2⟩
    simp [Value.ownBlock]
    intro e
    subst e
    rcases hat with hat | hat
    · exact this.2.2.1 hat
    · omega
  · intro j hj
    have := h.foot j hj
    rw [ho j this.2.1 this.2.2.1]; exact h.keep j hj
  · exact Below.grown (h.below.alloc (by have := h.below.size; omega) o) hg (by simp; omega) (fun j hj => by have := (h.rowF.lt _ hj).1; omega)
theorem Q.appA (h : Q w T vS ss w0 S x1 x2 xF xA vF nF XF vA nA XA wr) {o : Obj} {w3 : World} {g n k : Nat} {X : List Value} (hg : (wr.alloc o).grownBy w3 vA.ownBlock) (hown : w3.ownsRow (T + 1) 3 1 (.slice (some ⟨g, 0, none⟩) n k) n X) (hat : vA.ownBlock = some g ∨ g = wr.heap.size + 1) :
    Q w T vS ss w0 S x1 x2 xF xA vF nF XF (.slice (some ⟨g, 0, none⟩) n k) n X w3 := by
  have hl := h.lt
  have hT := h.tlt
  have hsz := hg.size
  simp at hsz
  have ho : ∀ j, j < wr.heap.size → vA.ownBlock ≠ some j → w3.heap[j]? = wr.heap[j]? := fun j hj hne => by
    rw [hg.block j (by simp; omega) (fun e => hne e.symm), Below.heap_alloc _ _ _ hj]
  have hlow : ∀ j, j ≤ T → vA.ownBlock ≠ some j := fun j hj e => by have := (h.rowA.lt _ e).1; omega
  refine ⟨by rw [ho _ (by omega) (hlow _ (by omega))]; exact h.res, hl, by rw [ho _ hT (hlow _ (by omega))]; exact h.var, owns_of h.strs (fun j hj => ho _ (by have := h.strsT j hj; omega) (hlow _ (by have := h.strsT j hj; omega))), h.strsT, owns_of h.rowF (fun j hj => ho _ (h.rowF.lt _ hj).2 (h.ne j hj)), hown, ?_, ?_, ?_, ?_⟩
  · intro j hj e
    simp [Value.ownBlock] at e
    subst e
    rcases hat with hat | hat
    · exact h.ne _ hj hat
    · have := (h.rowF.lt _ hj).2; omega
  · intro j hj
    have := h.foot j hj
    refine ⟨this.1, by omega, this.2.2.1, ?_⟩
    simp [Value.ownBlock]
    intro e
    subst e
    rcases hat with hat | hat
    · exact this.2.2.2 hat
    · omega
  · intro j hj
    have := h.foot j hj
    rw [ho j this.2.1 this.2.2.2]; exact h.keep j hj
  · exact Below.grown (h.below.alloc (by have := h.below.size; omega) o) hg (by simp; omega) (fun j hj => by have := (h.rowA.lt _ hj).1; omega)
end
end Go.Proofs.YtghggcehloiemabGreatDoor
