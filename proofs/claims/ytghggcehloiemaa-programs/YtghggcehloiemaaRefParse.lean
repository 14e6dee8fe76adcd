import Derived.Test.YtghggcehloiemaaTypAt
namespace Go.Proofs.Ytghggcehloiemaa
open Go.RowKit
set_option linter.unusedVariables false
set_option maxRecDepth 16000

namespace P
def AInv {α β : Type} (f : α → Option β) (ps : List α) (i : Nat) (ts : List β) : Prop := allM f ps = (allM f (ps.drop i)).map (ts ++ ·)
theorem ai_start {α β : Type} (f : α → Option β) (ps : List α) : AInv f ps 0 [] := by
  unfold AInv; rw [List.drop_zero]; cases allM f ps <;> simp
theorem drop_at' {α : Type} {l : List α} {i : Nat} {c : α} (hc : l[i]? = some c) : l.drop i = c :: l.drop (i + 1) := by
  obtain ⟨hl, he⟩ := List.getElem?_eq_some_iff.1 hc
  rw [List.drop_eq_getElem_cons hl, he]
theorem ai_none {α β : Type} {f : α → Option β} {ps : List α} {i : Nat} {ts : List β} {x : α} (h : AInv f ps i ts) (hx : ps[i]? = some x) (hf : f x = none) : allM f ps = none := by
  unfold AInv at h; rw [h, drop_at' hx, allM, hf]; rfl
theorem ai_some {α β : Type} {f : α → Option β} {ps : List α} {i : Nat} {ts : List β} {x : α} {y : β} (h : AInv f ps i ts) (hx : ps[i]? = some x) (hf : f x = some y) : AInv f ps (i + 1) (ts ++ [y]) := by
  unfold AInv at *; rw [h, drop_at' hx, allM, hf]; cases allM f (ps.drop (i + 1)) <;> simp
theorem ai_end {α β : Type} {f : α → Option β} {ps : List α} {i : Nat} {ts : List β} (h : AInv f ps i ts) (hi : ps.length ≤ i) : allM f ps = some ts := by
  unfold AInv at h; rw [h, List.drop_eq_nil_of_le hi]; simp [allM]
end P

theorem Try.infoTyp : (Try.prog.info? 60).map (fun i => (i.zero, i.size, i.bytes)) = some (some (.agg #[.int .u8 0, .int .i64 0, .int .i64 0, .slice none 0 0, .slice none 0 0]), 5, 72) := by kernel_rfl
theorem Try.infoInt : (Try.prog.info? 3).map (fun i => (i.zero, i.size, i.bytes)) = some (some (.int .i64 0), 1, 8) := by kernel_rfl

/-- What 'parse' answers. -/
def RpPost (n : Nat) (o : Option (P.Ty n)) (w : World) (e : Ending) (w' : World) : Prop :=
  (match o with
    | some t => ∃ v S, e = .returned (.tuple #[v, .bool true]) ∧ TypAt w' n t v S ∧ ∀ g, S g → w.heap.size ≤ g ∧ g < w'.heap.size
    | none => ∃ v, e = .returned (.tuple #[v, .bool false]) ∧ IsTyp v) ∧ Below w.heap.size w w'
theorem RpPost.no {n : Nat} {o : Option (P.Ty n)} {w w' : World} {e : Ending} {v : Value} (h : o = none) (he : e = .returned (.tuple #[v, .bool false])) (hv : IsTyp v) (hb : Below w.heap.size w w') : RpPost n o w e w' := by
  subst h; exact ⟨⟨v, he, hv⟩, hb⟩
theorem RpPost.yes {n : Nat} {o : Option (P.Ty n)} {w w' : World} {e : Ending} {v : Value} {t : P.Ty n} {S : Nat → Prop} (h : o = some t) (he : e = .returned (.tuple #[v, .bool true])) (hv : TypAt w' n t v S) (hS : ∀ g, S g → w.heap.size ≤ g ∧ g < w'.heap.size) (hb : Below w.heap.size w w') : RpPost n o w e w' := by
  subst h; exact ⟨⟨v, S, he, hv, hS⟩, hb⟩

def RP (n : Nat) : Prop := ∀ (d : Nat) (s : ByteArray) (w : World), d + n = 4 → s.size ≤ 80 →
  Calls Try.prog 52 #[.string s, .int .i64 d] w fun e w' => RpPost n (P.rp n s.data.toList) w e w'

structure Cells5 (w : World) (B : Nat) (a b c d e : Value) : Prop where
  blk : w.heap[B]? = some (.cells #[a, b, c, d, e] 60 (0, 0))
theorem cells5 {w : World} {B : Nat} {a b c d e : Value} {T : TypeId} (h : w.heap[B]? = some (.cells #[a, b, c, d, e] T (0, 0))) :
    w.cell? ⟨B, 0, none⟩ = some a ∧ w.cell? ⟨B, 1, none⟩ = some b ∧ w.cell? ⟨B, 2, none⟩ = some c ∧ w.cell? ⟨B, 3, none⟩ = some d ∧ w.cell? ⟨B, 4, none⟩ = some e := by
  refine ⟨?_, ?_, ?_, ?_, ?_⟩ <;> rw [cell_of_row w B _ _ _ _ h] <;> rfl
theorem froz5 {w : World} {B : Nat} {cs : Array Value} {T : TypeId} (h : w.heap[B]? = some (.cells cs T (0, 0))) :
    w.frozen? ⟨B, 0, none⟩ = false ∧ w.frozen? ⟨B, 1, none⟩ = false ∧ w.frozen? ⟨B, 2, none⟩ = false ∧ w.frozen? ⟨B, 3, none⟩ = false ∧ w.frozen? ⟨B, 4, none⟩ = false := by
  refine ⟨?_, ?_, ?_, ?_, ?_⟩ <;> simp [World.frozen?, h]

theorem blk_lt {w : World} {B : Nat} {o : Obj} (h : w.heap[B]? = some o) : B < w.heap.size := by
  rcases Nat.lt_or_ge B w.heap.size with hl | hl
  · exact hl
  · rw [Array.getElem?_eq_none hl] at h; cases h
theorem blk_alloc {w : World} {B : Nat} {o : Obj} (h : w.heap[B]? = some o) (o' : Obj) : (w.alloc o').heap[B]? = some o := by
  rw [Below.heap_alloc _ _ _ (blk_lt h)]; exact h
theorem cells5a {w : World} {B : Nat} {a b c d e : Value} {T : TypeId} (h : w.heap[B]? = some (.cells #[a, b, c, d, e] T (0, 0))) :
    (∀ o, (w.alloc o).cell? ⟨B, 0, none⟩ = some a) ∧ (∀ o, (w.alloc o).cell? ⟨B, 1, none⟩ = some b) ∧ (∀ o, (w.alloc o).cell? ⟨B, 2, none⟩ = some c) ∧ (∀ o, (w.alloc o).cell? ⟨B, 3, none⟩ = some d) ∧ (∀ o, (w.alloc o).cell? ⟨B, 4, none⟩ = some e) :=
  ⟨fun o => (cells5 (blk_alloc h o)).1, fun o => (cells5 (blk_alloc h o)).2.1, fun o => (cells5 (blk_alloc h o)).2.2.1, fun o => (cells5 (blk_alloc h o)).2.2.2.1, fun o => (cells5 (blk_alloc h o)).2.2.2.2⟩
theorem froz5a {w : World} {B : Nat} {cs : Array Value} {T : TypeId} (h : w.heap[B]? = some (.cells cs T (0, 0))) :
    ∀ o k, (w.alloc o).frozen? ⟨B, k, none⟩ = false := fun o k => by simp [World.frozen?, blk_alloc h o]
theorem leaf_is {n : Nat} {l : List UInt8} {w w1 : World} {e : Ending} (h : LeafR l w1 e w) : ∃ v b, e = .returned (.tuple #[v, .bool b]) ∧ IsTyp v := by
  obtain ⟨h1, _⟩ := h
  cases hr : P.rleaf l with
  | none => rw [hr] at h1; exact ⟨_, _, h1, isTyp_zero⟩
  | some x => rw [hr] at h1; exact ⟨_, _, h1, isTyp_leaf x⟩

theorem typAt_lf {n : Nat} {w : World} {l : Bool × Nat} {S : Nat → Prop} : TypAt w n (P.lf n l) (typV l) S := by
  cases n <;> rfl

theorem leaf_to_rp {n : Nat} {l : List UInt8} {w w1 w2 W : World} {e : Ending} (h : LeafR l w1 e w2) (hrp : P.rp n l = (P.rleaf l).map (P.lf n)) (hb : Below w.heap.size w W) : RpPost n (P.rp n l) w e W := by
  obtain ⟨h1, _⟩ := h
  cases hr : P.rleaf l with
  | none => rw [hr] at h1 hrp; exact RpPost.no hrp h1 isTyp_zero hb
  | some x => rw [hr] at h1 hrp; exact RpPost.yes (S := fun _ => False) hrp h1 typAt_lf (fun _ h => h.elim) hb

set_option maxHeartbeats 1000000 in
theorem rparse_leaf {n : Nat} (d : Nat) (s : ByteArray) (w : World) (hs : s.size ≤ 80) (hd : d ≤ 4) (hh : s.data.toList.head? ≠ some 123) :
    Calls Try.prog 52 #[.string s, .int .i64 d] w fun e w' => RpPost n (P.rp n s.data.toList) w e w' := by
  have hrp : P.rp n s.data.toList = (P.rleaf s.data.toList).map (P.lf n) := by cases n <;> simp [P.rp, hh]
  have HRP : Hid _ := hrp
  clear hrp
  by_cases h0 : s.size = 0
  · have hb : ((s.size : Int) == 0) = true := by rw [h0]; rfl
    clear hh h0
    go_enter Try.func52, Try.ntmps52
    go_wp2_with fail
    refine (rleaf_any s _ (by unfold maxLen; omega)).mono ?_
    intro e w2 hL
    obtain ⟨v, b, rfl, a1, a2, a3, x, n1, k1, y, m1, j1, rfl⟩ := leaf_is (n := n) hL
    have hbe := hL.2
    have hres : w2.heap[w.heap.size]? = some (.cells #[.int .u8 0, .int .i64 0, .int .i64 0, .slice none 0 0, .slice none 0 0] 60 (0, 0)) := by
      rw [hbe.block _ (by simp)]; exact heap_alloc_new _ _
    obtain ⟨c0, c1, c2, c3, c4⟩ := cells5a hres
    have cf := froz5a hres
    have hsz := hbe.size
    simp at hsz
    have hbw : Below w.heap.size w w2 := ((Below.refl _ _).alloc (Nat.le_refl _) _).trans (hbe.mono (by simp))
    go_wp2_with fail
    refine bodyPost_ret (v := .tuple #[.agg #[.int .u8 a1, .int .i64 a2, .int .i64 a3, .slice x n1 k1, .slice y m1 j1], .bool b]) (by simp [results, Try.results52, go_sem, c0, c1, c2, c3, c4]) rfl ?_
    exact leaf_to_rp hL HRP.out (Below.setCell (Below.setCell (Below.setCell (Below.setCell (Below.setCell (hbw.alloc (by omega) _) (Nat.le_refl _) _) (Nat.le_refl _) _) (Nat.le_refl _) _) (Nat.le_refl _) _) (Nat.le_refl _) _)
  · have hb : ((s.size : Int) == 0) = false := by rw [beq_eq_false_iff_ne]; omega
    have hc : (((s[0]'(by omega)).toNat : Int) != 123) = true := by
      rw [bne_iff_ne]
      intro h
      apply hh
      rw [List.head?_eq_getElem?, get_of (by omega), u8_of (k := 123) h]
    clear hh
    go_enter Try.func52, Try.ntmps52
    go_wp2_with fail
    refine (rleaf_any s _ (by unfold maxLen; omega)).mono ?_
    intro e w2 hL
    obtain ⟨v, b, rfl, a1, a2, a3, x, n1, k1, y, m1, j1, rfl⟩ := leaf_is (n := n) hL
    have hbe := hL.2
    have hres : w2.heap[w.heap.size]? = some (.cells #[.int .u8 0, .int .i64 0, .int .i64 0, .slice none 0 0, .slice none 0 0] 60 (0, 0)) := by
      rw [hbe.block _ (by simp)]; exact heap_alloc_new _ _
    obtain ⟨c0, c1, c2, c3, c4⟩ := cells5a hres
    have cf := froz5a hres
    have hsz := hbe.size
    simp at hsz
    have hbw : Below w.heap.size w w2 := ((Below.refl _ _).alloc (Nat.le_refl _) _).trans (hbe.mono (by simp))
    go_wp2_with fail
    refine bodyPost_ret (v := .tuple #[.agg #[.int .u8 a1, .int .i64 a2, .int .i64 a3, .slice x n1 k1, .slice y m1 j1], .bool b]) (by simp [results, Try.results52, go_sem, c0, c1, c2, c3, c4]) rfl ?_
    exact leaf_to_rp hL HRP.out (Below.setCell (Below.setCell (Below.setCell (Below.setCell (Below.setCell (hbw.alloc (by omega) _) (Nat.le_refl _) _) (Nat.le_refl _) _) (Nat.le_refl _) _) (Nat.le_refl _) _) (Nat.le_refl _) _)

set_option maxHeartbeats 1000000 in
theorem rparse_deep (s : ByteArray) (w : World) (hs : s.size ≤ 80) (hh : s.data.toList.head? = some 123) :
    Calls Try.prog 52 #[.string s, .int .i64 4] w fun e w' => RpPost 0 (P.rp 0 s.data.toList) w e w' := by
  have HRP : Hid (P.rp 0 s.data.toList = none) := by unfold Hid; simp [P.rp, hh]
  have h0 : 0 < s.size := by
    rcases Nat.lt_or_ge 0 s.size with h | h
    · exact h
    · have e : s.data.toList = [] := List.eq_nil_of_length_eq_zero (by have := tl_len s; omega)
      rw [e] at hh; cases hh
  have hb : ((s.size : Int) == 0) = false := by rw [beq_eq_false_iff_ne]; omega
  have hc : (((s[0]'(by omega)).toNat : Int) != 123) = false := by
    rw [List.head?_eq_getElem?, get_of h0] at hh
    simp at hh
    rw [hh]; rfl
  clear hh
  go_enter Try.func52, Try.ntmps52
  go_wp2_with fail
  refine (cut_any s _ (by omega)).mono ?_
  rintro e w2 ⟨hpost, hbe⟩
  have hres : w2.heap[w.heap.size]? = some (.cells #[.int .u8 0, .int .i64 0, .int .i64 0, .slice none 0 0, .slice none 0 0] 60 (0, 0)) := by
    rw [hbe.block _ (by simp)]; exact heap_alloc_new _ _
  obtain ⟨c0, c1, c2, c3, c4⟩ := cells5 hres
  obtain ⟨f0, f1, f2, f3, f4⟩ := froz5 hres
  have hbw : Below w.heap.size w w2 := ((Below.refl _ _).alloc (Nat.le_refl _) _).trans (hbe.mono (by simp))
  have hsl : ∃ a N cap b, e = .returned (.tuple #[.slice a N cap, .bool b]) := by
    cases hcut : P.cut s.data.toList with
    | none => rw [hcut] at hpost; exact ⟨_, _, _, _, hpost⟩
    | some ps =>
      rw [hcut] at hpost
      obtain ⟨ss, v, he, _, ho⟩ := hpost
      obtain ⟨a, N, cap, rfl⟩ := owns_slice' ho
      exact ⟨_, _, _, _, he⟩
  obtain ⟨a, N, cap, b, rfl⟩ := hsl
  clear hpost hres
  cases b
  all_goals
    go_wp2_with fail
    refine bodyPost_ret (v := .tuple #[zeroTyp, .bool false]) (by simp [results, Try.results52, go_sem, c0, c1, c2, c3, c4, zeroTyp]) rfl ?_
    exact RpPost.no HRP.out rfl isTyp_zero (Below.setCell (Below.setCell (Below.setCell (Below.setCell (Below.setCell hbw (Nat.le_refl _) _) (Nat.le_refl _) _) (Nat.le_refl _) _) (Nat.le_refl _) _) (Nat.le_refl _) _)
end Go.Proofs.Ytghggcehloiemaa
