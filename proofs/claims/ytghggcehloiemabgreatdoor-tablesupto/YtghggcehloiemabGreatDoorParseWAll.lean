import Derived.Test.YtghggcehloiemabGreatDoorGoodAll
import Derived.Test.YtghggcehloiemabGreatDoorPrOAll
import Derived.Test.YtghggcehloiemabGreatDoorMcTW3
namespace Go.Proofs.YtghggcehloiemabGreatDoor
open Go.RowKit
set_option linter.unusedVariables false
set_option maxRecDepth 16000

namespace P
/-- The type that a text is, by the program's reader. -/
def tyOf (l : List UInt8) : Option (Ty 4) := if 80 < l.length then none else match rd 4 l with
  | some (t, []) => if (sz 4 t).1 ≤ 32 then some t else none
  | _ => none
end P

def ParsePost (s : ByteArray) (w : World) (e : Ending) (w' : World) : Prop :=
  (match P.tyOf s.data.toList with
    | some t => ∃ v, e = .returned (.tuple #[.agg #[.int .i64 (P.sz 4 t).1, .int .i64 (P.sz 4 t).2, v], .bool true]) ∧ w'.ownsRow (w.heap.size + 1) 145 4 v (P.parts 4 t).length (cellsOf (P.parts 4 t))
    | none => e = .returned (.tuple #[.agg #[.int .i64 0, .int .i64 0, .slice none 0 0], .bool false])) ∧ Below w.heap.size w w'

theorem cells3 {w : World} {B : Nat} {x y z : Value} {T : TypeId} (h : w.heap[B]? = some (.cells #[x, y, z] T (0, 0))) : w.cell? ⟨B, 0, none⟩ = some x ∧ w.cell? ⟨B, 1, none⟩ = some y ∧ w.cell? ⟨B, 2, none⟩ = some z ∧ w.frozen? ⟨B, 0, none⟩ = false ∧ w.frozen? ⟨B, 1, none⟩ = false ∧ w.frozen? ⟨B, 2, none⟩ = false := by
  refine ⟨?_, ?_, ?_, by simp [World.frozen?, h], by simp [World.frozen?, h], by simp [World.frozen?, h]⟩
  · rw [cell_of_row w B 0 _ _ _ h]; rfl
  · rw [cell_of_row w B 1 _ _ _ h]; rfl
  · rw [cell_of_row w B 2 _ _ _ h]; rfl

theorem owns_slice {w : World} {base : Nat} {e : TypeId} {size n : Nat} {v : Value} {xs : List Value} (h : w.ownsRow base e size v n xs) : ∃ a N cap, v = .slice a N cap := by
  rcases h.2 with ⟨h, _⟩ | ⟨g, cap, cur, h, _⟩
  · exact ⟨_, _, _, h⟩
  · exact ⟨_, _, _, h⟩
theorem owns_drewN {w : World} {base : Nat} {e : TypeId} {size n : Nat} {v : Value} {xs : List Value} (h : w.ownsRow base e size v n xs) (k : Nat) : (w.drewN k).ownsRow base e size v n xs := h
theorem p_owns_less {w : World} {base base' : Nat} {e : TypeId} {size n : Nat} {v : Value} {xs : List Value} (h : w.ownsRow base e size v n xs) (hb : base' ≤ base) : w.ownsRow base' e size v n xs := by
  obtain ⟨h1, h2⟩ := h
  refine ⟨h1, ?_⟩
  rcases h2 with h2 | ⟨g, cap, cur, hv, hb', hr⟩
  · exact .inl h2
  · exact .inr ⟨g, cap, cur, hv, by omega, hr⟩

set_option maxHeartbeats 1000000 in
theorem parse_any (s : ByteArray) (w : World) (hs : s.size ≤ maxLen) :
    Calls Tryz.prog 46 #[.string s] w fun e w' => ParsePost s w e w' := by
  unfold maxLen at hs
  by_cases hlong : 80 < s.size
  · have HT : Hid (P.tyOf s.data.toList = none) := by unfold Hid P.tyOf; rw [if_pos (by simpa using hlong)]
    have hl2 : (80 : Int) < (s.size : Int) := by omega
    go_enter Tryz.func46, Tryz.ntmps46
    go_wp2_with fail
    refine bodyPost_ret (v := .tuple #[.agg #[.int .i64 0, .int .i64 0, .slice none 0 0], .bool false]) (by simp [results, Tryz.results46, go_sem]) rfl ⟨?_, (Below.refl _ _).alloc (Nat.le_refl _) _⟩
    rw [HT.out]
  · have HL : Hid (¬ 80 < s.data.toList.length) := by simpa [Hid] using hlong
    go_enter Tryz.func46, Tryz.ntmps46
    go_wp2_with fail
    refine ((reads 4).2 (w.heap.size + 1) 0 0 s _ (.slice none 0 0) [] rfl ⟨?_, ?_, Nat.zero_le _, by omega, by simp⟩).mono ?_
    · unfold Cur; rw [show w.heap.size + 1 = (w.alloc (Obj.cells #[Value.int IntKind.i64 0, Value.int IntKind.i64 0, Value.slice none 0 0] 62)).heap.size by simp]; exact heap_alloc_new _ _
    · exact World.ownsRow_nil _ _ _ _
    · rintro e w2 ⟨hpost, hbe⟩
      rw [List.drop_zero] at hpost
      have hres : w2.heap[w.heap.size]? = some (.cells #[Value.int IntKind.i64 0, Value.int IntKind.i64 0, Value.slice none 0 0] 62 (0, 0)) := by
        rw [hbe.block _ (by omega), Below.heap_alloc _ _ _ (by simp)]; exact heap_alloc_new _ _
      obtain ⟨c0, c1, c2, f0, f1, f2⟩ := cells3 hres
      have hbw : Below w.heap.size w w2 := (((Below.refl _ _).alloc (Nat.le_refl _) _).alloc (by simp) _).trans (hbe.mono (by omega))
      have hsz2 := hbe.size
      simp at hsz2
      clear hbe
      cases hrd : P.rd 4 s.data.toList with
      | none =>
        rw [hrd] at hpost
        simp only at hpost
        subst hpost
        have HT : Hid (P.tyOf s.data.toList = none) := by unfold Hid P.tyOf; rw [if_neg HL.out, hrd]
        clear hrd hres
        go_wp2_with fail
        refine bodyPost_ret (v := .tuple #[.agg #[.int .i64 0, .int .i64 0, .slice none 0 0], .bool false]) (by simp [results, Tryz.results46, go_sem, c0, c1, c2]) rfl ⟨?_, ?_⟩
        · rw [HT.out]
        · exact ((hbw.setCell (Nat.le_refl _) _).setCell (Nat.le_refl _) _).setCell (Nat.le_refl _) _
      | some x =>
        obtain ⟨t, r⟩ := x
        rw [hrd] at hpost
        simp only at hpost
        obtain ⟨rfl, j, v2, _, hjr, hrd2⟩ := hpost
        have hgood := P.rd_good 4 _ t r hrd
        rw [List.nil_append] at hrd2
        have hj := hrd2.here
        have hlen : r.length = s.size - j := by rw [← hjr]; simp
        have hbb : (P.sz 4 t).1 ≤ 1280 := by have := hgood.2; simp at this; omega
        have hb2 := hgood.1.2.1
        obtain ⟨fs, hfs⟩ : ∃ fs, (P.sz 4 t).1 = fs := ⟨_, rfl⟩
        obtain ⟨fp, hfp⟩ : ∃ fp, (P.sz 4 t).2 = fp := ⟨_, rfl⟩
        rw [hfs] at hbb
        rw [hfp] at hb2
        rw [hfs, hfp]
        clear hgood
        by_cases hbig : 32 < fs
        · have HT : Hid (P.tyOf s.data.toList = none) := by
            unfold Hid P.tyOf; rw [if_neg HL.out, hrd]
            cases r with
            | nil => simp only; rw [if_neg (by omega)]
            | cons c r => rfl
          clear hrd hres hjr hlen hfs hfp
          go_wp2_with fail
          refine bodyPost_ret (v := .tuple #[.agg #[.int .i64 0, .int .i64 0, .slice none 0 0], .bool false]) (by simp [results, Tryz.results46, go_sem, c0, c1, c2]) rfl ⟨?_, ?_⟩
          · rw [HT.out]
          · exact ((hbw.setCell (Nat.le_refl _) _).setCell (Nat.le_refl _) _).setCell (Nat.le_refl _) _
        · by_cases hend : s.size ≤ j
          · have HT : Hid (P.tyOf s.data.toList = some t) := by
              unfold Hid P.tyOf; rw [if_neg HL.out, hrd]
              cases r with
              | nil => simp only; rw [if_pos (by omega)]
              | cons c r => simp at hlen; omega
            have H1 : Hid ((P.sz 4 t).1 = fs) := hfs
            have H2 : Hid ((P.sz 4 t).2 = fp) := hfp
            clear hrd hres hjr hlen hfs hfp
            go_wp2_with fail
            refine (ended_any hrd2.cur).mono ?_
            rintro e w3 ⟨rfl, n, rfl⟩
            rw [decide_eq_true hend]
            obtain ⟨a, N, cap, rfl⟩ := owns_slice hrd2.own
            have g2 := hrd2.cur.c2
            go_wp2_with fail
            refine bodyPost_ret (v := .tuple #[.agg #[.int .i64 fs, .int .i64 fp, .slice a N cap], .bool true]) (by simp [results, Tryz.results46, go_sem, c0, c1, c2]) rfl ⟨?_, ?_⟩
            · rw [HT.out]
              refine ⟨.slice a N cap, by rw [H1.out, H2.out], ?_⟩
              exact p_owns_less (ownsRow_setCell_below (ownsRow_setCell_below (ownsRow_setCell_below (owns_drewN hrd2.own n) (by simp; omega) _) (by simp; omega) _) (by simp; omega) _) (by omega)
            · exact (((below_drewN hbw n).setCell (Nat.le_refl _) _).setCell (Nat.le_refl _) _).setCell (Nat.le_refl _) _
          · have HT : Hid (P.tyOf s.data.toList = none) := by
              unfold Hid P.tyOf; rw [if_neg HL.out, hrd]
              cases r with
              | nil => simp at hlen; omega
              | cons c r => rfl
            clear hrd hres hjr hlen hfs hfp
            go_wp2_with fail
            refine (ended_any hrd2.cur).mono ?_
            rintro e w3 ⟨rfl, n, rfl⟩
            rw [decide_eq_false hend]
            go_wp2_with fail
            refine bodyPost_ret (v := .tuple #[.agg #[.int .i64 0, .int .i64 0, .slice none 0 0], .bool false]) (by simp [results, Tryz.results46, go_sem, c0, c1, c2]) rfl ⟨?_, ?_⟩
            · rw [HT.out]
            · exact (((below_drewN hbw n).setCell (Nat.le_refl _) _).setCell (Nat.le_refl _) _).setCell (Nat.le_refl _) _
end Go.Proofs.YtghggcehloiemabGreatDoor
namespace Go.Proofs.YtghggcehloiemabGreatDoor
open Go.RowKit
set_option linter.unusedVariables false
set_option maxRecDepth 16000
def pairC (p : ByteArray × ByteArray) : List Value := [.string p.1, .string p.2]
def pairCells (L : List (ByteArray × ByteArray)) : List Value := L.flatMap pairC
theorem pairCells_append (A B : List (ByteArray × ByteArray)) : pairCells (A ++ B) = pairCells A ++ pairCells B := by simp [pairCells]
theorem pairCells_len (L : List (ByteArray × ByteArray)) : (pairCells L).length = 2 * L.length := by
  induction L with
  | nil => rfl
  | cons p L ih => rw [show pairCells (p :: L) = pairC p ++ pairCells L from by simp [pairCells], List.length_append, ih, List.length_cons]; show 2 + _ = _; omega
theorem pairCells_get : ∀ (L : List (ByteArray × ByteArray)) (i j : Nat) (p : ByteArray × ByteArray), L[i]? = some p → j < 2 → (pairCells L)[i * 2 + j]? = (pairC p)[j]?
  | [], i, j, p, h, _ => by simp at h
  | q :: L, 0, j, p, h, hj => by
    simp at h; subst h
    rw [show pairCells (q :: L) = pairC q ++ pairCells L from by simp [pairCells], Nat.zero_mul, Nat.zero_add, List.getElem?_append_left (by show j < 2; exact hj)]
  | q :: L, i + 1, j, p, h, hj => by
    rw [show pairCells (q :: L) = pairC q ++ pairCells L from by simp [pairCells], List.getElem?_append_right (by show 2 ≤ _; omega)]
    have e : (i + 1) * 2 + j - (pairC q).length = i * 2 + j := by show _ - 2 = _; omega
    rw [e]
    exact pairCells_get L i j p (by simpa using h) hj
theorem pair_cell {w : World} {base g N cap k : Nat} {L : List (ByteArray × ByteArray)} {p : ByteArray × ByteArray} (h : w.ownsRow base 178 2 (.slice (some ⟨g, 0, none⟩) N cap) L.length (pairCells L)) (hx : L[k]? = some p) :
    w.cell? ⟨g, k * 2, none⟩ = some (.string p.1) ∧ w.cell? ⟨g, k * 2 + 1, none⟩ = some (.string p.2) ∧ N = L.length ∧ N ≤ cap := by
  obtain ⟨h1, h2⟩ := h
  rcases h2 with ⟨h2, _⟩ | ⟨g', cap', cur, hv, hb, hg, hn, hm, hsz, htk⟩
  · cases h2
  · cases hv
    have hk : k < L.length := (List.getElem?_eq_some_iff.1 hx).1
    have key : ∀ j, j < 2 → w.cell? ⟨g, k * 2 + j, none⟩ = (pairC p)[j]? := by
      intro j hj
      rw [cell_of_row w g _ _ _ _ hg]
      have hget := pairCells_get L k j p hx hj
      rw [← htk, List.getElem?_take_of_lt (by omega)] at hget
      simpa using hget
    exact ⟨key 0 (by omega), key 1 (by omega), rfl, hn⟩
theorem str_ne {a b : ByteArray} (h : ¬ a = b) : (a.toList == b.toList) = false := by
  rw [beq_eq_false_iff_ne, ByteArray.toList_eq, ByteArray.toList_eq]
  intro hh
  apply h
  obtain ⟨a⟩ := a
  obtain ⟨b⟩ := b
  exact congrArg ByteArray.mk (Array.toList_inj.1 hh)
def atI (o : Option Nat) : Int := match o with
  | some i => (i : Int)
  | none => -1
theorem atK_snoc {L : List (ByteArray × ByteArray)} {k : ByteArray} {t : Nat} {p : ByteArray × ByteArray} (h : L[t]? = some p) (hn : ∀ q ∈ L.take t, q.1 ≠ k) (hk : p.1 = k) : P.atK L k = some t := by
  unfold P.atK
  rw [List.findIdx?_eq_some_iff_getElem]
  have ht := (List.getElem?_eq_some_iff.1 h).1
  have he := (List.getElem?_eq_some_iff.1 h).2
  refine ⟨ht, by rw [he]; simpa using hk, fun j hj => ?_⟩
  have hm : L[j] ∈ L.take t := by rw [List.mem_take_iff_getElem]; exact ⟨j, by omega, rfl⟩
  simpa using hn _ hm
set_option maxHeartbeats 4000000 in
theorem rAt_any {w : World} (b o base : Nat) (lv : Value) (L : List (ByteArray × ByteArray)) (k : ByteArray) (hc : w.cell? ⟨b, o + 1, none⟩ = some lv) (hb : b < w.heap.size) (hown : w.ownsRow base 178 2 lv L.length (pairCells L)) (hL : L.length ≤ 100) :
    Calls Tryz.prog 129 #[.pointer (some ⟨b, o, none⟩), .string k] w fun e w' => e = .returned (.int .i64 (atI (P.atK L k))) ∧ Below w.heap.size w w' := by
  obtain ⟨a, N, cap, rfl⟩ := owns_slice hown
  have hNl : N = L.length := by
    rcases hown.2 with ⟨h, h'⟩ | ⟨g, cap', cur, h, _⟩
    · cases h; omega
    · cases h; rfl
  have HNL := hid_m hNl
  have HOWN := hid_m hown
  have hN : N ≤ 100 := by omega
  clear hown hNl
  go_enter Tryz.func129, Tryz.ntmps129
  go_wp2_with fail
  go_loopw [5] (fun j wr => ∃ (t : Nat), t ≤ N ∧ j = .int .i64 t ∧ Hid (∀ q ∈ L.take t, q.1 ≠ k) ∧ wr = w) (fun j _ => N - (intOf j).toNat)
  case atStart => exact ⟨0, Nat.zero_le _, rfl, fun q hq => by simp at hq, rfl⟩
  case round =>
    obtain ⟨t, ht, rfl, HQ, hwr⟩ := hrel
    subst wr
    by_cases hlt : t < N
    · obtain ⟨p, hp⟩ : ∃ p, L[t]? = some p := ⟨_, List.getElem?_eq_getElem (by have := HNL.out; omega)⟩
      obtain ⟨g, cap', hv, _, hgl⟩ := HOWN.out.form (by have := HNL.out; omega)
      have ha : a = some ⟨g, 0, none⟩ := by injection hv
      subst ha
      clear hv
      obtain ⟨d0, d1, hNe, hcp⟩ := pair_cell HOWN.out hp
      clear hNe
      have HPE := hid_m hp
      have j0 : (0 : Int) ≤ (t : Int) := Int.natCast_nonneg t
      have j1 : (t : Int) < (N : Int) := by omega
      have HTN : Hid (t + 1 ≤ N) := hlt
      have HTW : Hid (wrap64 ((t : Int) + 1) = (t : Int) + 1) := w64_id _ (by omega) (by omega)
      clear hp ht hlt
      obtain ⟨pk, pv⟩ := p
      simp only at d0 d1
      by_cases he : pk = k
      · subst he
        have HA : Hid (P.atK L pk = some t) := atK_snoc HPE.out HQ.out rfl
        go_wp2_with fail
        go_ret
        exact ⟨by rw [HA.out]; rfl, Below.refl _ _⟩
      · have HQ2 : Hid (∀ q ∈ L.take (t + 1), q.1 ≠ k) := by
          intro q hq
          rw [List.take_add_one, HPE.out] at hq
          rcases List.mem_append.1 hq with hq | hq
          · exact HQ.out q hq
          · simp at hq; subst hq; exact he
        have hne := str_ne he
        clear he
        go_wp2_with fail
        exact ⟨⟨t + 1, HTN.out, by first | (rw [HTW.out]; exact next_t) | exact next_t, HQ2.out, trivial⟩, by first | (rw [HTW.out]; exact less_t HTN.out) | exact less_t HTN.out⟩
    · have hte : t = N := by omega
      subst hte
      have HA : Hid (P.atK L k = none) := P.atK_none (fun q hq => HQ.out q (by rw [List.take_of_length_le (Nat.le_of_eq HNL.out.symm)]; exact hq))
      clear ht hlt
      go_wp2_with fail
      go_ret
      exact ⟨by rw [HA.out]; rfl, Below.refl _ _⟩
end Go.Proofs.YtghggcehloiemabGreatDoor
namespace Go.Proofs.YtghggcehloiemabGreatDoor
open Go.RowKit
set_option linter.unusedVariables false
set_option maxRecDepth 16000
/-- A plain map lies at a place of block b: how many it may hold, and the row of its pairs, in blocks from M on. -/
structure Mp (w : World) (b o M sl : Nat) (cs : Array Value) (T : TypeId) (lv : Value) (L : List (ByteArray × ByteArray)) : Prop where
  blk : w.heap[b]? = some (.cells cs T (0, 0))
  a0 : cs[o]? = some (.int .i64 sl)
  a1 : cs[o + 1]? = some lv
  own : w.ownsRow M 178 2 lv L.length (pairCells L)
  lt : b < M
  here : M ≤ w.heap.size
  few : L.length ≤ sl
  sl16 : sl ≤ 16
theorem Mp.c0 {w : World} {b o M sl : Nat} {cs : Array Value} {T : TypeId} {lv : Value} {L : List (ByteArray × ByteArray)} (h : Mp w b o M sl cs T lv L) : w.cell? ⟨b, o, none⟩ = some (.int .i64 sl) := by rw [cell_of_row _ _ _ _ _ _ h.blk]; exact h.a0
theorem Mp.c1 {w : World} {b o M sl : Nat} {cs : Array Value} {T : TypeId} {lv : Value} {L : List (ByteArray × ByteArray)} (h : Mp w b o M sl cs T lv L) : w.cell? ⟨b, o + 1, none⟩ = some lv := by rw [cell_of_row _ _ _ _ _ _ h.blk]; exact h.a1
theorem Mp.fz {w : World} {b o M sl : Nat} {cs : Array Value} {T : TypeId} {lv : Value} {L : List (ByteArray × ByteArray)} (h : Mp w b o M sl cs T lv L) : w.frozen? ⟨b, o + 1, none⟩ = false := by simp [World.frozen?, h.blk]
theorem Mp.same {w : World} {b o M sl : Nat} {cs : Array Value} {T : TypeId} {lv : Value} {L : List (ByteArray × ByteArray)} (h : Mp w b o M sl cs T lv L) : cs.setIfInBounds (o + 1) lv = cs := by
  apply Array.ext_getElem?
  intro i
  by_cases hi : o + 1 = i
  · subst hi
    have hlt := (Array.getElem?_eq_some_iff.1 h.a1).1
    rw [Array.getElem?_setIfInBounds_self_of_lt hlt, h.a1]
  · rw [Array.getElem?_setIfInBounds_ne hi]
theorem Mp.lt2 {w : World} {b o M sl : Nat} {cs : Array Value} {T : TypeId} {lv : Value} {L : List (ByteArray × ByteArray)} (h : Mp w b o M sl cs T lv L) : b < w.heap.size := by have := h.lt; have := h.here; omega
/-- What may differ of what there was: block b, and the row's own block r. -/
structure Fr (b : Nat) (r : Option Nat) (w w' : World) : Prop where
  os : w'.os = w.os
  tape : w'.tape = w.tape
  output : w'.output = w.output
  size : w.heap.size ≤ w'.heap.size
  block : ∀ k, k < w.heap.size → k ≠ b → r ≠ some k → w'.heap[k]? = w.heap[k]?
theorem Fr.refl (b : Nat) (r : Option Nat) (w : World) : Fr b r w w := ⟨rfl, rfl, rfl, Nat.le_refl _, fun _ _ _ _ => rfl⟩
/-- A row's block is the old one's, or new. -/
def Nx (w : World) (v v' : Value) : Prop := ∀ g, v'.ownBlock = some g → v.ownBlock = some g ∨ w.heap.size ≤ g
theorem Fr.trans {b : Nat} {r r' : Option Nat} {w w1 w2 : World} (h : Fr b r w w1) (k : Fr b r' w1 w2) (hr : ∀ g, r' = some g → r = some g ∨ w.heap.size ≤ g) : Fr b r w w2 := ⟨k.os.trans h.os, k.tape.trans h.tape, k.output.trans h.output, Nat.le_trans h.size k.size, fun i hi hb hn => (k.block i (by have := h.size; omega) hb (fun e => (hr i e).elim hn (fun h => by omega))).trans (h.block i hi hb hn)⟩
theorem Fr.of {b : Nat} {r : Option Nat} {w w1 : World} (h : Below w.heap.size w w1) : Fr b r w w1 := ⟨h.os, h.tape, h.output, h.size, fun k hk _ _ => h.block k hk⟩
theorem Fr.below {b B : Nat} {r : Option Nat} {w w1 : World} (h : Fr b r w w1) (hB : B ≤ b) (hr : ∀ g, r = some g → B ≤ g) (hw : B ≤ w.heap.size) : Below B w w1 := ⟨h.os, h.tape, h.output, h.size, fun k hk => h.block k (by omega) (by omega) (fun e => by have := hr k e; omega)⟩
theorem Fr.set {b : Nat} {r : Option Nat} {w w1 : World} (h : Fr b r w w1) (o : Nat) (v : Value) : Fr b r w (w1.setCell ⟨b, o, none⟩ v) := ⟨h.os, h.tape, h.output, by simp [World.setCell]; exact h.size, fun k hk hb hn => by rw [set_other hb]; exact h.block k hk hb hn⟩
theorem Mp.on {w w' : World} {b o M sl : Nat} {cs : Array Value} {T : TypeId} {lv : Value} {L : List (ByteArray × ByteArray)} (h : Mp w b o M sl cs T lv L) (hb : Below w.heap.size w w') : Mp w' b o M sl cs T lv L :=
  ⟨by rw [hb.block b h.lt2]; exact h.blk, h.a0, h.a1, owns_on h.own hb, h.lt, Nat.le_trans h.here hb.size, h.few, h.sl16⟩
theorem Mp.drewn {w : World} {b o M sl : Nat} {cs : Array Value} {T : TypeId} {lv : Value} {L : List (ByteArray × ByteArray)} (h : Mp w b o M sl cs T lv L) (n : Nat) : Mp (w.drewN n) b o M sl cs T lv L := ⟨h.blk, h.a0, h.a1, m_owns_of h.own (fun _ _ => rfl), h.lt, h.here, h.few, h.sl16⟩
theorem Fr.drewn {b : Nat} {r : Option Nat} {w w1 : World} (h : Fr b r w w1) (n : Nat) : Fr b r w (w1.drewN n) := ⟨h.os, h.tape, h.output, h.size, h.block⟩
theorem pair_fz {w : World} {base g N cap : Nat} {L : List (ByteArray × ByteArray)} (h : w.ownsRow base 178 2 (.slice (some ⟨g, 0, none⟩) N cap) L.length (pairCells L)) (o : Nat) : w.frozen? ⟨g, o, none⟩ = false := by
  obtain ⟨h1, h2⟩ := h
  rcases h2 with ⟨h2, _⟩ | ⟨g', cap', cur, hv, hb, hg, hn, hm, hsz, htk⟩
  · cases h2
  · cases hv; simp [World.frozen?, hg]
theorem two_new (w : World) (a b : Value) (t : TypeId) : ∀ j u, [a, b][j]? = some u → (w.alloc (.cells #[a, b] t)).cell? ((⟨w.heap.size, 0, none⟩ : Addr).add j) = some u := World.news_of_block (heap_alloc_new w _)
theorem Tryz.infoPair : (Tryz.prog.info? 178).map (fun i => (i.zero, i.size, i.bytes)) = some (some (.agg #[.string ⟨#[]⟩, .string ⟨#[]⟩]), 2, 32) := by kernel_rfl
theorem Mp.grow {w w1 w3 : World} {b o M sl : Nat} {cs : Array Value} {T : TypeId} {lv lv' : Value} {L : List (ByteArray × ByteArray)} {k v : ByteArray} {ob : Obj} (h : Mp w1 b o M sl cs T lv L) (f : Fr b lv.ownBlock w w1) (hg : (w1.alloc ob).grownBy w3 lv.ownBlock)
    (hown' : w3.ownsRow M 178 2 lv' (L.length + 1) (pairCells L ++ pairC (k, v))) (hlt : L.length < sl) :
    Mp (w3.setCell ⟨b, o + 1, none⟩ lv') b o M sl (cs.setIfInBounds (o + 1) lv') T lv' (L ++ [(k, v)]) ∧ Fr b lv.ownBlock w (w3.setCell ⟨b, o + 1, none⟩ lv') ∧ w3.frozen? ⟨b, o + 1, none⟩ = false ∧ w3.cell? ⟨b, o + 1, none⟩ = some lv := by
  have hb3 := m_grown_blk h.own hg h.lt h.blk
  have hlb := h.lt2
  have hin := (Array.getElem?_eq_some_iff.1 h.a1).1
  refine ⟨⟨?_, ?_, ?_, ?_, h.lt, ?_, by simp; omega, h.sl16⟩, ?_, by simp [World.frozen?, hb3], by rw [cell_of_row _ _ _ _ _ _ hb3]; exact h.a1⟩
  · simp [World.setCell, Array.getElem?_modify, hb3]
  · rw [Array.getElem?_setIfInBounds_ne (by omega)]; exact h.a0
  · rw [Array.getElem?_setIfInBounds_self_of_lt hin]
  · have e : pairCells (L ++ [(k, v)]) = pairCells L ++ pairC (k, v) := by rw [pairCells_append]; simp [pairCells]
    rw [e, List.length_append]
    exact m_owns_of hown' (fun g hg' => set_other (by have := (hown'.lt g hg').1; have := h.lt; omega))
  · have s1 := hg.size; have s2 := h.here; simp only [World.size_alloc] at s1; simp [World.setCell]; omega
  · have s1 := hg.size
    simp at s1
    refine ⟨hg.os.trans f.os, hg.tape.trans f.tape, hg.output.trans f.output, by simp [World.setCell]; have := f.size; omega, fun q hq hqb hqr => ?_⟩
    rw [set_other hqb, hg.block q (by have := f.size; simp; omega) (fun e => hqr e.symm), Below.heap_alloc _ _ _ (by have := f.size; omega)]
    exact f.block q hq hqb hqr
theorem pairCells_set : ∀ (L : List (ByteArray × ByteArray)) (i : Nat) (k v : ByteArray), i < L.length → ((pairCells L).set (i * 2) (.string k)).set (i * 2 + 1) (.string v) = pairCells (L.set i (k, v))
  | [], i, k, v, h => by simp at h
  | p :: L, 0, k, v, h => by
    rw [show pairCells (p :: L) = Value.string p.1 :: Value.string p.2 :: pairCells L from by simp [pairCells, pairC]]
    simp [pairCells, pairC]
  | p :: L, i + 1, k, v, h => by
    rw [show pairCells (p :: L) = Value.string p.1 :: Value.string p.2 :: pairCells L from by simp [pairCells, pairC], List.set_cons_succ, show pairCells (p :: L.set i (k, v)) = Value.string p.1 :: Value.string p.2 :: pairCells (L.set i (k, v)) from by simp [pairCells, pairC], ← pairCells_set L i k v (by simpa using h), show (i + 1) * 2 = i * 2 + 1 + 1 by omega, show i * 2 + 1 + 1 + 1 = (i * 2 + 1) + 1 + 1 by omega]
    rfl
theorem Mp.put {w w2 : World} {b o M sl g N cap i : Nat} {cs : Array Value} {T : TypeId} {L : List (ByteArray × ByteArray)} (h : Mp w2 b o M sl cs T (.slice (some ⟨g, 0, none⟩) N cap) L) (f : Fr b (some g) w w2) (k v : ByteArray) (hi : i < L.length) :
    Mp ((w2.setCell ⟨g, i * 2, none⟩ (.string k)).setCell ⟨g, i * 2 + 1, none⟩ (.string v)) b o M sl cs T (.slice (some ⟨g, 0, none⟩) N cap) (L.set i (k, v)) ∧ Fr b (some g) w ((w2.setCell ⟨g, i * 2, none⟩ (.string k)).setCell ⟨g, i * 2 + 1, none⟩ (.string v)) := by
  have hgM : M ≤ g := (h.own.lt g rfl).1
  have hlt := h.lt
  obtain ⟨h1, h2⟩ := h.own
  rcases h2 with ⟨h2, _⟩ | ⟨g', cap', cur, hv, hb, hg, hn, hm, hsz, htk⟩
  · cases h2
  · cases hv
    refine ⟨⟨?_, h.a0, h.a1, ⟨by rw [pairCells_len, List.length_set]; omega, .inr ⟨g, cap, (cur.setIfInBounds (i * 2) (.string k)).setIfInBounds (i * 2 + 1) (.string v), by simp, hb, ?_, by simpa using hn, hm, by simpa using hsz, ?_⟩⟩, hlt, ?_, by simpa using h.few, h.sl16⟩, ?_⟩
    · rw [set_other (by omega), set_other (by omega)]; exact h.blk
    · simp [World.setCell, Array.getElem?_modify, hg]
    · rw [← pairCells_set L i k v hi, ← htk]
      simp [List.take_set]
    · have := h.here; simp [World.setCell]; omega
    · refine ⟨f.os, f.tape, f.output, by have := f.size; simp [World.setCell]; omega, fun q hq hqb hqr => ?_⟩
      have hqg : q ≠ g := fun e => hqr (by rw [e])
      rw [set_other hqg, set_other hqg]; exact f.block q hq hqb hqr
set_option maxHeartbeats 4000000 in
theorem rPut_any {w : World} (b o M sl : Nat) (cs : Array Value) (T : TypeId) (lv : Value) (L : List (ByteArray × ByteArray)) (k v : ByteArray) (h : Mp w b o M sl cs T lv L) :
    Calls Tryz.prog 128 #[.pointer (some ⟨b, o, none⟩), .string k, .string v] w fun e w' => e = .returned (.bool (decide ((P.mapDo sl 2 k v L).1 = 0))) ∧ (∃ lv', Mp w' b o M sl (cs.setIfInBounds (o + 1) lv') T lv' (P.mapDo sl 2 k v L).2 ∧ Nx w lv lv') ∧ Fr b lv.ownBlock w w' := by
  obtain ⟨i0, hi0, hz0, hz1, hz2⟩ := info_parts Tryz.infoPair
  obtain ⟨a, N, cap, rfl⟩ := owns_slice h.own
  have hbl := h.lt2
  have c0 := h.c0
  have c1 := h.c1
  have fz := h.fz
  have HH := hid_m h
  have HAT := hid_m (rAt_any b o M (.slice a N cap) L k h.c1 hbl h.own (by have := h.few; have := h.sl16; omega))
  clear h
  go_enter Tryz.func128, Tryz.ntmps128
  go_wp2_with fail
  refine HAT.out.mono ?_
  rintro e w1 ⟨rfl, hb1⟩
  have hm1 := HH.out.on hb1
  have f1 : Fr b (Value.slice a N cap).ownBlock w w1 := Fr.of hb1
  have HF1 := hid_m f1
  have HM1 := hid_m hm1
  have hNl : N = L.length := by
    rcases HH.out.own.2 with ⟨h, h'⟩ | ⟨g, cap', cur, h, _⟩
    · cases h; have := h'; simp at this; omega
    · cases h; rfl
  have HNL := hid_m hNl
  have hN16 : N ≤ 16 := by have := HH.out.few; have := HH.out.sl16; omega
  have hs16 : sl ≤ 16 := HH.out.sl16
  have d0 := hm1.c0
  have d1 := hm1.c1
  have dz := hm1.fz
  clear hm1 f1 hb1 c0 c1 fz hNl
  cases hat : P.atK L k with
  | none =>
    have HAT := hid_m hat
    clear hat
    by_cases hfull : sl ≤ N
    · have HD : Hid (P.mapDo sl 2 k v L = (2, L)) := by unfold Hid P.mapDo; rw [if_neg (by decide), if_pos rfl, HAT.out]; simp only; rw [if_pos (by have := HNL.out; omega)]
      have hge : (sl : Int) ≤ (N : Int) := by omega
      clear hfull
      unfold atI
      go_wp2_with fail
      go_quiet (fail)
      go_wp2_with fail
      go_ret
      rw [HD.out]
      exact ⟨rfl, ⟨_, by rw [HM1.out.same]; exact HM1.out.drewn _, fun g hg => Or.inl hg⟩, HF1.out.drewn _⟩
    · have HD : Hid (P.mapDo sl 2 k v L = (0, L ++ [(k, v)])) := by unfold Hid P.mapDo; rw [if_neg (by decide), if_pos rfl, HAT.out]; simp only; rw [if_neg (by have := HNL.out; omega)]
      have hge : ¬ (sl : Int) ≤ (N : Int) := by omega
      have HLT : Hid (L.length < sl) := by unfold Hid; have := HNL.out; omega
      clear hfull
      unfold atI
      go_wp2_with fail
      go_quiet (fail)
      obtain ⟨w2, hw2⟩ : ∃ w2, w1.drewN nq = w2 := ⟨_, rfl⟩
      have HM2 := hid_m (HM1.out.drewn nq)
      have HF2 := hid_m (HF1.out.drewn nq)
      rw [hw2] at HM2 HF2 ⊢
      clear hw2 d0 d1 dz HM1 HF1
      have d1 := HM2.out.c1
      have hsz2 := HM2.out.here
      have hL16 : L.length ≤ 15 := by have := HLT.out; omega
      go_wp2_with (first
        | (at_builtin; refine wpList_append_lies _ rfl _ _ 124 rfl M 178 i0 (.agg #[.string ⟨#[]⟩, .string ⟨#[]⟩]) 2 32 Tryz.underlying124 hi0 hz0 hz1 hz2 rfl (by decide) (.slice a N cap) L.length (pairCells L) rfl (HM2.out.own.alloc _) ⟨w2.heap.size, 0, none⟩ 1 1 (pairC (k, v)) rfl rfl (two_new _ _ _ _) (fun x hx => by simp [pairC] at hx; rcases hx with rfl | rfl <;> rfl) (by omega) (by unfold maxLen; omega) (by omega) (by simp; omega) _ rfl ?_; intro g4 cap4 w4 hown' hgrow hat4 hlt4
           obtain ⟨X1, X2, X3, X4⟩ := HM2.out.grow HF2.out hgrow hown' HLT.out
           have NX : Nx w (.slice a N cap) (.slice (some ⟨g4, 0, none⟩) (L.length + 1) cap4) := fun g hg => by
             have e : g4 = g := by simpa [Value.ownBlock] using hg
             subst e
             rcases hat4 with h | h
             · exact Or.inl h
             · right; have := HF2.out.size; simp at h; omega))
      go_ret
      rw [HD.out]
      exact ⟨rfl, ⟨_, X1, NX⟩, X2⟩
  | some i =>
    have HAT := hid_m hat
    obtain ⟨v0, hv0⟩ := P.atK_some hat
    have HV0 := hid_m hv0
    have hiL : i < L.length := (List.getElem?_eq_some_iff.1 hv0).1
    have HD : Hid (P.mapDo sl 2 k v L = (0, L.set i (k, v))) := by unfold Hid P.mapDo; rw [if_neg (by decide), if_pos rfl, HAT.out]
    obtain ⟨g, cap', hv, hgM, hgl⟩ := HM1.out.own.form (by omega)
    have ha : a = some ⟨g, 0, none⟩ := by injection hv
    subst ha
    obtain ⟨e0, e1, hNe, hcp⟩ := pair_cell HM1.out.own hv0
    have hi0' : (0 : Int) ≤ (i : Int) := Int.natCast_nonneg i
    have hi1 : ¬ (i : Int) < 0 := by omega
    have hi2 : (i : Int) < (N : Int) := by have := HNL.out; omega
    have HIL := hid_m hiL
    have HGM := hid_m hgM
    clear hv hNe hat hv0 hiL hgM hgl e0 e1 hcp hi1
    have hgd : decide ((i : Int) < 0) = false := decide_eq_false (by omega)
    unfold atI
    go_wp2_with fail
    go_quiet (fail)
    obtain ⟨w2, hw2⟩ : ∃ w2, w1.drewN nq = w2 := ⟨_, rfl⟩
    have HM2 := hid_m (HM1.out.drewn nq)
    have HF2 := hid_m (HF1.out.drewn nq)
    rw [hw2] at HM2 HF2 ⊢
    clear hw2 d0 d1 dz HM1 HF1 hbl hN16 hs16
    have d1 := HM2.out.c1
    obtain ⟨e0, e1, hNe, hcp⟩ := pair_cell HM2.out.own HV0.out
    simp only at e0 e1
    have f0 := pair_fz HM2.out.own (i * 2)
    have f1 := pair_fz HM2.out.own (i * 2 + 1)
    obtain ⟨X1, X2⟩ := HM2.out.put HF2.out k v HIL.out
    have HX1 := hid_m X1
    have HX2 := hid_m X2
    clear hNe X1 X2
    go_wp2_with fail
    go_ret
    rw [HD.out]
    exact ⟨rfl, ⟨_, by rw [HM2.out.same]; exact HX1.out, fun g hg => Or.inl hg⟩, HX2.out⟩
end Go.Proofs.YtghggcehloiemabGreatDoor
namespace Go.Proofs.YtghggcehloiemabGreatDoor
open Go.RowKit
set_option linter.unusedVariables false
set_option maxRecDepth 16000
theorem erase_next {α : Type} {L : List α} {t i0 : Nat} {x : α} (h : L[t]? = some x) : (L.take (t + 1)).eraseIdx i0 = if t = i0 then (L.take t).eraseIdx i0 else (L.take t).eraseIdx i0 ++ [x] := by
  have ht := (List.getElem?_eq_some_iff.1 h).1
  have hl : (L.take t).length = t := by rw [List.length_take]; omega
  rw [List.take_add_one, h, Option.toList_some]
  by_cases h1 : t = i0
  · rw [if_pos h1]
    subst h1
    rw [List.eraseIdx_append_of_length_le (by omega), hl, Nat.sub_self, List.eraseIdx_of_length_le (l := L.take t) (by omega)]
    simp
  · rw [if_neg h1]
    rcases Nat.lt_or_ge i0 t with h2 | h2
    · rw [List.eraseIdx_append_of_lt_length (by omega)]
    · rw [List.eraseIdx_of_length_le (by simp; omega), List.eraseIdx_of_length_le (by omega)]
set_option maxHeartbeats 4000000 in
theorem rDrop_any {w : World} (b o M sl : Nat) (cs : Array Value) (T : TypeId) (lv : Value) (L : List (ByteArray × ByteArray)) (k v : ByteArray) (h : Mp w b o M sl cs T lv L) :
    Calls Tryz.prog 130 #[.pointer (some ⟨b, o, none⟩), .string k] w fun e w' => e = .returned (.bool (decide ((P.mapDo sl 3 k v L).1 = 0))) ∧ (∃ lv', Mp w' b o M sl (cs.setIfInBounds (o + 1) lv') T lv' (P.mapDo sl 3 k v L).2 ∧ Nx w lv lv') ∧ Fr b lv.ownBlock w w' := by
  obtain ⟨ip, hip, hz0, hz1, hz2⟩ := info_parts Tryz.infoPair
  obtain ⟨a, N, cap, rfl⟩ := owns_slice h.own
  have hbl := h.lt2
  have HH := hid_m h
  have HAT := hid_m (rAt_any b o M (.slice a N cap) L k h.c1 hbl h.own (by have := h.few; have := h.sl16; omega))
  have hNl : N = L.length := by
    rcases h.own.2 with ⟨h, h'⟩ | ⟨g, cap', cur, h, _⟩
    · cases h; have := h'; simp at this; omega
    · cases h; rfl
  have HNL := hid_m hNl
  have hN16 : N ≤ 16 := by have := h.few; have := h.sl16; omega
  obtain ⟨i0, hi0⟩ : ∃ i0, (P.atK L k).getD L.length = i0 := ⟨_, rfl⟩
  obtain ⟨j, hj⟩ : ∃ j, atI (P.atK L k) = j := ⟨_, rfl⟩
  have HJ : Hid (∀ t : Nat, t < L.length → ((t : Int) = j ↔ t = i0)) := by
    intro t ht
    rw [← hj, ← hi0]
    cases hq : P.atK L k with
    | none => simp only [atI, Option.getD_none]; omega
    | some i => simp only [atI, Option.getD_some]; omega
  have HD : Hid ((P.mapDo sl 3 k v L).2 = L.eraseIdx i0 ∧ decide ((P.mapDo sl 3 k v L).1 = 0) = decide ((0 : Int) ≤ j)) := by
    unfold Hid P.mapDo
    rw [if_neg (by decide), if_neg (by decide), if_pos rfl, ← hi0, ← hj]
    cases hq : P.atK L k with
    | none => exact ⟨by simp [List.eraseIdx_of_length_le], by simp [atI]⟩
    | some i => exact ⟨rfl, by simp [atI]⟩
  rw [hj] at HAT
  clear h hNl hi0 hj
  go_enter Tryz.func130, Tryz.ntmps130
  go_wp2_with fail
  refine HAT.out.mono ?_
  rintro e w1 ⟨rfl, hb1⟩
  have HM1 := hid_m (HH.out.on hb1)
  have HF1 := hid_m (Fr.of (b := b) (r := (Value.slice a N cap).ownBlock) hb1)
  have HW1 := hid_m hb1.size
  have d1 := HM1.out.c1
  clear hb1
  go_wp2_with fail
  go_loopw [6, 7] (fun l i wr => ∃ (t : Nat), t ≤ N ∧ i = .int .i64 t ∧ Hid (wr.ownsRow w1.heap.size 178 2 l ((L.take t).eraseIdx i0).length (pairCells ((L.take t).eraseIdx i0))) ∧ Hid (Below w1.heap.size w1 wr)) (fun _ i _ => N - (intOf i).toNat)
  case atStart => exact ⟨0, Nat.zero_le _, rfl, World.ownsRow_nil _ _ _ _, Below.refl _ _⟩
  case round =>
    obtain ⟨t, ht, rfl, hl, hb⟩ := hrel
    have HM := hid_m (HM1.out.on hb.out)
    have hws := hb.out.size
    clear d1
    have d1 := HM.out.c1
    by_cases hlt : t < N
    · obtain ⟨p, hp⟩ : ∃ p, L[t]? = some p := ⟨_, List.getElem?_eq_getElem (by have := HNL.out; omega)⟩
      obtain ⟨g, cap', hv, _, hgl⟩ := HM.out.own.form (by have := HNL.out; omega)
      have ha : a = some ⟨g, 0, none⟩ := by injection hv
      subst ha
      obtain ⟨e0, e1, hNe, hcp⟩ := pair_cell HM.out.own hp
      have HNX := hid_m (erase_next (i0 := i0) hp)
      have HTL : Hid (((L.take t).eraseIdx i0).length ≤ 16) := by
        unfold Hid
        have := List.length_eraseIdx_le (L.take t) i0
        rw [List.length_take] at this; omega
      have j0 : (0 : Int) ≤ (t : Int) := Int.natCast_nonneg t
      have j1 : (t : Int) < (N : Int) := by omega
      have HTN : Hid (t + 1 ≤ N) := hlt
      have HTW : Hid (wrap64 ((t : Int) + 1) = (t : Int) + 1) := w64_id _ (by omega) (by omega)
      have hjt := HJ.out t (by have := HNL.out; omega)
      obtain ⟨pk, pv⟩ := p
      simp only at e0 e1
      clear hv hNe hp ht hlt hbl
      by_cases hti : t = i0
      · have hne : ((t : Int) != j) = false := by rw [bne_eq_false_iff_eq]; exact hjt.2 hti
        have HNX2 : Hid ((L.take (t + 1)).eraseIdx i0 = (L.take t).eraseIdx i0) := by unfold Hid; rw [HNX.out, if_pos hti]
        clear hjt hti
        go_wp2_with fail
        refine ⟨⟨t + 1, HTN.out, by first | (rw [HTW.out]; exact next_t) | exact next_t, ?_, hb⟩, by first | (rw [HTW.out]; exact less_t HTN.out) | exact less_t HTN.out⟩
        rw [HNX2.out]; exact hl
      · have hne : ((t : Int) != j) = true := by rw [bne_iff_ne]; exact fun h => hti (hjt.1 h)
        have HNX2 : Hid ((L.take (t + 1)).eraseIdx i0 = (L.take t).eraseIdx i0 ++ [(pk, pv)]) := by unfold Hid; rw [HNX.out, if_neg hti]
        have hcl := HTL.out
        clear hjt hti
        go_wp2_with (first
          | (at_builtin; refine wpList_append_lies _ rfl _ _ 124 rfl w1.heap.size 178 ip (.agg #[.string ⟨#[]⟩, .string ⟨#[]⟩]) 2 32 Tryz.underlying124 hip hz0 hz1 hz2 rfl (by decide) u6 _ (pairCells ((L.take t).eraseIdx i0)) rfl (hl.out.alloc _) ⟨wr.heap.size, 0, none⟩ 1 1 (pairC (pk, pv)) rfl rfl (two_new _ _ _ _) (fun x hx => by simp [pairC] at hx; rcases hx with rfl | rfl <;> rfl) (by omega) (by unfold maxLen; omega) (by omega) (by simp; omega) _ rfl ?_; intro g4 cap4 w4 hown' hgrow hat4 hlt4
             have hbe4 := m_grown_below hb.out hl.out hgrow (Nat.le_refl _)))
        refine ⟨⟨t + 1, HTN.out, by first | (rw [HTW.out]; exact next_t) | exact next_t, ?_, hbe4⟩, by first | (rw [HTW.out]; exact less_t HTN.out) | exact less_t HTN.out⟩
        rw [HNX2.out, pairCells_append, List.length_append]
        unfold Hid
        simpa [pairCells] using hown'
    · have hte : t = N := by omega
      subst hte
      have htk : L.take t = L := List.take_of_length_le (Nat.le_of_eq HNL.out.symm)
      rw [htk] at hl
      obtain ⟨a5, N5, c5, rfl⟩ := owns_slice hl.out
      have dz := HM.out.fz
      have HFR : Hid (Fr b (Value.slice a t cap).ownBlock w wr) := HF1.out.trans (Fr.of (b := b) (r := (Value.slice a t cap).ownBlock) hb.out) (fun g hg => Or.inl hg)
      have NX : Hid (Nx w (.slice a t cap) (.slice a5 N5 c5)) := fun g hg => by right; have := (hl.out.lt g hg).1; have := HW1.out; omega
      have hin := (Array.getElem?_eq_some_iff.1 HM.out.a1).1
      have X1 : Mp (wr.setCell ⟨b, o + 1, none⟩ (.slice a5 N5 c5)) b o M sl (cs.setIfInBounds (o + 1) (.slice a5 N5 c5)) T (.slice a5 N5 c5) (L.eraseIdx i0) := by
        refine ⟨by simp [World.setCell, Array.getElem?_modify, HM.out.blk], ?_, ?_, ?_, HM.out.lt, by have := HM.out.here; simp [World.setCell]; omega, ?_, HM.out.sl16⟩
        · rw [Array.getElem?_setIfInBounds_ne (by omega)]; exact HM.out.a0
        · rw [Array.getElem?_setIfInBounds_self_of_lt hin]
        · refine m_owns_of (p_owns_less hl.out HM1.out.here) (fun g hg => set_other ?_)
          have := (hl.out.lt g hg).1; have := HM1.out.here; have := HM.out.lt; omega
        · have := List.length_eraseIdx_le L i0; have := HM.out.few; omega
      have HX1 := hid_m X1
      have HX2 := hid_m (HFR.out.set (o + 1) (.slice a5 N5 c5))
      clear X1 htk ht hlt hl hin
      go_wp2_with fail
      go_ret
      exact ⟨by rw [HD.out.2]; rfl, ⟨_, by rw [HD.out.1]; exact HX1.out, NX.out⟩, HX2.out⟩
end Go.Proofs.YtghggcehloiemabGreatDoor
namespace Go.Proofs.YtghggcehloiemabGreatDoor
open Go.RowKit
set_option linter.unusedVariables false
set_option maxRecDepth 16000
theorem Mp.len {w : World} {b o M sl : Nat} {cs : Array Value} {T : TypeId} {lv : Value} {L : List (ByteArray × ByteArray)} (h : Mp w b o M sl cs T lv L) {a : Option Addr} {N cap : Nat} (hk : lv = .slice a N cap) : N = L.length := by
  rcases h.own.2 with ⟨h1, h2⟩ | ⟨g, cap', cur, h1, _⟩
  · rw [hk] at h1; cases h1; omega
  · rw [hk] at h1; cases h1; rfl
/-- The reference's Len. -/
theorem rtLen_any {w : World} (b M sl : Nat) (cs : Array Value) (lv : Value) (L : List (ByteArray × ByteArray)) (h : Mp w b 10 M sl cs 128 lv L) :
    Calls Tryz.prog 85 #[.pointer (some ⟨b, 0, none⟩)] w fun e w' => e = .returned (.int .i64 L.length) ∧ w' = w := by
  obtain ⟨a, N, cap, rfl⟩ := owns_slice h.own
  have hNl := h.len rfl
  subst hNl
  have hc : w.cell? ⟨b, 11, none⟩ = some (.slice a L.length cap) := h.c1
  clear h
  go_enter Tryz.func85, Tryz.ntmps85
  go_wp2_with fail
  go_ret
  exact ⟨rfl, rfl⟩
/-- The reference's Clear. -/
theorem Mp.clear {w : World} {b o M sl : Nat} {cs : Array Value} {T : TypeId} {lv : Value} {L : List (ByteArray × ByteArray)} (h : Mp w b o M sl cs T lv L) : Mp (w.setCell ⟨b, o + 1, none⟩ (.slice none 0 0)) b o M sl (cs.setIfInBounds (o + 1) (.slice none 0 0)) T (.slice none 0 0) [] := by
  have hlt : o + 1 < cs.size := (Array.getElem?_eq_some_iff.1 h.a1).1
  refine ⟨?_, ?_, ?_, World.ownsRow_nil _ _ _ _, h.lt, by have := h.here; simp [World.setCell]; omega, Nat.zero_le _, h.sl16⟩
  · have := h.blk
    simp [World.setCell, Array.getElem?_modify, this]
  · rw [Array.getElem?_setIfInBounds_ne (by omega)]; exact h.a0
  · rw [Array.getElem?_setIfInBounds_self]; simp [hlt]
theorem rtClear_any {w : World} (b M sl : Nat) (cs : Array Value) (lv : Value) (L : List (ByteArray × ByteArray)) (h : Mp w b 10 M sl cs 128 lv L) :
    Calls Tryz.prog 86 #[.pointer (some ⟨b, 0, none⟩)] w fun e w' => e = .returned (.tuple #[]) ∧ Mp w' b 10 M sl (cs.setIfInBounds 11 (.slice none 0 0)) 128 (.slice none 0 0) [] ∧ Fr b lv.ownBlock w w' := by
  have hc : w.cell? ⟨b, 11, none⟩ = some lv := h.c1
  have hz : w.frozen? ⟨b, 11, none⟩ = false := h.fz
  have HM : Hid (Mp (w.setCell ⟨b, 11, none⟩ (.slice none 0 0)) b 10 M sl (cs.setIfInBounds 11 (.slice none 0 0)) 128 (.slice none 0 0) []) := h.clear
  have HF : Hid (Fr b lv.ownBlock w (w.setCell ⟨b, 11, none⟩ (.slice none 0 0))) := (Fr.refl _ _ _).set _ _
  clear h
  go_enter Tryz.func86, Tryz.ntmps86
  go_wp2_with fail
  refine bodyPost_end (results_none rfl _ _ _) rfl ?_
  exact ⟨rfl, HM.out, HF.out⟩
end Go.Proofs.YtghggcehloiemabGreatDoor
