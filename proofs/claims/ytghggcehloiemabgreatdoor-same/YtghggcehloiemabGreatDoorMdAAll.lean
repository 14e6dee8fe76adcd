import Derived.Test.YtghggcehloiemabGreatDoorPrDAll
import Derived.Test.YtghggcehloiemabGreatDoorMcTW3
import Derived.Test.YtghggcehloiemabGreatDoorParseWAll
namespace Go.Proofs.YtghggcehloiemabGreatDoor
open Go.RowKit
set_option linter.unusedVariables false
set_option maxRecDepth 16000
def pairC (p : ByteArray × ByteArray) : List Value := [.string p.1, .string p.2]
def pairCells (L : List (ByteArray × ByteArray)) : List Value := L.flatMap pairC
theorem pairCells_append (A B : List (ByteArray × ByteArray)) : pairCells (A ++ B) = pairCells A ++ pairCells B := by simp [pairCells]
theorem pairCells_len (L : List (ByteArray × ByteArray)) : (pairCells L).length = 2 * L.length := by
  induction L with
  | nil => rfl
  | cons p L ih => rw [show pairCells (p :: L) = pairC p ++ pairCells L from by simp [pairCells], List.length_append, ih, List.length_cons]; show 2 + _ = _; omega
theorem pairCells_get : ∀ (L : List (ByteArray × ByteArray)) (i j : Nat) (p : ByteArray × ByteArray), L[i]? = some p → j < 2 → (pairCells L)[i * 2 + j]? = (pairC p)[j]?
  | [], i, j, p, h, _ => by simp at h
  | q :: L, 0, j, p, h, hj => by
    simp at h; subst h
    rw [show pairCells (q :: L) = pairC q ++ pairCells L from by simp [pairCells], Nat.zero_mul, Nat.zero_add, List.getElem?_append_left (by show j < 2; exact hj)]
  | q :: L, i + 1, j, p, h, hj => by
    rw [show pairCells (q :: L) = pairC q ++ pairCells L from by simp [pairCells], List.getElem?_append_right (by show 2 ≤ _; omega)]
    have e : (i + 1) * 2 + j - (pairC q).length = i * 2 + j := by show _ - 2 = _; omega
    rw [e]
    exact pairCells_get L i j p (by simpa using h) hj
theorem pair_cell {w : World} {base g N cap k : Nat} {L : List (ByteArray × ByteArray)} {p : ByteArray × ByteArray} (h : w.ownsRow base 178 2 (.slice (some ⟨g, 0, none⟩) N cap) L.length (pairCells L)) (hx : L[k]? = some p) :
    w.cell? ⟨g, k * 2, none⟩ = some (.string p.1) ∧ w.cell? ⟨g, k * 2 + 1, none⟩ = some (.string p.2) ∧ N = L.length ∧ N ≤ cap := by
  obtain ⟨h1, h2⟩ := h
  rcases h2 with ⟨h2, _⟩ | ⟨g', cap', cur, hv, hb, hg, hn, hm, hsz, htk⟩
  · cases h2
  · cases hv
    have hk : k < L.length := (List.getElem?_eq_some_iff.1 hx).1
    have key : ∀ j, j < 2 → w.cell? ⟨g, k * 2 + j, none⟩ = (pairC p)[j]? := by
      intro j hj
      rw [cell_of_row w g _ _ _ _ hg]
      have hget := pairCells_get L k j p hx hj
      rw [← htk, List.getElem?_take_of_lt (by omega)] at hget
      simpa using hget
    exact ⟨key 0 (by omega), key 1 (by omega), rfl, hn⟩
theorem str_ne {a b : ByteArray} (h : ¬ a = b) : (a.toList == b.toList) = false := by
  rw [beq_eq_false_iff_ne, ByteArray.toList_eq, ByteArray.toList_eq]
  intro hh
  apply h
  obtain ⟨a⟩ := a
  obtain ⟨b⟩ := b
  exact congrArg ByteArray.mk (Array.toList_inj.1 hh)
def atI (o : Option Nat) : Int := match o with
  | some i => (i : Int)
  | none => -1
theorem atK_snoc {L : List (ByteArray × ByteArray)} {k : ByteArray} {t : Nat} {p : ByteArray × ByteArray} (h : L[t]? = some p) (hn : ∀ q ∈ L.take t, q.1 ≠ k) (hk : p.1 = k) : P.atK L k = some t := by
  unfold P.atK
  rw [List.findIdx?_eq_some_iff_getElem]
  have ht := (List.getElem?_eq_some_iff.1 h).1
  have he := (List.getElem?_eq_some_iff.1 h).2
  refine ⟨ht, by rw [he]; simpa using hk, fun j hj => ?_⟩
  have hm : L[j] ∈ L.take t := by rw [List.mem_take_iff_getElem]; exact ⟨j, by omega, rfl⟩
  simpa using hn _ hm
set_option maxHeartbeats 4000000 in
theorem rAt_any {w : World} (b o base : Nat) (lv : Value) (L : List (ByteArray × ByteArray)) (k : ByteArray) (hc : w.cell? ⟨b, o + 1, none⟩ = some lv) (hb : b < w.heap.size) (hown : w.ownsRow base 178 2 lv L.length (pairCells L)) (hL : L.length ≤ 100) :
    Calls Tryz.prog 129 #[.pointer (some ⟨b, o, none⟩), .string k] w fun e w' => e = .returned (.int .i64 (atI (P.atK L k))) ∧ Below w.heap.size w w' := by
  obtain ⟨a, N, cap, rfl⟩ := owns_slice hown
  have hNl : N = L.length := by
    rcases hown.2 with ⟨h, h'⟩ | ⟨g, cap', cur, h, _⟩
    · cases h; omega
    · cases h; rfl
  have HNL := hid_m hNl
  have HOWN := hid_m hown
  have hN : N ≤ 100 := by omega
  clear hown hNl
  go_enter Tryz.func129, Tryz.ntmps129
  go_wp2_with fail
  go_loopw [5] (fun j wr => ∃ (t : Nat), t ≤ N ∧ j = .int .i64 t ∧ Hid (∀ q ∈ L.take t, q.1 ≠ k) ∧ wr = w) (fun j _ => N - (intOf j).toNat)
  case atStart => exact ⟨0, Nat.zero_le _, rfl, fun q hq => by simp at hq, rfl⟩
  case round =>
    obtain ⟨t, ht, rfl, HQ, hwr⟩ := hrel
    subst wr
    by_cases hlt : t < N
    · obtain ⟨p, hp⟩ : ∃ p, L[t]? = some p := ⟨_, List.getElem?_eq_getElem (by have := HNL.out; omega)⟩
      obtain ⟨g, cap', hv, _, hgl⟩ := HOWN.out.form (by have := HNL.out; omega)
      have ha : a = some ⟨g, 0, none⟩ := by injection hv
      subst ha
      clear hv
      obtain ⟨d0, d1, hNe, hcp⟩ := pair_cell HOWN.out hp
      clear hNe
      have HPE := hid_m hp
      have j0 : (0 : Int) ≤ (t : Int) := Int.natCast_nonneg t
      have j1 : (t : Int) < (N : Int) := by omega
      have HTN : Hid (t + 1 ≤ N) := hlt
      have HTW : Hid (wrap64 ((t : Int) + 1) = (t : Int) + 1) := w64_id _ (by omega) (by omega)
      clear hp ht hlt
      obtain ⟨pk, pv⟩ := p
      simp only at d0 d1
      by_cases he : pk = k
      · subst he
        have HA : Hid (P.atK L pk = some t) := atK_snoc HPE.out HQ.out rfl
        go_wp2_with fail
        go_ret
        exact ⟨by rw [HA.out]; rfl, Below.refl _ _⟩
      · have HQ2 : Hid (∀ q ∈ L.take (t + 1), q.1 ≠ k) := by
          intro q hq
          rw [List.take_add_one, HPE.out] at hq
          rcases List.mem_append.1 hq with hq | hq
          · exact HQ.out q hq
          · simp at hq; subst hq; exact he
        have hne := str_ne he
        clear he
        go_wp2_with fail
        exact ⟨⟨t + 1, HTN.out, by first | (rw [HTW.out]; exact next_t) | exact next_t, HQ2.out, trivial⟩, by first | (rw [HTW.out]; exact less_t HTN.out) | exact less_t HTN.out⟩
    · have hte : t = N := by omega
      subst hte
      have HA : Hid (P.atK L k = none) := P.atK_none (fun q hq => HQ.out q (by rw [List.take_of_length_le (Nat.le_of_eq HNL.out.symm)]; exact hq))
      clear ht hlt
      go_wp2_with fail
      go_ret
      exact ⟨by rw [HA.out]; rfl, Below.refl _ _⟩
end Go.Proofs.YtghggcehloiemabGreatDoor
namespace Go.Proofs.YtghggcehloiemabGreatDoor
open Go.RowKit
set_option linter.unusedVariables false
set_option maxRecDepth 16000
/-- A plain map lies at a place of block b: how many it may hold, and the row of its pairs, in blocks from M on. -/
structure Mp (w : World) (b o M sl : Nat) (cs : Array Value) (T : TypeId) (lv : Value) (L : List (ByteArray × ByteArray)) : Prop where
  blk : w.heap[b]? = some (.cells cs T (0, 0))
  a0 : cs[o]? = some (.int .i64 sl)
  a1 : cs[o + 1]? = some lv
  own : w.ownsRow M 178 2 lv L.length (pairCells L)
  lt : b < M
  here : M ≤ w.heap.size
  few : L.length ≤ sl
  sl16 : sl ≤ 16
theorem Mp.c0 {w : World} {b o M sl : Nat} {cs : Array Value} {T : TypeId} {lv : Value} {L : List (ByteArray × ByteArray)} (h : Mp w b o M sl cs T lv L) : w.cell? ⟨b, o, none⟩ = some (.int .i64 sl) := by rw [cell_of_row _ _ _ _ _ _ h.blk]; exact h.a0
theorem Mp.c1 {w : World} {b o M sl : Nat} {cs : Array Value} {T : TypeId} {lv : Value} {L : List (ByteArray × ByteArray)} (h : Mp w b o M sl cs T lv L) : w.cell? ⟨b, o + 1, none⟩ = some lv := by rw [cell_of_row _ _ _ _ _ _ h.blk]; exact h.a1
theorem Mp.fz {w : World} {b o M sl : Nat} {cs : Array Value} {T : TypeId} {lv : Value} {L : List (ByteArray × ByteArray)} (h : Mp w b o M sl cs T lv L) : w.frozen? ⟨b, o + 1, none⟩ = false := by simp [World.frozen?, h.blk]
theorem Mp.same {w : World} {b o M sl : Nat} {cs : Array Value} {T : TypeId} {lv : Value} {L : List (ByteArray × ByteArray)} (h : Mp w b o M sl cs T lv L) : cs.setIfInBounds (o + 1) lv = cs := by
  apply Array.ext_getElem?
  intro i
  by_cases hi : o + 1 = i
  · subst hi
    have hlt := (Array.getElem?_eq_some_iff.1 h.a1).1
    rw [Array.getElem?_setIfInBounds_self_of_lt hlt, h.a1]
  · rw [Array.getElem?_setIfInBounds_ne hi]
theorem Mp.lt2 {w : World} {b o M sl : Nat} {cs : Array Value} {T : TypeId} {lv : Value} {L : List (ByteArray × ByteArray)} (h : Mp w b o M sl cs T lv L) : b < w.heap.size := by have := h.lt; have := h.here; omega
/-- What may differ of what there was: block b, and the row's own block r. -/
structure Fr (b : Nat) (r : Option Nat) (w w' : World) : Prop where
  os : w'.os = w.os
  tape : w'.tape = w.tape
  output : w'.output = w.output
  size : w.heap.size ≤ w'.heap.size
  block : ∀ k, k < w.heap.size → k ≠ b → r ≠ some k → w'.heap[k]? = w.heap[k]?
theorem Fr.refl (b : Nat) (r : Option Nat) (w : World) : Fr b r w w := ⟨rfl, rfl, rfl, Nat.le_refl _, fun _ _ _ _ => rfl⟩
/-- A row's block is the old one's, or new. -/
def Nx (w : World) (v v' : Value) : Prop := ∀ g, v'.ownBlock = some g → v.ownBlock = some g ∨ w.heap.size ≤ g
theorem Fr.trans {b : Nat} {r r' : Option Nat} {w w1 w2 : World} (h : Fr b r w w1) (k : Fr b r' w1 w2) (hr : ∀ g, r' = some g → r = some g ∨ w.heap.size ≤ g) : Fr b r w w2 := ⟨k.os.trans h.os, k.tape.trans h.tape, k.output.trans h.output, Nat.le_trans h.size k.size, fun i hi hb hn => (k.block i (by have := h.size; omega) hb (fun e => (hr i e).elim hn (fun h => by omega))).trans (h.block i hi hb hn)⟩
theorem Fr.of {b : Nat} {r : Option Nat} {w w1 : World} (h : Below w.heap.size w w1) : Fr b r w w1 := ⟨h.os, h.tape, h.output, h.size, fun k hk _ _ => h.block k hk⟩
theorem Fr.below {b B : Nat} {r : Option Nat} {w w1 : World} (h : Fr b r w w1) (hB : B ≤ b) (hr : ∀ g, r = some g → B ≤ g) (hw : B ≤ w.heap.size) : Below B w w1 := ⟨h.os, h.tape, h.output, h.size, fun k hk => h.block k (by omega) (by omega) (fun e => by have := hr k e; omega)⟩
theorem Fr.set {b : Nat} {r : Option Nat} {w w1 : World} (h : Fr b r w w1) (o : Nat) (v : Value) : Fr b r w (w1.setCell ⟨b, o, none⟩ v) := ⟨h.os, h.tape, h.output, by simp [World.setCell]; exact h.size, fun k hk hb hn => by rw [set_other hb]; exact h.block k hk hb hn⟩
theorem Mp.on {w w' : World} {b o M sl : Nat} {cs : Array Value} {T : TypeId} {lv : Value} {L : List (ByteArray × ByteArray)} (h : Mp w b o M sl cs T lv L) (hb : Below w.heap.size w w') : Mp w' b o M sl cs T lv L :=
  ⟨by rw [hb.block b h.lt2]; exact h.blk, h.a0, h.a1, owns_on h.own hb, h.lt, Nat.le_trans h.here hb.size, h.few, h.sl16⟩
theorem Mp.drewn {w : World} {b o M sl : Nat} {cs : Array Value} {T : TypeId} {lv : Value} {L : List (ByteArray × ByteArray)} (h : Mp w b o M sl cs T lv L) (n : Nat) : Mp (w.drewN n) b o M sl cs T lv L := ⟨h.blk, h.a0, h.a1, m_owns_of h.own (fun _ _ => rfl), h.lt, h.here, h.few, h.sl16⟩
theorem Fr.drewn {b : Nat} {r : Option Nat} {w w1 : World} (h : Fr b r w w1) (n : Nat) : Fr b r w (w1.drewN n) := ⟨h.os, h.tape, h.output, h.size, h.block⟩
theorem pair_fz {w : World} {base g N cap : Nat} {L : List (ByteArray × ByteArray)} (h : w.ownsRow base 178 2 (.slice (some ⟨g, 0, none⟩) N cap) L.length (pairCells L)) (o : Nat) : w.frozen? ⟨g, o, none⟩ = false := by
  obtain ⟨h1, h2⟩ := h
  rcases h2 with ⟨h2, _⟩ | ⟨g', cap', cur, hv, hb, hg, hn, hm, hsz, htk⟩
  · cases h2
  · cases hv; simp [World.frozen?, hg]
theorem two_new (w : World) (a b : Value) (t : TypeId) : ∀ j u, [a, b][j]? = some u → (w.alloc (.cells #[a, b] t)).cell? ((⟨w.heap.size, 0, none⟩ : Addr).add j) = some u := World.news_of_block (heap_alloc_new w _)
theorem Tryz.infoPair : (Tryz.prog.info? 178).map (fun i => (i.zero, i.size, i.bytes)) = some (some (.agg #[.string ⟨#[]⟩, .string ⟨#[]⟩]), 2, 32) := by kernel_rfl
theorem Mp.grow {w w1 w3 : World} {b o M sl : Nat} {cs : Array Value} {T : TypeId} {lv lv' : Value} {L : List (ByteArray × ByteArray)} {k v : ByteArray} {ob : Obj} (h : Mp w1 b o M sl cs T lv L) (f : Fr b lv.ownBlock w w1) (hg : (w1.alloc ob).grownBy w3 lv.ownBlock)
    (hown' : w3.ownsRow M 178 2 lv' (L.length + 1) (pairCells L ++ pairC (k, v))) (hlt : L.length < sl) :
    Mp (w3.setCell ⟨b, o + 1, none⟩ lv') b o M sl (cs.setIfInBounds (o + 1) lv') T lv' (L ++ [(k, v)]) ∧ Fr b lv.ownBlock w (w3.setCell ⟨b, o + 1, none⟩ lv') ∧ w3.frozen? ⟨b, o + 1, none⟩ = false ∧ w3.cell? ⟨b, o + 1, none⟩ = some lv := by
  have hb3 := m_grown_blk h.own hg h.lt h.blk
  have hlb := h.lt2
  have hin := (Array.getElem?_eq_some_iff.1 h.a1).1
  refine ⟨⟨?_, ?_, ?_, ?_, h.lt, ?_, by simp; omega, h.sl16⟩, ?_, by simp [World.frozen?, hb3], by rw [cell_of_row _ _ _ _ _ _ hb3]; exact h.a1⟩
  · simp [World.setCell, Array.getElem?_modify, hb3]
  · rw [Array.getElem?_setIfInBounds_ne (by omega)]; exact h.a0
  · rw [Array.getElem?_setIfInBounds_self_of_lt hin]
  · have e : pairCells (L ++ [(k, v)]) = pairCells L ++ pairC (k, v) := by rw [pairCells_append]; simp [pairCells]
    rw [e, List.length_append]
    exact m_owns_of hown' (fun g hg' => set_other (by have := (hown'.lt g hg').1; have := h.lt; omega))
  · have s1 := hg.size; have s2 := h.here; simp only [World.size_alloc] at s1; simp [World.setCell]; omega
  · have s1 := hg.size
    simp at s1
    refine ⟨hg.os.trans f.os, hg.tape.trans f.tape, hg.output.trans f.output, by simp [World.setCell]; have := f.size; omega, fun q hq hqb hqr => ?_⟩
    rw [set_other hqb, hg.block q (by have := f.size; simp; omega) (fun e => hqr e.symm), Below.heap_alloc _ _ _ (by have := f.size; omega)]
    exact f.block q hq hqb hqr
theorem pairCells_set : ∀ (L : List (ByteArray × ByteArray)) (i : Nat) (k v : ByteArray), i < L.length → ((pairCells L).set (i * 2) (.string k)).set (i * 2 + 1) (.string v) = pairCells (L.set i (k, v))
  | [], i, k, v, h => by simp at h
  | p :: L, 0, k, v, h => by
    rw [show pairCells (p :: L) = Value.string p.1 :: Value.string p.2 :: pairCells L from by simp [pairCells, pairC]]
    simp [pairCells, pairC]
  | p :: L, i + 1, k, v, h => by
    rw [show pairCells (p :: L) = Value.string p.1 :: Value.string p.2 :: pairCells L from by simp [pairCells, pairC], List.set_cons_succ, show pairCells (p :: L.set i (k, v)) = Value.string p.1 :: Value.string p.2 :: pairCells (L.set i (k, v)) from by simp [pairCells, pairC], ← pairCells_set L i k v (by simpa using h), show (i + 1) * 2 = i * 2 + 1 + 1 by omega, show i * 2 + 1 + 1 + 1 = (i * 2 + 1) + 1 + 1 by omega]
    rfl
theorem Mp.put {w w2 : World} {b o M sl g N cap i : Nat} {cs : Array Value} {T : TypeId} {L : List (ByteArray × ByteArray)} (h : Mp w2 b o M sl cs T (.slice (some ⟨g, 0, none⟩) N cap) L) (f : Fr b (some g) w w2) (k v : ByteArray) (hi : i < L.length) :
    Mp ((w2.setCell ⟨g, i * 2, none⟩ (.string k)).setCell ⟨g, i * 2 + 1, none⟩ (.string v)) b o M sl cs T (.slice (some ⟨g, 0, none⟩) N cap) (L.set i (k, v)) ∧ Fr b (some g) w ((w2.setCell ⟨g, i * 2, none⟩ (.string k)).setCell ⟨g, i * 2 + 1, none⟩ (.string v)) := by
  have hgM : M ≤ g := (h.own.lt g rfl).1
  have hlt := h.lt
  obtain ⟨h1, h2⟩ := h.own
  rcases h2 with ⟨h2, _⟩ | ⟨g', cap', cur, hv, hb, hg, hn, hm, hsz, htk⟩
  · cases h2
  · cases hv
    refine ⟨⟨?_, h.a0, h.a1, ⟨by rw [pairCells_len, List.length_set]; omega, .inr ⟨g, cap, (cur.setIfInBounds (i * 2) (.string k)).setIfInBounds (i * 2 + 1) (.string v), by simp, hb, ?_, by simpa using hn, hm, by simpa using hsz, ?_⟩⟩, hlt, ?_, by simpa using h.few, h.sl16⟩, ?_⟩
    · rw [set_other (by omega), set_other (by omega)]; exact h.blk
    · simp [World.setCell, Array.getElem?_modify, hg]
    · rw [← pairCells_set L i k v hi, ← htk]
      simp [List.take_set]
    · have := h.here; simp [World.setCell]; omega
    · refine ⟨f.os, f.tape, f.output, by have := f.size; simp [World.setCell]; omega, fun q hq hqb hqr => ?_⟩
      have hqg : q ≠ g := fun e => hqr (by rw [e])
      rw [set_other hqg, set_other hqg]; exact f.block q hq hqb hqr
set_option maxHeartbeats 4000000 in
theorem rPut_any {w : World} (b o M sl : Nat) (cs : Array Value) (T : TypeId) (lv : Value) (L : List (ByteArray × ByteArray)) (k v : ByteArray) (h : Mp w b o M sl cs T lv L) :
    Calls Tryz.prog 128 #[.pointer (some ⟨b, o, none⟩), .string k, .string v] w fun e w' => e = .returned (.bool (decide ((P.mapDo sl 2 k v L).1 = 0))) ∧ (∃ lv', Mp w' b o M sl (cs.setIfInBounds (o + 1) lv') T lv' (P.mapDo sl 2 k v L).2 ∧ Nx w lv lv') ∧ Fr b lv.ownBlock w w' := by
  obtain ⟨i0, hi0, hz0, hz1, hz2⟩ := info_parts Tryz.infoPair
  obtain ⟨a, N, cap, rfl⟩ := owns_slice h.own
  have hbl := h.lt2
  have c0 := h.c0
  have c1 := h.c1
  have fz := h.fz
  have HH := hid_m h
  have HAT := hid_m (rAt_any b o M (.slice a N cap) L k h.c1 hbl h.own (by have := h.few; have := h.sl16; omega))
  clear h
  go_enter Tryz.func128, Tryz.ntmps128
  go_wp2_with fail
  refine HAT.out.mono ?_
  rintro e w1 ⟨rfl, hb1⟩
  have hm1 := HH.out.on hb1
  have f1 : Fr b (Value.slice a N cap).ownBlock w w1 := Fr.of hb1
  have HF1 := hid_m f1
  have HM1 := hid_m hm1
  have hNl : N = L.length := by
    rcases HH.out.own.2 with ⟨h, h'⟩ | ⟨g, cap', cur, h, _⟩
    · cases h; have := h'; simp at this; omega
    · cases h; rfl
  have HNL := hid_m hNl
  have hN16 : N ≤ 16 := by have := HH.out.few; have := HH.out.sl16; omega
  have hs16 : sl ≤ 16 := HH.out.sl16
  have d0 := hm1.c0
  have d1 := hm1.c1
  have dz := hm1.fz
  clear hm1 f1 hb1 c0 c1 fz hNl
  cases hat : P.atK L k with
  | none =>
    have HAT := hid_m hat
    clear hat
    by_cases hfull : sl ≤ N
    · have HD : Hid (P.mapDo sl 2 k v L = (2, L)) := by unfold Hid P.mapDo; rw [if_neg (by decide), if_pos rfl, HAT.out]; simp only; rw [if_pos (by have := HNL.out; omega)]
      have hge : (sl : Int) ≤ (N : Int) := by omega
      clear hfull
      unfold atI
      go_wp2_with fail
      go_quiet (fail)
      go_wp2_with fail
      go_ret
      rw [HD.out]
      exact ⟨rfl, ⟨_, by rw [HM1.out.same]; exact HM1.out.drewn _, fun g hg => Or.inl hg⟩, HF1.out.drewn _⟩
    · have HD : Hid (P.mapDo sl 2 k v L = (0, L ++ [(k, v)])) := by unfold Hid P.mapDo; rw [if_neg (by decide), if_pos rfl, HAT.out]; simp only; rw [if_neg (by have := HNL.out; omega)]
      have hge : ¬ (sl : Int) ≤ (N : Int) := by omega
      have HLT : Hid (L.length < sl) := by unfold Hid; have := HNL.out; omega
      clear hfull
      unfold atI
      go_wp2_with fail
      go_quiet (fail)
      obtain ⟨w2, hw2⟩ : ∃ w2, w1.drewN nq = w2 := ⟨_, rfl⟩
      have HM2 := hid_m (HM1.out.drewn nq)
      have HF2 := hid_m (HF1.out.drewn nq)
      rw [hw2] at HM2 HF2 ⊢
      clear hw2 d0 d1 dz HM1 HF1
      have d1 := HM2.out.c1
      have hsz2 := HM2.out.here
      have hL16 : L.length ≤ 15 := by have := HLT.out; omega
      go_wp2_with (first
        | (at_builtin; refine wpList_append_lies _ rfl _ _ 124 rfl M 178 i0 (.agg #[.string ⟨#[]⟩, .string ⟨#[]⟩]) 2 32 Tryz.underlying124 hi0 hz0 hz1 hz2 rfl (by decide) (.slice a N cap) L.length (pairCells L) rfl (HM2.out.own.alloc _) ⟨w2.heap.size, 0, none⟩ 1 1 (pairC (k, v)) rfl rfl (two_new _ _ _ _) (fun x hx => by simp [pairC] at hx; rcases hx with rfl | rfl <;> rfl) (by omega) (by unfold maxLen; omega) (by omega) (by simp; omega) _ rfl ?_; intro g4 cap4 w4 hown' hgrow hat4 hlt4
           obtain ⟨X1, X2, X3, X4⟩ := HM2.out.grow HF2.out hgrow hown' HLT.out
           have NX : Nx w (.slice a N cap) (.slice (some ⟨g4, 0, none⟩) (L.length + 1) cap4) := fun g hg => by
             have e : g4 = g := by simpa [Value.ownBlock] using hg
             subst e
             rcases hat4 with h | h
             · exact Or.inl h
             · right; have := HF2.out.size; simp at h; omega))
      go_ret
      rw [HD.out]
      exact ⟨rfl, ⟨_, X1, NX⟩, X2⟩
  | some i =>
    have HAT := hid_m hat
    obtain ⟨v0, hv0⟩ := P.atK_some hat
    have HV0 := hid_m hv0
    have hiL : i < L.length := (List.getElem?_eq_some_iff.1 hv0).1
    have HD : Hid (P.mapDo sl 2 k v L = (0, L.set i (k, v))) := by unfold Hid P.mapDo; rw [if_neg (by decide), if_pos rfl, HAT.out]
    obtain ⟨g, cap', hv, hgM, hgl⟩ := HM1.out.own.form (by omega)
    have ha : a = some ⟨g, 0, none⟩ := by injection hv
    subst ha
    obtain ⟨e0, e1, hNe, hcp⟩ := pair_cell HM1.out.own hv0
    have hi0' : (0 : Int) ≤ (i : Int) := Int.natCast_nonneg i
    have hi1 : ¬ (i : Int) < 0 := by omega
    have hi2 : (i : Int) < (N : Int) := by have := HNL.out; omega
    have HIL := hid_m hiL
    have HGM := hid_m hgM
    clear hv hNe hat hv0 hiL hgM hgl e0 e1 hcp hi1
    have hgd : decide ((i : Int) < 0) = false := decide_eq_false (by omega)
    unfold atI
    go_wp2_with fail
    go_quiet (fail)
    obtain ⟨w2, hw2⟩ : ∃ w2, w1.drewN nq = w2 := ⟨_, rfl⟩
    have HM2 := hid_m (HM1.out.drewn nq)
    have HF2 := hid_m (HF1.out.drewn nq)
    rw [hw2] at HM2 HF2 ⊢
    clear hw2 d0 d1 dz HM1 HF1 hbl hN16 hs16
    have d1 := HM2.out.c1
    obtain ⟨e0, e1, hNe, hcp⟩ := pair_cell HM2.out.own HV0.out
    simp only at e0 e1
    have f0 := pair_fz HM2.out.own (i * 2)
    have f1 := pair_fz HM2.out.own (i * 2 + 1)
    obtain ⟨X1, X2⟩ := HM2.out.put HF2.out k v HIL.out
    have HX1 := hid_m X1
    have HX2 := hid_m X2
    clear hNe X1 X2
    go_wp2_with fail
    go_ret
    rw [HD.out]
    exact ⟨rfl, ⟨_, by rw [HM2.out.same]; exact HX1.out, fun g hg => Or.inl hg⟩, HX2.out⟩
end Go.Proofs.YtghggcehloiemabGreatDoor
