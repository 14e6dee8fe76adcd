import Derived.Test.YtghggcehloiemabGreatDoorWdAAll
namespace Go.Proofs.YtghggcehloiemabGreatDoor
open Go.RowKit
set_option linter.unusedVariables false
set_option maxRecDepth 16000
/-- What may differ of what there was: block b and two rows. -/
structure F3 (b : Nat) (r1 r2 : Option Nat) (w w' : World) : Prop where
  os : w'.os = w.os
  tape : w'.tape = w.tape
  output : w'.output = w.output
  size : w.heap.size ≤ w'.heap.size
  block : ∀ k, k < w.heap.size → k ≠ b → r1 ≠ some k → r2 ≠ some k → w'.heap[k]? = w.heap[k]?
theorem F3.refl (b : Nat) (r1 r2 : Option Nat) (w : World) : F3 b r1 r2 w w := ⟨rfl, rfl, rfl, Nat.le_refl _, fun _ _ _ _ _ => rfl⟩
theorem F3.of {b : Nat} {r1 r2 : Option Nat} {w w1 : World} (h : Below w.heap.size w w1) : F3 b r1 r2 w w1 := ⟨h.os, h.tape, h.output, h.size, fun k hk _ _ _ => h.block k hk⟩
theorem F3.ofFr {b : Nat} {r1 r2 : Option Nat} {w w1 : World} (h : Fr b none w w1) : F3 b r1 r2 w w1 := ⟨h.os, h.tape, h.output, h.size, fun k hk hb _ _ => h.block k hk hb (fun e => by cases e)⟩
theorem F3.trans {b : Nat} {r1 r2 q1 q2 : Option Nat} {w w1 w2 : World} (h : F3 b r1 r2 w w1) (k : F3 b q1 q2 w1 w2) (h1 : ∀ g, q1 = some g → r1 = some g ∨ w.heap.size ≤ g) (h2 : ∀ g, q2 = some g → r2 = some g ∨ w.heap.size ≤ g) : F3 b r1 r2 w w2 :=
  ⟨k.os.trans h.os, k.tape.trans h.tape, k.output.trans h.output, Nat.le_trans h.size k.size, fun i hi hb a1 a2 => (k.block i (by have := h.size; omega) hb (fun e => (h1 i e).elim a1 (fun x => by omega)) (fun e => (h2 i e).elim a2 (fun x => by omega))).trans (h.block i hi hb a1 a2)⟩
theorem F3.set {b : Nat} {r1 r2 : Option Nat} {w w1 : World} (h : F3 b r1 r2 w w1) (o : Nat) (v : Value) : F3 b r1 r2 w (w1.setCell ⟨b, o, none⟩ v) := ⟨h.os, h.tape, h.output, by simp [World.setCell]; exact h.size, fun k hk hb a1 a2 => by rw [set_other hb]; exact h.block k hk hb a1 a2⟩
theorem F3.below {b N : Nat} {r1 r2 : Option Nat} {w w1 : World} (h : F3 b r1 r2 w w1) (hb : N ≤ b) (h1 : ∀ g, r1 = some g → N ≤ g) (h2 : ∀ g, r2 = some g → N ≤ g) (hw : N ≤ w.heap.size) : Below N w w1 :=
  ⟨h.os, h.tape, h.output, h.size, fun k hk => h.block k (by omega) (by omega) (fun e => by have := h1 k e; omega) (fun e => by have := h2 k e; omega)⟩
theorem F3.drewn {b : Nat} {r1 r2 : Option Nat} {w w1 : World} (h : F3 b r1 r2 w w1) (n : Nat) : F3 b r1 r2 w (w1.drewN n) := ⟨h.os, h.tape, h.output, h.size, h.block⟩
/-- A key is laid at the end of the keys; its value is not laid yet. -/
structure Wh (w : World) (b M sl : Nat) (x0 x1 x2 x3 x4 x5 x6 x7 x8 x9 x10 x11 x12 kv vv : Value) (L : List (ByteArray × ByteArray)) (k : ByteArray) : Prop where
  blk : w.heap[b]? = some (.cells (wdC x0 x1 x2 x3 x4 x5 x6 x7 x8 x9 x10 x11 x12 (.int .i64 sl) kv vv) 37 (0, 0))
  ok : w.ownsRow M 9 1 kv (L.length + 1) ((L.map Prod.fst).map Value.string ++ [.string k])
  ov : w.ownsRow M 9 1 vv L.length ((L.map Prod.snd).map Value.string)
  ne : ∀ g, kv.ownBlock = some g → vv.ownBlock ≠ some g
  lt : b < M
  here : M ≤ w.heap.size
  few : L.length < sl
  sl16 : sl ≤ 16
section
variable {w w4 : World} {b M sl : Nat} {x0 x1 x2 x3 x4 x5 x6 x7 x8 x9 x10 x11 x12 kv vv : Value} {L : List (ByteArray × ByteArray)}
theorem Wd.grow1 {k : ByteArray} {o : Obj} {g4 n4 cap4 : Nat} (h : Wd w b M sl x0 x1 x2 x3 x4 x5 x6 x7 x8 x9 x10 x11 x12 kv vv L) (hg : (w.alloc o).grownBy w4 kv.ownBlock) (hat : kv.ownBlock = some g4 ∨ g4 = (w.alloc o).heap.size)
    (hown : w4.ownsRow M 9 1 (.slice (some ⟨g4, 0, none⟩) n4 cap4) (L.length + 1) ((L.map Prod.fst).map Value.string ++ [.string k])) (hlt : L.length < sl) :
    Wh (w4.setCell ⟨b, 14, none⟩ (.slice (some ⟨g4, 0, none⟩) n4 cap4)) b M sl x0 x1 x2 x3 x4 x5 x6 x7 x8 x9 x10 x11 x12 (.slice (some ⟨g4, 0, none⟩) n4 cap4) vv L k ∧ F3 b kv.ownBlock none w (w4.setCell ⟨b, 14, none⟩ (.slice (some ⟨g4, 0, none⟩) n4 cap4)) ∧ w4.frozen? ⟨b, 14, none⟩ = false ∧ w4.cell? ⟨b, 14, none⟩ = some kv ∧ (kv.ownBlock = some g4 ∨ w.heap.size ≤ g4) := by
  have hb4 : w4.heap[b]? = _ := m_grown_blk h.ok hg h.lt h.blk
  have hs : w.heap.size + 1 ≤ w4.heap.size := by have := hg.size; simpa using this
  have hov4 : w4.ownsRow M 9 1 vv L.length ((L.map Prod.snd).map Value.string) := m_owns_of h.ov (fun g hgm => by
    have := (h.ov.lt g hgm).2
    rw [hg.block g (by simp; omega) (fun e => h.ne g e.symm hgm), Below.heap_alloc _ _ _ this])
  have hM := h.lt
  have hMh := h.here
  refine ⟨⟨?_, m_owns_of hown (fun g hg => set_other (by have := (hown.lt g hg).1; omega)), m_owns_of hov4 (fun g hg => set_other (by have := (hov4.lt g hg).1; omega)), ?_, hM, by simp [World.setCell]; omega, hlt, h.sl16⟩, ?_, by simp [World.frozen?, hb4], by rw [cell_of_row _ _ _ _ _ _ hb4]; rfl, ?_⟩
  · unfold wdC at hb4; simp [World.setCell, Array.getElem?_modify, hb4, wdC]
  · intro g hgg hgm
    have e : g4 = g := by simpa [Value.ownBlock] using hgg
    subst e
    have h2 := (h.ov.lt _ hgm).2
    rcases hat with h1 | h1
    · exact h.ne _ h1 hgm
    · simp at h1; omega
  · have F : F3 b kv.ownBlock none w w4 := ⟨hg.os, hg.tape, hg.output, by omega, fun q hq hqb a1 a2 => by
      rw [hg.block q (by simp; omega) (fun e => a1 e.symm), Below.heap_alloc _ _ _ hq]⟩
    exact F.set 14 _
  · rcases hat with h1 | h1
    · exact Or.inl h1
    · right; simp at h1; omega
theorem Wh.c15 {k : ByteArray} (h : Wh w b M sl x0 x1 x2 x3 x4 x5 x6 x7 x8 x9 x10 x11 x12 kv vv L k) : w.cell? ⟨b, 15, none⟩ = some vv := by rw [cell_of_row _ _ _ _ _ _ h.blk]; rfl
theorem Wh.grow2 {k v : ByteArray} {o : Obj} {g4 n4 cap4 : Nat} (h : Wh w b M sl x0 x1 x2 x3 x4 x5 x6 x7 x8 x9 x10 x11 x12 kv vv L k) (hg : (w.alloc o).grownBy w4 vv.ownBlock) (hat : vv.ownBlock = some g4 ∨ g4 = (w.alloc o).heap.size)
    (hown : w4.ownsRow M 9 1 (.slice (some ⟨g4, 0, none⟩) n4 cap4) (L.length + 1) ((L.map Prod.snd).map Value.string ++ [.string v])) :
    Wd (w4.setCell ⟨b, 15, none⟩ (.slice (some ⟨g4, 0, none⟩) n4 cap4)) b M sl x0 x1 x2 x3 x4 x5 x6 x7 x8 x9 x10 x11 x12 kv (.slice (some ⟨g4, 0, none⟩) n4 cap4) (L ++ [(k, v)]) ∧ F3 b none vv.ownBlock w (w4.setCell ⟨b, 15, none⟩ (.slice (some ⟨g4, 0, none⟩) n4 cap4)) ∧ w4.frozen? ⟨b, 15, none⟩ = false ∧ w4.cell? ⟨b, 15, none⟩ = some vv ∧ (vv.ownBlock = some g4 ∨ w.heap.size ≤ g4) := by
  have hb4 : w4.heap[b]? = _ := m_grown_blk h.ov hg h.lt h.blk
  have hs : w.heap.size + 1 ≤ w4.heap.size := by have := hg.size; simpa using this
  have hok4 : w4.ownsRow M 9 1 kv (L.length + 1) ((L.map Prod.fst).map Value.string ++ [.string k]) := m_owns_of h.ok (fun g hgm => by
    have := (h.ok.lt g hgm).2
    rw [hg.block g (by simp; omega) (fun e => h.ne g hgm e.symm), Below.heap_alloc _ _ _ this])
  have hM := h.lt
  have hMh := h.here
  have hfew := h.few
  refine ⟨⟨?_, ?_, ?_, ?_, hM, by simp [World.setCell]; omega, by simp; omega, h.sl16⟩, ?_, by simp [World.frozen?, hb4], by rw [cell_of_row _ _ _ _ _ _ hb4]; rfl, ?_⟩
  · unfold wdC at hb4; simp [World.setCell, Array.getElem?_modify, hb4, wdC]
  · have := m_owns_of hok4 (w' := w4.setCell ⟨b, 15, none⟩ (.slice (some ⟨g4, 0, none⟩) n4 cap4)) (fun g hg => set_other (by have := (hok4.lt g hg).1; omega))
    simpa using this
  · have := m_owns_of hown (w' := w4.setCell ⟨b, 15, none⟩ (.slice (some ⟨g4, 0, none⟩) n4 cap4)) (fun g hg => set_other (by have := (hown.lt g hg).1; omega))
    simpa using this
  · intro g hgk hgg
    have e : g4 = g := by simpa [Value.ownBlock] using hgg
    subst e
    have h2 := (h.ok.lt _ hgk).2
    rcases hat with h1 | h1
    · exact h.ne _ hgk h1
    · simp at h1; omega
  · have F : F3 b none vv.ownBlock w w4 := ⟨hg.os, hg.tape, hg.output, by omega, fun q hq hqb a1 a2 => by
      rw [hg.block q (by simp; omega) (fun e => a2 e.symm), Below.heap_alloc _ _ _ hq]⟩
    exact F.set 15 _
  · rcases hat with h1 | h1
    · exact Or.inl h1
    · right; simp at h1; omega
theorem Wd.drewn (h : Wd w b M sl x0 x1 x2 x3 x4 x5 x6 x7 x8 x9 x10 x11 x12 kv vv L) (n : Nat) : Wd (w.drewN n) b M sl x0 x1 x2 x3 x4 x5 x6 x7 x8 x9 x10 x11 x12 kv vv L := ⟨h.blk, m_owns_of h.ok (fun _ _ => rfl), m_owns_of h.ov (fun _ _ => rfl), h.ne, h.lt, h.here, h.few, h.sl16⟩
theorem Wd.clear (h : Wd w b M sl x0 x1 x2 x3 x4 x5 x6 x7 x8 x9 x10 x11 x12 kv vv L) : Wd ((w.setCell ⟨b, 14, none⟩ (.slice none 0 0)).setCell ⟨b, 15, none⟩ (.slice none 0 0)) b M sl x0 x1 x2 x3 x4 x5 x6 x7 x8 x9 x10 x11 x12 (.slice none 0 0) (.slice none 0 0) [] := by
  refine ⟨?_, World.ownsRow_nil _ _ _ _, World.ownsRow_nil _ _ _ _, fun g hg => by simp [Value.ownBlock] at hg, h.lt, by have := h.here; simp [World.setCell]; omega, Nat.zero_le _, h.sl16⟩
  have := h.blk; unfold wdC at this; simp [World.setCell, Array.getElem?_modify, this, wdC]
end
end Go.Proofs.YtghggcehloiemabGreatDoor
namespace Go.Proofs.YtghggcehloiemabGreatDoor
open Go.RowKit
set_option linter.unusedVariables false
set_option maxRecDepth 16000
structure MustPost (w w' : World) (e : Ending) (b M sl : Nat) (x0 x1 x2 x3 x4 x5 x6 x7 x8 x9 x10 x11 x12 kv vv : Value) (st : Nat) (L' : List (ByteArray × ByteArray)) : Prop where
  eq : e = .returned (.int .i64 (st : Nat))
  ex : ∃ kv' vv', Wd w' b M sl x0 x1 x2 x3 x4 x5 x6 x7 x8 x9 x10 x11 x12 kv' vv' L' ∧ Nx w kv kv' ∧ Nx w vv vv'
  fr : F3 b kv.ownBlock vv.ownBlock w w'
theorem Nx.refl (w : World) (v : Value) : Nx w v v := fun g hg => Or.inl hg
section
variable {w : World} {b M sl : Nat} {x0 x1 x2 x3 x4 x5 x6 x7 x8 x9 x10 x11 x12 kv vv : Value} {L : List (ByteArray × ByteArray)}
theorem Wd.lenv (h : Wd w b M sl x0 x1 x2 x3 x4 x5 x6 x7 x8 x9 x10 x11 x12 kv vv L) {a : Option Addr} {N cap : Nat} (hk : vv = .slice a N cap) : N = L.length := by
  rcases h.ov.2 with ⟨h1, h2⟩ | ⟨g, cap', cur, h1, _⟩
  · rw [hk] at h1; cases h1; omega
  · rw [hk] at h1; cases h1; rfl
set_option maxHeartbeats 4000000 in
theorem must1n (k v : ByteArray) (h : Wd w b M sl x0 x1 x2 x3 x4 x5 x6 x7 x8 x9 x10 x11 x12 kv vv L) (ha : P.atK L k = none) :
    Calls Tryz.prog 17 #[.pointer (some ⟨b, 0, none⟩), .int .i64 (1 : Nat), .string k, .string v] w fun e w' => MustPost w w' e b M sl x0 x1 x2 x3 x4 x5 x6 x7 x8 x9 x10 x11 x12 kv vv 1 L := by
  have HAT := hid_m (wat_any b M sl x0 x1 x2 x3 x4 x5 x6 x7 x8 x9 x10 x11 x12 kv vv L k h)
  rw [ha] at HAT
  have HH := hid_m h
  clear h ha
  go_enter Tryz.func17, Tryz.ntmps17
  go_wp2_with fail
  refine HAT.out.mono ?_
  rintro e w1 ⟨rfl, hw1⟩
  subst w1
  unfold atI
  go_wp2_with fail
  go_ret
  exact ⟨rfl, ⟨_, _, HH.out, Nx.refl _ _, Nx.refl _ _⟩, F3.refl _ _ _ _⟩
set_option maxHeartbeats 4000000 in
theorem must1s (k v : ByteArray) (h : Wd w b M sl x0 x1 x2 x3 x4 x5 x6 x7 x8 x9 x10 x11 x12 kv vv L) (i : Nat) (ha : P.atK L k = some i) :
    Calls Tryz.prog 17 #[.pointer (some ⟨b, 0, none⟩), .int .i64 (1 : Nat), .string k, .string v] w fun e w' => MustPost w w' e b M sl x0 x1 x2 x3 x4 x5 x6 x7 x8 x9 x10 x11 x12 kv vv 0 L := by
  have HAT := hid_m (wat_any b M sl x0 x1 x2 x3 x4 x5 x6 x7 x8 x9 x10 x11 x12 kv vv L k h)
  rw [ha] at HAT
  have HH := hid_m h
  clear h ha
  go_enter Tryz.func17, Tryz.ntmps17
  go_wp2_with fail
  refine HAT.out.mono ?_
  rintro e w1 ⟨rfl, hw1⟩
  subst w1
  unfold atI
  go_wp2_with fail
  go_ret
  exact ⟨rfl, ⟨_, _, HH.out, Nx.refl _ _, Nx.refl _ _⟩, F3.refl _ _ _ _⟩
set_option maxHeartbeats 4000000 in
theorem must3n (k v : ByteArray) (h : Wd w b M sl x0 x1 x2 x3 x4 x5 x6 x7 x8 x9 x10 x11 x12 kv vv L) (ha : P.atK L k = none) :
    Calls Tryz.prog 17 #[.pointer (some ⟨b, 0, none⟩), .int .i64 (3 : Nat), .string k, .string v] w fun e w' => MustPost w w' e b M sl x0 x1 x2 x3 x4 x5 x6 x7 x8 x9 x10 x11 x12 kv vv 1 L := by
  have HAT := hid_m (wat_any b M sl x0 x1 x2 x3 x4 x5 x6 x7 x8 x9 x10 x11 x12 kv vv L k h)
  rw [ha] at HAT
  have HH := hid_m h
  clear h ha
  go_enter Tryz.func17, Tryz.ntmps17
  go_wp2_with fail
  refine HAT.out.mono ?_
  rintro e w1 ⟨rfl, hw1⟩
  subst w1
  unfold atI
  go_wp2_with fail
  go_ret
  exact ⟨rfl, ⟨_, _, HH.out, Nx.refl _ _, Nx.refl _ _⟩, F3.refl _ _ _ _⟩
set_option maxHeartbeats 4000000 in
theorem must4 (k v : ByteArray) (h : Wd w b M sl x0 x1 x2 x3 x4 x5 x6 x7 x8 x9 x10 x11 x12 kv vv L)  :
    Calls Tryz.prog 17 #[.pointer (some ⟨b, 0, none⟩), .int .i64 (4 : Nat), .string k, .string v] w fun e w' => MustPost w w' e b M sl x0 x1 x2 x3 x4 x5 x6 x7 x8 x9 x10 x11 x12 kv vv 0 L := by
  have HAT := hid_m (wat_any b M sl x0 x1 x2 x3 x4 x5 x6 x7 x8 x9 x10 x11 x12 kv vv L k h)
  have HH := hid_m h
  obtain ⟨j, hj⟩ : ∃ j, atI (P.atK L k) = j := ⟨_, rfl⟩
  rw [hj] at HAT
  clear h hj
  go_enter Tryz.func17, Tryz.ntmps17
  go_wp2_with fail
  refine HAT.out.mono ?_
  rintro e w1 ⟨rfl, hw1⟩
  subst w1
  go_wp2_with fail
  go_ret
  exact ⟨rfl, ⟨_, _, HH.out, Nx.refl _ _, Nx.refl _ _⟩, F3.refl _ _ _ _⟩
set_option maxHeartbeats 4000000 in
theorem must5 (k v : ByteArray) (h : Wd w b M sl x0 x1 x2 x3 x4 x5 x6 x7 x8 x9 x10 x11 x12 kv vv L)  :
    Calls Tryz.prog 17 #[.pointer (some ⟨b, 0, none⟩), .int .i64 (5 : Nat), .string k, .string v] w fun e w' => MustPost w w' e b M sl x0 x1 x2 x3 x4 x5 x6 x7 x8 x9 x10 x11 x12 kv vv 0 [] := by
  have HAT := hid_m (wat_any b M sl x0 x1 x2 x3 x4 x5 x6 x7 x8 x9 x10 x11 x12 kv vv L k h)
  have HH := hid_m h
  obtain ⟨j, hj⟩ : ∃ j, atI (P.atK L k) = j := ⟨_, rfl⟩
  rw [hj] at HAT
  have d14 := h.c14
  have d15 := h.c15
  have f14 := h.fz 14
  have f15 := h.fz 15
  clear h hj
  go_enter Tryz.func17, Tryz.ntmps17
  go_wp2_with fail
  refine HAT.out.mono ?_
  rintro e w1 ⟨rfl, hw1⟩
  subst w1
  go_wp2_with fail
  go_ret
  exact ⟨rfl, ⟨_, _, HH.out.clear, fun g hg => by simp [Value.ownBlock] at hg, fun g hg => by simp [Value.ownBlock] at hg⟩, ((F3.refl _ _ _ _).set 14 _).set 15 _⟩
set_option maxHeartbeats 4000000 in
theorem must6 (k v : ByteArray) (h : Wd w b M sl x0 x1 x2 x3 x4 x5 x6 x7 x8 x9 x10 x11 x12 kv vv L)  :
    Calls Tryz.prog 17 #[.pointer (some ⟨b, 0, none⟩), .int .i64 (6 : Nat), .string k, .string v] w fun e w' => MustPost w w' e b M sl x0 x1 x2 x3 x4 x5 x6 x7 x8 x9 x10 x11 x12 kv vv 3 L := by
  have HAT := hid_m (wat_any b M sl x0 x1 x2 x3 x4 x5 x6 x7 x8 x9 x10 x11 x12 kv vv L k h)
  have HH := hid_m h
  obtain ⟨j, hj⟩ : ∃ j, atI (P.atK L k) = j := ⟨_, rfl⟩
  rw [hj] at HAT
  clear h hj
  go_enter Tryz.func17, Tryz.ntmps17
  go_wp2_with fail
  refine HAT.out.mono ?_
  rintro e w1 ⟨rfl, hw1⟩
  subst w1
  go_wp2_with fail
  go_ret
  exact ⟨rfl, ⟨_, _, HH.out, Nx.refl _ _, Nx.refl _ _⟩, F3.refl _ _ _ _⟩
set_option maxHeartbeats 4000000 in
theorem must3s (k v : ByteArray) (h : Wd w b M sl x0 x1 x2 x3 x4 x5 x6 x7 x8 x9 x10 x11 x12 kv vv L) (i : Nat) (ha : P.atK L k = some i) :
    Calls Tryz.prog 17 #[.pointer (some ⟨b, 0, none⟩), .int .i64 (3 : Nat), .string k, .string v] w fun e w' => MustPost w w' e b M sl x0 x1 x2 x3 x4 x5 x6 x7 x8 x9 x10 x11 x12 kv vv 0 (L.eraseIdx i) := by
  have HAT := hid_m (wat_any b M sl x0 x1 x2 x3 x4 x5 x6 x7 x8 x9 x10 x11 x12 kv vv L k h)
  rw [ha] at HAT
  obtain ⟨v0, hv0⟩ := P.atK_some ha
  have hiL : i < L.length := (List.getElem?_eq_some_iff.1 hv0).1
  have HD := hid_m (wdrop_any b M sl x0 x1 x2 x3 x4 x5 x6 x7 x8 x9 x10 x11 x12 kv vv L i hiL h)
  clear h ha hv0 hiL
  go_enter Tryz.func17, Tryz.ntmps17
  go_wp2_with fail
  refine HAT.out.mono ?_
  rintro e w1 ⟨rfl, hw1⟩
  subst w1
  unfold atI
  have hn : ¬ (i : Int) < 0 := by omega
  go_wp2_with fail
  refine HD.out.mono ?_
  rintro e w1 ⟨rfl, ⟨kv', vv', hd, hn'⟩, hf⟩
  have HE : Hid (Wd w1 b M sl x0 x1 x2 x3 x4 x5 x6 x7 x8 x9 x10 x11 x12 kv' vv' (L.eraseIdx i) ∧ (∀ g, kv'.ownBlock = some g ∨ vv'.ownBlock = some g → w.heap.size ≤ g) ∧ Fr b none w w1) := ⟨hd, hn', hf⟩
  clear hd hn' hf
  go_wp2_with fail
  go_ret
  exact ⟨rfl, ⟨_, _, HE.out.1, fun g hg => Or.inr (HE.out.2.1 g (Or.inl hg)), fun g hg => Or.inr (HE.out.2.1 g (Or.inr hg))⟩, F3.ofFr HE.out.2.2⟩
set_option maxHeartbeats 4000000 in
theorem must2f (k v : ByteArray) (h : Wd w b M sl x0 x1 x2 x3 x4 x5 x6 x7 x8 x9 x10 x11 x12 kv vv L) (ha : P.atK L k = none) (hf : L.length = sl) :
    Calls Tryz.prog 17 #[.pointer (some ⟨b, 0, none⟩), .int .i64 (2 : Nat), .string k, .string v] w fun e w' => MustPost w w' e b M sl x0 x1 x2 x3 x4 x5 x6 x7 x8 x9 x10 x11 x12 kv vv 2 L := by
  have HAT := hid_m (wat_any b M sl x0 x1 x2 x3 x4 x5 x6 x7 x8 x9 x10 x11 x12 kv vv L k h)
  rw [ha] at HAT
  have HH := hid_m h
  obtain ⟨a, N, cap, rfl⟩ := owns_slice h.ok
  have hNs : N = sl := by rw [h.len rfl]; exact hf
  subst hNs
  have d14 := h.c14
  have d13 := h.c13
  clear h ha hf
  go_enter Tryz.func17, Tryz.ntmps17
  go_wp2_with fail
  refine HAT.out.mono ?_
  rintro e w1 ⟨rfl, hw1⟩
  subst w1
  unfold atI
  go_wp2_with fail
  go_quiet (fail)
  go_wp2_with fail
  go_ret
  exact ⟨rfl, ⟨_, _, HH.out.drewn _, Nx.refl _ _, Nx.refl _ _⟩, (F3.refl _ _ _ _).drewn _⟩
set_option maxHeartbeats 4000000 in
theorem must2n (k v : ByteArray) (h : Wd w b M sl x0 x1 x2 x3 x4 x5 x6 x7 x8 x9 x10 x11 x12 kv vv L) (ha : P.atK L k = none) (hf : L.length < sl) :
    Calls Tryz.prog 17 #[.pointer (some ⟨b, 0, none⟩), .int .i64 (2 : Nat), .string k, .string v] w fun e w' => MustPost w w' e b M sl x0 x1 x2 x3 x4 x5 x6 x7 x8 x9 x10 x11 x12 kv vv 0 (L ++ [(k, v)]) := by
  have HAT := hid_m (wat_any b M sl x0 x1 x2 x3 x4 x5 x6 x7 x8 x9 x10 x11 x12 kv vv L k h)
  rw [ha] at HAT
  obtain ⟨ip, hip, hz0, hz1, hz2⟩ := info_parts Tryz.infoString
  have HH := hid_m h
  obtain ⟨a, N, cap, hkv⟩ := owns_slice h.ok
  have HLT := hid_m hf
  have hNs : (((N : Nat) : Int) == (sl : Int)) = false := by rw [beq_eq_false_iff_ne]; have := h.len hkv; omega
  have d14 := h.c14
  have d13 := h.c13
  have hL16 : L.length ≤ 16 := by have := h.few; have := h.sl16; omega
  subst hkv
  clear h ha hf
  go_enter Tryz.func17, Tryz.ntmps17
  go_wp2_with fail
  refine HAT.out.mono ?_
  rintro e w1 ⟨rfl, hw1⟩
  subst w1
  unfold atI
  go_wp2_with fail
  go_quiet (fail)
  obtain ⟨w2, hw2⟩ : ∃ w2, w.drewN nq = w2 := ⟨_, rfl⟩
  have HM2 := hid_m (HH.out.drewn nq)
  have HF2 : Hid (F3 b (Value.slice a N cap).ownBlock vv.ownBlock w (w.drewN nq)) := (F3.refl _ _ _ _).drewn nq
  have HS2 : Hid ((w.drewN nq).heap.size = w.heap.size) := rfl
  rw [hw2] at HM2 HF2 HS2 ⊢
  clear hw2 d14 d13
  have d14 := HM2.out.c14
  have hsz2 := HM2.out.here
  go_wp2_with (first
    | (at_builtin; refine wpList_append_lies _ rfl _ _ 35 rfl M 9 ip (.string ByteArray.empty) 1 16 Tryz.underlying35 hip hz0 hz1 hz2 rfl (by decide) (.slice a N cap) _ (((L).map Prod.fst).map Value.string) rfl (HM2.out.ok.alloc _) ⟨w2.heap.size, 0, none⟩ 1 1 [.string k] rfl rfl (one_new _ _ _) (fun x hx => by simp at hx; subst hx; rfl) (by omega) (by unfold maxLen; omega) (by omega) (by simp; omega) _ rfl ?_; intro g4 cap4 w4 hown4 hgrow4 hat4 hlt4
       obtain ⟨Y1, Y2, Y3, Y4, Y5⟩ := HM2.out.grow1 hgrow4 hat4 hown4 HLT.out
       have HY1 := hid_m Y1
       have HY2 := hid_m Y2
       have HY5 := hid_m Y5
       have y15 := Y1.c15
       have z15 : w4.cell? ⟨b, 15, none⟩ = some vv := by rw [← Y1.c15]; exact (World.cell?_setCell_other w4 ⟨b, 14, none⟩ ⟨b, 15, none⟩ _ (by simp)).symm
       have hsz5 := Y1.here
       clear Y1 Y2 Y5 d14)
    | (at_builtin; refine wpList_append_lies _ rfl _ _ 35 rfl M 9 ip (.string ByteArray.empty) 1 16 Tryz.underlying35 hip hz0 hz1 hz2 rfl (by decide) vv _ (((L).map Prod.snd).map Value.string) rfl (HY1.out.ov.alloc _) ⟨w4.heap.size, 0, none⟩ 1 1 [.string v] rfl rfl (one_new' (w := w4.setCell ⟨b, 14, none⟩ (.slice (some ⟨g4, 0, none⟩) (L.length + 1) cap4)) (by simp [World.setCell]) _ _) (fun x hx => by simp at hx; subst hx; rfl) (by omega) (by unfold maxLen; omega) (by omega) (by have := HY1.out.here; simp at this ⊢; omega) _ rfl ?_; intro g6 cap6 w6 hown6 hgrow6 hat6 hlt6
       obtain ⟨Z1, Z2, Z3, Z4, Z5⟩ := HY1.out.grow2 hgrow6 hat6 hown6))
  go_ret
  refine ⟨rfl, ⟨_, _, Z1, fun g hg => ?_, fun g hg => ?_⟩, ?_⟩
  · have e : g4 = g := by simpa [Value.ownBlock] using hg
    subst e
    rcases HY5.out with h1 | h1
    · exact Or.inl h1
    · right; have := HS2.out; omega
  · have e : g6 = g := by simpa [Value.ownBlock] using hg
    subst e
    rcases Z5 with h1 | h1
    · exact Or.inl h1
    · right; have := HS2.out; have := HY2.out.size; omega
  · exact (HF2.out.trans HY2.out (fun g hg => Or.inl hg) (fun g hg => by cases hg)).trans Z2 (fun g hg => by cases hg) (fun g hg => Or.inl hg)
set_option maxHeartbeats 4000000 in
theorem must2s (k v : ByteArray) (h : Wd w b M sl x0 x1 x2 x3 x4 x5 x6 x7 x8 x9 x10 x11 x12 kv vv L) (i : Nat) (ha : P.atK L k = some i) :
    Calls Tryz.prog 17 #[.pointer (some ⟨b, 0, none⟩), .int .i64 (2 : Nat), .string k, .string v] w fun e w' => MustPost w w' e b M sl x0 x1 x2 x3 x4 x5 x6 x7 x8 x9 x10 x11 x12 kv vv 0 (L.eraseIdx i ++ [(k, v)]) := by
  have HAT := hid_m (wat_any b M sl x0 x1 x2 x3 x4 x5 x6 x7 x8 x9 x10 x11 x12 kv vv L k h)
  rw [ha] at HAT
  obtain ⟨ip, hip, hz0, hz1, hz2⟩ := info_parts Tryz.infoString
  obtain ⟨v0, hv0⟩ := P.atK_some ha
  have hiL : i < L.length := (List.getElem?_eq_some_iff.1 hv0).1
  have HH := hid_m h
  have HD := hid_m (fun n => wdrop_any b M sl x0 x1 x2 x3 x4 x5 x6 x7 x8 x9 x10 x11 x12 kv vv L i hiL (h.drewn n))
  have HLT : Hid ((L.eraseIdx i).length < sl) := by unfold Hid; rw [List.length_eraseIdx_of_lt hiL]; have := h.few; omega
  have hL16 : (L.eraseIdx i).length ≤ 16 := by have := h.sl16; have := HLT.out; omega
  obtain ⟨L2, hL2⟩ : ∃ L2, L.eraseIdx i = L2 := ⟨_, rfl⟩
  rw [hL2] at HD HLT hL16 ⊢
  clear h ha hv0 hiL hL2
  have hn : ¬ (i : Int) < 0 := by omega
  have hn2 : decide ((i : Int) < 0) = false := decide_eq_false hn
  have hn3 : (0 : Int) ≤ (i : Int) := by omega
  go_enter Tryz.func17, Tryz.ntmps17
  go_wp2_with fail
  refine HAT.out.mono ?_
  rintro e w1 ⟨rfl, hw1⟩
  subst w1
  unfold atI
  go_wp2_with fail
  go_quiet (fail)
  go_wp2_with fail
  refine (HD.out nq).mono ?_
  rintro e w2 ⟨rfl, ⟨kv', vv', hd, hn'⟩, hf⟩
  have HM2 := hid_m hd
  have HNN := hid_m hn'
  have HF2 : Hid (F3 b kv.ownBlock vv.ownBlock w w2) := ((F3.refl _ _ _ _).drewn nq).trans (F3.ofFr (r1 := none) (r2 := none) hf) (fun g hg => by cases hg) (fun g hg => by cases hg)
  have HS2 : Hid (w.heap.size ≤ w2.heap.size) := hf.size
  clear hd hn' hf
  have d14 := HM2.out.c14
  have hsz2 := HM2.out.here
  obtain ⟨a5, N5, c5, hkv5⟩ := owns_slice HM2.out.ok
  obtain ⟨a6, N6, c6, hvv6⟩ := owns_slice HM2.out.ov
  subst hkv5
  subst hvv6
  go_wp2_with (first
    | (at_builtin; refine wpList_append_lies _ rfl _ _ 35 rfl M 9 ip (.string ByteArray.empty) 1 16 Tryz.underlying35 hip hz0 hz1 hz2 rfl (by decide) (.slice a5 N5 c5) _ (((L2).map Prod.fst).map Value.string) rfl (HM2.out.ok.alloc _) ⟨w2.heap.size, 0, none⟩ 1 1 [.string k] rfl rfl (one_new _ _ _) (fun x hx => by simp at hx; subst hx; rfl) (by omega) (by unfold maxLen; omega) (by omega) (by simp; omega) _ rfl ?_; intro g4 cap4 w4 hown4 hgrow4 hat4 hlt4
       obtain ⟨Y1, Y2, Y3, Y4, Y5⟩ := HM2.out.grow1 hgrow4 hat4 hown4 HLT.out
       have HY1 := hid_m Y1
       have HY2 := hid_m Y2
       have HY5 := hid_m Y5
       have y15 := Y1.c15
       have z15 : w4.cell? ⟨b, 15, none⟩ = some (.slice a6 N6 c6) := by rw [← Y1.c15]; exact (World.cell?_setCell_other w4 ⟨b, 14, none⟩ ⟨b, 15, none⟩ _ (by simp)).symm
       have hsz5 := Y1.here
       clear Y1 Y2 Y5 d14)
    | (at_builtin; refine wpList_append_lies _ rfl _ _ 35 rfl M 9 ip (.string ByteArray.empty) 1 16 Tryz.underlying35 hip hz0 hz1 hz2 rfl (by decide) (.slice a6 N6 c6) _ (((L2).map Prod.snd).map Value.string) rfl (HY1.out.ov.alloc _) ⟨w4.heap.size, 0, none⟩ 1 1 [.string v] rfl rfl (one_new' (w := w4.setCell ⟨b, 14, none⟩ (.slice (some ⟨g4, 0, none⟩) (L2.length + 1) cap4)) (by simp [World.setCell]) _ _) (fun x hx => by simp at hx; subst hx; rfl) (by omega) (by unfold maxLen; omega) (by omega) (by have := HY1.out.here; simp at this ⊢; omega) _ rfl ?_; intro g6 cap6 w6 hown6 hgrow6 hat6 hlt6
       obtain ⟨Z1, Z2, Z3, Z4, Z5⟩ := HY1.out.grow2 hgrow6 hat6 hown6))
  go_ret
  refine ⟨rfl, ⟨_, _, Z1, fun g hg => ?_, fun g hg => ?_⟩, ?_⟩
  · have e : g4 = g := by simpa [Value.ownBlock] using hg
    subst e
    right
    rcases HY5.out with h1 | h1
    · have h2 := HNN.out g4 (Or.inl h1); exact h2
    · have := HS2.out; omega
  · have e : g6 = g := by simpa [Value.ownBlock] using hg
    subst e
    right
    rcases Z5 with h1 | h1
    · have h2 := HNN.out g6 (Or.inr h1); exact h2
    · have := HS2.out; have := HY2.out.size; omega
  · exact (HF2.out.trans HY2.out (fun g hg => Or.inr (HNN.out g (Or.inl hg))) (fun g hg => by cases hg)).trans Z2 (fun g hg => by cases hg) (fun g hg => Or.inr (HNN.out g (Or.inr hg)))
end
/-- The keeper's own map. -/
theorem wmust_any {w : World} (b M sl : Nat) (x0 x1 x2 x3 x4 x5 x6 x7 x8 x9 x10 x11 x12 kv vv : Value) (L : List (ByteArray × ByteArray)) (t : Nat) (k v : ByteArray) (h : Wd w b M sl x0 x1 x2 x3 x4 x5 x6 x7 x8 x9 x10 x11 x12 kv vv L) (ht : 1 ≤ t ∧ t ≤ 6) :
    Calls Tryz.prog 17 #[.pointer (some ⟨b, 0, none⟩), .int .i64 t, .string k, .string v] w fun e w' => MustPost w w' e b M sl x0 x1 x2 x3 x4 x5 x6 x7 x8 x9 x10 x11 x12 kv vv (P.mustDo sl t k v L).1 (P.mustDo sl t k v L).2 := by
  have ht' : t = 1 ∨ t = 2 ∨ t = 3 ∨ t = 4 ∨ t = 5 ∨ t = 6 := by omega
  unfold P.mustDo
  rcases ht' with rfl | rfl | rfl | rfl | rfl | rfl
  · rw [if_pos rfl]
    cases ha : P.atK L k with
    | none => exact must1n k v h ha
    | some i => exact must1s k v h i ha
  · rw [if_neg (by decide), if_pos rfl]
    cases ha : P.atK L k with
    | none =>
      simp only
      by_cases hf : L.length = sl
      · rw [if_pos hf]; exact must2f k v h ha hf
      · rw [if_neg hf]; exact must2n k v h ha (by have := h.few; omega)
    | some i => exact must2s k v h i ha
  · rw [if_neg (by decide), if_neg (by decide), if_pos rfl]
    cases ha : P.atK L k with
    | none => exact must3n k v h ha
    | some i => exact must3s k v h i ha
  · exact must4 k v h
  · exact must5 k v h
  · exact must6 k v h
end Go.Proofs.YtghggcehloiemabGreatDoor
