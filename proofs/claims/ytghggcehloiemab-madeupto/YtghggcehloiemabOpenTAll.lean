import Derived.Test.YtghggcehloiemabRefSizeAll
import Derived.ProofKit
import Derived.OpenShut
import Derived.Carry
import Derived.Deep.Slices
namespace Go.Proofs.Ytghggcehloiemab
open Go.ChangeShapes Go.WideShapes Go.ChangeAt Go.RowKit Go.Deep
set_option linter.unusedVariables false
set_option maxRecDepth 16000
set_option linter.unusedSimpArgs false
theorem cellsTask : Try.prog.cellsOf 28 = 7 := by kernel_rfl
theorem cellsTI : Try.prog.cellsOf 3 = 1 := by kernel_rfl
theorem cellsTS : Try.prog.cellsOf 9 = 1 := by kernel_rfl
theorem t_int {H : Type} {enc : TypeId × Value → H} {w : World} {base : Nat} {spare : Nat → Bool} {held : Bool} {n : Nat} {c : Value} {y : DataW H × List MemPlace} (h : DataW.trod enc Try.prog w base spare held n 3 [c] = some y) : ∃ z, c = .int .i64 z ∧ I6 z ∧ y.2 = [] := by
  obtain ⟨z, h1, h2, h3⟩ := DataW.trod_int Try.underlying3 h
  refine ⟨z, by simpa using h1, ?_, by rw [h2]⟩
  exact bounds_i64 h3
theorem t_str {H : Type} {enc : TypeId × Value → H} {w : World} {base : Nat} {spare : Nat → Bool} {held : Bool} {n : Nat} {c : Value} {y : DataW H × List MemPlace} (h : DataW.trod enc Try.prog w base spare held n 9 [c] = some y) : ∃ s : ByteArray, c = .string s ∧ s.size ≤ maxLen ∧ y.1 = .lit (.string s.data.toList) ∧ y.2 = [] := by
  obtain ⟨s, h1, h2, h3⟩ := DataW.trod_string Try.underlying9 h
  exact ⟨s, by simpa using h1, h3, by rw [h2], by rw [h2]⟩
theorem list7 {α : Type} {l : List α} (h : l.length = 7) : ∃ a b c d e f g, l = [a, b, c, d, e, f, g] := by
  match l, h with
  | [a, b, c, d, e, f, g], _ => exact ⟨a, b, c, d, e, f, g, rfl⟩
/-- One task, read. -/
theorem task_cells {H : Type} {enc : TypeId × Value → H} {w : World} {base : Nat} {spare : Nat → Bool} {held : Bool} {n : Nat} {cs : List Value} {y : DataW H × List MemPlace} (h : DataW.trod enc Try.prog w base spare held n 28 cs = some y) :
    ∃ (t : Int) (k v : ByteArray) (f g a s : Int), cs = [.int .i64 t, .string k, .string v, .int .i64 f, .int .i64 g, .int .i64 a, .int .i64 s] ∧ k.size ≤ maxLen ∧ v.size ≤ maxLen ∧ I6 f ∧ I6 g ∧ I6 a ∧ I6 s ∧ I6 t ∧ ∃ e0 e3 e4 e5 e6, y.1 = .agg [e0, .lit (.string k.data.toList), .lit (.string v.data.toList), e3, e4, e5, e6] := by
  obtain ⟨xs, m, _, hy, hl, hxl, hf⟩ := DataW.trod_struct Try.underlying28 h
  rw [cellsTask] at hl
  obtain ⟨c0, c1, c2, c3, c4, c5, c6, rfl⟩ := list7 hl
  obtain ⟨y0, y1, y2, y3, y4, y5, y6, rfl⟩ := list7 (l := xs) (by rw [hxl]; rfl)
  have g0 := hf 0 _ rfl
  have g1 := hf 1 _ rfl
  have g2 := hf 2 _ rfl
  have g3 := hf 3 _ rfl
  have g4 := hf 4 _ rfl
  have g5 := hf 5 _ rfl
  have g6 := hf 6 _ rfl
  simp only [cellsTI, cellsTS, List.drop_zero, List.take_succ_cons, List.take_zero, List.drop_succ_cons, List.getElem?_cons_zero, List.getElem?_cons_succ] at g0 g1 g2 g3 g4 g5 g6
  obtain ⟨t, rfl, b0, _⟩ := t_int g0
  obtain ⟨k, rfl, b1, k1, _⟩ := t_str g1
  obtain ⟨v, rfl, b2, k2, _⟩ := t_str g2
  obtain ⟨f, rfl, b3, _⟩ := t_int g3
  obtain ⟨g, rfl, b4, _⟩ := t_int g4
  obtain ⟨a, rfl, b5, _⟩ := t_int g5
  obtain ⟨s, rfl, b6, _⟩ := t_int g6
  refine ⟨t, k, v, f, g, a, s, rfl, b1, b2, b3, b4, b5, b6, b0, y0.1, y3.1, y4.1, y5.1, y6.1, ?_⟩
  rw [hy, ← k1, ← k2]; rfl
end Go.Proofs.Ytghggcehloiemab
namespace Go.Proofs.Ytghggcehloiemab
open Go.RowKit
set_option linter.unusedVariables false
set_option maxRecDepth 16000
/-- A shop's cells and a task's. -/
def Rx (B tb : Nat) (a1 a2 a3 a4 a5 b1 b2 b3 b4 b5 : Value) (code : ByteArray) (room : Nat) (mem : ByteArray) (t : Int) (k v : ByteArray) (f g a s : Int) (w : World) : Prop :=
  w.cell? ⟨B, 0, none⟩ = some a1 ∧ w.cell? ⟨B, 1, none⟩ = some a2 ∧ w.cell? ⟨B, 2, none⟩ = some a3 ∧ w.cell? ⟨B, 3, none⟩ = some a4 ∧ w.cell? ⟨B, 4, none⟩ = some a5 ∧
  w.cell? ⟨B, 5, none⟩ = some b1 ∧ w.cell? ⟨B, 6, none⟩ = some b2 ∧ w.cell? ⟨B, 7, none⟩ = some b3 ∧ w.cell? ⟨B, 8, none⟩ = some b4 ∧ w.cell? ⟨B, 9, none⟩ = some b5 ∧
  w.cell? ⟨B, 10, none⟩ = some (.string code) ∧ w.cell? ⟨B, 11, none⟩ = some (.int .i64 room) ∧ w.cell? ⟨B, 12, none⟩ = some (.string mem) ∧
  w.cell? ⟨tb, 0, none⟩ = some (.int .i64 t) ∧ w.cell? ⟨tb, 1, none⟩ = some (.string k) ∧ w.cell? ⟨tb, 2, none⟩ = some (.string v) ∧ w.cell? ⟨tb, 3, none⟩ = some (.int .i64 f) ∧ w.cell? ⟨tb, 4, none⟩ = some (.int .i64 g) ∧ w.cell? ⟨tb, 5, none⟩ = some (.int .i64 a) ∧ w.cell? ⟨tb, 6, none⟩ = some (.int .i64 s)
theorem Rx.of {w : World} {B tb M sl room : Nat} {a1 a2 a3 a4 a5 b1 b2 b3 b4 b5 lv : Value} {code mem : ByteArray} {T : TypeId} {L : List (ByteArray × ByteArray)} {t : Int} {k v : ByteArray} {f g a s : Int}
    (h : Mp w B 13 M sl (shopC a1 a2 a3 a4 a5 b1 b2 b3 b4 b5 code room mem sl lv) T lv L) (ht : w.heap[tb]? = some (taskB t k v f g a s)) : Rx B tb a1 a2 a3 a4 a5 b1 b2 b3 b4 b5 code room mem t k v f g a s w := by
  unfold taskB at ht
  refine ⟨?_, ?_, ?_, ?_, ?_, ?_, ?_, ?_, ?_, ?_, ?_, ?_, ?_, ?_, ?_, ?_, ?_, ?_, ?_, ?_⟩
  all_goals first | (rw [cell_of_row _ _ _ _ _ _ h.blk]; rfl) | (rw [cell_of_row _ _ _ _ _ _ ht]; rfl)
/-- A shop in memory. -/
structure Shp (w : World) (B M sl room : Nat) (a1 a2 a3 a4 a5 b1 b2 b3 b4 b5 : Value) (tk tv : P.Ty 4) (Sk Sv : Nat → Prop) (code mem : ByteArray) (lv : Value) (L : List (ByteArray × ByteArray)) : Prop where
  mp : Mp w B 13 M sl (shopC a1 a2 a3 a4 a5 b1 b2 b3 b4 b5 code room mem sl lv) 38 lv L
  tk : TypAt w 4 tk (.agg #[a1, a2, a3, a4, a5]) Sk
  tv : TypAt w 4 tv (.agg #[b1, b2, b3, b4, b5]) Sv
  sk : ∀ g, Sk g → g < M ∧ g ≠ B
  sv : ∀ g, Sv g → g < M ∧ g ≠ B
theorem Shp.on {w w' : World} {B M sl room : Nat} {a1 a2 a3 a4 a5 b1 b2 b3 b4 b5 : Value} {tk tv : P.Ty 4} {Sk Sv : Nat → Prop} {code mem : ByteArray} {lv : Value} {L : List (ByteArray × ByteArray)} (h : Shp w B M sl room a1 a2 a3 a4 a5 b1 b2 b3 b4 b5 tk tv Sk Sv code mem lv L) (hb : Below w.heap.size w w') : Shp w' B M sl room a1 a2 a3 a4 a5 b1 b2 b3 b4 b5 tk tv Sk Sv code mem lv L :=
  ⟨h.mp.on hb, h.tk.of (fun g hg => hb.block g (by have := (h.sk g hg).1; have := h.mp.here; omega)) (fun g hg => hg), h.tv.of (fun g hg => hb.block g (by have := (h.sv g hg).1; have := h.mp.here; omega)) (fun g hg => hg), h.sk, h.sv⟩
theorem below_of_drew {w w' : World} (h : Below w.drew.heap.size w.drew w') : Below w.heap.size w w' := ⟨h.os, h.tape, h.output, h.size, h.block⟩
set_option maxHeartbeats 4000000 in
theorem srun_no {w : World} (B M sl room : Nat) (a1 a2 a3 a4 a5 b1 b2 b3 b4 b5 : Value) (tk tv : P.Ty 4) (Sk Sv : Nat → Prop) (code mem : ByteArray) (lv : Value) (L : List (ByteArray × ByteArray)) (t : Int) (k v : ByteArray) (f g a s : Int)
    (h : Shp w B M sl room a1 a2 a3 a4 a5 b1 b2 b3 b4 b5 tk tv Sk Sv code mem lv L) (smk : P.Sm 4 tk) (smv : P.Sm 4 tv) (hks : k.size ≤ 1099511627776) (hvs : v.size ≤ 1099511627776)
    (hno : ¬ ((P.lieP 4 tk k.data.toList).isSome = true ∧ (P.lieP 4 tv v.data.toList).isSome = true ∧ 0 ≤ t ∧ t ≤ 4294967295)) :
    Calls Try.prog 5 #[.pointer (some ⟨B, 0, none⟩), taskV t k v f g a s] w fun e w' => e = .returned (.bool true) ∧ Below w.heap.size w w' := by
  have hbA : Below w.heap.size w (w.alloc (taskB t k v f g a s)) := (Below.refl _ _).alloc (Nat.le_refl _) _
  have hnA : (w.alloc (taskB t k v f g a s)).heap[w.heap.size]? = some (taskB t k v f g a s) := heap_alloc_new _ _
  obtain ⟨q1, p2, p3, p4, p5, p6, p7, hk5⟩ := h.tk.is
  simp only [Value.agg.injEq, Array.mk.injEq, List.cons.injEq, and_true] at hk5
  obtain ⟨rfl, rfl, rfl, rfl, rfl⟩ := hk5
  obtain ⟨r1, s2, s3, s4, s5, s6, s7, hv5⟩ := h.tv.is
  simp only [Value.agg.injEq, Array.mk.injEq, List.cons.injEq, and_true] at hv5
  obtain ⟨rfl, rfl, rfl, rfl, rfl⟩ := hv5
  obtain ⟨z1, hz1⟩ : ∃ z, (P.sz 4 tk).1 = z := ⟨_, rfl⟩
  obtain ⟨z2, hz2⟩ : ∃ z, (P.sz 4 tk).2 = z := ⟨_, rfl⟩
  obtain ⟨z3, hz3⟩ : ∃ z, (P.sz 4 tv).1 = z := ⟨_, rfl⟩
  obtain ⟨z4, hz4⟩ : ∃ z, (P.sz 4 tv).2 = z := ⟨_, rfl⟩
  rw [hz1, hz2, hz3, hz4] at h
  have HIK := hid_m (fun w' (hb : Below w.heap.size w w') => isValue_any tk _ Sk k w' smk (h.on hb).tk (fun g hg => by have := (h.sk g hg).1; have := (h.on hb).mp.here; omega) hks)
  have HIV := hid_m (fun w' (hb : Below w.heap.size w w') => isValue_any tv _ Sv v w' smv (h.on hb).tv (fun g hg => by have := (h.sv g hg).1; have := (h.on hb).mp.here; omega) hvs)
  obtain ⟨bk, hbk⟩ : ∃ b, (P.lieP 4 tk k.data.toList).isSome = b := ⟨_, rfl⟩
  obtain ⟨bv, hbv⟩ : ∃ b, (P.lieP 4 tv v.data.toList).isSome = b := ⟨_, rfl⟩
  rw [hbk] at HIK hno
  rw [hbv] at HIV hno
  have HH := hid_m h
  have HBA := hid_m hbA
  have HNA := hid_m hnA
  have HNO := hid_m hno
  clear h hbA hnA hbk hbv hz1 hz2 hz3 hz4 hno hks hvs smk smv
  unfold taskV
  go_enter Try.func5, Try.ntmps5
  go_wp2_with fail
  obtain ⟨W, hW⟩ : ∃ W, w.alloc (taskB t k v f g a s) = W := ⟨_, rfl⟩
  have hW2 : w.alloc (.cells #[.int .i64 t, .string k, .string v, .int .i64 f, .int .i64 g, .int .i64 a, .int .i64 s] 28) = W := hW
  rw [hW] at HBA HNA
  rw [hW2]
  clear hW hW2
  obtain ⟨tb, htb⟩ : ∃ tb, w.heap.size = tb := ⟨_, rfl⟩
  rw [htb] at HNA ⊢
  have HTB := hid_m htb
  clear htb
  have HX0 := hid_m (Rx.of (HH.out.on HBA.out).mp HNA.out)
  refine wp_region_held_drew (S := Rx B tb (.int .u8 q1) (.int .i64 z1) (.int .i64 z2) (.slice p2 p3 p4) (.slice p5 p6 p7) (.int .u8 r1) (.int .i64 z3) (.int .i64 z4) (.slice s2 s3 s4) (.slice s5 s6 s7) code room mem t k v f g a s) (by kernel_rfl) HX0.out (fun hHeld => ?_)
  refine wpAnyH_take (i := 0) (v := ?_) rfl (by kernel_rfl) (by kernel_rfl) (by kernel_rfl) (fun _ _ _ h => h) (Or.inl ⟨by rfl, ?_⟩) (by assumption) ?_
  rotate_left
  · intro w hSw
    obtain ⟨x0, x1, x2, x3, x4, x5, x6, x7, x8, x9, x10, x11, x12, x13, x14, x15, x16, x17, x18, x19⟩ := hSw
    go_simp
    all_goals with_reducible rfl
  try simp only [Act.put]
  refine wpAnyH_take (i := 1) (v := ?_) rfl (by kernel_rfl) (by kernel_rfl) (by kernel_rfl) (fun _ _ _ h => h) (Or.inl ⟨by rfl, ?_⟩) (by assumption) ?_
  rotate_left
  · intro w hSw
    obtain ⟨x0, x1, x2, x3, x4, x5, x6, x7, x8, x9, x10, x11, x12, x13, x14, x15, x16, x17, x18, x19⟩ := hSw
    go_simp
    all_goals with_reducible rfl
  try simp only [Act.put]
  refine wpAnyH_take (i := 2) (v := ?_) rfl (by kernel_rfl) (by kernel_rfl) (by kernel_rfl) (fun _ _ _ h => h) (Or.inl ⟨by rfl, ?_⟩) (by assumption) ?_
  rotate_left
  · intro w hSw
    obtain ⟨x0, x1, x2, x3, x4, x5, x6, x7, x8, x9, x10, x11, x12, x13, x14, x15, x16, x17, x18, x19⟩ := hSw
    go_simp
    all_goals with_reducible rfl
  try simp only [Act.put]
  refine wpAnyH_take (i := 3) (v := ?_) rfl (by kernel_rfl) (by kernel_rfl) (by kernel_rfl) (fun _ _ _ h => h) (Or.inl ⟨by rfl, ?_⟩) (by assumption) ?_
  rotate_left
  · intro w hSw
    obtain ⟨x0, x1, x2, x3, x4, x5, x6, x7, x8, x9, x10, x11, x12, x13, x14, x15, x16, x17, x18, x19⟩ := hSw
    go_simp
    all_goals with_reducible rfl
  try simp only [Act.put]
  refine wpAnyH_take (i := 4) (v := ?_) rfl (by kernel_rfl) (by kernel_rfl) (by kernel_rfl) (fun _ _ _ h => h) (Or.inl ⟨by rfl, ?_⟩) (by assumption) ?_
  rotate_left
  · intro w hSw
    obtain ⟨x0, x1, x2, x3, x4, x5, x6, x7, x8, x9, x10, x11, x12, x13, x14, x15, x16, x17, x18, x19⟩ := hSw
    go_simp
    all_goals with_reducible rfl
  try simp only [Act.put]
  refine wpAnyH_take (i := 5) (v := ?_) rfl (by kernel_rfl) (by kernel_rfl) (by kernel_rfl) (fun _ _ _ h => h) (Or.inl ⟨by rfl, ?_⟩) (by assumption) ?_
  rotate_left
  · intro w hSw
    obtain ⟨x0, x1, x2, x3, x4, x5, x6, x7, x8, x9, x10, x11, x12, x13, x14, x15, x16, x17, x18, x19⟩ := hSw
    go_simp
    all_goals with_reducible rfl
  try simp only [Act.put]
  refine wpAnyH_ready (rs := [6]) (by kernel_rfl) (by simp) ?_
  refine AllReadyH.cons (o := _) rfl (fun K hK => ?_) AllReadyH.nil
  go_simp
  refine (HIK.out W.drew HBA.out.drew).mono ?_
  rintro e w1 ⟨rfl, hb1⟩
  have B1 := hid_m (HBA.out.trans ((below_of_drew hb1).mono HBA.out.size))
  have hn1 : w1.heap[tb]? = some (taskB t k v f g a s) := by rw [hb1.block tb (m_blk_lt HNA.out)]; exact HNA.out
  have HN1 := hid_m hn1
  have HX1 := hid_m (Rx.of (HH.out.on B1.out).mp hn1)
  clear hb1 hn1
  go_wp2_with fail
  refine hK.out _ _ HX1.out (fun hHelda => ?_)
  clear hK K
  try simp only [Act.put]
  refine wpAnyH_ready (rs := [7]) (by kernel_rfl) (by simp) ?_
  refine AllReadyH.cons (o := _) rfl (fun K hK => ?_) AllReadyH.nil
  go_simp
  refine hK.out _ _ HX1.out (fun hHeldb => ?_)
  clear hK K
  try simp only [Act.put]
  refine wpAnyH_done (by kernel_rfl) ?_ _
  go_wp2_with fail
  refine wp_region_held_drew (S := Rx B tb (.int .u8 q1) (.int .i64 z1) (.int .i64 z2) (.slice p2 p3 p4) (.slice p5 p6 p7) (.int .u8 r1) (.int .i64 z3) (.int .i64 z4) (.slice s2 s3 s4) (.slice s5 s6 s7) code room mem t k v f g a s) (by kernel_rfl) HX1.out (fun hHeld => ?_)
  refine wpAnyH_take (i := 0) (v := ?_) rfl (by kernel_rfl) (by kernel_rfl) (by kernel_rfl) (fun _ _ _ h => h) (Or.inl ⟨by rfl, ?_⟩) (by assumption) ?_
  rotate_left
  · intro w hSw
    obtain ⟨x0, x1, x2, x3, x4, x5, x6, x7, x8, x9, x10, x11, x12, x13, x14, x15, x16, x17, x18, x19⟩ := hSw
    go_simp
    all_goals with_reducible rfl
  try simp only [Act.put]
  refine wpAnyH_take (i := 1) (v := ?_) rfl (by kernel_rfl) (by kernel_rfl) (by kernel_rfl) (fun _ _ _ h => h) (Or.inl ⟨by rfl, ?_⟩) (by assumption) ?_
  rotate_left
  · intro w hSw
    obtain ⟨x0, x1, x2, x3, x4, x5, x6, x7, x8, x9, x10, x11, x12, x13, x14, x15, x16, x17, x18, x19⟩ := hSw
    go_simp
    all_goals with_reducible rfl
  try simp only [Act.put]
  refine wpAnyH_take (i := 2) (v := ?_) rfl (by kernel_rfl) (by kernel_rfl) (by kernel_rfl) (fun _ _ _ h => h) (Or.inl ⟨by rfl, ?_⟩) (by assumption) ?_
  rotate_left
  · intro w hSw
    obtain ⟨x0, x1, x2, x3, x4, x5, x6, x7, x8, x9, x10, x11, x12, x13, x14, x15, x16, x17, x18, x19⟩ := hSw
    go_simp
    all_goals with_reducible rfl
  try simp only [Act.put]
  refine wpAnyH_take (i := 3) (v := ?_) rfl (by kernel_rfl) (by kernel_rfl) (by kernel_rfl) (fun _ _ _ h => h) (Or.inl ⟨by rfl, ?_⟩) (by assumption) ?_
  rotate_left
  · intro w hSw
    obtain ⟨x0, x1, x2, x3, x4, x5, x6, x7, x8, x9, x10, x11, x12, x13, x14, x15, x16, x17, x18, x19⟩ := hSw
    go_simp
    all_goals with_reducible rfl
  try simp only [Act.put]
  refine wpAnyH_take (i := 4) (v := ?_) rfl (by kernel_rfl) (by kernel_rfl) (by kernel_rfl) (fun _ _ _ h => h) (Or.inl ⟨by rfl, ?_⟩) (by assumption) ?_
  rotate_left
  · intro w hSw
    obtain ⟨x0, x1, x2, x3, x4, x5, x6, x7, x8, x9, x10, x11, x12, x13, x14, x15, x16, x17, x18, x19⟩ := hSw
    go_simp
    all_goals with_reducible rfl
  try simp only [Act.put]
  refine wpAnyH_take (i := 5) (v := ?_) rfl (by kernel_rfl) (by kernel_rfl) (by kernel_rfl) (fun _ _ _ h => h) (Or.inl ⟨by rfl, ?_⟩) (by assumption) ?_
  rotate_left
  · intro w hSw
    obtain ⟨x0, x1, x2, x3, x4, x5, x6, x7, x8, x9, x10, x11, x12, x13, x14, x15, x16, x17, x18, x19⟩ := hSw
    go_simp
    all_goals with_reducible rfl
  try simp only [Act.put]
  refine wpAnyH_ready (rs := [6]) (by kernel_rfl) (by simp) ?_
  refine AllReadyH.cons (o := _) rfl (fun K hK => ?_) AllReadyH.nil
  go_simp
  refine (HIV.out w1.drew B1.out.drew).mono ?_
  rintro e w2 ⟨rfl, hb2⟩
  have B2 := hid_m (B1.out.trans ((below_of_drew hb2).mono B1.out.size))
  have hn2 : w2.heap[tb]? = some (taskB t k v f g a s) := by rw [hb2.block tb (m_blk_lt HN1.out)]; exact HN1.out
  have HN2 := hid_m hn2
  have HX2 := hid_m (Rx.of (HH.out.on B2.out).mp hn2)
  clear hb2 hn2
  go_wp2_with fail
  refine hK.out _ _ HX2.out (fun hHelda => ?_)
  clear hK K
  try simp only [Act.put]
  refine wpAnyH_ready (rs := [7]) (by kernel_rfl) (by simp) ?_
  refine AllReadyH.cons (o := _) rfl (fun K hK => ?_) AllReadyH.nil
  go_simp
  refine hK.out _ _ HX2.out (fun hHeldb => ?_)
  clear hK K
  try simp only [Act.put]
  refine wpAnyH_done (by kernel_rfl) ?_ _
  obtain ⟨y0, y1, y2, y3, y4, y5, y6, y7, y8, y9, y10, y11, y12, y13, y14, y15, y16, y17, y18, y19⟩ := HX2.out
  clear y0 y1 y2 y3 y4 y5 y6 y7 y8 y9 y10 y11 y12 y14 y15 y16 y17 y18 y19
  cases bk with
  | false =>
    go_wp2_with fail
    go_ret
    exact ⟨rfl, B2.out⟩
  | true =>
    cases bv with
    | false =>
      go_wp2_with fail
      go_ret
      exact ⟨rfl, B2.out⟩
    | true =>
      by_cases h0 : t < 0
      · go_wp2_with fail
        go_ret
        exact ⟨rfl, B2.out⟩
      · have h1 : 4294967295 < t := by have := HNO.out; simp only [true_and, not_and] at this; omega
        go_wp2_with fail
        go_ret
        exact ⟨rfl, B2.out⟩
end Go.Proofs.Ytghggcehloiemab
