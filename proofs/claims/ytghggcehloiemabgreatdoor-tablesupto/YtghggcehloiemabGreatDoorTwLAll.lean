import Derived.Test.YtghggcehloiemabGreatDoorTwAAll
import Derived.Test.YtghggcehloiemabGreatDoorTbHAll
import Derived.Test.YtghggcehloiemabGreatDoorLayEqAll
import Derived.Test.YtghggcehloiemabGreatDoorRefEncAll
namespace Go.Proofs.YtghggcehloiemabGreatDoor
open Go.RowKit
set_option linter.unusedVariables false
set_option maxRecDepth 16000
def twC (p : Nat × Nat) : List Value := [.pointer (some ⟨p.1, 0, none⟩), .pointer (some ⟨p.2, 0, none⟩)]
def twCells (L : List (Nat × Nat)) : List Value := L.flatMap twC
theorem twCells_append (A B : List (Nat × Nat)) : twCells (A ++ B) = twCells A ++ twCells B := by simp [twCells]
theorem twCells_get : ∀ (L : List (Nat × Nat)) (k j : Nat) (p : Nat × Nat), L[k]? = some p → j < 2 → (twCells L)[k * 2 + j]? = (twC p)[j]?
  | [], k, j, p, h, hj => by simp at h
  | q :: L, 0, j, p, h, hj => by
    simp at h
    subst h
    rw [show twCells (q :: L) = twC q ++ twCells L from by simp [twCells], Nat.zero_mul, Nat.zero_add, List.getElem?_append_left (show j < 2 from hj)]
  | q :: L, k + 1, j, p, h, hj => by
    rw [show twCells (q :: L) = twC q ++ twCells L from by simp [twCells], List.getElem?_append_right (show 2 ≤ (k + 1) * 2 + j by omega), show (k + 1) * 2 + j - (twC q).length = k * 2 + j from by show (k + 1) * 2 + j - 2 = _; omega]
    exact twCells_get L k j p (by simpa using h) hj
theorem tw_cell {w : World} {base g N cap k : Nat} {L : List (Nat × Nat)} {p : Nat × Nat} (h : w.ownsRow base 93 2 (.slice (some ⟨g, 0, none⟩) N cap) L.length (twCells L)) (hx : L[k]? = some p) :
    w.cell? ⟨g, k * 2, none⟩ = some (.pointer (some ⟨p.1, 0, none⟩)) ∧ w.cell? ⟨g, k * 2 + 1, none⟩ = some (.pointer (some ⟨p.2, 0, none⟩)) ∧ N = L.length ∧ N ≤ cap := by
  obtain ⟨h1, h2⟩ := h
  rcases h2 with ⟨h2, _⟩ | ⟨g', cap', cur, hv, hb, hg, hn, hm, hsz, htk⟩
  · cases h2
  · cases hv
    have hk : k < L.length := (List.getElem?_eq_some_iff.1 hx).1
    have key : ∀ j, j < 2 → w.cell? ⟨g, k * 2 + j, none⟩ = (twC p)[j]? := by
      intro j hj
      rw [cell_of_row w g _ _ _ _ hg]
      have hget := twCells_get L k j p hx hj
      rw [← htk, List.getElem?_take_of_lt (by omega)] at hget
      simpa using hget
    exact ⟨key 0 (by omega), key 1 (by omega), rfl, hn⟩
/-- A row of twins: each has blocks of its own. -/
structure Tws (w : World) (B : Nat) (lv : Value) (L : List (Nat × Nat)) : Prop where
  own : w.ownsRow B 93 2 lv L.length (twCells L)
  ex : ∃ O : Nat → Nat → Prop, (∀ j p, L[j]? = some p → Tw w p.1 p.2 (O j)) ∧ (∀ j, j < L.length → ∀ g, O j g → B ≤ g ∧ lv.ownBlock ≠ some g ∧ ∀ i, i < L.length → i ≠ j → ¬ O i g)
section
variable {w w' : World} {B : Nat} {lv : Value} {L : List (Nat × Nat)}
theorem Tws.nil (w : World) (B : Nat) : Tws w B (.slice none 0 0) [] := ⟨World.ownsRow_nil _ _ _ _, fun _ _ => False, fun j p h => by simp at h, fun j h => by simp at h⟩
theorem Tws.on (h : Tws w B lv L) (hb : Below w.heap.size w w') : Tws w' B lv L := by
  obtain ⟨O, h1, h2⟩ := h.ex
  exact ⟨owns_on h.own hb, O, fun j p hp => (h1 j p hp).of hb.size (fun g hg => hb.block g ((h1 j p hp).lt g hg)), h2⟩
theorem Tws.len (h : Tws w B lv L) {a : Option Addr} {N cap : Nat} (hk : lv = .slice a N cap) : N = L.length := by
  rcases h.own.2 with ⟨h1, h2⟩ | ⟨g, cap', cur, h1, _⟩
  · rw [hk] at h1; cases h1; omega
  · rw [hk] at h1; cases h1; rfl
/-- One twin. -/
theorem Tws.at (h : Tws w B lv L) {j : Nat} {p : Nat × Nat} (hp : L[j]? = some p) : ∃ O : Nat → Prop, Tw w p.1 p.2 O ∧ (∀ g, O g → B ≤ g) ∧ ∀ (w' : World) (e : Ending), HeldP w w' e p.1 p.2 O → Tws w' B lv L := by
  obtain ⟨O, h1, h2⟩ := h.ex
  have hj : j < L.length := (List.getElem?_eq_some_iff.1 hp).1
  refine ⟨O j, h1 j p hp, fun g hg => (h2 j hj g hg).1, fun w' e hh => ?_⟩
  obtain ⟨O', ht, ho⟩ := hh.tw
  have hf := hh.fr
  have hs := hf.size
  refine ⟨m_owns_of h.own (fun g hg => hf.block g (h.own.lt g hg).2 (fun hO => (h2 j hj g hO).2.1 hg)), fun i g => if i = j then O' g else O i g, fun i q hq => ?_, fun i hi g hg => ?_⟩
  · by_cases hij : i = j
    · subst hij
      rw [hp] at hq
      cases hq
      simp only [if_true]
      exact ht
    · simp only [if_neg hij]
      refine (h1 i q hq).of hs (fun g hg => hf.block g ((h1 i q hq).lt g hg) ?_)
      exact (h2 i (List.getElem?_eq_some_iff.1 hq).1 g hg).2.2 j hj (fun e => hij e.symm)
  · have hB : ∀ i, i < L.length → ∀ g, O i g → g < w.heap.size := fun i hi g hg => by
      obtain ⟨q, hq⟩ : ∃ q, L[i]? = some q := ⟨_, List.getElem?_eq_getElem hi⟩
      exact (h1 i q hq).lt g hg
    have hBs : ∀ g, w.heap.size ≤ g → B ≤ g := fun g hg => by
      have hx := h1 j p hp
      obtain ⟨tk, tv, sl, M, a3, b3, cv, S, ST, k0, k1, k2, k3, k4, v0, v1, v2, v3, v4, l0, L0, hx⟩ := hx
      have a1 := (h2 j hj p.1 (hx.oo p.1 (Or.inl rfl))).1
      have a2 := hx.xlt
      omega
    by_cases hij : i = j
    · subst hij
      simp only [if_true] at hg
      rcases ho g hg with e | e
      · obtain ⟨q1, q2, q3⟩ := h2 i hi g e
        refine ⟨q1, q2, fun k hk hne => ?_⟩
        simp only [if_neg hne]
        exact q3 k hk hne
      · refine ⟨hBs g e, fun e' => by have := (h.own.lt g e').2; omega, fun k hk hne => ?_⟩
        simp only [if_neg hne]
        exact fun e' => by have := hB k hk g e'; omega
    · simp only [if_neg hij] at hg
      obtain ⟨q1, q2, q3⟩ := h2 i hi g hg
      refine ⟨q1, q2, fun k hk hne => ?_⟩
      by_cases hkj : k = j
      · subst hkj
        simp only [if_true]
        intro e'
        rcases ho g e' with e | e
        · exact q3 k hk hne e
        · have := hB i hi g hg; omega
      · simp only [if_neg hkj]
        exact q3 k hk hne
/-- One more. -/
theorem Tws.add {w1 w3 : World} {g4 n4 cap4 x r : Nat} {O1 : Nat → Prop} {ob : Obj} (h : Tws w B lv L) (hb : Below w.heap.size w w1) (hBw : B ≤ w.heap.size) (ht : Tw w1 x r O1) (hO : ∀ g, O1 g → w.heap.size ≤ g)
    (hg : (w1.alloc ob).grownBy w3 lv.ownBlock) (hown : w3.ownsRow B 93 2 (.slice (some ⟨g4, 0, none⟩) n4 cap4) (L.length + 1) (twCells L ++ twC (x, r))) (hat : lv.ownBlock = some g4 ∨ g4 = (w1.alloc ob).heap.size) : Tws w3 B (.slice (some ⟨g4, 0, none⟩) n4 cap4) (L ++ [(x, r)]) := by
  obtain ⟨O, h1, h2⟩ := h.ex
  have hs := hb.size
  have hgs := hg.size
  simp only [World.size_alloc] at hgs
  have keep : ∀ g, g < w1.heap.size → lv.ownBlock ≠ some g → w3.heap[g]? = w1.heap[g]? := fun g hg1 hn => by
    rw [hg.block g (by simp; omega) (fun e => hn e.symm), Below.heap_alloc _ _ _ hg1]
  have hlow : ∀ g, lv.ownBlock = some g → g < w.heap.size := fun g e => (h.own.lt g e).2
  have hOl : ∀ i q, L[i]? = some q → ∀ g, O i g → g < w.heap.size := fun i q hq g hg => (h1 i q hq).lt g hg
  have own4 : ∀ g, (Value.slice (some ⟨g4, 0, none⟩) n4 cap4).ownBlock = some g → g = g4 := fun g e => by
    have : g4 = g := by simpa [Value.ownBlock] using e
    exact this.symm
  refine ⟨?_, fun i g => if i = L.length then O1 g else O i g, fun i q hq => ?_, fun i hi g hg => ?_⟩
  · rw [List.length_append, twCells_append]
    simpa [twCells] using hown
  · by_cases hi : i = L.length
    · subst hi
      simp at hq
      subst hq
      simp only [if_true]
      exact ht.of (by omega) (fun g hg => keep g (ht.lt g hg) (fun e => by have := hlow g e; have := hO g hg; omega))
    · have hlt : i < L.length := by have := (List.getElem?_eq_some_iff.1 hq).1; simp at this; omega
      rw [List.getElem?_append_left hlt] at hq
      simp only [if_neg hi]
      refine (h1 i q hq).of (by omega) (fun g hg => ?_)
      have hgl := hOl i q hq g hg
      rw [keep g (by omega) (h2 i hlt g hg).2.1, hb.block g hgl]
  · simp only [List.length_append, List.length_cons, List.length_nil] at hi
    have a4 : g4 ≠ g ∨ lv.ownBlock = some g4 := by
      rcases hat with e | e
      · exact Or.inr e
      · left
        intro e'
        subst e'
        by_cases hi2 : i = L.length
        · simp only [if_pos hi2] at hg
          have := ht.lt g4 hg; simp at e; omega
        · simp only [if_neg hi2] at hg
          obtain ⟨q, hq⟩ : ∃ q, L[i]? = some q := ⟨_, List.getElem?_eq_getElem (by omega)⟩
          have := hOl i q hq g4 hg; simp at e; omega
    by_cases hi2 : i = L.length
    · simp only [if_pos hi2] at hg
      have hw := hO g hg
      refine ⟨by omega, fun e => ?_, fun k hk hne => ?_⟩
      · have := own4 g e
        subst this
        rcases a4 with e' | e'
        · exact e' rfl
        · have := hlow g e'; omega
      · simp only [List.length_append, List.length_cons, List.length_nil] at hk
        have hk2 : k ≠ L.length := by omega
        simp only [if_neg hk2]
        obtain ⟨q, hq⟩ : ∃ q, L[k]? = some q := ⟨_, List.getElem?_eq_getElem (by omega)⟩
        exact fun e => by have := hOl k q hq g e; omega
    · simp only [if_neg hi2] at hg
      have hil : i < L.length := by omega
      obtain ⟨q, hq⟩ : ∃ q, L[i]? = some q := ⟨_, List.getElem?_eq_getElem hil⟩
      have hgl := hOl i q hq g hg
      obtain ⟨q1, q2, q3⟩ := h2 i hil g hg
      refine ⟨q1, fun e => ?_, fun k hk hne => ?_⟩
      · have := own4 g e
        subst this
        rcases a4 with e' | e'
        · exact e' rfl
        · exact q2 e'
      · simp only [List.length_append, List.length_cons, List.length_nil] at hk
        by_cases hk2 : k = L.length
        · simp only [if_pos hk2]
          exact fun e => by have := hO g e; omega
        · simp only [if_neg hk2]
          exact q3 k (by omega) hne
end
end Go.Proofs.YtghggcehloiemabGreatDoor
namespace Go.Proofs.YtghggcehloiemabGreatDoor
open Go.RowKit
set_option linter.unusedVariables false
set_option maxRecDepth 16000
set_option maxHeartbeats 4000000 in
/-- The program's New, where there is an error. -/
theorem new_no (sk sv : ByteArray) (slots : Int) (w : World) (hk : sk.size ≤ maxLen) (hv : sv.size ≤ maxLen) (h0 : P.errOf sk.data.toList sv.data.toList slots ≠ 0) :
    Calls Tryz.prog 14 #[.string sk, .string sv, .int .i64 slots] w fun e w' => e = .returned (.tuple #[.pointer none, .int .i64 (P.errOf sk.data.toList sv.data.toList slots)]) ∧ Below w.heap.size w w' := by
  obtain ⟨en, hen⟩ : ∃ n, P.errOf sk.data.toList sv.data.toList slots = n := ⟨_, rfl⟩
  rw [hen] at h0 ⊢
  go_enter Tryz.func14, Tryz.ntmps14
  go_wp2_with fail
  refine (measure_any sk sv slots w hk hv).mono ?_
  rintro e w1 hpost
  have hbe := hpost.1
  rcases hpost.cases2 with ⟨er, her, HT, rfl⟩ | ⟨tk', tv', vk, vv, kv', vv', htk, htv, hsl, rfl, shk, shv, kpk, kpv, hnew⟩
  · have hee : en = er := by rw [← hen]; exact HT.1
    subst hee
    have B1 := hid_m (hbe.alloc hbe.size (.cells #[.int .i64 0, .int .i64 0, .slice none 0 0, .int .i64 0, .int .i64 0, .slice none 0 0, .slice none 0 0, .slice none 0 0, .int .i64 0] 67))
    clear HT h0 hpost hbe hk hv hen
    rcases her with rfl | rfl
    · go_wp2_with fail
      go_ret2
      exact ⟨rfl, B1.out⟩
    · go_wp2_with fail
      go_ret2
      exact ⟨rfl, B1.out⟩
  · exfalso
    apply h0
    rw [← hen]
    unfold P.errOf
    rw [htk, htv]
    simp only
    rw [if_pos hsl]
end Go.Proofs.YtghggcehloiemabGreatDoor
namespace Go.Proofs.YtghggcehloiemabGreatDoor
open Go.RowKit
set_option linter.unusedVariables false
set_option maxRecDepth 16000
set_option maxHeartbeats 1000000 in
/-- The reference's New, where there is an error. -/
theorem rnew_no (sk sv : ByteArray) (slots : Int) (w : World) (hk : sk.size ≤ maxLen) (hv : sv.size ≤ maxLen) (h0 : P.errOf sk.data.toList sv.data.toList slots ≠ 0) :
    Calls Tryz.prog 41 #[.string sk, .string sv, .int .i64 slots] w fun e w' => e = .returned (.tuple #[.pointer none, .int .i64 (P.errOf sk.data.toList sv.data.toList slots)]) ∧ Below w.heap.size w w' := by
  have HR := hid_m (rRefused_any sk sv slots w hk hv)
  obtain ⟨er, her⟩ : ∃ er, P.errOf sk.data.toList sv.data.toList slots = er := ⟨_, rfl⟩
  rw [her] at HR h0 ⊢
  have hne : ((er : Int) == 0) = false := by rw [beq_eq_false_iff_ne]; omega
  have hn2 : ((er : Int) != 0) = true := by rw [bne_iff_ne]; omega
  clear her h0 hk hv
  go_enter Tryz.func41, Tryz.ntmps41
  go_wp2_with fail
  refine HR.out.mono ?_
  rintro e v1 ⟨rfl, hb1⟩
  have B1 := hid_m hb1
  clear hb1
  go_wp2_with fail
  go_ret2
  exact ⟨rfl, B1.out⟩
def RNewP (w : World) (e : Ending) (w' : World) (tk tv : P.Ty 4) (sl : Nat) : Prop := (∃ (b : Nat) (k0 k1 k2 k3 k4 v0 v1 v2 v3 v4 : Value) (ST : Nat → Prop), e = .returned (.tuple #[.pointer (some ⟨b, 0, none⟩), .int .i64 0]) ∧ w.heap.size ≤ b ∧ b < w'.heap.size ∧ Rt w' b w'.heap.size sl k0 k1 k2 k3 k4 v0 v1 v2 v3 v4 (.slice none 0 0) [] ∧ TypAt w' 4 tk (.agg #[k0, k1, k2, k3, k4]) ST ∧ TypAt w' 4 tv (.agg #[v0, v1, v2, v3, v4]) ST ∧ ∀ g, ST g → w.heap.size ≤ g ∧ g < w'.heap.size ∧ g ≠ b) ∧ Below w.heap.size w w'
theorem tw_blk_on {w w' : World} {b : Nat} {o : Obj} (hb : Below w.heap.size w w') (h : w.heap[b]? = some o) : w'.heap[b]? = some o := by rw [hb.block b (m_blk_lt h)]; exact h
theorem tw_cells5 {w : World} {B : Nat} {T : TypeId} {x0 x1 x2 x3 x4 : Value} (h : w.heap[B]? = some (.cells #[x0, x1, x2, x3, x4] T (0, 0))) : w.cell? ⟨B, 0, none⟩ = some x0 ∧ w.cell? ⟨B, 1, none⟩ = some x1 ∧ w.cell? ⟨B, 2, none⟩ = some x2 ∧ w.cell? ⟨B, 3, none⟩ = some x3 ∧ w.cell? ⟨B, 4, none⟩ = some x4 := by
  refine ⟨?_, ?_, ?_, ?_, ?_⟩ <;> rw [cell_of_row _ _ _ _ _ _ h] <;> rfl
set_option maxHeartbeats 4000000 in
theorem rnew_yes (sk sv : ByteArray) (sl : Nat) (w : World) (hk : sk.size ≤ maxLen) (hv : sv.size ≤ maxLen) (he : P.errOf sk.data.toList sv.data.toList sl = 0) (tk tv : P.Ty 4) (htk : P.rtyOf sk.data.toList = some tk) (htv : P.rtyOf sv.data.toList = some tv) (hsl16 : sl ≤ 16) :
    Calls Tryz.prog 41 #[.string sk, .string sv, .int .i64 sl] w fun e w' => RNewP w e w' tk tv sl := by
  have HR := hid_m (rRefused_any sk sv sl w hk hv)
  have HKP := hid_m (fun w => rParse_any sk w hk)
  have HVP := hid_m (fun w => rParse_any sv w hv)
  rw [he] at HR
  rw [htk] at HKP
  rw [htv] at HVP
  have HS := hid_m hsl16
  clear hk hv he htk htv hsl16
  go_enter Tryz.func41, Tryz.ntmps41
  go_wp2_with fail
  refine HR.out.mono ?_
  rintro e v2 ⟨rfl, hb2⟩
  have B2 := hid_m hb2
  clear hb2 HR
  go_wp2_with fail
  refine (HKP.out _).mono ?_
  rintro e w4 ⟨⟨vk, Sk, rfl, hTk, hSk⟩, hb4⟩
  obtain ⟨q1, p2, p3, p4, p5, p6, p7, rfl⟩ := hTk.is
  obtain ⟨z1, hz1⟩ : ∃ z, (P.sz 4 tk).1 = z := ⟨_, rfl⟩
  obtain ⟨z2, hz2⟩ : ∃ z, (P.sz 4 tk).2 = z := ⟨_, rfl⟩
  rw [hz1, hz2] at hTk ⊢
  have HTK := hid_m hTk
  have HSK := hid_m hSk
  have B4 := hid_m (B2.out.trans (hb4.mono B2.out.size))
  have HS2 := hid_m B2.out.size
  clear hTk hSk hb4 hz1 hz2
  go_wp2_with fail
  have hc4 : (w4.alloc (.cells #[.int .u8 q1, .int .i64 z1, .int .i64 z2, .slice p2 p3 p4, .slice p5 p6 p7] 121)).heap[w4.heap.size]? = some (.cells #[.int .u8 q1, .int .i64 z1, .int .i64 z2, .slice p2 p3 p4, .slice p5 p6 p7] 121 (0, 0)) := heap_alloc_new _ _
  have hb5 : Below w4.heap.size w4 (w4.alloc (.cells #[.int .u8 q1, .int .i64 z1, .int .i64 z2, .slice p2 p3 p4, .slice p5 p6 p7] 121)) := (Below.refl _ _).alloc (Nat.le_refl _) _
  obtain ⟨tb, htb⟩ : ∃ B, w4.heap.size = B := ⟨_, rfl⟩
  have HTB := hid_m htb
  generalize (w4.alloc (.cells #[.int .u8 q1, .int .i64 z1, .int .i64 z2, .slice p2 p3 p4, .slice p5 p6 p7] 121)) = w5 at hc4 hb5 ⊢
  have B5 := hid_m (B4.out.trans (hb5.mono B4.out.size))
  have HB45 := hid_m hb5
  rw [htb] at hc4 ⊢
  have HC5 := hid_m hc4
  clear hc4 hb5 htb
  refine (HVP.out _).mono ?_
  rintro e w6 ⟨⟨vv, Sv, rfl, hTv, hSv⟩, hb6⟩
  obtain ⟨r1, s2, s3, s4, s5, s6, s7, rfl⟩ := hTv.is
  obtain ⟨z3, hz3⟩ : ∃ z, (P.sz 4 tv).1 = z := ⟨_, rfl⟩
  obtain ⟨z4, hz4⟩ : ∃ z, (P.sz 4 tv).2 = z := ⟨_, rfl⟩
  rw [hz3, hz4] at hTv ⊢
  have HTV := hid_m hTv
  have HSV := hid_m hSv
  have B6 := hid_m (B5.out.trans (hb6.mono B5.out.size))
  have HC6 := hid_m (tw_blk_on hb6 HC5.out)
  have HB46 := hid_m (HB45.out.trans (hb6.mono HB45.out.size))
  have HS56 := hid_m hb6.size
  clear hTv hSv hb6 hz3 hz4
  rename_i K7 hK7 Kc hKc
  have HK7 := hid_m hK7
  clear hK7
  go_wp2_with fail
  have hc6 : (w6.alloc (.cells #[.int .u8 r1, .int .i64 z3, .int .i64 z4, .slice s2 s3 s4, .slice s5 s6 s7] 121)).heap[w6.heap.size]? = some (.cells #[.int .u8 r1, .int .i64 z3, .int .i64 z4, .slice s2 s3 s4, .slice s5 s6 s7] 121 (0, 0)) := heap_alloc_new _ _
  have hb7 : Below w6.heap.size w6 (w6.alloc (.cells #[.int .u8 r1, .int .i64 z3, .int .i64 z4, .slice s2 s3 s4, .slice s5 s6 s7] 121)) := (Below.refl _ _).alloc (Nat.le_refl _) _
  obtain ⟨ub, hub⟩ : ∃ B, w6.heap.size = B := ⟨_, rfl⟩
  have HUB := hid_m hub
  generalize (w6.alloc (.cells #[.int .u8 r1, .int .i64 z3, .int .i64 z4, .slice s2 s3 s4, .slice s5 s6 s7] 121)) = w7 at hc6 hb7 ⊢
  have B7 := hid_m (B6.out.trans (hb7.mono B6.out.size))
  have HC7 := hid_m (tw_blk_on hb7 HC6.out)
  have HB47 := hid_m (HB46.out.trans (hb7.mono HB46.out.size))
  have HB67 := hid_m hb7
  rw [hub] at hc6 ⊢
  have HU7 := hid_m hc6
  clear hc6 hb7 hub
  refine HK7.out _ _ ?_
  clear HK7
  obtain ⟨m0, m1, m2, m3, m4⟩ := tw_cells5 HC7.out
  obtain ⟨n0, n1, n2, n3, n4⟩ := tw_cells5 HU7.out
  go_wp2_with fail
  go_ret2
  have s2 := HS2.out
  have s4 := HB47.out.size
  have s5 := HB45.out.size
  have s6 := HS56.out
  have s7 := HB67.out.size
  have sB := B7.out.size
  have oth : ∀ (o : Obj) (g : Nat), g < w7.heap.size → (w7.alloc o).heap[g]? = w7.heap[g]? := fun o g hg => Below.heap_alloc _ _ _ hg
  refine ⟨⟨w7.heap.size, _, _, _, _, _, _, _, _, _, _, fun g => Sk g ∨ Sv g, rfl, sB, by simp, ⟨heap_alloc_new _ _, rfl, rfl, World.ownsRow_nil _ _ _ _, by simp, Nat.le_refl _, Nat.zero_le _, HS.out⟩, HTK.out.of (fun g hg => ?_) (fun g hg => Or.inl hg), HTV.out.of (fun g hg => ?_) (fun g hg => Or.inr hg), fun g hg => ?_⟩, B7.out.alloc sB _⟩
  · have := HSK.out g hg
    rw [oth _ g (by omega), HB47.out.block g (by omega)]
  · have := HSV.out g hg
    rw [oth _ g (by omega), HB67.out.block g (by omega)]
  · have hs : ∀ o : Obj, (w7.alloc o).heap.size = w7.heap.size + 1 := fun o => by simp
    rw [hs]
    have h5 := B5.out.size
    rcases hg with hg | hg
    · have := HSK.out g hg; exact ⟨by omega, by omega, by omega⟩
    · have := HSV.out g hg; exact ⟨by omega, by omega, by omega⟩
end Go.Proofs.YtghggcehloiemabGreatDoor
