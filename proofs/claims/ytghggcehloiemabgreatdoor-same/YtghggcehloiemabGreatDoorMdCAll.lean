import Derived.Test.YtghggcehloiemabGreatDoorMdAAll
namespace Go.Proofs.YtghggcehloiemabGreatDoor
open Go.RowKit
set_option linter.unusedVariables false
set_option maxRecDepth 16000
theorem erase_next {α : Type} {L : List α} {t i0 : Nat} {x : α} (h : L[t]? = some x) : (L.take (t + 1)).eraseIdx i0 = if t = i0 then (L.take t).eraseIdx i0 else (L.take t).eraseIdx i0 ++ [x] := by
  have ht := (List.getElem?_eq_some_iff.1 h).1
  have hl : (L.take t).length = t := by rw [List.length_take]; omega
  rw [List.take_add_one, h, Option.toList_some]
  by_cases h1 : t = i0
  · rw [if_pos h1]
    subst h1
    rw [List.eraseIdx_append_of_length_le (by omega), hl, Nat.sub_self, List.eraseIdx_of_length_le (l := L.take t) (by omega)]
    simp
  · rw [if_neg h1]
    rcases Nat.lt_or_ge i0 t with h2 | h2
    · rw [List.eraseIdx_append_of_lt_length (by omega)]
    · rw [List.eraseIdx_of_length_le (by simp; omega), List.eraseIdx_of_length_le (by omega)]
set_option maxHeartbeats 4000000 in
theorem rDrop_any {w : World} (b o M sl : Nat) (cs : Array Value) (T : TypeId) (lv : Value) (L : List (ByteArray × ByteArray)) (k v : ByteArray) (h : Mp w b o M sl cs T lv L) :
    Calls Tryz.prog 130 #[.pointer (some ⟨b, o, none⟩), .string k] w fun e w' => e = .returned (.bool (decide ((P.mapDo sl 3 k v L).1 = 0))) ∧ (∃ lv', Mp w' b o M sl (cs.setIfInBounds (o + 1) lv') T lv' (P.mapDo sl 3 k v L).2 ∧ Nx w lv lv') ∧ Fr b lv.ownBlock w w' := by
  obtain ⟨ip, hip, hz0, hz1, hz2⟩ := info_parts Tryz.infoPair
  obtain ⟨a, N, cap, rfl⟩ := owns_slice h.own
  have hbl := h.lt2
  have HH := hid_m h
  have HAT := hid_m (rAt_any b o M (.slice a N cap) L k h.c1 hbl h.own (by have := h.few; have := h.sl16; omega))
  have hNl : N = L.length := by
    rcases h.own.2 with ⟨h, h'⟩ | ⟨g, cap', cur, h, _⟩
    · cases h; have := h'; simp at this; omega
    · cases h; rfl
  have HNL := hid_m hNl
  have hN16 : N ≤ 16 := by have := h.few; have := h.sl16; omega
  obtain ⟨i0, hi0⟩ : ∃ i0, (P.atK L k).getD L.length = i0 := ⟨_, rfl⟩
  obtain ⟨j, hj⟩ : ∃ j, atI (P.atK L k) = j := ⟨_, rfl⟩
  have HJ : Hid (∀ t : Nat, t < L.length → ((t : Int) = j ↔ t = i0)) := by
    intro t ht
    rw [← hj, ← hi0]
    cases hq : P.atK L k with
    | none => simp only [atI, Option.getD_none]; omega
    | some i => simp only [atI, Option.getD_some]; omega
  have HD : Hid ((P.mapDo sl 3 k v L).2 = L.eraseIdx i0 ∧ decide ((P.mapDo sl 3 k v L).1 = 0) = decide ((0 : Int) ≤ j)) := by
    unfold Hid P.mapDo
    rw [if_neg (by decide), if_neg (by decide), if_pos rfl, ← hi0, ← hj]
    cases hq : P.atK L k with
    | none => exact ⟨by simp [List.eraseIdx_of_length_le], by simp [atI]⟩
    | some i => exact ⟨rfl, by simp [atI]⟩
  rw [hj] at HAT
  clear h hNl hi0 hj
  go_enter Tryz.func130, Tryz.ntmps130
  go_wp2_with fail
  refine HAT.out.mono ?_
  rintro e w1 ⟨rfl, hb1⟩
  have HM1 := hid_m (HH.out.on hb1)
  have HF1 := hid_m (Fr.of (b := b) (r := (Value.slice a N cap).ownBlock) hb1)
  have HW1 := hid_m hb1.size
  have d1 := HM1.out.c1
  clear hb1
  go_wp2_with fail
  go_loopw [6, 7] (fun l i wr => ∃ (t : Nat), t ≤ N ∧ i = .int .i64 t ∧ Hid (wr.ownsRow w1.heap.size 178 2 l ((L.take t).eraseIdx i0).length (pairCells ((L.take t).eraseIdx i0))) ∧ Hid (Below w1.heap.size w1 wr)) (fun _ i _ => N - (intOf i).toNat)
  case atStart => exact ⟨0, Nat.zero_le _, rfl, World.ownsRow_nil _ _ _ _, Below.refl _ _⟩
  case round =>
    obtain ⟨t, ht, rfl, hl, hb⟩ := hrel
    have HM := hid_m (HM1.out.on hb.out)
    have hws := hb.out.size
    clear d1
    have d1 := HM.out.c1
    by_cases hlt : t < N
    · obtain ⟨p, hp⟩ : ∃ p, L[t]? = some p := ⟨_, List.getElem?_eq_getElem (by have := HNL.out; omega)⟩
      obtain ⟨g, cap', hv, _, hgl⟩ := HM.out.own.form (by have := HNL.out; omega)
      have ha : a = some ⟨g, 0, none⟩ := by injection hv
      subst ha
      obtain ⟨e0, e1, hNe, hcp⟩ := pair_cell HM.out.own hp
      have HNX := hid_m (erase_next (i0 := i0) hp)
      have HTL : Hid (((L.take t).eraseIdx i0).length ≤ 16) := by
        unfold Hid
        have := List.length_eraseIdx_le (L.take t) i0
        rw [List.length_take] at this; omega
      have j0 : (0 : Int) ≤ (t : Int) := Int.natCast_nonneg t
      have j1 : (t : Int) < (N : Int) := by omega
      have HTN : Hid (t + 1 ≤ N) := hlt
      have HTW : Hid (wrap64 ((t : Int) + 1) = (t : Int) + 1) := w64_id _ (by omega) (by omega)
      have hjt := HJ.out t (by have := HNL.out; omega)
      obtain ⟨pk, pv⟩ := p
      simp only at e0 e1
      clear hv hNe hp ht hlt hbl
      by_cases hti : t = i0
      · have hne : ((t : Int) != j) = false := by rw [bne_eq_false_iff_eq]; exact hjt.2 hti
        have HNX2 : Hid ((L.take (t + 1)).eraseIdx i0 = (L.take t).eraseIdx i0) := by unfold Hid; rw [HNX.out, if_pos hti]
        clear hjt hti
        go_wp2_with fail
        refine ⟨⟨t + 1, HTN.out, by first | (rw [HTW.out]; exact next_t) | exact next_t, ?_, hb⟩, by first | (rw [HTW.out]; exact less_t HTN.out) | exact less_t HTN.out⟩
        rw [HNX2.out]; exact hl
      · have hne : ((t : Int) != j) = true := by rw [bne_iff_ne]; exact fun h => hti (hjt.1 h)
        have HNX2 : Hid ((L.take (t + 1)).eraseIdx i0 = (L.take t).eraseIdx i0 ++ [(pk, pv)]) := by unfold Hid; rw [HNX.out, if_neg hti]
        have hcl := HTL.out
        clear hjt hti
        go_wp2_with (first
          | (at_builtin; refine wpList_append_lies _ rfl _ _ 124 rfl w1.heap.size 178 ip (.agg #[.string ⟨#[]⟩, .string ⟨#[]⟩]) 2 32 Tryz.underlying124 hip hz0 hz1 hz2 rfl (by decide) u6 _ (pairCells ((L.take t).eraseIdx i0)) rfl (hl.out.alloc _) ⟨wr.heap.size, 0, none⟩ 1 1 (pairC (pk, pv)) rfl rfl (two_new _ _ _ _) (fun x hx => by simp [pairC] at hx; rcases hx with rfl | rfl <;> rfl) (by omega) (by unfold maxLen; omega) (by omega) (by simp; omega) _ rfl ?_; intro g4 cap4 w4 hown' hgrow hat4 hlt4
             have hbe4 := m_grown_below hb.out hl.out hgrow (Nat.le_refl _)))
        refine ⟨⟨t + 1, HTN.out, by first | (rw [HTW.out]; exact next_t) | exact next_t, ?_, hbe4⟩, by first | (rw [HTW.out]; exact less_t HTN.out) | exact less_t HTN.out⟩
        rw [HNX2.out, pairCells_append, List.length_append]
        unfold Hid
        simpa [pairCells] using hown'
    · have hte : t = N := by omega
      subst hte
      have htk : L.take t = L := List.take_of_length_le (Nat.le_of_eq HNL.out.symm)
      rw [htk] at hl
      obtain ⟨a5, N5, c5, rfl⟩ := owns_slice hl.out
      have dz := HM.out.fz
      have HFR : Hid (Fr b (Value.slice a t cap).ownBlock w wr) := HF1.out.trans (Fr.of (b := b) (r := (Value.slice a t cap).ownBlock) hb.out) (fun g hg => Or.inl hg)
      have NX : Hid (Nx w (.slice a t cap) (.slice a5 N5 c5)) := fun g hg => by right; have := (hl.out.lt g hg).1; have := HW1.out; omega
      have hin := (Array.getElem?_eq_some_iff.1 HM.out.a1).1
      have X1 : Mp (wr.setCell ⟨b, o + 1, none⟩ (.slice a5 N5 c5)) b o M sl (cs.setIfInBounds (o + 1) (.slice a5 N5 c5)) T (.slice a5 N5 c5) (L.eraseIdx i0) := by
        refine ⟨by simp [World.setCell, Array.getElem?_modify, HM.out.blk], ?_, ?_, ?_, HM.out.lt, by have := HM.out.here; simp [World.setCell]; omega, ?_, HM.out.sl16⟩
        · rw [Array.getElem?_setIfInBounds_ne (by omega)]; exact HM.out.a0
        · rw [Array.getElem?_setIfInBounds_self_of_lt hin]
        · refine m_owns_of (p_owns_less hl.out HM1.out.here) (fun g hg => set_other ?_)
          have := (hl.out.lt g hg).1; have := HM1.out.here; have := HM.out.lt; omega
        · have := List.length_eraseIdx_le L i0; have := HM.out.few; omega
      have HX1 := hid_m X1
      have HX2 := hid_m (HFR.out.set (o + 1) (.slice a5 N5 c5))
      clear X1 htk ht hlt hl hin
      go_wp2_with fail
      go_ret
      exact ⟨by rw [HD.out.2]; rfl, ⟨_, by rw [HD.out.1]; exact HX1.out, NX.out⟩, HX2.out⟩
end Go.Proofs.YtghggcehloiemabGreatDoor
namespace Go.Proofs.YtghggcehloiemabGreatDoor
open Go.RowKit
set_option linter.unusedVariables false
set_option maxRecDepth 16000
namespace P
def pickQ (c : Int) (n : Nat) : Nat := (if c < 0 then -(c + 1) else c).toNat % n
/-- Bytes laid into a memory. -/
def laidL (m : List UInt8) (at0 : Nat) (s : List UInt8) : List UInt8 := m.take at0 ++ s ++ m.drop (at0 + s.length)
end P
theorem pickQ_lt (c : Int) (n : Nat) (hn : 1 ≤ n) : P.pickQ c n < n := Nat.mod_lt _ (by omega)
set_option maxHeartbeats 400000 in
theorem lpick_any (c : Int) (n : Nat) (w : World) (hn : 1 ≤ n) (hn2 : n ≤ 4294967296) (h0 : -9223372036854775808 ≤ c) (h1 : c ≤ 9223372036854775807) :
    Calls Tryz.prog 44 #[.int .i64 c, .int .i64 n] w fun e w' => e = .returned (.int .i64 (P.pickQ c n)) ∧ w' = w := by
  have hnz : ((n : Int) == 0) = false := by rw [beq_eq_false_iff_ne]; omega
  by_cases h : c < 0
  · have HP : Hid (((P.pickQ c n : Nat) : Int) = -((c + 1).tmod n)) := by
      unfold Hid P.pickQ; rw [if_pos h, Int.natCast_emod, Int.toNat_of_nonneg (by omega), ← Int.tmod_eq_emod_of_nonneg (by omega), Int.neg_tmod]
    go_enter Tryz.func44, Tryz.ntmps44
    go_wp2_with fail
    go_ret
    exact ⟨by rw [HP.out]; rfl, rfl⟩
  · have HP : Hid (((P.pickQ c n : Nat) : Int) = c % n) := by
      unfold Hid P.pickQ; rw [if_neg h, Int.natCast_emod, Int.toNat_of_nonneg (by omega)]
    go_enter Tryz.func44, Tryz.ntmps44
    go_wp2_with fail
    go_ret
    exact ⟨by rw [HP.out]; rfl, rfl⟩
theorem str_of (x : ByteArray) : x = ⟨x.data.toList.toArray⟩ := by cases x; simp
theorem cut_data (m : ByteArray) (a b : Nat) : (m.extract a b).data.toList = (m.data.toList.drop a).take (b - a) := by
  rw [ByteArray.data_extract, Array.toList_extract]
theorem join_data (a b : ByteArray) : (a ++ b).data.toList = a.data.toList ++ b.data.toList := by rw [ByteArray.data_append, Array.toList_append]
theorem laid_data (m s : ByteArray) (p : Nat) : m.extract 0 p ++ s ++ m.extract (p + s.size) m.size = ⟨(P.laidL m.data.toList p s.data.toList).toArray⟩ := by
  rw [str_of (m.extract 0 p ++ s ++ m.extract (p + s.size) m.size)]
  congr 2
  unfold P.laidL
  rw [join_data, join_data, cut_data, cut_data]
  have e : s.data.toList.length = s.size := by simp
  rw [e, List.drop_zero, Nat.sub_zero, List.take_of_length_le (l := m.data.toList.drop (p + s.size)) (by simp)]
end Go.Proofs.YtghggcehloiemabGreatDoor
