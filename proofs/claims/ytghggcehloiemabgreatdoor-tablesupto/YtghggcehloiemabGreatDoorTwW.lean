import Derived.Test.YtghggcehloiemabGreatDoorTwAAll
import Derived.Test.YtghggcehloiemabGreatDoorTwLAll
import Derived.Test.YtghggcehloiemabGreatDoorOpenO
import Derived.Test.YtghggcehloiemabGreatDoorRefEncAll
namespace Go.Proofs.YtghggcehloiemabGreatDoor
open Go.RowKit
set_option linter.unusedVariables false
set_option maxRecDepth 16000
theorem Tryz.infoTwin : (Tryz.prog.info? 93).map (fun i => (i.zero, i.size, i.bytes)) = some (some (.agg #[.pointer none, .pointer none]), 2, 16) := by kernel_rfl
/-- What a call of a twin reads. -/
def PlS (ob : Nat) (kd on a b c d : Int) (s u : ByteArray) (g q px pr : Nat) (w : World) : Prop := w.cell? ⟨ob, 0, none⟩ = some (.int .i64 kd) ∧ w.cell? ⟨ob, 1, none⟩ = some (.int .i64 on) ∧ w.cell? ⟨ob, 2, none⟩ = some (.int .i64 a) ∧ w.cell? ⟨ob, 3, none⟩ = some (.int .i64 b) ∧ w.cell? ⟨ob, 4, none⟩ = some (.int .i64 c) ∧ w.cell? ⟨ob, 5, none⟩ = some (.int .i64 d) ∧ w.cell? ⟨ob, 6, none⟩ = some (.string s) ∧ w.cell? ⟨ob, 7, none⟩ = some (.string u) ∧ w.cell? ⟨g, q * 2, none⟩ = some (.pointer (some ⟨px, 0, none⟩)) ∧ w.cell? ⟨g, q * 2 + 1, none⟩ = some (.pointer (some ⟨pr, 0, none⟩))
theorem PlS.of {w : World} {ob B g N cap q px pr : Nat} {kd on a b c d : Int} {s u : ByteArray} {L : List (Nat × Nat)} (h : w.heap[ob]? = some (.cells #[.int .i64 kd, .int .i64 on, .int .i64 a, .int .i64 b, .int .i64 c, .int .i64 d, .string s, .string u] 86 (0, 0))) (ho : w.ownsRow B 93 2 (.slice (some ⟨g, 0, none⟩) N cap) L.length (twCells L)) (hp : L[q]? = some (px, pr)) : PlS ob kd on a b c d s u g q px pr w := by
  obtain ⟨t1, t2, _⟩ := tw_cell ho hp
  refine ⟨?_, ?_, ?_, ?_, ?_, ?_, ?_, ?_, t1, t2⟩ <;> (rw [cell_of_row _ _ _ _ _ _ h]; rfl)
theorem op_of {w : World} {ob : Nat} {kd on a b c d : Int} {s u : ByteArray} (h : w.heap[ob]? = some (.cells #[.int .i64 kd, .int .i64 on, .int .i64 a, .int .i64 b, .int .i64 c, .int .i64 d, .string s, .string u] 86 (0, 0))) : OpAt w ob 0 kd on a b c d s u := by
  refine ⟨?_, ?_, ?_, ?_, ?_, ?_, ?_, ?_⟩ <;> (rw [cell_of_row _ _ _ _ _ _ h]; rfl)
/-- A new twin. -/
theorem tw_new {w1 w2 w3 : World} {x r : Nat} {tk tv : P.Ty 4} {sl : Nat} {a3 b3 cv : Value} {S ST : Nat → Prop} {k0 k1 k2 k3 k4 v0 v1 v2 v3 v4 : Value} {lk lv : List UInt8} (hk : P.rtyOf lk = some tk) (hv : P.rtyOf lv = some tv)
    (hx : w1.heap.size ≤ x) (hx2 : x < w2.heap.size) (hS : ∀ g, S g → w1.heap.size ≤ g) (htb : TbI w2 x tk tv sl a3 b3 cv S []) (hb2 : Below w1.heap.size w1 w2)
    (hr : w2.heap.size ≤ r) (hr2 : r < w3.heap.size) (hrt : Rt w3 r w3.heap.size sl k0 k1 k2 k3 k4 v0 v1 v2 v3 v4 (.slice none 0 0) []) (hTk : TypAt w3 4 tk (.agg #[k0, k1, k2, k3, k4]) ST) (hTv : TypAt w3 4 tv (.agg #[v0, v1, v2, v3, v4]) ST) (hST : ∀ g, ST g → w2.heap.size ≤ g ∧ g < w3.heap.size ∧ g ≠ r) (hb3 : Below w2.heap.size w2 w3) :
    ∃ O : Nat → Prop, Tw w3 x r O ∧ ∀ g, O g → w1.heap.size ≤ g := by
  obtain ⟨bytes, T, hT, hP⟩ := htb
  have s2 := hb2.size
  have s3 := hb3.size
  obtain ⟨_, q1, q2⟩ := tw_known_r hk
  obtain ⟨_, q3, q4⟩ := tw_known_r hv
  have hown := hT.own
  refine ⟨fun g => g = x ∨ S g ∨ g = r ∨ ST g, ⟨tk, tv, sl, w3.heap.size, a3, b3, cv, S, ST, k0, k1, k2, k3, k4, v0, v1, v2, v3, v4, .slice none 0 0, [], (show TbI w2 x tk tv sl a3 b3 cv S [] from ⟨bytes, T, hT, hP⟩).on hb3, hrt, hTk, hTv, q1, q2, q3, q4, fun g hg => ?_, fun g hg => ?_, by omega, fun g hg => by simp [Value.ownBlock] at hg, fun g hg => ?_, fun g hg => ?_⟩, fun g hg => ?_⟩
  · have h1 := hown g hg; exact ⟨by omega, h1.1, by omega⟩
  · have h1 := hST g hg; exact ⟨h1.2.1, by omega, h1.2.2⟩
  · rcases hg with h | h | h | h | h
    · exact Or.inl h
    · exact Or.inr (Or.inl h)
    · exact Or.inr (Or.inr (Or.inl h))
    · exact Or.inr (Or.inr (Or.inr h))
    · simp [Value.ownBlock] at h
  · rcases hg with h | h | h | h
    · omega
    · have := hown g h; omega
    · omega
    · exact (hST g h).2.1
  · rcases hg with h | h | h | h
    · omega
    · exact hS g h
    · omega
    · have := hST g h; omega
set_option maxHeartbeats 8000000 in
theorem played_any (x : Option Addr) (N cap : Nat) (first : Bool) (w : World) (hN : N ≤ 1048576) (hts : OpsAt w x N) (htab : Lib.TabIs Tryz.prog w "internal/strconv.uint64pow10" .u64 Lib.pow10Tab)
    (hpl : first = true → ∀ (kd on a b c d : Int) (s t : ByteArray), s.size ≤ 1048576 → t.size ≤ 1048576 → ∀ w', Lib.TabIs Tryz.prog w' "internal/strconv.uint64pow10" .u64 Lib.pow10Tab → Calls Tryz.prog 43 #[.agg #[.int .i64 kd, .int .i64 on, .int .i64 a, .int .i64 b, .int .i64 c, .int .i64 d, .string s, .string t]] w' fun e w'' => e = .returned (.bool true) ∧ Below w'.heap.size w' w'') :
    Calls Tryz.prog 21 #[.slice x N cap, .bool first] w fun e w' => e = .returned (.bool true) ∧ Below w.heap.size w w' := by
  obtain ⟨ip, hip, hz0, hz1, hz2⟩ := info_parts Tryz.infoTwin
  have HTS := hid_m hts
  have HTAB : Hid (∀ w', Below w.heap.size w w' → Lib.TabIs Tryz.prog w' "internal/strconv.uint64pow10" .u64 Lib.pow10Tab) := fun w' hb => ((Lib.tabBelow_of_tabIs htab).on hb).here
  have HPL := hid_m hpl
  have HN := hid_m hN
  clear hts htab hpl
  go_enter Tryz.func21, Tryz.ntmps21
  go_wp2_with fail
  go_loopw [5, 6] (fun l i wr => ∃ (t : Nat) (L : List (Nat × Nat)), t ≤ N ∧ i = .int .i64 t ∧ Hid (L.length ≤ t) ∧ Hid (Tws wr w.heap.size l L) ∧ Hid (Below w.heap.size w wr)) (fun _ i _ => N - (intOf i).toNat)
  case atStart => exact ⟨0, [], Nat.zero_le _, rfl, Nat.le_refl _, Tws.nil _ _, Below.refl _ _⟩
  case round =>
    obtain ⟨t, L, ht, rfl, hLt, htw, hb⟩ := hrel
    by_cases hlt : t < N
    · obtain ⟨bb, oo, kd, on, a, b, c, d, s, u, hx, hbl, hc, hI, hs, hu⟩ := HTS.out t hlt
      subst hx
      obtain ⟨e0, e1, e2, e3, e4, e5, e6, e7⟩ := hc
      rw [← hb.out.cell (p := ⟨bb, _, none⟩) hbl] at e0 e1 e2 e3 e4 e5 e6 e7
      obtain ⟨la, ln, lc, rfl⟩ := owns_slice htw.out.own
      have hln := htw.out.len rfl
      subst hln
      have j0 : (0 : Int) ≤ (t : Int) := Int.natCast_nonneg t
      have j1 : (t : Int) < (N : Int) := by omega
      have HTN : Hid (t + 1 ≤ N) := hlt
      have HTW : Hid (wrap64 ((t : Int) + 1) = (t : Int) + 1) := w64_id _ (by omega) (by omega)
      have HI := hid_m hI
      have HSU := hid_m (And.intro hs hu)
      have hbA : Below wr.heap.size wr (wr.alloc (.cells #[.int .i64 kd, .int .i64 on, .int .i64 a, .int .i64 b, .int .i64 c, .int .i64 d, .string s, .string u] 86)) := (Below.refl _ _).alloc (Nat.le_refl _) _
      have HOB : Hid ((wr.alloc (.cells #[.int .i64 kd, .int .i64 on, .int .i64 a, .int .i64 b, .int .i64 c, .int .i64 d, .string s, .string u] 86)).heap[wr.heap.size]? = some (.cells #[.int .i64 kd, .int .i64 on, .int .i64 a, .int .i64 b, .int .i64 c, .int .i64 d, .string s, .string u] 86 (0, 0))) := heap_alloc_new _ _
      have HBA := hid_m hbA
      have HB1 := hid_m (hb.out.trans (hbA.mono hb.out.size))
      have HTW1 := hid_m (htw.out.on hbA)
      clear ht hlt hbl hI hs hu hbA
      by_cases h8 : kd = 8
      · subst h8
        go_wp2_with fail
        clear e0 e1 e2 e3 e4 e5 e6 e7 j0 j1
        obtain ⟨w1, hw1⟩ : ∃ W, (wr.alloc (.cells #[.int .i64 8, .int .i64 on, .int .i64 a, .int .i64 b, .int .i64 c, .int .i64 d, .string s, .string u] 86)) = W := ⟨_, rfl⟩
        obtain ⟨ob, hob⟩ : ∃ x, wr.heap.size = x := ⟨_, rfl⟩
        rw [hw1] at HOB HBA HB1 HTW1 ⊢
        rw [hob] at HOB ⊢
        have HOBE := hid_m hob
        clear hw1 hob
        have HML : Hid (s.size ≤ maxLen ∧ u.size ≤ maxLen) := by have := HSU.out; unfold Hid maxLen; omega
        by_cases he : P.errOf s.data.toList u.data.toList a = 0
        · obtain ⟨tk, tv, htk, htv, h1, h16, _⟩ := P.room_ok he
          obtain ⟨sl, rfl⟩ : ∃ sl : Nat, a = (sl : Int) := ⟨a.toNat, by omega⟩
          have htk' : P.rtyOf s.data.toList = some tk := by rw [← p_ty_eq]; exact htk
          have htv' : P.rtyOf u.data.toList = some tv := by rw [← p_ty_eq]; exact htv
          have HN1 := hid_m (new_any s u sl w1 HML.out.1 HML.out.2 tk tv htk htv ⟨by omega, by omega⟩)
          have HN2 := hid_m (fun w => rnew_yes s u sl w HML.out.1 HML.out.2 he tk tv htk' htv' (by omega))
          have HTY := hid_m (And.intro htk' htv')
          clear he htk htv h1 h16 htk' htv'
          refine HN1.out.mono ?_
          rintro e w2 ⟨⟨xb, a3, b3, cv, S, rfl, hxl, hxlt, hSn, htb⟩, hb2⟩
          have HB2 := hid_m (HB1.out.trans (hb2.mono HB1.out.size))
          have HTW2 := hid_m (HTW1.out.on hb2)
          have HOB2 := hid_m (tw_blk_on hb2 HOB.out)
          have HX2 := hid_m (And.intro hxl (And.intro hxlt (And.intro hSn (And.intro htb hb2))))
          obtain ⟨f0, f1, f2, f3, f4, f5, f6, f7⟩ := op_of HOB2.out
          clear hb2 HN1 hxl hxlt hSn htb
          go_wp2_with fail
          refine (HN2.out _).mono ?_
          rintro e w3 ⟨⟨rb, k0, k1, k2, k3, k4, v0, v1, v2, v3, v4, ST, rfl, hrl, hrlt, hrt, hTk, hTv, hST⟩, hb3⟩
          have HB3 := hid_m (HB2.out.trans (hb3.mono HB2.out.size))
          have HTW3 := hid_m (HTW2.out.on hb3)
          obtain ⟨O1, hTw1, hO1⟩ := tw_new HTY.out.1 HTY.out.2 HX2.out.1 HX2.out.2.1 HX2.out.2.2.1 HX2.out.2.2.2.1 HX2.out.2.2.2.2 hrl hrlt hrt hTk hTv hST hb3
          have HBR : Hid (Below wr.heap.size wr w3) := (HBA.out.trans (HX2.out.2.2.2.2.mono HBA.out.size)).trans (hb3.mono (Nat.le_trans HBA.out.size HX2.out.2.2.2.2.size))
          have HT1 : Hid (Tw w3 xb rb O1 ∧ ∀ g, O1 g → wr.heap.size ≤ g) := ⟨hTw1, fun g hg => Nat.le_trans HBA.out.size (hO1 g hg)⟩
          clear hb3 HN2 f0 f1 f2 f3 f4 f5 f6 f7 hrl hrlt hrt hTk hTv hST HX2 hTw1 hO1
          go_wp2_with fail
          refine (p_num_any _ _).mono ?_
          rintro e w4 ⟨rfl, hw4⟩
          subst w4
          have hLl : L.length ≤ 1048576 := by have h1 := hLt.out; have h2 := HTN.out; have h3 := HN.out; omega
          have hsz := HB3.out.size
          go_wp2_with (first
            | (at_builtin; refine wpList_append_lies _ rfl _ _ 87 rfl w.heap.size 93 ip (.agg #[.pointer none, .pointer none]) 2 16 Tryz.underlying87 hip hz0 hz1 hz2 rfl (by decide) (.slice la L.length lc) L.length (twCells L) rfl (HTW3.out.own.alloc _) ⟨w3.heap.size, 0, none⟩ 1 1 (twC (xb, rb)) rfl rfl (two_new _ _ _ _) (fun x hx => by simp [twC] at hx; rcases hx with rfl | rfl <;> rfl) (by omega) (by unfold maxLen; omega) (by omega) (by simp; omega) _ rfl ?_; intro g4 cap4 w4 hown' hgrow hat4 hlt4
               have HTW5 := hid_m (Tws.add htw.out HBR.out hb.out.size HT1.out.1 HT1.out.2 hgrow hown' hat4)
               have HB5 := hid_m (m_grown_below HB3.out HTW3.out.own hgrow (Nat.le_refl _))))
          refine ⟨⟨t + 1, L ++ [(xb, rb)], HTN.out, by first | (rw [HTW.out]; exact next_t) | exact next_t, ?_, HTW5, HB5⟩, by first | (rw [HTW.out]; exact less_t HTN.out) | exact less_t HTN.out⟩
          show (L ++ [(xb, rb)]).length ≤ t + 1
          have := hLt.out
          simp
          exact this
        · obtain ⟨er, her⟩ : ∃ n, P.errOf s.data.toList u.data.toList a = n := ⟨_, rfl⟩
          have HN1 := hid_m (new_no s u a w1 HML.out.1 HML.out.2 he)
          have HN2 := hid_m (fun w => rnew_no s u a w HML.out.1 HML.out.2 he)
          rw [her] at HN1 HN2
          clear he her
          refine HN1.out.mono ?_
          rintro e w2 ⟨rfl, hb2⟩
          have HB2 := hid_m (HB1.out.trans (hb2.mono HB1.out.size))
          have HTW2 := hid_m (HTW1.out.on hb2)
          have HOB2 := hid_m (tw_blk_on hb2 HOB.out)
          obtain ⟨f0, f1, f2, f3, f4, f5, f6, f7⟩ := op_of HOB2.out
          clear hb2 HN1
          go_wp2_with fail
          refine (HN2.out _).mono ?_
          rintro e w3 ⟨rfl, hb3⟩
          have HB3 := hid_m (HB2.out.trans (hb3.mono HB2.out.size))
          have HTW3 := hid_m (HTW2.out.on hb3)
          clear hb3 HN2 f0 f1 f2 f3 f4 f5 f6 f7
          go_wp2_with fail
          refine (p_num_any _ _).mono ?_
          rintro e w4 ⟨rfl, hw4⟩
          subst w4
          go_wp2_with fail
          exact ⟨⟨t + 1, L, HTN.out, by first | (rw [HTW.out]; exact next_t) | exact next_t, Nat.le_succ_of_le hLt.out, HTW3, HB3⟩, by first | (rw [HTW.out]; exact less_t HTN.out) | exact less_t HTN.out⟩
      · by_cases h7 : kd < 8
        · have g8 : (kd == 8) = false := by rw [beq_eq_false_iff_ne]; exact h8
          have g7 : decide (kd < 8) = true := decide_eq_true h7
          clear h8
          cases first with
          | false =>
            go_wp2_with fail
            exact ⟨⟨t + 1, L, HTN.out, by first | (rw [HTW.out]; exact next_t) | exact next_t, Nat.le_succ_of_le hLt.out, HTW1, HB1⟩, by first | (rw [HTW.out]; exact less_t HTN.out) | exact less_t HTN.out⟩
          | true =>
            have HPC := hid_m (HPL.out rfl kd on a b c d s u HSU.out.1 HSU.out.2 _ (HTAB.out _ HB1.out))
            go_wp2_with fail
            refine HPC.out.mono ?_
            rintro e w2 ⟨rfl, hb2⟩
            have HB2 := hid_m (HB1.out.trans (hb2.mono HB1.out.size))
            have HTW2 := hid_m (HTW1.out.on hb2)
            clear hb2 HPC
            go_wp2_with fail
            exact ⟨⟨t + 1, L, HTN.out, by first | (rw [HTW.out]; exact next_t) | exact next_t, Nat.le_succ_of_le hLt.out, HTW2, HB2⟩, by first | (rw [HTW.out]; exact less_t HTN.out) | exact less_t HTN.out⟩
        · have g8 : (kd == 8) = false := by rw [beq_eq_false_iff_ne]; exact h8
          have g7 : decide (kd < 8) = false := decide_eq_false h7
          clear h8 h7
          by_cases hL0 : L.length = 0
          · have gL : decide ((0 : Int) < (L.length : Int)) = false := decide_eq_false (by omega)
            go_wp2_with fail
            exact ⟨⟨t + 1, L, HTN.out, by first | (rw [HTW.out]; exact next_t) | exact next_t, Nat.le_succ_of_le hLt.out, HTW1, HB1⟩, by first | (rw [HTW.out]; exact less_t HTN.out) | exact less_t HTN.out⟩
          · have gL : decide ((0 : Int) < (L.length : Int)) = true := decide_eq_true (by omega)
            have HLN : Hid (1 ≤ L.length) := Nat.one_le_iff_ne_zero.2 hL0
            clear hL0
            go_wp2_with fail
            clear gL g8 g7 e0 e1 e2 e3 e4 e5 e6 e7 j0 j1 hip hz0 hz1 hz2
            obtain ⟨g, cap', hv, _, hgl⟩ := htw.out.own.form (by have := HLN.out; omega)
            have ha : la = some ⟨g, 0, none⟩ := by injection hv
            subst ha
            obtain ⟨q, hq⟩ : ∃ q, P.pickQ on L.length = q := ⟨_, rfl⟩
            have hql : q < L.length := by rw [← hq]; exact pickQ_lt on L.length HLN.out
            have hLl : L.length ≤ 1048576 := by have h1 := hLt.out; have h2 := HTN.out; have h3 := HN.out; omega
            have HPQ : Hid (∀ w, Calls Tryz.prog 44 #[.int .i64 on, .int .i64 L.length] w fun e w' => e = .returned (.int .i64 q) ∧ w' = w) := fun w => by rw [← hq]; exact lpick_any on L.length w HLN.out (by omega) HI.out.2.1.1 HI.out.2.1.2
            obtain ⟨⟨px, pr⟩, hp⟩ : ∃ p, L[q]? = some p := ⟨_, List.getElem?_eq_getElem hql⟩
            obtain ⟨O, hTw, hOB, hback⟩ := htw.out.at hp
            have hOl := hTw.lt
            have HTO := hid_m (And.intro hTw (And.intro hOB (And.intro hOl hback)))
            have HPP := hid_m hp
            have i0 : (0 : Int) ≤ (q : Int) := Int.natCast_nonneg q
            have i1 : (q : Int) < (L.length : Int) := by omega
            have HQL := hid_m hql
            clear hv hgl hq hql hTw hOB hOl hback hp hLl hN
            obtain ⟨w1, hw1⟩ : ∃ W, (wr.alloc (.cells #[.int .i64 kd, .int .i64 on, .int .i64 a, .int .i64 b, .int .i64 c, .int .i64 d, .string s, .string u] 86)) = W := ⟨_, rfl⟩
            obtain ⟨ob, hob⟩ : ∃ x, wr.heap.size = x := ⟨_, rfl⟩
            rw [hw1] at HOB HBA HB1 HTW1 ⊢
            rw [hob] at HOB ⊢
            have HOBE := hid_m hob
            clear hw1 hob
            have HP0 : Hid (PlS ob kd on a b c d s u g q px pr w1.drew) := PlS.of (w := w1) HOB.out HTW1.out.own HPP.out
            obtain ⟨nl, hnl⟩ : ∃ n, L.length = n := ⟨_, rfl⟩
            rw [hnl] at HPQ i1 ⊢
            have HNL := hid_m hnl
            clear hnl
            refine wp_region_held_drew (S := PlS ob kd on a b c d s u g q px pr) (by kernel_rfl) HP0.out (fun hHeld => ?_)
            refine wpAnyH_take (i := 0) (v := ?_) rfl (by kernel_rfl) (by kernel_rfl) (by kernel_rfl) (fun _ _ _ h => h) (Or.inl ⟨by rfl, ?_⟩) (by assumption) ?_
            rotate_left
            · intro w hSw
              obtain ⟨z0, z1, z2, z3, z4, z5, z6, z7, z8, z9⟩ := hSw
              go_simp
              all_goals with_reducible rfl
            try simp only [Act.put]
            refine wpAnyH_take (i := 1) (v := ?_) rfl (by kernel_rfl) (by kernel_rfl) (by kernel_rfl) (fun _ _ _ h => h) (Or.inl ⟨by rfl, ?_⟩) (by assumption) ?_
            rotate_left
            · intro w hSw
              obtain ⟨z0, z1, z2, z3, z4, z5, z6, z7, z8, z9⟩ := hSw
              go_simp
              all_goals with_reducible rfl
            try simp only [Act.put]
            refine wpAnyH_take (i := 2) (v := ?_) rfl (by kernel_rfl) (by kernel_rfl) (by kernel_rfl) (fun _ _ _ h => h) (Or.inl ⟨by rfl, ?_⟩) (by assumption) ?_
            rotate_left
            · intro w hSw
              obtain ⟨z0, z1, z2, z3, z4, z5, z6, z7, z8, z9⟩ := hSw
              go_simp
              all_goals with_reducible rfl
            try simp only [Act.put]
            refine wpAnyH_take (i := 3) (v := ?_) rfl (by kernel_rfl) (by kernel_rfl) (by kernel_rfl) (fun _ _ _ h => h) (Or.inl ⟨by rfl, ?_⟩) (by assumption) ?_
            rotate_left
            · intro w hSw
              obtain ⟨z0, z1, z2, z3, z4, z5, z6, z7, z8, z9⟩ := hSw
              go_simp
              all_goals with_reducible rfl
            try simp only [Act.put]
            refine wpAnyH_take (i := 4) (v := ?_) rfl (by kernel_rfl) (by kernel_rfl) (by kernel_rfl) (fun _ _ _ h => h) (Or.inl ⟨by rfl, ?_⟩) (by assumption) ?_
            rotate_left
            · intro w hSw
              obtain ⟨z0, z1, z2, z3, z4, z5, z6, z7, z8, z9⟩ := hSw
              go_simp
              all_goals with_reducible rfl
            try simp only [Act.put]
            refine wpAnyH_take (i := 8) (v := ?_) rfl (by kernel_rfl) (by kernel_rfl) (by kernel_rfl) (fun _ _ _ h => h) (Or.inl ⟨by rfl, ?_⟩) (by assumption) ?_
            rotate_left
            · intro w hSw
              obtain ⟨z0, z1, z2, z3, z4, z5, z6, z7, z8, z9⟩ := hSw
              go_simp
              all_goals with_reducible rfl
            try simp only [Act.put]
            refine wpAnyH_ready (rs := [5]) (by kernel_rfl) (by simp) ?_
            refine AllReadyH.cons (o := _) rfl (fun K hK => ?_) AllReadyH.nil
            go_simp
            refine (HPQ.out _).mono ?_
            rintro e wz ⟨rfl, hwz⟩
            subst wz
            go_wp2_with fail
            refine hK.out _ _ HP0.out (fun hHelda => ?_)
            clear hK K
            try simp only [Act.put]
            refine wpAnyH_take (i := 6) (v := ?_) rfl (by kernel_rfl) (by kernel_rfl) (by kernel_rfl) (fun _ _ _ h => h) (Or.inl ⟨by rfl, ?_⟩) (by assumption) ?_
            rotate_left
            · intro w hSw
              obtain ⟨z0, z1, z2, z3, z4, z5, z6, z7, z8, z9⟩ := hSw
              go_simp
              all_goals with_reducible rfl
            try simp only [Act.put]
            refine wpAnyH_take (i := 7) (v := ?_) rfl (by kernel_rfl) (by kernel_rfl) (by kernel_rfl) (fun _ _ _ h => h) (Or.inl ⟨by rfl, ?_⟩) (by assumption) ?_
            rotate_left
            · intro w hSw
              obtain ⟨z0, z1, z2, z3, z4, z5, z6, z7, z8, z9⟩ := hSw
              go_simp
              all_goals with_reducible rfl
            try simp only [Act.put]
            refine wpAnyH_ready (rs := [9]) (by kernel_rfl) (by simp) ?_
            refine AllReadyH.cons (o := _) rfl (fun K hK => ?_) AllReadyH.nil
            go_simp
            have HBD : Hid (Below wr.heap.size wr w1.drew) := ⟨HBA.out.os, HBA.out.tape, HBA.out.output, HBA.out.size, HBA.out.block⟩
            refine (held_any px pr O kd on a b c d s u (HTO.out.1.of HBD.out.size (fun g hg => HBD.out.block g (HTO.out.2.2.1 g hg))) HSU.out.1 HSU.out.2 (fun w' hf => HTAB.out w' (hb.out.trans (((FrO.of_below HBD.out).trans hf (fun g hg => Or.inl hg)).below HTO.out.2.1 hb.out.size)))).mono ?_
            rintro e w2 hh
            have hu2 := hh.up HBD.out
            have hret := hh.ret
            subst hret
            have HTW2 := hid_m (HTO.out.2.2.2 w2 _ hu2)
            have HB2 := hid_m (hb.out.trans (hu2.fr.below HTO.out.2.1 hb.out.size))
            have HOB2 : Hid (w2.heap[ob]? = some (.cells #[.int .i64 kd, .int .i64 on, .int .i64 a, .int .i64 b, .int .i64 c, .int .i64 d, .string s, .string u] 86 (0, 0))) := by
              have h1 := hh.fr.block ob (m_blk_lt HOB.out) (fun e => by have h2 := HTO.out.2.2.1 ob e; have h3 := HOBE.out; omega)
              unfold Hid; rw [h1]; exact HOB.out
            have HP2 := hid_m (PlS.of HOB2.out HTW2.out.own HPP.out)
            clear hh hu2
            go_wp2_with fail
            refine hK.out _ _ HP2.out (fun hHeldb => ?_)
            clear hK K
            try simp only [Act.put]
            refine wpAnyH_ready (rs := [10]) (by kernel_rfl) (by simp) ?_
            refine AllReadyH.cons (o := _) rfl (fun K hK => ?_) AllReadyH.nil
            go_simp
            refine hK.out _ _ HP2.out (fun hHeldc => ?_)
            clear hK K
            try simp only [Act.put]
            refine wpAnyH_done (by kernel_rfl) ?_ _
            go_wp2_with fail
            rw [← HNL.out]
            exact ⟨⟨t + 1, L, HTN.out, by first | (rw [HTW.out]; exact next_t) | exact next_t, Nat.le_succ_of_le hLt.out, HTW2, HB2⟩, by first | (rw [HTW.out]; exact less_t HTN.out) | exact less_t HTN.out⟩
    · have hte : t = N := by omega
      subst hte
      obtain ⟨a5, N5, c5, rfl⟩ := owns_slice htw.out.own
      have hln := htw.out.len rfl
      subst hln
      clear ht hlt
      have HLN : Hid (L.length ≤ t) := hLt.out
      have hLl : L.length ≤ 1048576 := by have := hLt.out; omega
      obtain ⟨nl, hnl⟩ : ∃ n, L.length = n := ⟨_, rfl⟩
      rw [hnl] at hLl htw
      rw [hnl]
      have HNL := hid_m hnl
      clear hip hz0 hz1 hz2 hnl hLt HTS HPL
      go_wp2_with fail
      go_loopw [13] (fun i wq => ∃ (j : Nat), j ≤ nl ∧ i = .int .i64 j ∧ Hid (Tws wq w.heap.size (.slice a5 nl c5) L) ∧ Hid (Below w.heap.size w wq)) (fun i _ => nl - (intOf i).toNat)
      case atStart => exact ⟨0, Nat.zero_le _, rfl, htw, hb⟩
      case round =>
        obtain ⟨j, hj, rfl, htq, hbq⟩ := hrel
        clear htw hb
        by_cases hlt : j < nl
        · obtain ⟨⟨px, pr⟩, hp⟩ : ∃ p, L[j]? = some p := ⟨_, List.getElem?_eq_getElem (by have := HNL.out; omega)⟩
          obtain ⟨g, cap', hv, _, hgl⟩ := htq.out.own.form (by have := HNL.out; omega)
          have ha : a5 = some ⟨g, 0, none⟩ := by injection hv
          subst ha
          have f0 := (tw_cell htq.out.own hp).1
          have f1 := (tw_cell htq.out.own hp).2.1
          obtain ⟨O, hTw, hOB, hback⟩ := htq.out.at hp
          have HTO := hid_m (And.intro hTw (And.intro hOB (And.intro hTw.lt hback)))
          have j0 : (0 : Int) ≤ (j : Int) := Int.natCast_nonneg j
          have j1 : (j : Int) < (nl : Int) := by omega
          have HTN : Hid (j + 1 ≤ nl) := hlt
          have HTW : Hid (wrap64 ((j : Int) + 1) = (j : Int) + 1) := w64_id _ (by omega) (by omega)
          clear hv hgl hTw hOB hback hp hj hlt
          go_wp2_with fail
          refine (held_any px pr O 12 0 0 0 0 0 ⟨#[]⟩ ⟨#[]⟩ HTO.out.1 (by decide) (by decide) (fun w' hf => HTAB.out w' (hbq.out.trans (hf.below HTO.out.2.1 hbq.out.size)))).mono ?_
          rintro e w2 hh
          have hret := hh.ret
          subst hret
          have HTW2 := hid_m (HTO.out.2.2.2 w2 _ hh)
          have HB2 := hid_m (hbq.out.trans (hh.fr.below HTO.out.2.1 hbq.out.size))
          clear hh
          go_wp2_with fail
          exact ⟨⟨j + 1, HTN.out, by first | (rw [HTW.out]; exact next_t) | exact next_t, HTW2, HB2⟩, by first | (rw [HTW.out]; exact less_t HTN.out) | exact less_t HTN.out⟩
        · go_wp2_with fail
          go_ret
          exact ⟨rfl, hbq.out⟩
end Go.Proofs.YtghggcehloiemabGreatDoor
