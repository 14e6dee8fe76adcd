import Derived.Test.YtghggcehloiemabGreatDoorPrZAll
import Derived.Test.YtghggcehloiemabGreatDoorLayWAll
import Derived.Test.YtghggcehloiemabGreatDoorRoundPAll
namespace Go.Proofs.YtghggcehloiemabGreatDoor
open Go.RowKit
set_option linter.unusedVariables false
set_option maxRecDepth 16000
namespace P
theorem cov_take {ps : List Pt} {q : Nat} {x : Pt} (h : ps[q]? = some x) : cov (ps.take (q + 1)) = cov (ps.take q) ++ (if x.kind = 0 then [] else List.range' x.place x.size) := by
  rw [List.take_add_one, h, cov_append, Option.toList_some, cov_cons, cov_nil, List.append_nil]
theorem range_snoc (p k : Nat) : List.range' p (k + 1) = List.range' p k ++ [p + k] := by rw [List.range'_concat]; simp
theorem cov_take_len {ps : List Pt} {hi : Nat} (h : Inc ps 0 hi) (q : Nat) : (cov (ps.take q)).length ≤ hi := by
  have h2 : Inc (ps.take q) 0 hi := by rw [← List.take_append_drop q ps] at h; exact h.left
  have := cov_len h2; omega
end P
set_option maxHeartbeats 4000000 in
theorem covered_any (w : World) (sz st base : Nat) (vP : Value) (ps : List P.Pt) (hown : w.ownsRow base 145 4 vP ps.length (cellsOf ps)) (hsz : sz ≤ 32) (hps : ps.length ≤ 80) (hok : ∀ x ∈ ps, P.PtOk sz x) (hinc : P.Inc ps 0 sz) :
    Calls Tryz.prog 98 #[.agg #[.int .i64 sz, .int .i64 st, vP]] w fun e w' => ∃ v, e = .returned v ∧ w'.ownsRow w.heap.size 3 1 v (P.cov ps).length ((P.cov ps).map natV) ∧ Below w.heap.size w w' := by
  obtain ⟨i0, hi0, hz0, hz1, hz2⟩ := info_parts Tryz.infoMInt
  obtain ⟨a, N, cap, rfl⟩ := owns_slice hown
  have hNl : N = ps.length := by
    rcases hown.2 with ⟨h, h'⟩ | ⟨g, cap', cur, h, _⟩
    · cases h; omega
    · cases h; rfl
  have HNL := hid_m hNl
  have hN80 : N ≤ 80 := by omega
  have HOK := hid_m hok
  have HOWN := hid_m hown
  have HINC := hid_m hinc
  clear hok hown hNl hinc hps
  go_enter Tryz.func98, Tryz.ntmps98
  go_wp2_with fail
  go_loopw [3, 10] (fun l j wr => ∃ (q : Nat), q ≤ N ∧ j = .int .i64 q ∧ wr.ownsRow w.heap.size 3 1 l (P.cov (ps.take q)).length ((P.cov (ps.take q)).map natV) ∧ Below w.heap.size w wr) (fun _ j _ => N - (intOf j).toNat)
  case atStart => exact ⟨0, Nat.zero_le _, rfl, World.ownsRow_nil _ _ _ _, (Below.refl _ _).alloc (Nat.le_refl _) _⟩
  case round =>
    obtain ⟨q, hq, rfl, hl, hbq⟩ := hrel
    have hszq := hbq.size
    by_cases hqn : q < N
    · obtain ⟨x, hx⟩ : ∃ x, ps[q]? = some x := ⟨_, List.getElem?_eq_getElem (by have := HNL.out; omega)⟩
      obtain ⟨g, cap', hv, _, hgl⟩ := HOWN.out.form (by have := HNL.out; omega)
      have ha : a = some ⟨g, 0, none⟩ := by injection hv
      subst ha
      clear hv
      obtain ⟨d0, d1, d2, d3, hNe, hcp⟩ := part_cell HOWN.out hx
      clear hNe
      rw [← hbq.cell (p := ⟨g, q * 4, none⟩) hgl] at d0
      rw [← hbq.cell (p := ⟨g, q * 4 + 1, none⟩) hgl] at d1
      rw [← hbq.cell (p := ⟨g, q * 4 + 2, none⟩) hgl] at d2
      rw [← hbq.cell (p := ⟨g, q * 4 + 3, none⟩) hgl] at d3
      have HTK := hid_m (P.cov_take hx)
      have HLEN := hid_m (P.cov_take_len HINC.out q)
      have HOKX := hid_m (HOK.out x (List.mem_of_getElem? hx))
      have h0q : (0 : Int) ≤ (q : Int) := Int.natCast_nonneg q
      have hqN : (q : Int) < (N : Int) := by omega
      have HTN : Hid (q + 1 ≤ N) := hqn
      have HTW : Hid (wrap64 ((q : Int) + 1) = (q : Int) + 1) := w64_id _ (by omega) (by omega)
      obtain ⟨kd, mk, pl, si⟩ := x
      simp only at d0 d1 d2 d3
      clear hx hq hqn
      by_cases hk : kd = 0
      · subst hk
        have HTU : Hid (P.cov (ps.take (q + 1)) = P.cov (ps.take q)) := by unfold Hid; rw [HTK.out, if_pos rfl, List.append_nil]
        have hl2 := hl.alloc (.cells #[.int .i64 (0 : Nat), .int .u8 mk, .int .i64 pl, .int .i64 si] 145)
        have hb2 := hbq.alloc hszq (.cells #[.int .i64 (0 : Nat), .int .u8 mk, .int .i64 pl, .int .i64 si] 145)
        go_wp2_with fail
        refine ⟨⟨q + 1, HTN.out, by first | (rw [HTW.out]; exact next_t) | exact next_t, ?_, ?_⟩, by first | (rw [HTW.out]; exact less_t HTN.out) | exact less_t HTN.out⟩
        · rw [HTU.out]; exact hl2
        · exact hb2
      · have hk0 : ((kd : Int) == 0) = false := by simp only [beq_eq_false_iff_ne, ne_eq]; omega
        have hin : pl + si ≤ sz := by
          rcases HOKX.out with ⟨_, _, _, _, h⟩ | ⟨_, _, _, _, h⟩ | ⟨h, _⟩
          · exact h
          · exact h
          · exact absurd h hk
        have HTU : Hid (P.cov (ps.take (q + 1)) = P.cov (ps.take q) ++ List.range' pl si) := by unfold Hid; rw [HTK.out, if_neg hk]
        have HLN2 := hid_m (P.cov_take_len HINC.out (q + 1))
        have HIN := hid_m hin
        obtain ⟨ee, hee⟩ : ∃ ee, pl + si = ee := ⟨_, rfl⟩
        have HSUM : Hid (wrap64 ((pl : Int) + (si : Int)) = (ee : Int)) := by unfold Hid; rw [w64_id _ (by omega) (by omega)]; omega
        have HEE := hid_m hee
        clear hee
        have hl2 := hl.alloc (.cells #[.int .i64 kd, .int .u8 mk, .int .i64 pl, .int .i64 si] 145)
        have hb2 := hbq.alloc hszq (.cells #[.int .i64 kd, .int .u8 mk, .int .i64 pl, .int .i64 si] 145)
        have hn2 : (wr.alloc (.cells #[.int .i64 kd, .int .u8 mk, .int .i64 pl, .int .i64 si] 145)).heap[wr.heap.size]? = some (.cells #[.int .i64 kd, .int .u8 mk, .int .i64 pl, .int .i64 si] 145 (0, 0)) := heap_alloc_new _ _
        have HL2 := hid_m hl2
        have HB2 := hid_m hb2
        have HN2 := hid_m hn2
        have HNE : Hid (∀ g', u3.ownBlock = some g' → g' ≠ wr.heap.size) := fun g' hg' => by have := (hl.lt g' hg').2; omega
        clear hk hl2 hb2 hn2 hl HTK
        go_wp2_with fail
        obtain ⟨wa, hwa⟩ : ∃ wa, wr.alloc (.cells #[.int .i64 kd, .int .u8 mk, .int .i64 pl, .int .i64 si] 145) = wa := ⟨_, rfl⟩
        rw [hwa] at HL2 HB2 HN2 ⊢
        clear hwa
        obtain ⟨B, hB⟩ : ∃ B, wr.heap.size = B := ⟨_, rfl⟩
        rw [hB] at HNE HN2 ⊢
        obtain ⟨cv, hcv⟩ : ∃ cv, P.cov (ps.take q) = cv := ⟨_, rfl⟩
        rw [hcv] at HL2 HTU HLEN
        clear d0 d1 d2 d3 hB hbq hszq HOWN hcv
        go_loopw [3, 6] (fun l i wq => ∃ (m qq : Nat), m ≤ si ∧ Hid (qq = pl + m) ∧ i = .int .i64 qq ∧ Hid (wq.ownsRow w.heap.size 3 1 l (cv.length + m) ((cv ++ List.range' pl m).map natV)) ∧ Hid (Below w.heap.size w wq) ∧ Hid (wq.heap[B]? = some (.cells #[.int .i64 kd, .int .u8 mk, .int .i64 pl, .int .i64 si] 145 (0, 0))) ∧ Hid (∀ g', l.ownBlock = some g' → g' ≠ B)) (fun _ i _ => ee - (intOf i).toNat)
        case atStart => exact ⟨0, pl, Nat.zero_le _, rfl, rfl, by unfold Hid; simpa using HL2.out, HB2.out, HN2.out, HNE.out⟩
        case round =>
          clear HL2 HB2 HN2 HNE
          obtain ⟨m, qq, hm, HQ, rfl, hl, hb, hn, hne⟩ := hrel
          have m2 : wr.cell? ⟨B, 2, none⟩ = some (.int .i64 pl) := by rw [cell_of_row _ _ _ _ _ _ hn.out]; rfl
          have m3 : wr.cell? ⟨B, 3, none⟩ = some (.int .i64 si) := by rw [cell_of_row _ _ _ _ _ _ hn.out]; rfl
          have hbl := m_blk_lt hn.out
          have hws := hb.out.size
          have lz : cv.length ≤ 32 := by have := HLEN.out; omega
          by_cases hms : m < si
          · have HMS : Hid (m + 1 ≤ si) := hms
            have hq40 : qq < 40 := by have := HQ.out; omega
            have hqe : qq < ee := by have := HQ.out; have := HEE.out; omega
            have hlt : (qq : Int) < (ee : Int) := by omega
            have HPW : Hid (wrap64 ((qq : Int) + 1) = (qq : Int) + 1) := w64_id _ (by omega) (by omega)
            have hms' : m < 33 := by omega
            clear hm hin
            have hsum := HSUM.out
            have hcl : cv.length + m + 1 ≤ 1000 := by omega
            clear hws
            go_wp2_with (first
              | (at_builtin; refine wpList_append_lies _ rfl _ _ 63 rfl w.heap.size 3 i0 (.int .i64 0) 1 8 Tryz.underlying63 hi0 hz0 hz1 hz2 rfl (by decide) u3 (cv.length + m) ((cv ++ List.range' pl m).map natV) rfl (hl.out.alloc _) ⟨wr.heap.size, 0, none⟩ 1 1 [natV qq] rfl rfl (one_new _ _ _) (fun x hx => by simp at hx; subst hx; rfl) (by decide) (by unfold maxLen; have := hcl; clear hsum; omega) (by have := hcl; clear hsum; omega) (by have := hb.out.size; clear hsum; simp; omega) _ rfl ?_; intro g4 cap4 w4 hown' hgrow hat hlt4
                 have hbe4 := m_grown_below hb.out hl.out hgrow (Nat.le_refl _)
                 have hn4 : w4.heap[B]? = some (.cells #[.int .i64 kd, .int .u8 mk, .int .i64 pl, .int .i64 si] 145 (0, 0)) := by
                   rw [hgrow.block B (by clear hsum; simp; omega) (fun e => hne.out B e.symm rfl), Below.heap_alloc _ _ _ hbl]; exact hn.out))
            clear hsum
            refine ⟨⟨m + 1, qq + 1, HMS.out, by unfold Hid; have := HQ.out; omega, by first | (rw [HPW.out]; exact next_t) | exact next_t, ?_, hbe4, hn4, ?_⟩, ?_⟩
            · have e : (cv ++ List.range' pl (m + 1)).map natV = (cv ++ List.range' pl m).map natV ++ [natV qq] := by rw [P.range_snoc, ← List.append_assoc, List.map_append, HQ.out]; rfl
              unfold Hid
              rw [e]; exact hown'
            · intro g' hg'
              have : g' = g4 := by simpa [Value.ownBlock] using hg'.symm
              subst this
              rcases hat with h | h
              · exact hne.out _ h
              · simp at h; omega
            · first | (rw [HPW.out]; exact less_t hqe) | exact less_t hqe
          · have hme : m = si := by omega
            have hqe : qq = ee := by have := HQ.out; have := HEE.out; omega
            subst hqe
            subst hme
            have HL := hl
            clear hl hm hms hin
            have hsum := HSUM.out
            go_wp2_with fail
            refine ⟨⟨q + 1, HTN.out, by first | (rw [HTW.out]; exact next_t) | exact next_t, ?_, hb.out⟩, by first | (rw [HTW.out]; exact less_t HTN.out) | exact less_t HTN.out⟩
            rw [HTU.out, List.length_append, List.length_range']; exact HL.out
    · have hqe : q = N := by omega
      subst hqe
      have htk : ps.take q = ps := List.take_of_length_le (Nat.le_of_eq HNL.out.symm)
      rw [htk] at hl
      obtain ⟨a1, N1, c1, rfl⟩ := owns_slice hl
      have HL := hid_m hl
      clear hl htk hq hqn
      go_wp2_with fail
      go_ret
      exact ⟨_, rfl, HL.out, hbq⟩
end Go.Proofs.YtghggcehloiemabGreatDoor
