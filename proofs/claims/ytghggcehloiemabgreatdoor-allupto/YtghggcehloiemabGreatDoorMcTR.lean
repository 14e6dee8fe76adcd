import Derived.Test.YtghggcehloiemabGreatDoorMcTW3
import Derived.Test.YtghggcehloiemabGreatDoorMcRef
namespace Go.Proofs.YtghggcehloiemabGreatDoor
open Go.RowKit
set_option linter.unusedVariables false
set_option maxRecDepth 16000

namespace P
/-- What the reference's search holds within a round. -/
structure Ri (c : List I) (fl0 fl : List Bool) (more : Bool) (q : Nat) : Prop where
  len : fl.length = c.length
  zero : fl[0]? = some true
  reach : ∀ i : Nat, fl[i]? = some true → Reach c i
  no : more = false → fl = fl0 ∧ ∀ i, i < q → Closed c fl i
  yes : more = true → cnt fl0 c.length < cnt fl c.length
theorem Ri.start {c : List I} {fl : List Bool} (hl : fl.length = c.length) (hz : fl[0]? = some true) (hr : ∀ i : Nat, fl[i]? = some true → Reach c i) : Ri c fl fl false 0 :=
  ⟨hl, hz, hr, fun _ => ⟨rfl, fun i hi => absurd hi (Nat.not_lt_zero _)⟩, fun h => by cases h⟩
theorem Ri.mark {c : List I} {fl0 fl : List Bool} {more : Bool} {q k : Nat} (h : Ri c fl0 fl more q) (hr : Reach c k) (hk : fl[k]? = some false) (q' : Nat) : Ri c fl0 (fl.set k true) true q' := by
  have hc := cnt_set fl k hk
  rw [h.len] at hc
  refine ⟨by rw [List.length_set]; exact h.len, set_keeps h.zero, ?_, (fun e => by cases e), fun _ => ?_⟩
  · intro i hi
    rcases set_from hi with e | e
    · rw [e]; exact hr
    · exact h.reach i e
  · rw [hc]
    cases more with
    | true => have := h.yes rfl; omega
    | false => rw [(h.no rfl).1]; omega
theorem Ri.skip {c : List I} {fl0 fl : List Bool} {more : Bool} {q : Nat} (h : Ri c fl0 fl more q) (hc : Closed c fl q) : Ri c fl0 fl more (q + 1) := by
  refine ⟨h.len, h.zero, h.reach, fun e => ⟨(h.no e).1, fun i hi => ?_⟩, h.yes⟩
  rcases Nat.lt_or_ge i q with hl | hl
  · exact (h.no e).2 i hl
  · rw [show i = q by omega]; exact hc
theorem Ri.next {c : List I} {fl0 fl : List Bool} {q : Nat} (h : Ri c fl0 fl true q) (q' : Nat) : Ri c fl0 fl true q' := ⟨h.len, h.zero, h.reach, (fun e => by cases e), h.yes⟩
theorem Ri.flags {c : List I} {fl0 fl : List Bool} (h : Ri c fl0 fl false c.length) : Flags c fl := flags_of_closed h.len h.zero h.reach (h.no rfl).2
end P
def flOf (w : World) (fb : Nat) : List Bool := match w.heap[fb]? with
  | some (.cells C _ _) => C.toList.map (fun v => match v with | .bool b => b | _ => false)
  | _ => []
theorem Fl.read {w : World} {fb : Nat} {fl : List Bool} (h : Fl w fb fl) : flOf w fb = fl := by
  unfold Fl at h
  unfold flOf
  rw [h]
  simp [Function.comp_def]
def moreM (v : Value) (m : Nat) : Nat := match v with | .bool true => m + 1 | _ => 0

theorem ri_less {c : List P.I} {fl fl' : List Bool} {m : Bool} {n : Nat} (h : P.Ri c fl fl' m n) (hc : c.length = n) : moreM (.bool m) (n - P.cnt fl' n) < moreM (.bool true) (n - P.cnt fl n) := by
  cases m with
  | false => show 0 < _ + 1; omega
  | true =>
    have h1 := h.yes rfl
    rw [hc] at h1
    have h2 := P.cnt_le fl' n
    show n - P.cnt fl' n + 1 < n - P.cnt fl n + 1
    omega
set_option maxHeartbeats 2000000 in
theorem rcount_any (fl : List Bool) (fb n m : Nat) (w : World) (hn : fl.length = n) (hn8 : n ≤ 800) (hm : m ≤ n) (h : Fl w fb fl) :
    Calls Tryz.prog 157 #[.slice (some ⟨fb, 0, none⟩) n n, .int .i64 m] w fun e w' => e = .returned (.int .i64 (P.cnt fl m)) ∧ w' = w := by
  have H := hid_m h
  have HN := hid_m hn
  clear h hn
  go_enter Tryz.func157, Tryz.ntmps157
  go_wp2_with fail
  go_loop [5, 6] (fun kv i => ∃ (t z : Nat), t ≤ m ∧ i = .int .i64 t ∧ kv = .int .i64 z ∧ Hid (P.cnt fl t = z)) (fun _ i => m - (intOf i).toNat)
  case atStart => exact ⟨0, 0, Nat.zero_le _, rfl, rfl, P.cnt_zero fl⟩
  case round =>
    obtain ⟨t, z, ht, rfl, rfl, HZ⟩ := hrel
    have hzle : z ≤ t := by rw [← HZ.out]; exact P.cnt_le fl t
    by_cases hlt : t < m
    · obtain ⟨bt, hbt⟩ : ∃ bt, fl[t]? = some bt := ⟨_, List.getElem?_eq_getElem (by have := HN.out; omega)⟩
      have cf := H.out.cell hbt
      have j0 : (0 : Int) ≤ (t : Int) := Int.natCast_nonneg t
      have j1 : (t : Int) < (n : Int) := by omega
      have HBT := hid_m hbt
      have HTW : Hid (wrap64 ((t : Int) + 1) = (t : Int) + 1) := w64_id _ (by omega) (by omega)
      have HZW : Hid (wrap64 ((z : Int) + 1) = (z : Int) + 1) := w64_id _ (by omega) (by omega)
      clear hbt hzle
      cases bt with
      | true =>
        go_wp2_with fail
        refine ⟨⟨t + 1, z + 1, hlt, by first | (rw [HTW.out]; exact next_t) | exact next_t, by first | (rw [HZW.out]; exact next_t) | exact next_t, ?_⟩, by first | (rw [HTW.out]; exact less_t hlt) | exact less_t hlt⟩
        unfold Hid; rw [P.cnt_succ, HBT.out, if_pos rfl, HZ.out]
      | false =>
        go_wp2_with fail
        refine ⟨⟨t + 1, z, hlt, by first | (rw [HTW.out]; exact next_t) | exact next_t, rfl, ?_⟩, by first | (rw [HTW.out]; exact less_t hlt) | exact less_t hlt⟩
        unfold Hid; rw [P.cnt_succ, HBT.out, if_neg (by simp), HZ.out]; rfl
    · have hte : t = m := by omega
      subst hte
      go_wp2_with fail
      go_ret
      exact ⟨by rw [HZ.out]; rfl, rfl⟩

set_option maxHeartbeats 4000000 in
theorem rreached_any (s : ByteArray) (hc : P.IsCode s.data.toList) (w : World) :
    Calls Tryz.prog 156 #[.string s] w fun e w' => (∃ fl, P.Flags (P.codeOf s.data.toList) fl ∧ e = .returned (.slice (some ⟨w.heap.size, 0, none⟩) (s.size / 5) (s.size / 5)) ∧ Fl w' w.heap.size fl) ∧ Below w.heap.size w w' := by
  have hsl := tl_len' s
  have h5 := hc.five
  have hf := hc.few
  have h1 := hc.some
  obtain ⟨n, hn⟩ : ∃ n, s.size / 5 = n := ⟨_, rfl⟩
  rw [hsl, hn] at h5 hf h1
  have hn' : (s.size : Int) / 5 = (n : Int) := by omega
  have hcl : (P.codeOf s.data.toList).length = n := by rw [P.codeOf_length, hsl, hn]
  rw [hn]
  have hmk := run_make_row' (P := Tryz.prog) 154 4 (.bool false) 1 Tryz.underlying154 Tryz.infoMBool rfl .i64 .i64 n (by omega) (by omega)
  have HC := hid_m hc
  have HSL := hid_m (And.intro hsl h5)
  have HCL := hid_m hcl
  have hm0 := Fl.made w n
  have z0 : (w.alloc (.cells (madeCells #[.bool false] n) 4)).cell? ⟨w.heap.size, 0, none⟩ = some (.bool false) := hm0.cell (by rw [List.getElem?_replicate, if_pos (by omega)])
  have zf := hm0.fz 0
  have HM1 : Hid (Fl (w.alloc (.cells ((madeCells #[.bool false] n).setIfInBounds 0 (.bool true)) 4)) w.heap.size ((List.replicate n false).set 0 true)) := by
    unfold Hid Fl
    have e : (madeCells #[.bool false] n).setIfInBounds 0 (.bool true) = (((List.replicate n false).set 0 true).map Value.bool).toArray := by
      apply Array.toList_inj.1
      rw [Array.toList_setIfInBounds, toList_madeCells_one]; simp [List.map_set]
    rw [e]; exact heap_alloc_new w _
  have HB1 : Hid (Below w.heap.size w (w.alloc (.cells ((madeCells #[.bool false] n).setIfInBounds 0 (.bool true)) 4))) := (Below.refl _ _).alloc (Nat.le_refl _) _
  have i0 : (0 : Int) < (n : Int) := by omega
  clear hc hsl h5 hcl hm0 hn
  go_enter Tryz.func156, Tryz.ntmps156
  go_wp2_with fail
  obtain ⟨fb, hfb⟩ : ∃ fb, w.heap.size = fb := ⟨_, rfl⟩
  generalize (w.alloc (.cells ((madeCells #[.bool false] n).setIfInBounds 0 (.bool true)) 4)) = W at HM1 HB1 ⊢
  have HFB := hid_m hfb
  rw [hfb] at HM1 HB1 ⊢
  have HZ0 : Hid (∀ i : Nat, ((List.replicate n false).set 0 true)[i]? = some true → P.Reach (P.codeOf s.data.toList) i) := by
    intro i hi
    rcases P.set_from hi with e | e
    · rw [e]; exact P.Reach.zero
    · rw [List.getElem?_replicate] at e; split at e <;> cases e
  have HZ1 : Hid (((List.replicate n false).set 0 true)[0]? = some true) := P.set_here (by simp; omega)
  have HZ2 : Hid (((List.replicate n false).set 0 true).length = (P.codeOf s.data.toList).length) := by unfold Hid; rw [HCL.out]; simp
  clear hmk z0 zf hfb hn'
  go_loopw [5] (fun mv wr => ∃ (more : Bool) (fl : List Bool), mv = .bool more ∧ Hid ((fl.length = (P.codeOf s.data.toList).length ∧ fl[0]? = some true ∧ (∀ i : Nat, fl[i]? = some true → P.Reach (P.codeOf s.data.toList) i) ∧ (more = false → P.Flags (P.codeOf s.data.toList) fl)) ∧ Fl wr fb fl ∧ Below fb w wr)) (fun mv wr => moreM mv (n - P.cnt (flOf wr fb) n))
  case atStart => exact ⟨true, _, rfl, ⟨HZ2.out, HZ1.out, HZ0.out, (fun e => by cases e)⟩, HM1.out, HB1.out⟩
  case round =>
    obtain ⟨more, fl, rfl, HO⟩ := hrel
    have HRD := hid_m HO.out.2.1.read
    cases more with
    | false =>
      go_wp2_with fail
      go_ret
      rw [HFB.out]
      exact ⟨⟨fl, HO.out.1.2.2.2 (by first | rfl | trivial), rfl, HO.out.2.1⟩, HO.out.2.2⟩
    | true =>
      go_wp2_with fail
      go_loopw [5, 6] (fun mv iv wq => ∃ (m : Bool) (q : Nat) (fl' : List Bool), mv = .bool m ∧ iv = .int .i64 q ∧ q ≤ n ∧ Hid (P.Ri (P.codeOf s.data.toList) fl fl' m q ∧ Fl wq fb fl' ∧ Below fb w wq)) (fun _ iv _ => n - (intOf iv).toNat)
      case atStart => exact ⟨false, 0, fl, rfl, rfl, Nat.zero_le _, P.Ri.start HO.out.1.1 HO.out.1.2.1 HO.out.1.2.2.1, HO.out.2.1, HO.out.2.2⟩
      case round =>
        obtain ⟨m, q, fl', rfl, rfl, hq, HR⟩ := hrel
        by_cases hlt : q < n
        · have h5 : 5 * q + 5 ≤ s.size := by have := HSL.out.2; omega
          have hs6 : s.size ≤ 1000000 := by have := HSL.out.2; omega
          have hat := fun w => rat_go s q w h5 hs6
          have hql : q < s.data.toList.length / 5 := by have := HSL.out.1; have := HSL.out.2; omega
          have hx := P.codeOf_get s.data.toList q hql
          have hok := HC.out.all q hql
          obtain ⟨x, hxe⟩ : ∃ x, P.insAt s.data.toList q = x := ⟨_, rfl⟩
          rw [hxe] at hat hx hok
          have HX := hid_m hx
          have HOK := hid_m hok
          have HAT := hid_m hat
          obtain ⟨op, xa, xb, k⟩ := x
          obtain ⟨bq, hbq⟩ : ∃ b, fl'[q]? = some b := ⟨_, List.getElem?_eq_getElem (by rw [HR.out.1.len, HCL.out]; exact hlt)⟩
          have HBQ := hid_m hbq
          have j0 : (0 : Int) ≤ (q : Int) := Int.natCast_nonneg q
          have j1 : (q : Int) < (n : Int) := by omega
          have HQW : Hid (wrap64 ((q : Int) + 1) = (q : Int) + 1) := w64_id _ (by omega) (by omega)
          have HQN : Hid (q + 1 ≤ n) := hlt
          clear h5 hs6 hat hql hx hok hxe hbq hq hlt
          go_wp2_with fail
          refine (HAT.out _).mono ?_
          rintro e w2 ⟨rfl, hb2⟩
          go_wp2_with fail
          refine (rgoes_any op xa xb k _).mono ?_
          rintro e w3 ⟨rfl, hb3⟩
          have hb2a : Below wr.heap.size wr (w2.alloc (.cells #[.int .i64 op, .int .i64 xa, .int .i64 xb, .int .i64 k] 194)) := hb2.alloc hb2.size _
          have hb23 : Below wr.heap.size wr w3 := hb2a.trans (hb3.mono hb2a.size)
          have hnew : w3.heap[w2.heap.size]? = some (.cells #[.int .i64 op, .int .i64 xa, .int .i64 xb, .int .i64 k] 194 (0, 0)) := by rw [hb3.block _ (by simp)]; exact heap_alloc_new _ _
          have n0 : w3.cell? ⟨w2.heap.size, 0, none⟩ = some (.int .i64 op) := by rw [cell_of_row _ _ _ _ _ _ hnew]; rfl
          have n3 : w3.cell? ⟨w2.heap.size, 3, none⟩ = some (.int .i64 k) := by rw [cell_of_row _ _ _ _ _ _ hnew]; rfl
          have hfw : Fl w3 fb fl' := HR.out.2.1.of (hb23.block _ HR.out.2.1.lt)
          have hbw : Below fb w w3 := HR.out.2.2.trans (hb23.mono (Nat.le_of_lt HR.out.2.1.lt))
          have lq := hfw.cell HBQ.out
          have HFW := hid_m hfw
          have HBW := hid_m hbw
          have HNW := hid_m hnew
          have HNE : Hid (w2.heap.size ≠ fb) := by unfold Hid; have := HR.out.2.1.lt; have := hb2.size; omega
          clear hb2 hb2a hb23 hb3 hnew hfw hbw
          cases bq with
          | false =>
            have HRN := hid_m (HR.out.1.skip (fun x hx hf => by rw [HBQ.out] at hf; cases hf))
            go_wp2_with fail
            exact ⟨⟨m, q + 1, fl', rfl, by first | (rw [HQW.out]; exact next_t) | exact next_t, HQN.out, HRN.out, HFW.out, HBW.out⟩, by first | (rw [HQW.out]; exact less_t HQN.out) | exact less_t HQN.out⟩
          | true =>
            have HRE : Hid (P.Reach (P.codeOf s.data.toList) q) := HR.out.1.reach q HBQ.out
            have h14 : op ≤ 14 := HOK.out.1
            by_cases h11 : 11 ≤ op
            · rw [decide_eq_true (And.intro h11 h14)]
              have hkn : k < n := by have := HOK.out.2.2.2.1 h11; have h2 := HCL.out; rw [P.codeOf_length] at h2; simp only at this; omega
              obtain ⟨bk, hbk⟩ : ∃ b, fl'[k]? = some b := ⟨_, List.getElem?_eq_getElem (by rw [HR.out.1.len, HCL.out]; exact hkn)⟩
              have lk := HFW.out.cell hbk
              have k0 : (0 : Int) ≤ (k : Int) := Int.natCast_nonneg k
              have k1 : (k : Int) < (n : Int) := by omega
              have HBK := hid_m hbk
              have HRK : Hid (P.Reach (P.codeOf s.data.toList) k) := P.Reach.go HRE.out HX.out h11
              have H11 := hid_m h11
              clear hbk hkn
              cases bk with
              | true =>
                by_cases he : op = 11
                · subst he
                  have HRN := hid_m (HR.out.1.skip (fun x hx hf => by rw [HX.out] at hx; cases hx; exact ⟨fun _ => HBK.out, fun h => absurd (.inr rfl) h⟩))
                  clear h11 h14
                  go_wp2_with fail
                  exact ⟨⟨m, q + 1, fl', rfl, by first | (rw [HQW.out]; exact next_t) | exact next_t, HQN.out, HRN.out, HFW.out, HBW.out⟩, by first | (rw [HQW.out]; exact less_t HQN.out) | exact less_t HQN.out⟩
                · have HNE2 : Hid (¬ P.Ends ⟨op, xa, xb, k⟩) := by
                    rintro (e | e)
                    · have e' : op = 0 := e
                      omega
                    · exact he e
                  have e0 : ((op : Int) == 0) = false := by rw [beq_eq_false_iff_ne]; omega
                  have e11 : ((op : Int) == 11) = false := by rw [beq_eq_false_iff_ne]; omega
                  have e0n : ((op : Int) != 0) = true := by rw [bne, e0]; rfl
                  have e11n : ((op : Int) != 11) = true := by rw [bne, e11]; rfl
                  have e0x : ¬ ((op : Int) = 0) := by omega
                  have e11x : ¬ ((op : Int) = 11) := by omega
                  clear he h11 h14
                  have hnx := P.next_in (P.codeL_of HC.out) HX.out HNE2.out
                  rw [HCL.out] at hnx
                  obtain ⟨bn, hbn⟩ : ∃ b, fl'[q + 1]? = some b := ⟨_, List.getElem?_eq_getElem (by rw [HR.out.1.len, HCL.out]; exact hnx)⟩
                  have ln := HFW.out.cell hbn
                  have HBN := hid_m hbn
                  have HRX : Hid (P.Reach (P.codeOf s.data.toList) (q + 1)) := P.Reach.next HRE.out HX.out HNE2.out
                  have p0 : (0 : Int) ≤ (q : Int) + 1 := by omega
                  have p1 : (q : Int) + 1 < (n : Int) := by omega
                  have p2 : ((q : Int) + 1).toNat = q + 1 := by omega
                  have zn := HFW.out.fz (q + 1)
                  have hqw := HQW.out
                  clear hbn hnx
                  cases bn with
                  | true =>
                    have HRN := hid_m (HR.out.1.skip (fun x hx hf => by rw [HX.out] at hx; cases hx; exact ⟨fun _ => HBK.out, fun _ => HBN.out⟩))
                    go_wp2_with fail
                    exact ⟨⟨m, q + 1, fl', rfl, by first | (rw [HQW.out]; exact next_t) | exact next_t, HQN.out, HRN.out, HFW.out, HBW.out⟩, by first | (rw [HQW.out]; exact less_t HQN.out) | exact less_t HQN.out⟩
                  | false =>
                    have HRN := hid_m (HR.out.1.mark HRX.out HBN.out (q + 1))
                    have HFN := hid_m (HFW.out.set (i := q + 1))
                    have HBX : Hid (Below fb w (w3.setCell ⟨fb, q + 1, none⟩ (.bool true))) := HBW.out.setCell (Nat.le_refl _) _
                    go_wp2_with fail
                    exact ⟨⟨true, q + 1, fl'.set (q + 1) true, rfl, by first | (rw [HQW.out]; exact next_t) | exact next_t, HQN.out, HRN.out, HFN.out, HBX.out⟩, by first | (rw [HQW.out]; exact less_t HQN.out) | exact less_t HQN.out⟩
              | false =>
                have hfs := HFW.out.set (i := k)
                have zk := HFW.out.fz k
                have HRM := hid_m (HR.out.1.mark HRK.out HBK.out (q + 1))
                have hnS : (w3.setCell ⟨fb, k, none⟩ (.bool true)).heap[w2.heap.size]? = some (.cells #[.int .i64 op, .int .i64 xa, .int .i64 xb, .int .i64 k] 194 (0, 0)) := by rw [set_other HNE.out]; exact HNW.out
                have s0 : (w3.setCell ⟨fb, k, none⟩ (.bool true)).cell? ⟨w2.heap.size, 0, none⟩ = some (.int .i64 op) := by rw [cell_of_row _ _ _ _ _ _ hnS]; rfl
                have sq : (w3.setCell ⟨fb, k, none⟩ (.bool true)).cell? ⟨fb, q, none⟩ = some (.bool true) := hfs.cell (P.set_keeps HBQ.out)
                have HFS := hid_m hfs
                have HBS : Hid (Below fb w (w3.setCell ⟨fb, k, none⟩ (.bool true))) := HBW.out.setCell (Nat.le_refl _) _
                clear hfs hnS
                by_cases he : op = 11
                · subst he
                  clear h11 h14
                  go_wp2_with fail
                  exact ⟨⟨true, q + 1, fl'.set k true, rfl, by first | (rw [HQW.out]; exact next_t) | exact next_t, HQN.out, HRM.out, HFS.out, HBS.out⟩, by first | (rw [HQW.out]; exact less_t HQN.out) | exact less_t HQN.out⟩
                · have HNE2 : Hid (¬ P.Ends ⟨op, xa, xb, k⟩) := by
                    rintro (e | e)
                    · have e' : op = 0 := e
                      omega
                    · exact he e
                  have e0 : ((op : Int) == 0) = false := by rw [beq_eq_false_iff_ne]; omega
                  have e11 : ((op : Int) == 11) = false := by rw [beq_eq_false_iff_ne]; omega
                  have e0n : ((op : Int) != 0) = true := by rw [bne, e0]; rfl
                  have e11n : ((op : Int) != 11) = true := by rw [bne, e11]; rfl
                  have e0x : ¬ ((op : Int) = 0) := by omega
                  have e11x : ¬ ((op : Int) = 11) := by omega
                  clear he h11 h14
                  have hnx := P.next_in (P.codeL_of HC.out) HX.out HNE2.out
                  rw [HCL.out] at hnx
                  obtain ⟨bn, hbn⟩ : ∃ b, (fl'.set k true)[q + 1]? = some b := ⟨_, List.getElem?_eq_getElem (by rw [List.length_set, HR.out.1.len, HCL.out]; exact hnx)⟩
                  have ln := HFS.out.cell hbn
                  have HBN := hid_m hbn
                  have HRX : Hid (P.Reach (P.codeOf s.data.toList) (q + 1)) := P.Reach.next HRE.out HX.out HNE2.out
                  have p0 : (0 : Int) ≤ (q : Int) + 1 := by omega
                  have p1 : (q : Int) + 1 < (n : Int) := by omega
                  have p2 : ((q : Int) + 1).toNat = q + 1 := by omega
                  have zn := HFS.out.fz (q + 1)
                  have hqw := HQW.out
                  clear hbn hnx
                  cases bn with
                  | true =>
                    go_wp2_with fail
                    exact ⟨⟨true, q + 1, fl'.set k true, rfl, by first | (rw [HQW.out]; exact next_t) | exact next_t, HQN.out, HRM.out, HFS.out, HBS.out⟩, by first | (rw [HQW.out]; exact less_t HQN.out) | exact less_t HQN.out⟩
                  | false =>
                    have HRN := hid_m (HRM.out.mark HRX.out HBN.out (q + 1))
                    have HFN := hid_m (HFS.out.set (i := q + 1))
                    have HBX : Hid (Below fb w ((w3.setCell ⟨fb, k, none⟩ (.bool true)).setCell ⟨fb, q + 1, none⟩ (.bool true))) := HBS.out.setCell (Nat.le_refl _) _
                    go_wp2_with fail
                    exact ⟨⟨true, q + 1, (fl'.set k true).set (q + 1) true, rfl, by first | (rw [HQW.out]; exact next_t) | exact next_t, HQN.out, HRN.out, HFN.out, HBX.out⟩, by first | (rw [HQW.out]; exact less_t HQN.out) | exact less_t HQN.out⟩
            · rw [decide_eq_false (fun h => h11 h.1)]
              have H11 := hid_m h11
              by_cases h0 : op = 0
              · subst h0
                have HRN := hid_m (HR.out.1.skip (fun x hx hf => by rw [HX.out] at hx; cases hx; exact ⟨fun h => absurd h H11.out, fun h => absurd (.inl rfl) h⟩))
                clear h11 h14
                go_wp2_with fail
                exact ⟨⟨m, q + 1, fl', rfl, by first | (rw [HQW.out]; exact next_t) | exact next_t, HQN.out, HRN.out, HFW.out, HBW.out⟩, by first | (rw [HQW.out]; exact less_t HQN.out) | exact less_t HQN.out⟩
              · have HNE2 : Hid (¬ P.Ends ⟨op, xa, xb, k⟩) := by
                  rintro (e | e)
                  · exact h0 e
                  · have e' : op = 11 := e
                    omega
                have e0 : ((op : Int) == 0) = false := by rw [beq_eq_false_iff_ne]; omega
                have e11 : ((op : Int) == 11) = false := by rw [beq_eq_false_iff_ne]; omega
                have e0n : ((op : Int) != 0) = true := by rw [bne, e0]; rfl
                have e11n : ((op : Int) != 11) = true := by rw [bne, e11]; rfl
                have e0x : ¬ ((op : Int) = 0) := by omega
                have e11x : ¬ ((op : Int) = 11) := by omega
                clear h0 h11 h14
                have hnx := P.next_in (P.codeL_of HC.out) HX.out HNE2.out
                rw [HCL.out] at hnx
                obtain ⟨bn, hbn⟩ : ∃ b, fl'[q + 1]? = some b := ⟨_, List.getElem?_eq_getElem (by rw [HR.out.1.len, HCL.out]; exact hnx)⟩
                have ln := HFW.out.cell hbn
                have HBN := hid_m hbn
                have HRX : Hid (P.Reach (P.codeOf s.data.toList) (q + 1)) := P.Reach.next HRE.out HX.out HNE2.out
                have p0 : (0 : Int) ≤ (q : Int) + 1 := by omega
                have p1 : (q : Int) + 1 < (n : Int) := by omega
                have p2 : ((q : Int) + 1).toNat = q + 1 := by omega
                have zn := HFW.out.fz (q + 1)
                have hqw := HQW.out
                clear hbn hnx
                cases bn with
                | true =>
                  have HRN := hid_m (HR.out.1.skip (fun x hx hf => by rw [HX.out] at hx; cases hx; exact ⟨fun h => absurd h H11.out, fun _ => HBN.out⟩))
                  go_wp2_with fail
                  exact ⟨⟨m, q + 1, fl', rfl, by first | (rw [HQW.out]; exact next_t) | exact next_t, HQN.out, HRN.out, HFW.out, HBW.out⟩, by first | (rw [HQW.out]; exact less_t HQN.out) | exact less_t HQN.out⟩
                | false =>
                  have HRN := hid_m (HR.out.1.mark HRX.out HBN.out (q + 1))
                  have HFN := hid_m (HFW.out.set (i := q + 1))
                  have HBX : Hid (Below fb w (w3.setCell ⟨fb, q + 1, none⟩ (.bool true))) := HBW.out.setCell (Nat.le_refl _) _
                  go_wp2_with fail
                  exact ⟨⟨true, q + 1, fl'.set (q + 1) true, rfl, by first | (rw [HQW.out]; exact next_t) | exact next_t, HQN.out, HRN.out, HFN.out, HBX.out⟩, by first | (rw [HQW.out]; exact less_t HQN.out) | exact less_t HQN.out⟩
        · have hqn : q = n := by omega
          subst hqn
          have HMS := hid_m (ri_less HR.out.1 HCL.out)
          have HFG : Hid (m = false → P.Flags (P.codeOf s.data.toList) fl') := by
            intro e
            have h := HR.out.1
            rw [e, ← HCL.out] at h
            exact h.flags
          have HRD2 := hid_m HR.out.2.1.read
          clear hq
          go_wp2_with fail
          refine ⟨⟨m, fl', rfl, ⟨HR.out.1.len, HR.out.1.zero, HR.out.1.reach, HFG.out⟩, HR.out.2.1, HR.out.2.2⟩, ?_⟩
          rw [HRD.out, HRD2.out]
          exact HMS.out
end Go.Proofs.YtghggcehloiemabGreatDoor
