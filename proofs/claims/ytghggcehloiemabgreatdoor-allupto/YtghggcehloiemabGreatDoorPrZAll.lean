import Derived.Test.YtghggcehloiemabGreatDoorPrWAll
import Derived.Deep.RegionHeld3
namespace Go.Proofs.YtghggcehloiemabGreatDoor
open Go.RowKit
set_option linter.unusedVariables false
set_option maxRecDepth 16000
theorem Wo.on {w w' : World} {b sl : Nat} {kv vv lv : Value} {s : P.W} (h : Wo w b kv vv sl s lv) (hb : Below w.heap.size w w') : Wo w' b kv vv sl s lv := ⟨by rw [hb.block _ h.lt]; exact h.blk, owns_on h.own hb, h.sixteen⟩
set_option maxHeartbeats 1000000 in
theorem entry_any (gk ck gv cv nk nv sl : Nat) (w : World) (hk : nk ≤ 100) (hv : nv ≤ 100) :
    Calls Tryz.prog 54 #[.agg #[.slice (some ⟨gk, 0, none⟩) nk ck, .slice (some ⟨gv, 0, none⟩) nv cv, .int .i64 sl]] w fun e w' => e = .returned (.int .i64 ((nk + nv : Nat) : Int)) ∧ Below w.heap.size w w' := by
  have hw : wrap64 ((nk : Int) + (nv : Int)) = ((nk + nv : Nat) : Int) := by rw [w64_id _ (by omega) (by omega)]; rfl
  have HB : Hid (Below w.heap.size w (w.alloc (.cells #[.slice (some ⟨gk, 0, none⟩) nk ck, .slice (some ⟨gv, 0, none⟩) nv cv, .int .i64 sl] 65))) := (Below.refl _ _).alloc (Nat.le_refl _) _
  go_enter Tryz.func54, Tryz.ntmps54
  go_wp2_with fail
  go_ret
  exact ⟨by first | rfl | (rw [← hw]; rfl), HB.out⟩
namespace P
def W.search (s : W) (kp : List Nat) (vl : Nat) : W := ((((W.upTo (fun s i => ((s.put 9 8 1 (at_ kp i)).put 9 9 5 i).put 13 8 9 2) (((((((((s.here 0).put 9 3 15 0).put 1 4 0 (kp.length + vl)).put 1 5 0 1).put 2 6 3 0).put 5 6 4 0).put 3 6 5 0).here 1).put 12 5 6 3) kp.length).put 11 0 0 4).here 2).put 3 5 4 0).put 11 0 0 1
end P
set_option maxHeartbeats 4000000 in
theorem pabsent_any {w : World} {b sl : Nat} {kv vv lv : Value} {s : P.W} (kp vp : List Nat) (h : Wo w b kv vv sl s lv) (hk : Kp w b kv kp) (hv : Kp w b vv vp) (hk1 : 1 ≤ kp.length) (hv1 : 1 ≤ vp.length) (hkl : kp.length ≤ 100) (hvl : vp.length ≤ 100) (hn : s.list.length ≤ 70000) :
    Calls Tryz.prog 59 #[.pointer (some ⟨b, 0, none⟩)] w fun e w' => e = .returned (.tuple #[]) ∧ (∃ lv', Wo w' b kv vv sl (s.absent kp sl) lv') ∧ Below b w w' := by
  obtain ⟨f, hf⟩ : ∃ f : P.W → Nat → P.W, (fun s i => s.move 5 i 1 (P.at_ kp i)) = f := ⟨_, rfl⟩
  obtain ⟨s0, hs0⟩ : ∃ s0, ((((s.here 3).put 1 7 0 2).put 13 0 7 9).put 1 7 0 sl).put 12 3 7 10 = s0 := ⟨_, rfl⟩
  have hfl : ∀ t, (P.W.upTo f s0 t).list.length = s.list.length + 4 + 2 * t := fun t => by
    rw [← hf, P.upTo_len _ 2 (fun s i => by (repeat (first | rw [P.W.put_len] | rw [P.W.move_len]))), ← hs0]; (repeat (first | rw [P.W.put_len] | rw [P.W.here_len])); try omega
  have H := hid_m h
  have HB : Hid (Below b w w) := Below.refl _ _
  have HK := hid_m hk
  have HV := hid_m hv
  have HN := hid_m hn
  have HFE := hid_m hf
  have HFL := hid_m hfl
  have HS0 := hid_m hs0
  obtain ⟨bv, hov⟩ := hv.own
  obtain ⟨bk, hok⟩ := hk.own
  obtain ⟨gv, cv, hvv, _, _⟩ := hov.form hv1
  obtain ⟨gk, ck, hkv, _, _⟩ := hok.form hk1
  obtain ⟨nv, hnv⟩ : ∃ n, vp.length = n := ⟨_, rfl⟩
  obtain ⟨nk, hnk⟩ : ∃ n, kp.length = n := ⟨_, rfl⟩
  rw [hnv] at hvv hvl hv1
  rw [hnk] at hkv hkl hk1
  subst hvv
  subst hkv
  have HNV := hid_m hnv
  have HNK := hid_m hnk
  clear h hn hk hv hf hfl hs0 hov hok hnv hnk
  go_enter Tryz.func59, Tryz.ntmps59
  go_wp2_with fail
  refine (where_any 3 H.out (by decide) (by have := HN.out; (repeat (first | rw [P.W.put_len] | rw [P.W.here_len] | rw [P.W.task_len] | rw [P.W.move_len])); omega)).mono ?_
  rintro e wp0 ⟨rfl, hw, hb⟩
  have P0 := hid_m hw
  have PB0 := hid_m (HB.out.trans hb)
  have c0 := hw.c0
  have c1 := hw.c1
  have c2 := hw.c2
  clear hw hb
  go_wp2_with fail
  clear c0 c1 c2
  refine (wnumber_any 7 2 P0.out (by have := HN.out; (repeat (first | rw [P.W.put_len] | rw [P.W.here_len] | rw [P.W.task_len] | rw [P.W.move_len])); omega)).mono ?_
  rintro e wp1 ⟨rfl, ⟨lvp1, hw⟩, hb⟩
  have P1 := hid_m hw
  have PB1 := hid_m (PB0.out.trans hb)
  have c0 := hw.c0
  have c1 := hw.c1
  have c2 := hw.c2
  clear hw hb
  go_wp2_with fail
  clear c0 c1 c2
  refine (wnotsame_any 0 7 9 P1.out (by have := HN.out; (repeat (first | rw [P.W.put_len] | rw [P.W.here_len] | rw [P.W.task_len] | rw [P.W.move_len])); omega)).mono ?_
  rintro e wp2 ⟨rfl, ⟨lvp2, hw⟩, hb⟩
  have P2 := hid_m hw
  have PB2 := hid_m (PB1.out.trans hb)
  have c0 := hw.c0
  have c1 := hw.c1
  have c2 := hw.c2
  clear hw hb
  go_wp2_with fail
  go_region_held3 (fun w' => w'.cell? ⟨b, 2, none⟩ = some (.int .i64 sl)) (first | (exact c2) | (exact kk) | (simp [go_sem, c2]; done)) (first | (go_at_call 104; refine (wnumber_any 7 sl P2.out.drewn (by have := HN.out; (repeat (first | rw [P.W.put_len] | rw [P.W.here_len] | rw [P.W.task_len] | rw [P.W.move_len])); omega)).mono ?_; rintro e wp3 ⟨rfl, ⟨lvp3, hw⟩, hb⟩; have kk := hw.c2))
  have P3 := hid_m hw
  have PB3 := hid_m ((drew_below PB2.out).trans hb)
  clear hw hb kk c0 c1 c2
  have c0 := P3.out.c0
  have c1 := P3.out.c1
  have c2 := P3.out.c2
  go_wp2_with fail
  clear c0 c1 c2
  refine (wsame_any 3 7 10 P3.out (by have := HN.out; (repeat (first | rw [P.W.put_len] | rw [P.W.here_len] | rw [P.W.task_len] | rw [P.W.move_len])); omega)).mono ?_
  rintro e wp4 ⟨rfl, ⟨lvp4, hw⟩, hb⟩
  have P4 := hid_m hw
  have PB4 := hid_m (PB3.out.trans hb)
  have c0 := hw.c0
  have c1 := hw.c1
  have c2 := hw.c2
  clear hw hb
  go_wp2_with fail
  have es : ((((s.here 3).put 1 7 0 2).put 13 0 7 9).put 1 7 0 sl).put 12 3 7 10 = s0 := by rw [← HS0.out]
  have HI0 := P4
  rw [es] at HI0
  clear es
  go_loopw [35] (fun j wr => ∃ (t : Nat), t ≤ nk ∧ j = .int .i64 t ∧ Hid (∃ lv', Wo wr b (.slice (some ⟨gk, 0, none⟩) nk ck) (.slice (some ⟨gv, 0, none⟩) nv cv) sl (P.W.upTo f s0 t) lv') ∧ Hid (Below b w wr)) (fun j _ => nk - (intOf j).toNat)
  case atStart => exact ⟨0, Nat.zero_le _, rfl, ⟨_, HI0.out⟩, PB4.out⟩
  case round =>
    obtain ⟨t, ht, rfl, HL, HBR⟩ := hrel
    obtain ⟨lv', hl⟩ := HL.out
    have c0 := hl.c0
    by_cases hlt : t < nk
    · obtain ⟨p, hp⟩ : ∃ p, kp[t]? = some p := ⟨_, List.getElem?_eq_getElem (by have := HNK.out; omega)⟩
      obtain ⟨bv2, hov2⟩ := (HK.out.on HBR.out).own
      have cp : wr.cell? ⟨gk, t, none⟩ = some (.int .i64 p) := row1_cell hov2 (by simp) (by rw [List.getElem?_map, hp]; rfl)
      have HPE : Hid (P.at_ kp t = p) := by unfold Hid P.at_; rw [hp]; rfl
      have j0 : (0 : Int) ≤ (t : Int) := Int.natCast_nonneg t
      have j1 : (t : Int) < (nk : Int) := by omega
      have HTW : Hid (wrap64 ((t : Int) + 1) = (t : Int) + 1) := w64_id _ (by omega) (by omega)
      have hkt : wrap64 ((nk : Int) + (t : Int)) = ((nk + t : Nat) : Int) := by rw [w64_id _ (by omega) (by omega)]; rfl
      have HTN : Hid (t + 1 ≤ nk) := hlt
      have HH := hid_m hl
      have HTL : Hid (t ≤ 100) := by unfold Hid; omega
      clear hp hov2 hl ht hlt
      go_wp2_with fail
      refine (pmove_any 5 t 1 p HH.out (by (repeat (first | rw [P.W.put_len] | rw [P.W.here_len] | rw [P.W.task_len] | rw [P.W.move_len])); rw [HFL.out]; have := HN.out; have := HTL.out; omega)).mono ?_
      rintro e wq0 ⟨rfl, ⟨lvq0, hw⟩, hb⟩
      have Q0 := hid_m hw
      have QB0 := hid_m (HBR.out.trans hb)
      clear hw hb
      go_wp2_with fail
      have e : P.W.upTo f s0 (t + 1) = (P.W.upTo f s0 t).move 5 t 1 p := by show f _ t = _; rw [← HFE.out]; simp only [HPE.out]
      exact ⟨⟨t + 1, HTN.out, by first | (rw [HTW.out]; exact next_t) | exact next_t, ⟨_, by rw [e]; exact Q0.out⟩, QB0.out⟩, by first | (rw [HTW.out]; exact less_t HTN.out) | exact less_t HTN.out⟩
    · have hte : t = nk := by omega
      subst hte
      have HH := hid_m hl
      clear hl ht hlt
      go_wp2_with fail
      refine (wnumber_any 7 1 HH.out (by (repeat (first | rw [P.W.put_len] | rw [P.W.here_len] | rw [P.W.task_len] | rw [P.W.move_len])); rw [HFL.out]; have := HN.out; omega)).mono ?_
      rintro e ws0 ⟨rfl, ⟨lvs0, hw⟩, hb⟩
      have S0 := hid_m hw
      have SB0 := hid_m (HBR.out.trans hb)
      clear hw hb
      go_wp2_with fail
      refine (wadd_any 3 7 S0.out (by (repeat (first | rw [P.W.put_len] | rw [P.W.here_len] | rw [P.W.task_len] | rw [P.W.move_len])); rw [HFL.out]; have := HN.out; omega)).mono ?_
      rintro e ws1 ⟨rfl, ⟨lvs1, hw⟩, hb⟩
      have S1 := hid_m hw
      have SB1 := hid_m (SB0.out.trans hb)
      clear hw hb
      go_wp2_with fail
      refine (wstore_any 3 15 0 S1.out (by (repeat (first | rw [P.W.put_len] | rw [P.W.here_len] | rw [P.W.task_len] | rw [P.W.move_len])); rw [HFL.out]; have := HN.out; omega)).mono ?_
      rintro e ws2 ⟨rfl, ⟨lvs2, hw⟩, hb⟩
      have S2 := hid_m hw
      have SB2 := hid_m (SB1.out.trans hb)
      clear hw hb
      go_wp2_with fail
      refine (wgo_any 5 S2.out (by (repeat (first | rw [P.W.put_len] | rw [P.W.here_len] | rw [P.W.task_len] | rw [P.W.move_len])); rw [HFL.out]; have := HN.out; omega)).mono ?_
      rintro e ws3 ⟨rfl, ⟨lvs3, hw⟩, hb⟩
      have S3 := hid_m hw
      have SB3 := hid_m (SB2.out.trans hb)
      clear hw hb
      go_wp2_with fail
      go_end0
      have e : ((((P.W.upTo f s0 t).put 1 7 0 1).put 3 3 7 0).put 10 3 15 0).put 11 0 0 5 = s.absent kp sl := by rw [← HFE.out, ← HS0.out, ← HNK.out]; rfl
      exact ⟨rfl, ⟨_, by rw [← e]; exact S3.out⟩, SB3.out⟩
set_option maxHeartbeats 4000000 in
theorem psearch_any {w : World} {b sl : Nat} {kv vv lv : Value} {s : P.W} (kp vp : List Nat) (h : Wo w b kv vv sl s lv) (hk : Kp w b kv kp) (hv : Kp w b vv vp) (hk1 : 1 ≤ kp.length) (hv1 : 1 ≤ vp.length) (hkl : kp.length ≤ 100) (hvl : vp.length ≤ 100) (hn : s.list.length ≤ 70000) :
    Calls Tryz.prog 58 #[.pointer (some ⟨b, 0, none⟩)] w fun e w' => e = .returned (.tuple #[]) ∧ (∃ lv', Wo w' b kv vv sl (s.search kp vp.length) lv') ∧ Below b w w' := by
  obtain ⟨f, hf⟩ : ∃ f : P.W → Nat → P.W, (fun s i => ((s.put 9 8 1 (P.at_ kp i)).put 9 9 5 i).put 13 8 9 2) = f := ⟨_, rfl⟩
  obtain ⟨s0, hs0⟩ : ∃ s0, (((((((((s.here 0).put 9 3 15 0).put 1 4 0 (kp.length + vp.length)).put 1 5 0 1).put 2 6 3 0).put 5 6 4 0).put 3 6 5 0).here 1).put 12 5 6 3) = s0 := ⟨_, rfl⟩
  have hfl : ∀ t, (P.W.upTo f s0 t).list.length = s.list.length + 7 + 3 * t := fun t => by
    rw [← hf, P.upTo_len _ 3 (fun s i => by (repeat (first | rw [P.W.put_len] | rw [P.W.move_len]))), ← hs0]; (repeat (first | rw [P.W.put_len] | rw [P.W.here_len])); try omega
  have H := hid_m h
  have HB : Hid (Below b w w) := Below.refl _ _
  have HK := hid_m hk
  have HV := hid_m hv
  have HN := hid_m hn
  have HFE := hid_m hf
  have HFL := hid_m hfl
  have HS0 := hid_m hs0
  obtain ⟨bv, hov⟩ := hv.own
  obtain ⟨bk, hok⟩ := hk.own
  obtain ⟨gv, cv, hvv, _, _⟩ := hov.form hv1
  obtain ⟨gk, ck, hkv, _, _⟩ := hok.form hk1
  obtain ⟨nv, hnv⟩ : ∃ n, vp.length = n := ⟨_, rfl⟩
  obtain ⟨nk, hnk⟩ : ∃ n, kp.length = n := ⟨_, rfl⟩
  rw [hnv] at hvv hvl hv1
  rw [hnk] at hkv hkl hk1
  subst hvv
  subst hkv
  have HNV := hid_m hnv
  have HNK := hid_m hnk
  clear h hn hk hv hf hfl hs0 hov hok hnv hnk
  have z0 := H.out.c0
  have z1 := H.out.c1
  have z2 := H.out.c2
  go_enter Tryz.func58, Tryz.ntmps58
  go_wp2_with fail
  refine (entry_any gk ck gv cv nk nv sl _ hkl hvl).mono ?_
  rintro e wz ⟨rfl, hbz⟩
  have HZ := hid_m (H.out.on hbz)
  have HBZ : Hid (Below b w wz) := hbz.mono (Nat.le_of_lt H.out.lt)
  clear hbz z0 z1 z2
  go_wp2_with fail
  refine (where_any 0 HZ.out (by decide) (by have := HN.out; (repeat (first | rw [P.W.put_len] | rw [P.W.here_len] | rw [P.W.task_len] | rw [P.W.move_len])); omega)).mono ?_
  rintro e wp0 ⟨rfl, hw, hb⟩
  have P0 := hid_m hw
  have PB0 := hid_m (HBZ.out.trans hb)
  have c0 := hw.c0
  have c1 := hw.c1
  have c2 := hw.c2
  clear hw hb
  go_wp2_with fail
  clear c0 c1 c2
  refine (wload_any 3 15 0 P0.out (by have := HN.out; (repeat (first | rw [P.W.put_len] | rw [P.W.here_len] | rw [P.W.task_len] | rw [P.W.move_len])); omega)).mono ?_
  rintro e wp1 ⟨rfl, ⟨lvp1, hw⟩, hb⟩
  have P1 := hid_m hw
  have PB1 := hid_m (PB0.out.trans hb)
  have c0 := hw.c0
  have c1 := hw.c1
  have c2 := hw.c2
  clear hw hb
  go_wp2_with fail
  clear c0 c1 c2
  refine (wnumber_any 4 (nk + nv) P1.out (by have := HN.out; (repeat (first | rw [P.W.put_len] | rw [P.W.here_len] | rw [P.W.task_len] | rw [P.W.move_len])); omega)).mono ?_
  rintro e wp2 ⟨rfl, ⟨lvp2, hw⟩, hb⟩
  have P2 := hid_m hw
  have PB2 := hid_m (PB1.out.trans hb)
  have c0 := hw.c0
  have c1 := hw.c1
  have c2 := hw.c2
  clear hw hb
  go_wp2_with fail
  clear c0 c1 c2
  refine (wnumber_any 5 1 P2.out (by have := HN.out; (repeat (first | rw [P.W.put_len] | rw [P.W.here_len] | rw [P.W.task_len] | rw [P.W.move_len])); omega)).mono ?_
  rintro e wp3 ⟨rfl, ⟨lvp3, hw⟩, hb⟩
  have P3 := hid_m hw
  have PB3 := hid_m (PB2.out.trans hb)
  have c0 := hw.c0
  have c1 := hw.c1
  have c2 := hw.c2
  clear hw hb
  go_wp2_with fail
  clear c0 c1 c2
  refine (wcopy_any 6 3 P3.out (by have := HN.out; (repeat (first | rw [P.W.put_len] | rw [P.W.here_len] | rw [P.W.task_len] | rw [P.W.move_len])); omega)).mono ?_
  rintro e wp4 ⟨rfl, ⟨lvp4, hw⟩, hb⟩
  have P4 := hid_m hw
  have PB4 := hid_m (PB3.out.trans hb)
  have c0 := hw.c0
  have c1 := hw.c1
  have c2 := hw.c2
  clear hw hb
  go_wp2_with fail
  clear c0 c1 c2
  refine (wmul_any 6 4 P4.out (by have := HN.out; (repeat (first | rw [P.W.put_len] | rw [P.W.here_len] | rw [P.W.task_len] | rw [P.W.move_len])); omega)).mono ?_
  rintro e wp5 ⟨rfl, ⟨lvp5, hw⟩, hb⟩
  have P5 := hid_m hw
  have PB5 := hid_m (PB4.out.trans hb)
  have c0 := hw.c0
  have c1 := hw.c1
  have c2 := hw.c2
  clear hw hb
  go_wp2_with fail
  clear c0 c1 c2
  refine (wadd_any 6 5 P5.out (by have := HN.out; (repeat (first | rw [P.W.put_len] | rw [P.W.here_len] | rw [P.W.task_len] | rw [P.W.move_len])); omega)).mono ?_
  rintro e wp6 ⟨rfl, ⟨lvp6, hw⟩, hb⟩
  have P6 := hid_m hw
  have PB6 := hid_m (PB5.out.trans hb)
  have c0 := hw.c0
  have c1 := hw.c1
  have c2 := hw.c2
  clear hw hb
  go_wp2_with fail
  clear c0 c1 c2
  refine (where_any 1 P6.out (by decide) (by have := HN.out; (repeat (first | rw [P.W.put_len] | rw [P.W.here_len] | rw [P.W.task_len] | rw [P.W.move_len])); omega)).mono ?_
  rintro e wp7 ⟨rfl, hw, hb⟩
  have P7 := hid_m hw
  have PB7 := hid_m (PB6.out.trans hb)
  have c0 := hw.c0
  have c1 := hw.c1
  have c2 := hw.c2
  clear hw hb
  go_wp2_with fail
  clear c0 c1 c2
  refine (wsame_any 5 6 3 P7.out (by have := HN.out; (repeat (first | rw [P.W.put_len] | rw [P.W.here_len] | rw [P.W.task_len] | rw [P.W.move_len])); omega)).mono ?_
  rintro e wp8 ⟨rfl, ⟨lvp8, hw⟩, hb⟩
  have P8 := hid_m hw
  have PB8 := hid_m (PB7.out.trans hb)
  have c0 := hw.c0
  have c1 := hw.c1
  have c2 := hw.c2
  clear hw hb
  go_wp2_with fail
  have es : (((((((((s.here 0).put 9 3 15 0).put 1 4 0 (nk + nv)).put 1 5 0 1).put 2 6 3 0).put 5 6 4 0).put 3 6 5 0).here 1).put 12 5 6 3) = s0 := by rw [← HS0.out, HNK.out, HNV.out]
  have HI0 := P8
  rw [es] at HI0
  clear es
  go_loopw [53] (fun j wr => ∃ (t : Nat), t ≤ nk ∧ j = .int .i64 t ∧ Hid (∃ lv', Wo wr b (.slice (some ⟨gk, 0, none⟩) nk ck) (.slice (some ⟨gv, 0, none⟩) nv cv) sl (P.W.upTo f s0 t) lv') ∧ Hid (Below b w wr)) (fun j _ => nk - (intOf j).toNat)
  case atStart => exact ⟨0, Nat.zero_le _, rfl, ⟨_, HI0.out⟩, PB8.out⟩
  case round =>
    obtain ⟨t, ht, rfl, HL, HBR⟩ := hrel
    obtain ⟨lv', hl⟩ := HL.out
    have c0 := hl.c0
    by_cases hlt : t < nk
    · obtain ⟨p, hp⟩ : ∃ p, kp[t]? = some p := ⟨_, List.getElem?_eq_getElem (by have := HNK.out; omega)⟩
      obtain ⟨bv2, hov2⟩ := (HK.out.on HBR.out).own
      have cp : wr.cell? ⟨gk, t, none⟩ = some (.int .i64 p) := row1_cell hov2 (by simp) (by rw [List.getElem?_map, hp]; rfl)
      have HPE : Hid (P.at_ kp t = p) := by unfold Hid P.at_; rw [hp]; rfl
      have j0 : (0 : Int) ≤ (t : Int) := Int.natCast_nonneg t
      have j1 : (t : Int) < (nk : Int) := by omega
      have HTW : Hid (wrap64 ((t : Int) + 1) = (t : Int) + 1) := w64_id _ (by omega) (by omega)
      have hkt : wrap64 ((nk : Int) + (t : Int)) = ((nk + t : Nat) : Int) := by rw [w64_id _ (by omega) (by omega)]; rfl
      have HTN : Hid (t + 1 ≤ nk) := hlt
      have HH := hid_m hl
      have HTL : Hid (t ≤ 100) := by unfold Hid; omega
      clear hp hov2 hl ht hlt
      go_wp2_with fail
      refine (wload_any 8 1 p HH.out (by (repeat (first | rw [P.W.put_len] | rw [P.W.here_len] | rw [P.W.task_len] | rw [P.W.move_len])); rw [HFL.out]; have := HN.out; have := HTL.out; omega)).mono ?_
      rintro e wq0 ⟨rfl, ⟨lvq0, hw⟩, hb⟩
      have Q0 := hid_m hw
      have QB0 := hid_m (HBR.out.trans hb)
      clear hw hb
      go_wp2_with fail
      refine (wload_any 9 5 t Q0.out (by (repeat (first | rw [P.W.put_len] | rw [P.W.here_len] | rw [P.W.task_len] | rw [P.W.move_len])); rw [HFL.out]; have := HN.out; have := HTL.out; omega)).mono ?_
      rintro e wq1 ⟨rfl, ⟨lvq1, hw⟩, hb⟩
      have Q1 := hid_m hw
      have QB1 := hid_m (QB0.out.trans hb)
      clear hw hb
      go_wp2_with fail
      refine (wnotsame_any 8 9 2 Q1.out (by (repeat (first | rw [P.W.put_len] | rw [P.W.here_len] | rw [P.W.task_len] | rw [P.W.move_len])); rw [HFL.out]; have := HN.out; have := HTL.out; omega)).mono ?_
      rintro e wq2 ⟨rfl, ⟨lvq2, hw⟩, hb⟩
      have Q2 := hid_m hw
      have QB2 := hid_m (QB1.out.trans hb)
      clear hw hb
      go_wp2_with fail
      have e : P.W.upTo f s0 (t + 1) = (((P.W.upTo f s0 t).put 9 8 1 p).put 9 9 5 t).put 13 8 9 2 := by show f _ t = _; rw [← HFE.out]; simp only [HPE.out]
      exact ⟨⟨t + 1, HTN.out, by first | (rw [HTW.out]; exact next_t) | exact next_t, ⟨_, by rw [e]; exact Q2.out⟩, QB2.out⟩, by first | (rw [HTW.out]; exact less_t HTN.out) | exact less_t HTN.out⟩
    · have hte : t = nk := by omega
      subst hte
      have HH := hid_m hl
      clear hl ht hlt
      go_wp2_with fail
      refine (wgo_any 4 HH.out (by (repeat (first | rw [P.W.put_len] | rw [P.W.here_len] | rw [P.W.task_len] | rw [P.W.move_len])); rw [HFL.out]; have := HN.out; omega)).mono ?_
      rintro e ws0 ⟨rfl, ⟨lvs0, hw⟩, hb⟩
      have S0 := hid_m hw
      have SB0 := hid_m (HBR.out.trans hb)
      clear hw hb
      go_wp2_with fail
      refine (where_any 2 S0.out (by decide) (by (repeat (first | rw [P.W.put_len] | rw [P.W.here_len] | rw [P.W.task_len] | rw [P.W.move_len])); rw [HFL.out]; have := HN.out; omega)).mono ?_
      rintro e ws1 ⟨rfl, hw, hb⟩
      have S1 := hid_m hw
      have SB1 := hid_m (SB0.out.trans hb)
      clear hw hb
      go_wp2_with fail
      refine (wadd_any 5 4 S1.out (by (repeat (first | rw [P.W.put_len] | rw [P.W.here_len] | rw [P.W.task_len] | rw [P.W.move_len])); rw [HFL.out]; have := HN.out; omega)).mono ?_
      rintro e ws2 ⟨rfl, ⟨lvs2, hw⟩, hb⟩
      have S2 := hid_m hw
      have SB2 := hid_m (SB1.out.trans hb)
      clear hw hb
      go_wp2_with fail
      refine (wgo_any 1 S2.out (by (repeat (first | rw [P.W.put_len] | rw [P.W.here_len] | rw [P.W.task_len] | rw [P.W.move_len])); rw [HFL.out]; have := HN.out; omega)).mono ?_
      rintro e ws3 ⟨rfl, ⟨lvs3, hw⟩, hb⟩
      have S3 := hid_m hw
      have SB3 := hid_m (SB2.out.trans hb)
      clear hw hb
      go_wp2_with fail
      go_end0
      have e : ((((P.W.upTo f s0 t).put 11 0 0 4).here 2).put 3 5 4 0).put 11 0 0 1 = s.search kp vp.length := by rw [← HFE.out, ← HS0.out, ← HNK.out]; rfl
      exact ⟨rfl, ⟨_, by rw [← e]; exact S3.out⟩, SB3.out⟩
end Go.Proofs.YtghggcehloiemabGreatDoor
namespace Go.Proofs.YtghggcehloiemabGreatDoor
open Go.RowKit
set_option linter.unusedVariables false
set_option maxRecDepth 16000
namespace P
def W.present (s : W) (size : Nat) : W := ((((W.upTo (fun s i => s.move 5 i 6 i) ((((s.here 4).task 1 6).task 2 5).put 4 6 4 0) size).put 1 7 0 1).put 4 3 7 0).put 10 3 15 0).put 0 0 0 0
end P
set_option maxHeartbeats 4000000 in
theorem ppresent_any {w : World} {b sl : Nat} {kv vv lv : Value} {s : P.W} (kp vp : List Nat) (h : Wo w b kv vv sl s lv) (hk : Kp w b kv kp) (hv : Kp w b vv vp) (hk1 : 1 ≤ kp.length) (hv1 : 1 ≤ vp.length) (hkl : kp.length ≤ 100) (hvl : vp.length ≤ 100) (hn : s.list.length ≤ 70000) :
    Calls Tryz.prog 60 #[.pointer (some ⟨b, 0, none⟩)] w fun e w' => e = .returned (.tuple #[]) ∧ (∃ lv', Wo w' b kv vv sl (s.present (kp.length + vp.length)) lv') ∧ Below b w w' := by
  obtain ⟨f, hf⟩ : ∃ f : P.W → Nat → P.W, (fun s i => s.move 5 i 6 i) = f := ⟨_, rfl⟩
  obtain ⟨s0, hs0⟩ : ∃ s0, ((((s.here 4).task 1 6).task 2 5).put 4 6 4 0) = s0 := ⟨_, rfl⟩
  have hfl : ∀ t, (P.W.upTo f s0 t).list.length = s.list.length + 5 + 2 * t := fun t => by
    rw [← hf, P.upTo_len _ 2 (fun s i => by (repeat (first | rw [P.W.put_len] | rw [P.W.move_len]))), ← hs0]; (repeat (first | rw [P.W.put_len] | rw [P.W.here_len] | rw [P.W.task_len])); try omega
  have H := hid_m h
  have HB : Hid (Below b w w) := Below.refl _ _
  have HK := hid_m hk
  have HV := hid_m hv
  have HN := hid_m hn
  have HFE := hid_m hf
  have HFL := hid_m hfl
  have HS0 := hid_m hs0
  obtain ⟨bv, hov⟩ := hv.own
  obtain ⟨bk, hok⟩ := hk.own
  obtain ⟨gv, cv, hvv, _, _⟩ := hov.form hv1
  obtain ⟨gk, ck, hkv, _, _⟩ := hok.form hk1
  obtain ⟨nv, hnv⟩ : ∃ n, vp.length = n := ⟨_, rfl⟩
  obtain ⟨nk, hnk⟩ : ∃ n, kp.length = n := ⟨_, rfl⟩
  rw [hnv] at hvv hvl hv1
  rw [hnk] at hkv hkl hk1
  subst hvv
  subst hkv
  have HNV := hid_m hnv
  have HNK := hid_m hnk
  clear h hn hk hv hf hfl hs0 hov hok hnv hnk
  have z0 := H.out.c0
  have z1 := H.out.c1
  have z2 := H.out.c2
  go_enter Tryz.func60, Tryz.ntmps60
  go_wp2_with fail
  refine (entry_any gk ck gv cv nk nv sl _ hkl hvl).mono ?_
  rintro e wz ⟨rfl, hbz⟩
  have HZ := hid_m (H.out.on hbz)
  have HBZ : Hid (Below b w wz) := hbz.mono (Nat.le_of_lt H.out.lt)
  clear hbz z0 z1 z2
  obtain ⟨nn, hnn⟩ : ∃ nn, nk + nv = nn := ⟨_, rfl⟩
  rw [hnn]
  have HNN := hid_m hnn
  have hnl : nn ≤ 200 := by omega
  clear hnn
  go_wp2_with fail
  refine (where_any 4 HZ.out (by decide) (by have := HN.out; (repeat (first | rw [P.W.put_len] | rw [P.W.here_len] | rw [P.W.task_len] | rw [P.W.move_len])); omega)).mono ?_
  rintro e wp0 ⟨rfl, hw, hb⟩
  have P0 := hid_m hw
  have PB0 := hid_m (HBZ.out.trans hb)
  have c0 := hw.c0
  have c1 := hw.c1
  have c2 := hw.c2
  clear hw hb
  go_wp2_with fail
  clear c0 c1 c2
  refine (ptask_any 1 6 P0.out (by have := HN.out; (repeat (first | rw [P.W.put_len] | rw [P.W.here_len] | rw [P.W.task_len] | rw [P.W.move_len])); omega)).mono ?_
  rintro e wp1 ⟨rfl, ⟨lvp1, hw⟩, hb⟩
  have P1 := hid_m hw
  have PB1 := hid_m (PB0.out.trans hb)
  have c0 := hw.c0
  have c1 := hw.c1
  have c2 := hw.c2
  clear hw hb
  go_wp2_with fail
  clear c0 c1 c2
  refine (ptask_any 2 5 P1.out (by have := HN.out; (repeat (first | rw [P.W.put_len] | rw [P.W.here_len] | rw [P.W.task_len] | rw [P.W.move_len])); omega)).mono ?_
  rintro e wp2 ⟨rfl, ⟨lvp2, hw⟩, hb⟩
  have P2 := hid_m hw
  have PB2 := hid_m (PB1.out.trans hb)
  have c0 := hw.c0
  have c1 := hw.c1
  have c2 := hw.c2
  clear hw hb
  go_wp2_with fail
  clear c0 c1 c2
  refine (wsub_any 6 4 P2.out (by have := HN.out; (repeat (first | rw [P.W.put_len] | rw [P.W.here_len] | rw [P.W.task_len] | rw [P.W.move_len])); omega)).mono ?_
  rintro e wp3 ⟨rfl, ⟨lvp3, hw⟩, hb⟩
  have P3 := hid_m hw
  have PB3 := hid_m (PB2.out.trans hb)
  have c0 := hw.c0
  have c1 := hw.c1
  have c2 := hw.c2
  clear hw hb
  go_wp2_with fail
  have es : ((((s.here 4).task 1 6).task 2 5).put 4 6 4 0) = s0 := by rw [← HS0.out]
  have HI0 := P3
  rw [es] at HI0
  clear es
  go_loopw [3] (fun j wr => ∃ (t : Nat), t ≤ nn ∧ j = .int .i64 t ∧ Hid (∃ lv', Wo wr b (.slice (some ⟨gk, 0, none⟩) nk ck) (.slice (some ⟨gv, 0, none⟩) nv cv) sl (P.W.upTo f s0 t) lv') ∧ Hid (Below b w wr)) (fun j _ => nn - (intOf j).toNat)
  case atStart => exact ⟨0, Nat.zero_le _, rfl, ⟨_, HI0.out⟩, PB3.out⟩
  case round =>
    obtain ⟨t, ht, rfl, HL, HBR⟩ := hrel
    obtain ⟨lv', hl⟩ := HL.out
    have c0 := hl.c0
    by_cases hlt : t < nn
    · have j0 : (0 : Int) ≤ (t : Int) := Int.natCast_nonneg t
      have j1 : (t : Int) < (nn : Int) := by omega
      have HTW : Hid (wrap64 ((t : Int) + 1) = (t : Int) + 1) := w64_id _ (by omega) (by omega)
      have HTN : Hid (t + 1 ≤ nn) := hlt
      have HH := hid_m hl
      have HTL : Hid (t ≤ 200) := by unfold Hid; omega
      clear hl ht hlt
      go_wp2_with fail
      refine (pmove_any 5 t 6 t HH.out (by (repeat (first | rw [P.W.put_len] | rw [P.W.here_len] | rw [P.W.task_len] | rw [P.W.move_len])); rw [HFL.out]; have := HN.out; have := HTL.out; omega)).mono ?_
      rintro e wq0 ⟨rfl, ⟨lvq0, hw⟩, hb⟩
      have Q0 := hid_m hw
      have QB0 := hid_m (HBR.out.trans hb)
      clear hw hb
      go_wp2_with fail
      have e : P.W.upTo f s0 (t + 1) = (P.W.upTo f s0 t).move 5 t 6 t := by show f _ t = _; rw [← HFE.out]
      exact ⟨⟨t + 1, HTN.out, by first | (rw [HTW.out]; exact next_t) | exact next_t, ⟨_, by rw [e]; exact Q0.out⟩, QB0.out⟩, by first | (rw [HTW.out]; exact less_t HTN.out) | exact less_t HTN.out⟩
    · have hte : t = nn := by omega
      subst hte
      have HH := hid_m hl
      clear hl ht hlt
      go_wp2_with fail
      refine (wnumber_any 7 1 HH.out (by (repeat (first | rw [P.W.put_len] | rw [P.W.here_len] | rw [P.W.task_len] | rw [P.W.move_len])); rw [HFL.out]; have := HN.out; omega)).mono ?_
      rintro e ws0 ⟨rfl, ⟨lvs0, hw⟩, hb⟩
      have S0 := hid_m hw
      have SB0 := hid_m (HBR.out.trans hb)
      clear hw hb
      go_wp2_with fail
      refine (wsub_any 3 7 S0.out (by (repeat (first | rw [P.W.put_len] | rw [P.W.here_len] | rw [P.W.task_len] | rw [P.W.move_len])); rw [HFL.out]; have := HN.out; omega)).mono ?_
      rintro e ws1 ⟨rfl, ⟨lvs1, hw⟩, hb⟩
      have S1 := hid_m hw
      have SB1 := hid_m (SB0.out.trans hb)
      clear hw hb
      go_wp2_with fail
      refine (wstore_any 3 15 0 S1.out (by (repeat (first | rw [P.W.put_len] | rw [P.W.here_len] | rw [P.W.task_len] | rw [P.W.move_len])); rw [HFL.out]; have := HN.out; omega)).mono ?_
      rintro e ws2 ⟨rfl, ⟨lvs2, hw⟩, hb⟩
      have S2 := hid_m hw
      have SB2 := hid_m (SB1.out.trans hb)
      clear hw hb
      go_wp2_with fail
      refine (wend_any 0 S2.out (by (repeat (first | rw [P.W.put_len] | rw [P.W.here_len] | rw [P.W.task_len] | rw [P.W.move_len])); rw [HFL.out]; have := HN.out; omega)).mono ?_
      rintro e ws3 ⟨rfl, ⟨lvs3, hw⟩, hb⟩
      have S3 := hid_m hw
      have SB3 := hid_m (SB2.out.trans hb)
      clear hw hb
      go_wp2_with fail
      go_end0
      have e : ((((P.W.upTo f s0 t).put 1 7 0 1).put 4 3 7 0).put 10 3 15 0).put 0 0 0 0 = s.present (kp.length + vp.length) := by rw [← HFE.out, ← HS0.out, HNK.out, HNV.out, HNN.out]; rfl
      exact ⟨rfl, ⟨_, by rw [← e]; exact S3.out⟩, SB3.out⟩
end Go.Proofs.YtghggcehloiemabGreatDoor
namespace Go.Proofs.YtghggcehloiemabGreatDoor
open Go.RowKit
set_option linter.unusedVariables false
set_option maxRecDepth 16000
namespace P
def told (places : List Nat) (x : I) : I := if 11 ≤ x.op then { x with k := at_ places x.k } else x
def W.resolve (s : W) : List I := s.list.map (told s.places)
end P
theorem codeCells_len (c : List P.I) : (codeCells c).length = c.length * 4 := by
  induction c with
  | nil => rfl
  | cons x c ih => rw [show codeCells (x :: c) = insCells x ++ codeCells c from by simp [codeCells], List.length_append, ih, List.length_cons]; show 4 + _ = _; omega
set_option maxHeartbeats 1000000 in
theorem placeOf_any {w : World} {b sl : Nat} {kv vv lv : Value} {s : P.W} (l : Nat) (h : Wo w b kv vv sl s lv) (hl : l < 16) :
    Calls Tryz.prog 113 #[.pointer (some ⟨b, 3, none⟩), .int .i64 l] w fun e w' => e = .returned (.int .i64 (P.at_ s.places l)) ∧ Below w.heap.size w w' := by
  have l0 : (0 : Int) ≤ (l : Int) := Int.natCast_nonneg l
  have l1 : (l : Int) < 16 := by omega
  have l2 : ¬ (16 : Int) ≤ (l : Int) := by omega
  obtain ⟨p, hp⟩ : ∃ p, s.places[l]? = some p := ⟨_, List.getElem?_eq_getElem (by rw [h.sixteen]; exact hl)⟩
  have cp := h.place hp
  have HP : Hid (P.at_ s.places l = p) := by unfold Hid P.at_; rw [hp]; rfl
  clear hp h
  go_enter Tryz.func113, Tryz.ntmps113
  go_wp2_with fail
  go_ret
  exact ⟨by rw [HP.out]; rfl, Below.refl _ _⟩

set_option maxHeartbeats 4000000 in
theorem wtext_any {w : World} {b sl : Nat} {kv vv lv : Value} {s : P.W} (h : Wo w b kv vv sl s lv) (hn : s.list.length ≤ 800) (h1 : 1 ≤ s.list.length) (hlab : ∀ x ∈ s.list, 11 ≤ x.op → x.k < 16) (hsm : ∀ x ∈ s.resolve, P.Small x) :
    Calls Tryz.prog 64 #[.pointer (some ⟨b, 3, none⟩)] w fun e w' => e = .returned (.string ⟨(P.text s.resolve).toArray⟩) ∧ Below w.heap.size w w' := by
  obtain ⟨i0, hi0, hz0, hz1, hz2⟩ := info_parts Tryz.infoIns
  obtain ⟨g, cap, hv, _, hgl⟩ := h.own.form h1
  obtain ⟨n, hnn⟩ : ∃ n, s.list.length = n := ⟨_, rfl⟩
  rw [hnn] at hv hn h1
  subst hv
  have c3 := h.c3
  have H := hid_m h
  have HN := hid_m hnn
  have HLB := hid_m hlab
  have HSM := hid_m hsm
  have HGL := hid_m hgl
  clear h hnn hlab hsm hgl
  go_enter Tryz.func64, Tryz.ntmps64
  obtain ⟨rs, hrs⟩ : ∃ rs, s.resolve = rs := ⟨_, rfl⟩
  have HRS := hid_m hrs
  have HRL : Hid (rs.length = n) := by unfold Hid; rw [← hrs, ← HN.out]; simp [P.W.resolve]
  rw [hrs] at HSM ⊢
  clear hrs
  go_wp2_with fail
  go_loopw [3, 11] (fun l j wr => ∃ (t : Nat), t ≤ n ∧ j = .int .i64 t ∧ wr.ownsRow w.heap.size 112 4 l t (codeCells (rs.take t)) ∧ Below w.heap.size w wr) (fun _ j _ => n - (intOf j).toNat)
  case atStart => exact ⟨0, Nat.zero_le _, rfl, World.ownsRow_nil _ _ _ _, Below.refl _ _⟩
  case round =>
    obtain ⟨t, ht, rfl, hown, hbe⟩ := hrel
    have hsz := hbe.size
    by_cases hlt : t < n
    · obtain ⟨x, hx⟩ : ∃ x, s.list[t]? = some x := ⟨_, List.getElem?_eq_getElem (by have := HN.out; omega)⟩
      have how := owns_on H.out.own hbe
      obtain ⟨d0, d1, d2, d3, hN1, hN2⟩ := ins_cell how rfl hx
      have hts : rs.take (t + 1) = rs.take t ++ [P.told s.places x] := by
        rw [List.take_add_one, ← HRS.out, P.W.resolve, List.getElem?_map, hx]; rfl
      have HTS := hid_m hts
      have HLX := hid_m (HLB.out x (List.mem_of_getElem? hx))
      have j0 : (0 : Int) ≤ (t : Int) := Int.natCast_nonneg t
      have j1 : (t : Int) < (n : Int) := by omega
      have HTN : Hid (t + 1 ≤ n) := hlt
      have HTW : Hid (wrap64 ((t : Int) + 1) = (t : Int) + 1) := w64_id _ (by omega) (by omega)
      have htk : (codeCells (rs.take t)).length = t * 4 := by rw [codeCells_len, List.length_take, Nat.min_eq_left (by have := HRL.out; omega)]
      obtain ⟨op, xa, xb, k⟩ := x
      simp only at d0 d1 d2 d3
      clear hx how hts hN1 hN2 ht
      go_wp2_with fail
      refine (saysWhere_any op xa xb k _).mono ?_
      rintro e w3 ⟨rfl, hb3⟩
      have hbA : Below wr.heap.size wr (wr.alloc (.cells #[.int .i64 op, .int .i64 xa, .int .i64 xb, .int .i64 k] 112)) := (Below.refl _ _).alloc (Nat.le_refl _) _
      have hbr : Below wr.heap.size wr w3 := hbA.trans (hb3.mono hbA.size)
      have hn3 : w3.heap[wr.heap.size]? = some (.cells #[.int .i64 op, .int .i64 xa, .int .i64 xb, .int .i64 k] 112 (0, 0)) := by rw [hb3.block _ (by simp)]; exact heap_alloc_new _ _
      have hown3 := owns_on hown hbr
      have hbe3 : Below w.heap.size w w3 := hbe.trans (hbr.mono hbe.size)
      have hsz3 := hbe3.size
      have m0 : w3.cell? ⟨wr.heap.size, 0, none⟩ = some (.int .i64 op) := by rw [cell_of_row _ _ _ _ _ _ hn3]; rfl
      have m1 : w3.cell? ⟨wr.heap.size, 1, none⟩ = some (.int .i64 xa) := by rw [cell_of_row _ _ _ _ _ _ hn3]; rfl
      have m2 : w3.cell? ⟨wr.heap.size, 2, none⟩ = some (.int .i64 xb) := by rw [cell_of_row _ _ _ _ _ _ hn3]; rfl
      have m3 : w3.cell? ⟨wr.heap.size, 3, none⟩ = some (.int .i64 k) := by rw [cell_of_row _ _ _ _ _ _ hn3]; rfl
      have HN3 := hid_m hn3
      have HLW := hid_m (m_blk_lt hn3)
      clear hbA hbr hb3 hn3 d0 d1 d2 d3
      by_cases h11 : 11 ≤ op
      · rw [decide_eq_true h11]
        have HPL := hid_m (placeOf_any k (H.out.on hbe3) (HLX.out h11))
        obtain ⟨z, hz⟩ : ∃ z, P.at_ s.places k = z := ⟨_, rfl⟩
        rw [hz] at HPL
        have HTU : Hid (P.told s.places ⟨op, xa, xb, k⟩ = ⟨op, xa, xb, z⟩) := by unfold Hid P.told; rw [if_pos h11, hz]
        clear h11 hz
        go_wp2_with fail
        refine HPL.out.mono ?_
        rintro e wk ⟨rfl, hbk⟩
        have hnk : wk.heap[wr.heap.size]? = some (.cells #[.int .i64 op, .int .i64 xa, .int .i64 xb, .int .i64 k] 112 (0, 0)) := by rw [hbk.block _ HLW.out]; exact HN3.out
        have hownk := owns_on hown3 hbk
        have hbek : Below w.heap.size w wk := hbe3.trans (hbk.mono hbe3.size)
        have hszk := hbek.size
        have hlk := m_blk_lt hnk
        have q3 : wk.cell? ⟨wr.heap.size, 3, none⟩ = some (.int .i64 k) := by rw [cell_of_row _ _ _ _ _ _ hnk]; rfl
        have qf : wk.frozen? ⟨wr.heap.size, 3, none⟩ = false := by simp [World.frozen?, hnk]
        have hownS : (wk.setCell ⟨wr.heap.size, 3, none⟩ (.int .i64 z)).ownsRow w.heap.size 112 4 u3 t (codeCells (rs.take t)) := m_owns_of hownk (fun g' hg' => set_other (by have := (hown.lt g' hg').2; omega))
        have hbeS : Below w.heap.size w (wk.setCell ⟨wr.heap.size, 3, none⟩ (.int .i64 z)) := hbek.setCell hsz _
        have hnS : (wk.setCell ⟨wr.heap.size, 3, none⟩ (.int .i64 z)).heap[wr.heap.size]? = some (.cells #[.int .i64 op, .int .i64 xa, .int .i64 xb, .int .i64 z] 112 (0, 0)) := by simp [World.setCell, Array.getElem?_modify, hnk]
        have s0 : (wk.setCell ⟨wr.heap.size, 3, none⟩ (.int .i64 z)).cell? ⟨wr.heap.size, 0, none⟩ = some (.int .i64 op) := by rw [cell_of_row _ _ _ _ _ _ hnS]; rfl
        have s1 : (wk.setCell ⟨wr.heap.size, 3, none⟩ (.int .i64 z)).cell? ⟨wr.heap.size, 1, none⟩ = some (.int .i64 xa) := by rw [cell_of_row _ _ _ _ _ _ hnS]; rfl
        have s2 : (wk.setCell ⟨wr.heap.size, 3, none⟩ (.int .i64 z)).cell? ⟨wr.heap.size, 2, none⟩ = some (.int .i64 xb) := by rw [cell_of_row _ _ _ _ _ _ hnS]; rfl
        have s3 : (wk.setCell ⟨wr.heap.size, 3, none⟩ (.int .i64 z)).cell? ⟨wr.heap.size, 3, none⟩ = some (.int .i64 z) := by rw [cell_of_row _ _ _ _ _ _ hnS]; rfl
        clear hnS hnk hbk hownk m0 m1 m2 m3
        go_wp2_with (first
          | (at_builtin; refine wpList_append_lies _ rfl _ _ 73 rfl w.heap.size 112 i0 (.agg #[.int .i64 0, .int .i64 0, .int .i64 0, .int .i64 0]) 4 32 Tryz.underlying73 hi0 hz0 hz1 hz2 rfl (by decide) u3 t (codeCells (rs.take t)) rfl (hownS.alloc _) ⟨wk.heap.size, 0, none⟩ 1 1 (insCells ⟨op, xa, xb, z⟩) rfl rfl (four_new' (by simp) _ _ _ _ _) (fun x hx => by simp [insCells] at hx; rcases hx with rfl | rfl | rfl | rfl <;> rfl) (by omega) (by unfold maxLen; omega) (by omega) (by simp; omega) _ rfl ?_; intro g4 cap4 w4 hown' hgrow hat hlt'
             have hbe4 := m_grown_below hbeS hownS hgrow (Nat.le_refl _)))
        refine ⟨⟨t + 1, HTN.out, by first | (rw [HTW.out]; exact next_t) | exact next_t, ?_, hbe4⟩, by first | (rw [HTW.out]; exact less_t HTN.out) | exact less_t HTN.out⟩
        rw [HTS.out, HTU.out, codeCells_append]
        simpa [codeCells] using hown'
      · rw [decide_eq_false h11]
        have HTU : Hid (P.told s.places ⟨op, xa, xb, k⟩ = ⟨op, xa, xb, k⟩) := by unfold Hid P.told; rw [if_neg h11]
        clear h11
        go_wp2_with (first
          | (at_builtin; refine wpList_append_lies _ rfl _ _ 73 rfl w.heap.size 112 i0 (.agg #[.int .i64 0, .int .i64 0, .int .i64 0, .int .i64 0]) 4 32 Tryz.underlying73 hi0 hz0 hz1 hz2 rfl (by decide) u3 t (codeCells (rs.take t)) rfl (hown3.alloc _) ⟨w3.heap.size, 0, none⟩ 1 1 (insCells ⟨op, xa, xb, k⟩) rfl rfl (m_four_new _ _ _ _ _ _) (fun x hx => by simp [insCells] at hx; rcases hx with rfl | rfl | rfl | rfl <;> rfl) (by omega) (by unfold maxLen; omega) (by omega) (by simp; omega) _ rfl ?_; intro g4 cap4 w4 hown' hgrow hat hlt'
             have hbe4 := m_grown_below hbe3 hown3 hgrow (Nat.le_refl _)))
        refine ⟨⟨t + 1, HTN.out, by first | (rw [HTW.out]; exact next_t) | exact next_t, ?_, hbe4⟩, by first | (rw [HTW.out]; exact less_t HTN.out) | exact less_t HTN.out⟩
        rw [HTS.out, HTU.out, codeCells_append]
        simpa [codeCells] using hown'
    · have hte : t = n := by omega
      subst hte
      have htk : rs.take t = rs := List.take_of_length_le (Nat.le_of_eq HRL.out)
      rw [htk] at hown
      obtain ⟨g5, c5, hv5, _, _⟩ := hown.form h1
      subst hv5
      have HTX := hid_m (textOf_any rs g5 t c5 _ wr (by rw [HRL.out]; exact hn) (by rw [HRL.out]; exact h1) HSM.out (by rw [HRL.out]; exact hown))
      have HBE := hid_m hbe
      clear hown htk hlt ht hbe
      go_wp2_with fail
      refine HTX.out.mono ?_
      rintro e w5 ⟨rfl, hb5⟩
      have HB5 := hid_m (HBE.out.trans (hb5.mono HBE.out.size))
      clear hb5
      go_wp2_with fail
      go_ret
      exact ⟨rfl, HB5.out⟩
end Go.Proofs.YtghggcehloiemabGreatDoor
