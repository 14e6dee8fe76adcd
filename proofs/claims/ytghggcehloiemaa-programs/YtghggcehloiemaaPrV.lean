import Derived.Test.YtghggcehloiemaaPrZ
namespace Go.Proofs.Ytghggcehloiemaa
open Go.RowKit
set_option linter.unusedVariables false
set_option maxRecDepth 16000
namespace P
def W.present (s : W) (size : Nat) : W := ((((W.upTo (fun s i => s.move 5 i 6 i) ((((s.here 4).task 1 6).task 2 5).put 4 6 4 0) size).put 1 7 0 1).put 4 3 7 0).put 10 3 15 0).put 0 0 0 0
end P
set_option maxHeartbeats 4000000 in
theorem ppresent_any {w : World} {b sl : Nat} {kv vv lv : Value} {s : P.W} (kp vp : List Nat) (h : Wo w b kv vv sl s lv) (hk : Kp w b kv kp) (hv : Kp w b vv vp) (hk1 : 1 ≤ kp.length) (hv1 : 1 ≤ vp.length) (hkl : kp.length ≤ 100) (hvl : vp.length ≤ 100) (hn : s.list.length ≤ 70000) :
    Calls Try.prog 92 #[.pointer (some ⟨b, 0, none⟩)] w fun e w' => e = .returned (.tuple #[]) ∧ (∃ lv', Wo w' b kv vv sl (s.present (kp.length + vp.length)) lv') ∧ Below b w w' := by
  obtain ⟨f, hf⟩ : ∃ f : P.W → Nat → P.W, (fun s i => s.move 5 i 6 i) = f := ⟨_, rfl⟩
  obtain ⟨s0, hs0⟩ : ∃ s0, ((((s.here 4).task 1 6).task 2 5).put 4 6 4 0) = s0 := ⟨_, rfl⟩
  have hfl : ∀ t, (P.W.upTo f s0 t).list.length = s.list.length + 5 + 2 * t := fun t => by
    rw [← hf, P.upTo_len _ 2 (fun s i => by (repeat (first | rw [P.W.put_len] | rw [P.W.move_len]))), ← hs0]; (repeat (first | rw [P.W.put_len] | rw [P.W.here_len] | rw [P.W.task_len])); try omega
  have H := hid_m h
  have HB : Hid (Below b w w) := Below.refl _ _
  have HK := hid_m hk
  have HV := hid_m hv
  have HN := hid_m hn
  have HFE := hid_m hf
  have HFL := hid_m hfl
  have HS0 := hid_m hs0
  obtain ⟨bv, hov⟩ := hv.own
  obtain ⟨bk, hok⟩ := hk.own
  obtain ⟨gv, cv, hvv, _, _⟩ := hov.form hv1
  obtain ⟨gk, ck, hkv, _, _⟩ := hok.form hk1
  obtain ⟨nv, hnv⟩ : ∃ n, vp.length = n := ⟨_, rfl⟩
  obtain ⟨nk, hnk⟩ : ∃ n, kp.length = n := ⟨_, rfl⟩
  rw [hnv] at hvv hvl hv1
  rw [hnk] at hkv hkl hk1
  subst hvv
  subst hkv
  have HNV := hid_m hnv
  have HNK := hid_m hnk
  clear h hn hk hv hf hfl hs0 hov hok hnv hnk
  have z0 := H.out.c0
  have z1 := H.out.c1
  have z2 := H.out.c2
  go_enter Try.func92, Try.ntmps92
  go_wp2_with fail
  refine (entry_any gk ck gv cv nk nv sl _ hkl hvl).mono ?_
  rintro e wz ⟨rfl, hbz⟩
  have HZ := hid_m (H.out.on hbz)
  have HBZ : Hid (Below b w wz) := hbz.mono (Nat.le_of_lt H.out.lt)
  clear hbz z0 z1 z2
  obtain ⟨nn, hnn⟩ : ∃ nn, nk + nv = nn := ⟨_, rfl⟩
  rw [hnn]
  have HNN := hid_m hnn
  have hnl : nn ≤ 200 := by omega
  clear hnn
  go_wp2_with fail
  refine (where_any 4 HZ.out (by decide) (by have := HN.out; (repeat (first | rw [P.W.put_len] | rw [P.W.here_len] | rw [P.W.task_len] | rw [P.W.move_len])); omega)).mono ?_
  rintro e wp0 ⟨rfl, hw, hb⟩
  have P0 := hid_m hw
  have PB0 := hid_m (HBZ.out.trans hb)
  have c0 := hw.c0
  have c1 := hw.c1
  have c2 := hw.c2
  clear hw hb
  go_wp2_with fail
  clear c0 c1 c2
  refine (ptask_any 1 6 P0.out (by have := HN.out; (repeat (first | rw [P.W.put_len] | rw [P.W.here_len] | rw [P.W.task_len] | rw [P.W.move_len])); omega)).mono ?_
  rintro e wp1 ⟨rfl, ⟨lvp1, hw⟩, hb⟩
  have P1 := hid_m hw
  have PB1 := hid_m (PB0.out.trans hb)
  have c0 := hw.c0
  have c1 := hw.c1
  have c2 := hw.c2
  clear hw hb
  go_wp2_with fail
  clear c0 c1 c2
  refine (ptask_any 2 5 P1.out (by have := HN.out; (repeat (first | rw [P.W.put_len] | rw [P.W.here_len] | rw [P.W.task_len] | rw [P.W.move_len])); omega)).mono ?_
  rintro e wp2 ⟨rfl, ⟨lvp2, hw⟩, hb⟩
  have P2 := hid_m hw
  have PB2 := hid_m (PB1.out.trans hb)
  have c0 := hw.c0
  have c1 := hw.c1
  have c2 := hw.c2
  clear hw hb
  go_wp2_with fail
  clear c0 c1 c2
  refine (wsub_any 6 4 P2.out (by have := HN.out; (repeat (first | rw [P.W.put_len] | rw [P.W.here_len] | rw [P.W.task_len] | rw [P.W.move_len])); omega)).mono ?_
  rintro e wp3 ⟨rfl, ⟨lvp3, hw⟩, hb⟩
  have P3 := hid_m hw
  have PB3 := hid_m (PB2.out.trans hb)
  have c0 := hw.c0
  have c1 := hw.c1
  have c2 := hw.c2
  clear hw hb
  go_wp2_with fail
  have es : ((((s.here 4).task 1 6).task 2 5).put 4 6 4 0) = s0 := by rw [← HS0.out]
  have HI0 := P3
  rw [es] at HI0
  clear es
  go_loopw [3] (fun j wr => ∃ (t : Nat), t ≤ nn ∧ j = .int .i64 t ∧ Hid (∃ lv', Wo wr b (.slice (some ⟨gk, 0, none⟩) nk ck) (.slice (some ⟨gv, 0, none⟩) nv cv) sl (P.W.upTo f s0 t) lv') ∧ Hid (Below b w wr)) (fun j _ => nn - (intOf j).toNat)
  case atStart => exact ⟨0, Nat.zero_le _, rfl, ⟨_, HI0.out⟩, PB3.out⟩
  case round =>
    obtain ⟨t, ht, rfl, HL, HBR⟩ := hrel
    obtain ⟨lv', hl⟩ := HL.out
    have c0 := hl.c0
    by_cases hlt : t < nn
    · have j0 : (0 : Int) ≤ (t : Int) := Int.natCast_nonneg t
      have j1 : (t : Int) < (nn : Int) := by omega
      have HTW : Hid (wrap64 ((t : Int) + 1) = (t : Int) + 1) := w64_id _ (by omega) (by omega)
      have HTN : Hid (t + 1 ≤ nn) := hlt
      have HH := hid_m hl
      have HTL : Hid (t ≤ 200) := by unfold Hid; omega
      clear hl ht hlt
      go_wp2_with fail
      refine (pmove_any 5 t 6 t HH.out (by (repeat (first | rw [P.W.put_len] | rw [P.W.here_len] | rw [P.W.task_len] | rw [P.W.move_len])); rw [HFL.out]; have := HN.out; have := HTL.out; omega)).mono ?_
      rintro e wq0 ⟨rfl, ⟨lvq0, hw⟩, hb⟩
      have Q0 := hid_m hw
      have QB0 := hid_m (HBR.out.trans hb)
      clear hw hb
      go_wp2_with fail
      have e : P.W.upTo f s0 (t + 1) = (P.W.upTo f s0 t).move 5 t 6 t := by show f _ t = _; rw [← HFE.out]
      exact ⟨⟨t + 1, HTN.out, by first | (rw [HTW.out]; exact next_t) | exact next_t, ⟨_, by rw [e]; exact Q0.out⟩, QB0.out⟩, by first | (rw [HTW.out]; exact less_t HTN.out) | exact less_t HTN.out⟩
    · have hte : t = nn := by omega
      subst hte
      have HH := hid_m hl
      clear hl ht hlt
      go_wp2_with fail
      refine (wnumber_any 7 1 HH.out (by (repeat (first | rw [P.W.put_len] | rw [P.W.here_len] | rw [P.W.task_len] | rw [P.W.move_len])); rw [HFL.out]; have := HN.out; omega)).mono ?_
      rintro e ws0 ⟨rfl, ⟨lvs0, hw⟩, hb⟩
      have S0 := hid_m hw
      have SB0 := hid_m (HBR.out.trans hb)
      clear hw hb
      go_wp2_with fail
      refine (wsub_any 3 7 S0.out (by (repeat (first | rw [P.W.put_len] | rw [P.W.here_len] | rw [P.W.task_len] | rw [P.W.move_len])); rw [HFL.out]; have := HN.out; omega)).mono ?_
      rintro e ws1 ⟨rfl, ⟨lvs1, hw⟩, hb⟩
      have S1 := hid_m hw
      have SB1 := hid_m (SB0.out.trans hb)
      clear hw hb
      go_wp2_with fail
      refine (wstore_any 3 15 0 S1.out (by (repeat (first | rw [P.W.put_len] | rw [P.W.here_len] | rw [P.W.task_len] | rw [P.W.move_len])); rw [HFL.out]; have := HN.out; omega)).mono ?_
      rintro e ws2 ⟨rfl, ⟨lvs2, hw⟩, hb⟩
      have S2 := hid_m hw
      have SB2 := hid_m (SB1.out.trans hb)
      clear hw hb
      go_wp2_with fail
      refine (wend_any 0 S2.out (by (repeat (first | rw [P.W.put_len] | rw [P.W.here_len] | rw [P.W.task_len] | rw [P.W.move_len])); rw [HFL.out]; have := HN.out; omega)).mono ?_
      rintro e ws3 ⟨rfl, ⟨lvs3, hw⟩, hb⟩
      have S3 := hid_m hw
      have SB3 := hid_m (SB2.out.trans hb)
      clear hw hb
      go_wp2_with fail
      go_end0
      have e : ((((P.W.upTo f s0 t).put 1 7 0 1).put 4 3 7 0).put 10 3 15 0).put 0 0 0 0 = s.present (kp.length + vp.length) := by rw [← HFE.out, ← HS0.out, HNK.out, HNV.out, HNN.out]; rfl
      exact ⟨rfl, ⟨_, by rw [← e]; exact S3.out⟩, SB3.out⟩
end Go.Proofs.Ytghggcehloiemaa
