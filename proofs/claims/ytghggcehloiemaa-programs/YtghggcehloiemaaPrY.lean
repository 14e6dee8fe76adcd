import Derived.Test.YtghggcehloiemaaPrX
namespace Go.Proofs.Ytghggcehloiemaa
open Go.RowKit
set_option linter.unusedVariables false
set_option maxRecDepth 16000
namespace P
def W.upTo (f : W → Nat → W) (s : W) : Nat → W
  | 0 => s
  | t + 1 => f (W.upTo f s t) t
def at_ (l : List Nat) (i : Nat) : Nat := l[i]?.getD 0
def W.lay (s : W) (kl : Nat) (vp : List Nat) : W := (W.upTo (fun s i => s.move 5 (kl + i) 2 (at_ vp i)) (s.here 5) vp.length).put 0 0 0 0
def W.give (s : W) (kl : Nat) (vp : List Nat) : W := (W.upTo (fun s i => s.move 2 (at_ vp i) 5 (kl + i)) (s.here 6) vp.length).put 0 0 0 0
def W.absent (s : W) (kp : List Nat) (sl : Nat) : W := (((((W.upTo (fun s i => s.move 5 i 1 (at_ kp i)) (((((s.here 3).put 1 7 0 2).put 13 0 7 9).put 1 7 0 sl).put 12 3 7 10) kp.length).put 1 7 0 1).put 3 3 7 0).put 10 3 15 0).put 11 0 0 5)
theorem upTo_len (f : W → Nat → W) (d : Nat) (hf : ∀ s i, (f s i).list.length = s.list.length + d) (s : W) (t : Nat) : (W.upTo f s t).list.length = s.list.length + d * t := by
  induction t with
  | zero => rfl
  | succ t ih => show (f (W.upTo f s t) t).list.length = _; rw [hf, ih, Nat.mul_succ]; omega
end P
/-- A row of places, below block b. -/
structure Kp (w : World) (b : Nat) (v : Value) (kp : List Nat) : Prop where
  own : ∃ base, w.ownsRow base 3 1 v kp.length (kp.map natV)
  low : ∀ g, v.ownBlock = some g → g < b
theorem Kp.on {w w' : World} {b : Nat} {v : Value} {kp : List Nat} (h : Kp w b v kp) (hb : Below b w w') : Kp w' b v kp := by
  obtain ⟨⟨base, ho⟩, hl⟩ := h
  exact ⟨⟨base, m_owns_of ho (fun g hg => hb.block g (hl g hg))⟩, hl⟩

set_option maxHeartbeats 4000000 in
theorem play_any {w : World} {b sl : Nat} {kv vv lv : Value} {s : P.W} (kp vp : List Nat) (h : Wo w b kv vv sl s lv) (hk : Kp w b kv kp) (hv : Kp w b vv vp) (hk1 : 1 ≤ kp.length) (hv1 : 1 ≤ vp.length) (hkl : kp.length ≤ 100) (hvl : vp.length ≤ 100) (hn : s.list.length ≤ 70000) :
    Calls Try.prog 93 #[.pointer (some ⟨b, 0, none⟩)] w fun e w' => e = .returned (.tuple #[]) ∧ (∃ lv', Wo w' b kv vv sl (s.lay kp.length vp) lv') ∧ Below b w w' := by
  obtain ⟨f, hf⟩ : ∃ f : P.W → Nat → P.W, (fun s i => s.move 5 (kp.length + i) 2 (P.at_ vp i)) = f := ⟨_, rfl⟩
  obtain ⟨s0, hs0⟩ : ∃ s0, s.here 5 = s0 := ⟨_, rfl⟩
  have hfl : ∀ t, (P.W.upTo f s0 t).list.length = s.list.length + 0 + 2 * t := fun t => by
    rw [← hf, P.upTo_len _ 2 (fun s i => by (repeat (first | rw [P.W.put_len] | rw [P.W.move_len]))), ← hs0]; (repeat (first | rw [P.W.put_len] | rw [P.W.here_len])); try omega
  have H := hid_m h
  have HB : Hid (Below b w w) := Below.refl _ _
  have HK := hid_m hk
  have HV := hid_m hv
  have HN := hid_m hn
  have HFE := hid_m hf
  have HFL := hid_m hfl
  have HS0 := hid_m hs0
  obtain ⟨bv, hov⟩ := hv.own
  obtain ⟨bk, hok⟩ := hk.own
  obtain ⟨gv, cv, hvv, _, _⟩ := hov.form hv1
  obtain ⟨gk, ck, hkv, _, _⟩ := hok.form hk1
  obtain ⟨nv, hnv⟩ : ∃ n, vp.length = n := ⟨_, rfl⟩
  obtain ⟨nk, hnk⟩ : ∃ n, kp.length = n := ⟨_, rfl⟩
  rw [hnv] at hvv hvl hv1
  rw [hnk] at hkv hkl hk1
  subst hvv
  subst hkv
  have HNV := hid_m hnv
  have HNK := hid_m hnk
  clear h hn hk hv hf hfl hs0 hov hok hnv hnk
  go_enter Try.func93, Try.ntmps93
  go_wp2_with fail
  refine (where_any 5 H.out (by decide) (by have := HN.out; (repeat (first | rw [P.W.put_len] | rw [P.W.here_len] | rw [P.W.task_len] | rw [P.W.move_len])); omega)).mono ?_
  rintro e wp0 ⟨rfl, hw, hb⟩
  have P0 := hid_m hw
  have PB0 := hid_m (HB.out.trans hb)
  have c0 := hw.c0
  have c1 := hw.c1
  have c2 := hw.c2
  clear hw hb
  go_wp2_with fail
  have HI0 := P0
  rw [HS0.out] at HI0
  go_loopw [14] (fun j wr => ∃ (t : Nat), t ≤ nv ∧ j = .int .i64 t ∧ Hid (∃ lv', Wo wr b (.slice (some ⟨gk, 0, none⟩) nk ck) (.slice (some ⟨gv, 0, none⟩) nv cv) sl (P.W.upTo f s0 t) lv') ∧ Hid (Below b w wr)) (fun j _ => nv - (intOf j).toNat)
  case atStart => exact ⟨0, Nat.zero_le _, rfl, ⟨_, HI0.out⟩, PB0.out⟩
  case round =>
    obtain ⟨t, ht, rfl, HL, HBR⟩ := hrel
    obtain ⟨lv', hl⟩ := HL.out
    have c0 := hl.c0
    by_cases hlt : t < nv
    · obtain ⟨p, hp⟩ : ∃ p, vp[t]? = some p := ⟨_, List.getElem?_eq_getElem (by have := HNV.out; omega)⟩
      obtain ⟨bv2, hov2⟩ := (HV.out.on HBR.out).own
      have cp : wr.cell? ⟨gv, t, none⟩ = some (.int .i64 p) := row1_cell hov2 (by simp) (by rw [List.getElem?_map, hp]; rfl)
      have HPE : Hid (P.at_ vp t = p) := by unfold Hid P.at_; rw [hp]; rfl
      have j0 : (0 : Int) ≤ (t : Int) := Int.natCast_nonneg t
      have j1 : (t : Int) < (nv : Int) := by omega
      have HTW : Hid (wrap64 ((t : Int) + 1) = (t : Int) + 1) := w64_id _ (by omega) (by omega)
      have hkt : wrap64 ((nk : Int) + (t : Int)) = ((nk + t : Nat) : Int) := by rw [w64_id _ (by omega) (by omega)]; rfl
      have HTN : Hid (t + 1 ≤ nv) := hlt
      have HH := hid_m hl
      have HTL : Hid (t ≤ 100) := by unfold Hid; omega
      clear hp hov2 hl ht hlt
      go_wp2_with fail
      refine (pmove_any 5 (nk + t) 2 p HH.out (by (repeat (first | rw [P.W.put_len] | rw [P.W.here_len] | rw [P.W.task_len] | rw [P.W.move_len])); rw [HFL.out]; have := HN.out; have := HTL.out; omega)).mono ?_
      rintro e wq0 ⟨rfl, ⟨lvq0, hw⟩, hb⟩
      have Q0 := hid_m hw
      have QB0 := hid_m (HBR.out.trans hb)
      clear hw hb
      go_wp2_with fail
      have e : P.W.upTo f s0 (t + 1) = (P.W.upTo f s0 t).move 5 (nk + t) 2 p := by show f _ t = _; rw [← HFE.out]; simp only [HPE.out, HNK.out]
      exact ⟨⟨t + 1, HTN.out, by first | (rw [HTW.out]; exact next_t) | exact next_t, ⟨_, by rw [e]; exact Q0.out⟩, QB0.out⟩, by first | (rw [HTW.out]; exact less_t HTN.out) | exact less_t HTN.out⟩
    · have hte : t = nv := by omega
      subst hte
      have HH := hid_m hl
      clear hl ht hlt
      go_wp2_with fail
      refine (wend_any 0 HH.out (by (repeat (first | rw [P.W.put_len] | rw [P.W.here_len] | rw [P.W.task_len] | rw [P.W.move_len])); rw [HFL.out]; have := HN.out; omega)).mono ?_
      rintro e ws0 ⟨rfl, ⟨lvs0, hw⟩, hb⟩
      have S0 := hid_m hw
      have SB0 := hid_m (HBR.out.trans hb)
      clear hw hb
      go_wp2_with fail
      go_end0
      have e : (P.W.upTo f s0 t).put 0 0 0 0 = s.lay kp.length vp := by rw [← HFE.out, ← HS0.out, ← HNV.out]; rfl
      exact ⟨rfl, ⟨_, by rw [← e]; exact S0.out⟩, SB0.out⟩
set_option maxHeartbeats 4000000 in
theorem pgive_any {w : World} {b sl : Nat} {kv vv lv : Value} {s : P.W} (kp vp : List Nat) (h : Wo w b kv vv sl s lv) (hk : Kp w b kv kp) (hv : Kp w b vv vp) (hk1 : 1 ≤ kp.length) (hv1 : 1 ≤ vp.length) (hkl : kp.length ≤ 100) (hvl : vp.length ≤ 100) (hn : s.list.length ≤ 70000) :
    Calls Try.prog 94 #[.pointer (some ⟨b, 0, none⟩)] w fun e w' => e = .returned (.tuple #[]) ∧ (∃ lv', Wo w' b kv vv sl (s.give kp.length vp) lv') ∧ Below b w w' := by
  obtain ⟨f, hf⟩ : ∃ f : P.W → Nat → P.W, (fun s i => s.move 2 (P.at_ vp i) 5 (kp.length + i)) = f := ⟨_, rfl⟩
  obtain ⟨s0, hs0⟩ : ∃ s0, s.here 6 = s0 := ⟨_, rfl⟩
  have hfl : ∀ t, (P.W.upTo f s0 t).list.length = s.list.length + 0 + 2 * t := fun t => by
    rw [← hf, P.upTo_len _ 2 (fun s i => by (repeat (first | rw [P.W.put_len] | rw [P.W.move_len]))), ← hs0]; (repeat (first | rw [P.W.put_len] | rw [P.W.here_len])); try omega
  have H := hid_m h
  have HB : Hid (Below b w w) := Below.refl _ _
  have HK := hid_m hk
  have HV := hid_m hv
  have HN := hid_m hn
  have HFE := hid_m hf
  have HFL := hid_m hfl
  have HS0 := hid_m hs0
  obtain ⟨bv, hov⟩ := hv.own
  obtain ⟨bk, hok⟩ := hk.own
  obtain ⟨gv, cv, hvv, _, _⟩ := hov.form hv1
  obtain ⟨gk, ck, hkv, _, _⟩ := hok.form hk1
  obtain ⟨nv, hnv⟩ : ∃ n, vp.length = n := ⟨_, rfl⟩
  obtain ⟨nk, hnk⟩ : ∃ n, kp.length = n := ⟨_, rfl⟩
  rw [hnv] at hvv hvl hv1
  rw [hnk] at hkv hkl hk1
  subst hvv
  subst hkv
  have HNV := hid_m hnv
  have HNK := hid_m hnk
  clear h hn hk hv hf hfl hs0 hov hok hnv hnk
  go_enter Try.func94, Try.ntmps94
  go_wp2_with fail
  refine (where_any 6 H.out (by decide) (by have := HN.out; (repeat (first | rw [P.W.put_len] | rw [P.W.here_len] | rw [P.W.task_len] | rw [P.W.move_len])); omega)).mono ?_
  rintro e wp0 ⟨rfl, hw, hb⟩
  have P0 := hid_m hw
  have PB0 := hid_m (HB.out.trans hb)
  have c0 := hw.c0
  have c1 := hw.c1
  have c2 := hw.c2
  clear hw hb
  go_wp2_with fail
  have HI0 := P0
  rw [HS0.out] at HI0
  go_loopw [14] (fun j wr => ∃ (t : Nat), t ≤ nv ∧ j = .int .i64 t ∧ Hid (∃ lv', Wo wr b (.slice (some ⟨gk, 0, none⟩) nk ck) (.slice (some ⟨gv, 0, none⟩) nv cv) sl (P.W.upTo f s0 t) lv') ∧ Hid (Below b w wr)) (fun j _ => nv - (intOf j).toNat)
  case atStart => exact ⟨0, Nat.zero_le _, rfl, ⟨_, HI0.out⟩, PB0.out⟩
  case round =>
    obtain ⟨t, ht, rfl, HL, HBR⟩ := hrel
    obtain ⟨lv', hl⟩ := HL.out
    have c0 := hl.c0
    by_cases hlt : t < nv
    · obtain ⟨p, hp⟩ : ∃ p, vp[t]? = some p := ⟨_, List.getElem?_eq_getElem (by have := HNV.out; omega)⟩
      obtain ⟨bv2, hov2⟩ := (HV.out.on HBR.out).own
      have cp : wr.cell? ⟨gv, t, none⟩ = some (.int .i64 p) := row1_cell hov2 (by simp) (by rw [List.getElem?_map, hp]; rfl)
      have HPE : Hid (P.at_ vp t = p) := by unfold Hid P.at_; rw [hp]; rfl
      have j0 : (0 : Int) ≤ (t : Int) := Int.natCast_nonneg t
      have j1 : (t : Int) < (nv : Int) := by omega
      have HTW : Hid (wrap64 ((t : Int) + 1) = (t : Int) + 1) := w64_id _ (by omega) (by omega)
      have hkt : wrap64 ((nk : Int) + (t : Int)) = ((nk + t : Nat) : Int) := by rw [w64_id _ (by omega) (by omega)]; rfl
      have HTN : Hid (t + 1 ≤ nv) := hlt
      have HH := hid_m hl
      have HTL : Hid (t ≤ 100) := by unfold Hid; omega
      clear hp hov2 hl ht hlt
      go_wp2_with fail
      refine (pmove_any 2 p 5 (nk + t) HH.out (by (repeat (first | rw [P.W.put_len] | rw [P.W.here_len] | rw [P.W.task_len] | rw [P.W.move_len])); rw [HFL.out]; have := HN.out; have := HTL.out; omega)).mono ?_
      rintro e wq0 ⟨rfl, ⟨lvq0, hw⟩, hb⟩
      have Q0 := hid_m hw
      have QB0 := hid_m (HBR.out.trans hb)
      clear hw hb
      go_wp2_with fail
      have e : P.W.upTo f s0 (t + 1) = (P.W.upTo f s0 t).move 2 p 5 (nk + t) := by show f _ t = _; rw [← HFE.out]; simp only [HPE.out, HNK.out]
      exact ⟨⟨t + 1, HTN.out, by first | (rw [HTW.out]; exact next_t) | exact next_t, ⟨_, by rw [e]; exact Q0.out⟩, QB0.out⟩, by first | (rw [HTW.out]; exact less_t HTN.out) | exact less_t HTN.out⟩
    · have hte : t = nv := by omega
      subst hte
      have HH := hid_m hl
      clear hl ht hlt
      go_wp2_with fail
      refine (wend_any 0 HH.out (by (repeat (first | rw [P.W.put_len] | rw [P.W.here_len] | rw [P.W.task_len] | rw [P.W.move_len])); rw [HFL.out]; have := HN.out; omega)).mono ?_
      rintro e ws0 ⟨rfl, ⟨lvs0, hw⟩, hb⟩
      have S0 := hid_m hw
      have SB0 := hid_m (HBR.out.trans hb)
      clear hw hb
      go_wp2_with fail
      go_end0
      have e : (P.W.upTo f s0 t).put 0 0 0 0 = s.give kp.length vp := by rw [← HFE.out, ← HS0.out, ← HNV.out]; rfl
      exact ⟨rfl, ⟨_, by rw [← e]; exact S0.out⟩, SB0.out⟩
end Go.Proofs.Ytghggcehloiemaa
