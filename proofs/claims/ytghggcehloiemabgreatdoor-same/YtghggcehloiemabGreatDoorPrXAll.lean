import Derived.Test.YtghggcehloiemabGreatDoorPrW
import Derived.Deep.RegionHeld3
namespace Go.Proofs.YtghggcehloiemabGreatDoor
open Go.RowKit
set_option linter.unusedVariables false
set_option maxRecDepth 16000
namespace P
def W.task (s : W) (wanted label : Nat) : W := (s.put 1 7 0 wanted).put 12 0 7 label
def W.move (s : W) (to tp from_ fp : Nat) : W := (s.put 9 8 from_ fp).put 10 8 to tp
theorem W.put_len (s : W) (op a b k : Nat) : (s.put op a b k).list.length = s.list.length + 1 := by simp [W.put]
theorem W.here_len (s : W) (l : Nat) : (s.here l).list.length = s.list.length := rfl
theorem W.task_len (s : W) (wanted label : Nat) : (s.task wanted label).list.length = s.list.length + 1 + 1 := by simp [W.task, W.put]
theorem W.move_len (s : W) (to tp from_ fp : Nat) : (s.move to tp from_ fp).list.length = s.list.length + 1 + 1 := by simp [W.move, W.put]
def W.choose (s : W) : W := ((((((s.task 1 0).task 2 0).task 3 0).task 4 7).task 5 8).put 0 0 0 3)
def W.tell (s : W) : W := ((s.here 7).put 9 0 15 0).put 0 0 0 0
def W.empty (s : W) : W := ((s.here 8).put 10 15 15 0).put 0 0 0 0
def W.refuse (s : W) : W := (((s.here 9).put 0 0 0 1).here 10).put 0 0 0 2
end P
set_option maxHeartbeats 1000000 in
theorem ptask_any {w : World} {b sl : Nat} {kv vv lv : Value} {s : P.W} (wanted : Nat) (label : Nat) (h : Wo w b kv vv sl s lv) (hn : s.list.length ≤ 90000) :
    Calls Tryz.prog 99 #[.pointer (some ⟨b, 0, none⟩), .int .i64 wanted, .int .i64 label] w fun e w' => e = .returned (.tuple #[]) ∧ (∃ lv', Wo w' b kv vv sl (s.task wanted label) lv') ∧ Below b w w' := by
  have H := hid_m h
  have HB : Hid (Below b w w) := Below.refl _ _
  have HN := hid_m hn
  clear h hn
  go_enter Tryz.func99, Tryz.ntmps99
  go_wp2_with fail
  refine (wnumber_any 7 wanted H.out (by have := HN.out; (repeat (first | rw [P.W.put_len] | rw [P.W.here_len] | rw [P.W.task_len] | rw [P.W.move_len])); omega)).mono ?_
  rintro e w0 ⟨rfl, ⟨lv0, hw0⟩, hb0⟩
  have H0 := hid_m hw0
  have HB0 := hid_m (HB.out.trans hb0)
  clear hw0 hb0
  go_wp2_with fail
  refine (wsame_any 0 7 label H0.out (by have := HN.out; (repeat (first | rw [P.W.put_len] | rw [P.W.here_len] | rw [P.W.task_len] | rw [P.W.move_len])); omega)).mono ?_
  rintro e w1 ⟨rfl, ⟨lv1, hw1⟩, hb1⟩
  have H1 := hid_m hw1
  have HB1 := hid_m (HB0.out.trans hb1)
  clear hw1 hb1
  go_wp2_with fail
  go_end0
  exact ⟨rfl, ⟨_, H1.out⟩, HB1.out⟩
set_option maxHeartbeats 1000000 in
theorem pmove_any {w : World} {b sl : Nat} {kv vv lv : Value} {s : P.W} (to : Nat) (tp : Nat) (fr : Nat) (fp : Nat) (h : Wo w b kv vv sl s lv) (hn : s.list.length ≤ 90000) :
    Calls Tryz.prog 111 #[.pointer (some ⟨b, 0, none⟩), .int .i64 to, .int .i64 tp, .int .i64 fr, .int .i64 fp] w fun e w' => e = .returned (.tuple #[]) ∧ (∃ lv', Wo w' b kv vv sl (s.move to tp fr fp) lv') ∧ Below b w w' := by
  have H := hid_m h
  have HB : Hid (Below b w w) := Below.refl _ _
  have HN := hid_m hn
  clear h hn
  go_enter Tryz.func111, Tryz.ntmps111
  go_wp2_with fail
  refine (wload_any 8 fr fp H.out (by have := HN.out; (repeat (first | rw [P.W.put_len] | rw [P.W.here_len] | rw [P.W.task_len] | rw [P.W.move_len])); omega)).mono ?_
  rintro e w0 ⟨rfl, ⟨lv0, hw0⟩, hb0⟩
  have H0 := hid_m hw0
  have HB0 := hid_m (HB.out.trans hb0)
  clear hw0 hb0
  go_wp2_with fail
  refine (wstore_any 8 to tp H0.out (by have := HN.out; (repeat (first | rw [P.W.put_len] | rw [P.W.here_len] | rw [P.W.task_len] | rw [P.W.move_len])); omega)).mono ?_
  rintro e w1 ⟨rfl, ⟨lv1, hw1⟩, hb1⟩
  have H1 := hid_m hw1
  have HB1 := hid_m (HB0.out.trans hb1)
  clear hw1 hb1
  go_wp2_with fail
  go_end0
  exact ⟨rfl, ⟨_, H1.out⟩, HB1.out⟩
set_option maxHeartbeats 1000000 in
theorem pchoose_any {w : World} {b sl : Nat} {kv vv lv : Value} {s : P.W} (h : Wo w b kv vv sl s lv) (hn : s.list.length ≤ 80000) :
    Calls Tryz.prog 55 #[.pointer (some ⟨b, 0, none⟩)] w fun e w' => e = .returned (.tuple #[]) ∧ (∃ lv', Wo w' b kv vv sl s.choose lv') ∧ Below b w w' := by
  have H := hid_m h
  have HB : Hid (Below b w w) := Below.refl _ _
  have HN := hid_m hn
  clear h hn
  go_enter Tryz.func55, Tryz.ntmps55
  go_wp2_with fail
  refine (ptask_any 1 0 H.out (by have := HN.out; (repeat (first | rw [P.W.put_len] | rw [P.W.here_len] | rw [P.W.task_len] | rw [P.W.move_len])); omega)).mono ?_
  rintro e w0 ⟨rfl, ⟨lv0, hw0⟩, hb0⟩
  have H0 := hid_m hw0
  have HB0 := hid_m (HB.out.trans hb0)
  clear hw0 hb0
  go_wp2_with fail
  refine (ptask_any 2 0 H0.out (by have := HN.out; (repeat (first | rw [P.W.put_len] | rw [P.W.here_len] | rw [P.W.task_len] | rw [P.W.move_len])); omega)).mono ?_
  rintro e w1 ⟨rfl, ⟨lv1, hw1⟩, hb1⟩
  have H1 := hid_m hw1
  have HB1 := hid_m (HB0.out.trans hb1)
  clear hw1 hb1
  go_wp2_with fail
  refine (ptask_any 3 0 H1.out (by have := HN.out; (repeat (first | rw [P.W.put_len] | rw [P.W.here_len] | rw [P.W.task_len] | rw [P.W.move_len])); omega)).mono ?_
  rintro e w2 ⟨rfl, ⟨lv2, hw2⟩, hb2⟩
  have H2 := hid_m hw2
  have HB2 := hid_m (HB1.out.trans hb2)
  clear hw2 hb2
  go_wp2_with fail
  refine (ptask_any 4 7 H2.out (by have := HN.out; (repeat (first | rw [P.W.put_len] | rw [P.W.here_len] | rw [P.W.task_len] | rw [P.W.move_len])); omega)).mono ?_
  rintro e w3 ⟨rfl, ⟨lv3, hw3⟩, hb3⟩
  have H3 := hid_m hw3
  have HB3 := hid_m (HB2.out.trans hb3)
  clear hw3 hb3
  go_wp2_with fail
  refine (ptask_any 5 8 H3.out (by have := HN.out; (repeat (first | rw [P.W.put_len] | rw [P.W.here_len] | rw [P.W.task_len] | rw [P.W.move_len])); omega)).mono ?_
  rintro e w4 ⟨rfl, ⟨lv4, hw4⟩, hb4⟩
  have H4 := hid_m hw4
  have HB4 := hid_m (HB3.out.trans hb4)
  clear hw4 hb4
  go_wp2_with fail
  refine (wend_any 3 H4.out (by have := HN.out; (repeat (first | rw [P.W.put_len] | rw [P.W.here_len] | rw [P.W.task_len] | rw [P.W.move_len])); omega)).mono ?_
  rintro e w5 ⟨rfl, ⟨lv5, hw5⟩, hb5⟩
  have H5 := hid_m hw5
  have HB5 := hid_m (HB4.out.trans hb5)
  clear hw5 hb5
  go_wp2_with fail
  go_end0
  exact ⟨rfl, ⟨_, H5.out⟩, HB5.out⟩
set_option maxHeartbeats 1000000 in
theorem ptell_any {w : World} {b sl : Nat} {kv vv lv : Value} {s : P.W} (h : Wo w b kv vv sl s lv) (hn : s.list.length ≤ 80000) :
    Calls Tryz.prog 56 #[.pointer (some ⟨b, 0, none⟩)] w fun e w' => e = .returned (.tuple #[]) ∧ (∃ lv', Wo w' b kv vv sl s.tell lv') ∧ Below b w w' := by
  have H := hid_m h
  have HB : Hid (Below b w w) := Below.refl _ _
  have HN := hid_m hn
  clear h hn
  go_enter Tryz.func56, Tryz.ntmps56
  go_wp2_with fail
  refine (where_any 7 H.out (by decide) (by have := HN.out; (repeat (first | rw [P.W.put_len] | rw [P.W.here_len] | rw [P.W.task_len] | rw [P.W.move_len])); omega)).mono ?_
  rintro e w0 ⟨rfl, hw0, hb0⟩
  have H0 := hid_m hw0
  have HB0 := hid_m (HB.out.trans hb0)
  clear hw0 hb0
  go_wp2_with fail
  refine (wload_any 0 15 0 H0.out (by have := HN.out; (repeat (first | rw [P.W.put_len] | rw [P.W.here_len] | rw [P.W.task_len] | rw [P.W.move_len])); omega)).mono ?_
  rintro e w1 ⟨rfl, ⟨lv1, hw1⟩, hb1⟩
  have H1 := hid_m hw1
  have HB1 := hid_m (HB0.out.trans hb1)
  clear hw1 hb1
  go_wp2_with fail
  refine (wend_any 0 H1.out (by have := HN.out; (repeat (first | rw [P.W.put_len] | rw [P.W.here_len] | rw [P.W.task_len] | rw [P.W.move_len])); omega)).mono ?_
  rintro e w2 ⟨rfl, ⟨lv2, hw2⟩, hb2⟩
  have H2 := hid_m hw2
  have HB2 := hid_m (HB1.out.trans hb2)
  clear hw2 hb2
  go_wp2_with fail
  go_end0
  exact ⟨rfl, ⟨_, H2.out⟩, HB2.out⟩
set_option maxHeartbeats 1000000 in
theorem pempty_any {w : World} {b sl : Nat} {kv vv lv : Value} {s : P.W} (h : Wo w b kv vv sl s lv) (hn : s.list.length ≤ 80000) :
    Calls Tryz.prog 57 #[.pointer (some ⟨b, 0, none⟩)] w fun e w' => e = .returned (.tuple #[]) ∧ (∃ lv', Wo w' b kv vv sl s.empty lv') ∧ Below b w w' := by
  have H := hid_m h
  have HB : Hid (Below b w w) := Below.refl _ _
  have HN := hid_m hn
  clear h hn
  go_enter Tryz.func57, Tryz.ntmps57
  go_wp2_with fail
  refine (where_any 8 H.out (by decide) (by have := HN.out; (repeat (first | rw [P.W.put_len] | rw [P.W.here_len] | rw [P.W.task_len] | rw [P.W.move_len])); omega)).mono ?_
  rintro e w0 ⟨rfl, hw0, hb0⟩
  have H0 := hid_m hw0
  have HB0 := hid_m (HB.out.trans hb0)
  clear hw0 hb0
  go_wp2_with fail
  refine (wstore_any 15 15 0 H0.out (by have := HN.out; (repeat (first | rw [P.W.put_len] | rw [P.W.here_len] | rw [P.W.task_len] | rw [P.W.move_len])); omega)).mono ?_
  rintro e w1 ⟨rfl, ⟨lv1, hw1⟩, hb1⟩
  have H1 := hid_m hw1
  have HB1 := hid_m (HB0.out.trans hb1)
  clear hw1 hb1
  go_wp2_with fail
  refine (wend_any 0 H1.out (by have := HN.out; (repeat (first | rw [P.W.put_len] | rw [P.W.here_len] | rw [P.W.task_len] | rw [P.W.move_len])); omega)).mono ?_
  rintro e w2 ⟨rfl, ⟨lv2, hw2⟩, hb2⟩
  have H2 := hid_m hw2
  have HB2 := hid_m (HB1.out.trans hb2)
  clear hw2 hb2
  go_wp2_with fail
  go_end0
  exact ⟨rfl, ⟨_, H2.out⟩, HB2.out⟩
set_option maxHeartbeats 1000000 in
theorem prefuse_any {w : World} {b sl : Nat} {kv vv lv : Value} {s : P.W} (h : Wo w b kv vv sl s lv) (hn : s.list.length ≤ 80000) :
    Calls Tryz.prog 63 #[.pointer (some ⟨b, 0, none⟩)] w fun e w' => e = .returned (.tuple #[]) ∧ (∃ lv', Wo w' b kv vv sl s.refuse lv') ∧ Below b w w' := by
  have H := hid_m h
  have HB : Hid (Below b w w) := Below.refl _ _
  have HN := hid_m hn
  clear h hn
  go_enter Tryz.func63, Tryz.ntmps63
  go_wp2_with fail
  refine (where_any 9 H.out (by decide) (by have := HN.out; (repeat (first | rw [P.W.put_len] | rw [P.W.here_len] | rw [P.W.task_len] | rw [P.W.move_len])); omega)).mono ?_
  rintro e w0 ⟨rfl, hw0, hb0⟩
  have H0 := hid_m hw0
  have HB0 := hid_m (HB.out.trans hb0)
  clear hw0 hb0
  go_wp2_with fail
  refine (wend_any 1 H0.out (by have := HN.out; (repeat (first | rw [P.W.put_len] | rw [P.W.here_len] | rw [P.W.task_len] | rw [P.W.move_len])); omega)).mono ?_
  rintro e w1 ⟨rfl, ⟨lv1, hw1⟩, hb1⟩
  have H1 := hid_m hw1
  have HB1 := hid_m (HB0.out.trans hb1)
  clear hw1 hb1
  go_wp2_with fail
  refine (where_any 10 H1.out (by decide) (by have := HN.out; (repeat (first | rw [P.W.put_len] | rw [P.W.here_len] | rw [P.W.task_len] | rw [P.W.move_len])); omega)).mono ?_
  rintro e w2 ⟨rfl, hw2, hb2⟩
  have H2 := hid_m hw2
  have HB2 := hid_m (HB1.out.trans hb2)
  clear hw2 hb2
  go_wp2_with fail
  refine (wend_any 2 H2.out (by have := HN.out; (repeat (first | rw [P.W.put_len] | rw [P.W.here_len] | rw [P.W.task_len] | rw [P.W.move_len])); omega)).mono ?_
  rintro e w3 ⟨rfl, ⟨lv3, hw3⟩, hb3⟩
  have H3 := hid_m hw3
  have HB3 := hid_m (HB2.out.trans hb3)
  clear hw3 hb3
  go_wp2_with fail
  go_end0
  exact ⟨rfl, ⟨_, H3.out⟩, HB3.out⟩
end Go.Proofs.YtghggcehloiemabGreatDoor
namespace Go.Proofs.YtghggcehloiemabGreatDoor
open Go.RowKit
set_option linter.unusedVariables false
set_option maxRecDepth 16000
namespace P
def W.upTo (f : W → Nat → W) (s : W) : Nat → W
  | 0 => s
  | t + 1 => f (W.upTo f s t) t
def at_ (l : List Nat) (i : Nat) : Nat := l[i]?.getD 0
def W.lay (s : W) (kl : Nat) (vp : List Nat) : W := (W.upTo (fun s i => s.move 5 (kl + i) 2 (at_ vp i)) (s.here 5) vp.length).put 0 0 0 0
def W.give (s : W) (kl : Nat) (vp : List Nat) : W := (W.upTo (fun s i => s.move 2 (at_ vp i) 5 (kl + i)) (s.here 6) vp.length).put 0 0 0 0
def W.absent (s : W) (kp : List Nat) (sl : Nat) : W := (((((W.upTo (fun s i => s.move 5 i 1 (at_ kp i)) (((((s.here 3).put 1 7 0 2).put 13 0 7 9).put 1 7 0 sl).put 12 3 7 10) kp.length).put 1 7 0 1).put 3 3 7 0).put 10 3 15 0).put 11 0 0 5)
theorem upTo_len (f : W → Nat → W) (d : Nat) (hf : ∀ s i, (f s i).list.length = s.list.length + d) (s : W) (t : Nat) : (W.upTo f s t).list.length = s.list.length + d * t := by
  induction t with
  | zero => rfl
  | succ t ih => show (f (W.upTo f s t) t).list.length = _; rw [hf, ih, Nat.mul_succ]; omega
end P
/-- A row of places, below block b. -/
structure Kp (w : World) (b : Nat) (v : Value) (kp : List Nat) : Prop where
  own : ∃ base, w.ownsRow base 3 1 v kp.length (kp.map natV)
  low : ∀ g, v.ownBlock = some g → g < b
theorem Kp.on {w w' : World} {b : Nat} {v : Value} {kp : List Nat} (h : Kp w b v kp) (hb : Below b w w') : Kp w' b v kp := by
  obtain ⟨⟨base, ho⟩, hl⟩ := h
  exact ⟨⟨base, m_owns_of ho (fun g hg => hb.block g (hl g hg))⟩, hl⟩

set_option maxHeartbeats 4000000 in
theorem play_any {w : World} {b sl : Nat} {kv vv lv : Value} {s : P.W} (kp vp : List Nat) (h : Wo w b kv vv sl s lv) (hk : Kp w b kv kp) (hv : Kp w b vv vp) (hk1 : 1 ≤ kp.length) (hv1 : 1 ≤ vp.length) (hkl : kp.length ≤ 100) (hvl : vp.length ≤ 100) (hn : s.list.length ≤ 70000) :
    Calls Tryz.prog 61 #[.pointer (some ⟨b, 0, none⟩)] w fun e w' => e = .returned (.tuple #[]) ∧ (∃ lv', Wo w' b kv vv sl (s.lay kp.length vp) lv') ∧ Below b w w' := by
  obtain ⟨f, hf⟩ : ∃ f : P.W → Nat → P.W, (fun s i => s.move 5 (kp.length + i) 2 (P.at_ vp i)) = f := ⟨_, rfl⟩
  obtain ⟨s0, hs0⟩ : ∃ s0, s.here 5 = s0 := ⟨_, rfl⟩
  have hfl : ∀ t, (P.W.upTo f s0 t).list.length = s.list.length + 0 + 2 * t := fun t => by
    rw [← hf, P.upTo_len _ 2 (fun s i => by (repeat (first | rw [P.W.put_len] | rw [P.W.move_len]))), ← hs0]; (repeat (first | rw [P.W.put_len] | rw [P.W.here_len])); try omega
  have H := hid_m h
  have HB : Hid (Below b w w) := Below.refl _ _
  have HK := hid_m hk
  have HV := hid_m hv
  have HN := hid_m hn
  have HFE := hid_m hf
  have HFL := hid_m hfl
  have HS0 := hid_m hs0
  obtain ⟨bv, hov⟩ := hv.own
  obtain ⟨bk, hok⟩ := hk.own
  obtain ⟨gv, cv, hvv, _, _⟩ := hov.form hv1
  obtain ⟨gk, ck, hkv, _, _⟩ := hok.form hk1
  obtain ⟨nv, hnv⟩ : ∃ n, vp.length = n := ⟨_, rfl⟩
  obtain ⟨nk, hnk⟩ : ∃ n, kp.length = n := ⟨_, rfl⟩
  rw [hnv] at hvv hvl hv1
  rw [hnk] at hkv hkl hk1
  subst hvv
  subst hkv
  have HNV := hid_m hnv
  have HNK := hid_m hnk
  clear h hn hk hv hf hfl hs0 hov hok hnv hnk
  go_enter Tryz.func61, Tryz.ntmps61
  go_wp2_with fail
  refine (where_any 5 H.out (by decide) (by have := HN.out; (repeat (first | rw [P.W.put_len] | rw [P.W.here_len] | rw [P.W.task_len] | rw [P.W.move_len])); omega)).mono ?_
  rintro e wp0 ⟨rfl, hw, hb⟩
  have P0 := hid_m hw
  have PB0 := hid_m (HB.out.trans hb)
  have c0 := hw.c0
  have c1 := hw.c1
  have c2 := hw.c2
  clear hw hb
  go_wp2_with fail
  have HI0 := P0
  rw [HS0.out] at HI0
  go_loopw [14] (fun j wr => ∃ (t : Nat), t ≤ nv ∧ j = .int .i64 t ∧ Hid (∃ lv', Wo wr b (.slice (some ⟨gk, 0, none⟩) nk ck) (.slice (some ⟨gv, 0, none⟩) nv cv) sl (P.W.upTo f s0 t) lv') ∧ Hid (Below b w wr)) (fun j _ => nv - (intOf j).toNat)
  case atStart => exact ⟨0, Nat.zero_le _, rfl, ⟨_, HI0.out⟩, PB0.out⟩
  case round =>
    obtain ⟨t, ht, rfl, HL, HBR⟩ := hrel
    obtain ⟨lv', hl⟩ := HL.out
    have c0 := hl.c0
    by_cases hlt : t < nv
    · obtain ⟨p, hp⟩ : ∃ p, vp[t]? = some p := ⟨_, List.getElem?_eq_getElem (by have := HNV.out; omega)⟩
      obtain ⟨bv2, hov2⟩ := (HV.out.on HBR.out).own
      have cp : wr.cell? ⟨gv, t, none⟩ = some (.int .i64 p) := row1_cell hov2 (by simp) (by rw [List.getElem?_map, hp]; rfl)
      have HPE : Hid (P.at_ vp t = p) := by unfold Hid P.at_; rw [hp]; rfl
      have j0 : (0 : Int) ≤ (t : Int) := Int.natCast_nonneg t
      have j1 : (t : Int) < (nv : Int) := by omega
      have HTW : Hid (wrap64 ((t : Int) + 1) = (t : Int) + 1) := w64_id _ (by omega) (by omega)
      have hkt : wrap64 ((nk : Int) + (t : Int)) = ((nk + t : Nat) : Int) := by rw [w64_id _ (by omega) (by omega)]; rfl
      have HTN : Hid (t + 1 ≤ nv) := hlt
      have HH := hid_m hl
      have HTL : Hid (t ≤ 100) := by unfold Hid; omega
      clear hp hov2 hl ht hlt
      go_wp2_with fail
      refine (pmove_any 5 (nk + t) 2 p HH.out (by (repeat (first | rw [P.W.put_len] | rw [P.W.here_len] | rw [P.W.task_len] | rw [P.W.move_len])); rw [HFL.out]; have := HN.out; have := HTL.out; omega)).mono ?_
      rintro e wq0 ⟨rfl, ⟨lvq0, hw⟩, hb⟩
      have Q0 := hid_m hw
      have QB0 := hid_m (HBR.out.trans hb)
      clear hw hb
      go_wp2_with fail
      have e : P.W.upTo f s0 (t + 1) = (P.W.upTo f s0 t).move 5 (nk + t) 2 p := by show f _ t = _; rw [← HFE.out]; simp only [HPE.out, HNK.out]
      exact ⟨⟨t + 1, HTN.out, by first | (rw [HTW.out]; exact next_t) | exact next_t, ⟨_, by rw [e]; exact Q0.out⟩, QB0.out⟩, by first | (rw [HTW.out]; exact less_t HTN.out) | exact less_t HTN.out⟩
    · have hte : t = nv := by omega
      subst hte
      have HH := hid_m hl
      clear hl ht hlt
      go_wp2_with fail
      refine (wend_any 0 HH.out (by (repeat (first | rw [P.W.put_len] | rw [P.W.here_len] | rw [P.W.task_len] | rw [P.W.move_len])); rw [HFL.out]; have := HN.out; omega)).mono ?_
      rintro e ws0 ⟨rfl, ⟨lvs0, hw⟩, hb⟩
      have S0 := hid_m hw
      have SB0 := hid_m (HBR.out.trans hb)
      clear hw hb
      go_wp2_with fail
      go_end0
      have e : (P.W.upTo f s0 t).put 0 0 0 0 = s.lay kp.length vp := by rw [← HFE.out, ← HS0.out, ← HNV.out]; rfl
      exact ⟨rfl, ⟨_, by rw [← e]; exact S0.out⟩, SB0.out⟩
set_option maxHeartbeats 4000000 in
theorem pgive_any {w : World} {b sl : Nat} {kv vv lv : Value} {s : P.W} (kp vp : List Nat) (h : Wo w b kv vv sl s lv) (hk : Kp w b kv kp) (hv : Kp w b vv vp) (hk1 : 1 ≤ kp.length) (hv1 : 1 ≤ vp.length) (hkl : kp.length ≤ 100) (hvl : vp.length ≤ 100) (hn : s.list.length ≤ 70000) :
    Calls Tryz.prog 62 #[.pointer (some ⟨b, 0, none⟩)] w fun e w' => e = .returned (.tuple #[]) ∧ (∃ lv', Wo w' b kv vv sl (s.give kp.length vp) lv') ∧ Below b w w' := by
  obtain ⟨f, hf⟩ : ∃ f : P.W → Nat → P.W, (fun s i => s.move 2 (P.at_ vp i) 5 (kp.length + i)) = f := ⟨_, rfl⟩
  obtain ⟨s0, hs0⟩ : ∃ s0, s.here 6 = s0 := ⟨_, rfl⟩
  have hfl : ∀ t, (P.W.upTo f s0 t).list.length = s.list.length + 0 + 2 * t := fun t => by
    rw [← hf, P.upTo_len _ 2 (fun s i => by (repeat (first | rw [P.W.put_len] | rw [P.W.move_len]))), ← hs0]; (repeat (first | rw [P.W.put_len] | rw [P.W.here_len])); try omega
  have H := hid_m h
  have HB : Hid (Below b w w) := Below.refl _ _
  have HK := hid_m hk
  have HV := hid_m hv
  have HN := hid_m hn
  have HFE := hid_m hf
  have HFL := hid_m hfl
  have HS0 := hid_m hs0
  obtain ⟨bv, hov⟩ := hv.own
  obtain ⟨bk, hok⟩ := hk.own
  obtain ⟨gv, cv, hvv, _, _⟩ := hov.form hv1
  obtain ⟨gk, ck, hkv, _, _⟩ := hok.form hk1
  obtain ⟨nv, hnv⟩ : ∃ n, vp.length = n := ⟨_, rfl⟩
  obtain ⟨nk, hnk⟩ : ∃ n, kp.length = n := ⟨_, rfl⟩
  rw [hnv] at hvv hvl hv1
  rw [hnk] at hkv hkl hk1
  subst hvv
  subst hkv
  have HNV := hid_m hnv
  have HNK := hid_m hnk
  clear h hn hk hv hf hfl hs0 hov hok hnv hnk
  go_enter Tryz.func62, Tryz.ntmps62
  go_wp2_with fail
  refine (where_any 6 H.out (by decide) (by have := HN.out; (repeat (first | rw [P.W.put_len] | rw [P.W.here_len] | rw [P.W.task_len] | rw [P.W.move_len])); omega)).mono ?_
  rintro e wp0 ⟨rfl, hw, hb⟩
  have P0 := hid_m hw
  have PB0 := hid_m (HB.out.trans hb)
  have c0 := hw.c0
  have c1 := hw.c1
  have c2 := hw.c2
  clear hw hb
  go_wp2_with fail
  have HI0 := P0
  rw [HS0.out] at HI0
  go_loopw [14] (fun j wr => ∃ (t : Nat), t ≤ nv ∧ j = .int .i64 t ∧ Hid (∃ lv', Wo wr b (.slice (some ⟨gk, 0, none⟩) nk ck) (.slice (some ⟨gv, 0, none⟩) nv cv) sl (P.W.upTo f s0 t) lv') ∧ Hid (Below b w wr)) (fun j _ => nv - (intOf j).toNat)
  case atStart => exact ⟨0, Nat.zero_le _, rfl, ⟨_, HI0.out⟩, PB0.out⟩
  case round =>
    obtain ⟨t, ht, rfl, HL, HBR⟩ := hrel
    obtain ⟨lv', hl⟩ := HL.out
    have c0 := hl.c0
    by_cases hlt : t < nv
    · obtain ⟨p, hp⟩ : ∃ p, vp[t]? = some p := ⟨_, List.getElem?_eq_getElem (by have := HNV.out; omega)⟩
      obtain ⟨bv2, hov2⟩ := (HV.out.on HBR.out).own
      have cp : wr.cell? ⟨gv, t, none⟩ = some (.int .i64 p) := row1_cell hov2 (by simp) (by rw [List.getElem?_map, hp]; rfl)
      have HPE : Hid (P.at_ vp t = p) := by unfold Hid P.at_; rw [hp]; rfl
      have j0 : (0 : Int) ≤ (t : Int) := Int.natCast_nonneg t
      have j1 : (t : Int) < (nv : Int) := by omega
      have HTW : Hid (wrap64 ((t : Int) + 1) = (t : Int) + 1) := w64_id _ (by omega) (by omega)
      have hkt : wrap64 ((nk : Int) + (t : Int)) = ((nk + t : Nat) : Int) := by rw [w64_id _ (by omega) (by omega)]; rfl
      have HTN : Hid (t + 1 ≤ nv) := hlt
      have HH := hid_m hl
      have HTL : Hid (t ≤ 100) := by unfold Hid; omega
      clear hp hov2 hl ht hlt
      go_wp2_with fail
      refine (pmove_any 2 p 5 (nk + t) HH.out (by (repeat (first | rw [P.W.put_len] | rw [P.W.here_len] | rw [P.W.task_len] | rw [P.W.move_len])); rw [HFL.out]; have := HN.out; have := HTL.out; omega)).mono ?_
      rintro e wq0 ⟨rfl, ⟨lvq0, hw⟩, hb⟩
      have Q0 := hid_m hw
      have QB0 := hid_m (HBR.out.trans hb)
      clear hw hb
      go_wp2_with fail
      have e : P.W.upTo f s0 (t + 1) = (P.W.upTo f s0 t).move 2 p 5 (nk + t) := by show f _ t = _; rw [← HFE.out]; simp only [HPE.out, HNK.out]
      exact ⟨⟨t + 1, HTN.out, by first | (rw [HTW.out]; exact next_t) | exact next_t, ⟨_, by rw [e]; exact Q0.out⟩, QB0.out⟩, by first | (rw [HTW.out]; exact less_t HTN.out) | exact less_t HTN.out⟩
    · have hte : t = nv := by omega
      subst hte
      have HH := hid_m hl
      clear hl ht hlt
      go_wp2_with fail
      refine (wend_any 0 HH.out (by (repeat (first | rw [P.W.put_len] | rw [P.W.here_len] | rw [P.W.task_len] | rw [P.W.move_len])); rw [HFL.out]; have := HN.out; omega)).mono ?_
      rintro e ws0 ⟨rfl, ⟨lvs0, hw⟩, hb⟩
      have S0 := hid_m hw
      have SB0 := hid_m (HBR.out.trans hb)
      clear hw hb
      go_wp2_with fail
      go_end0
      have e : (P.W.upTo f s0 t).put 0 0 0 0 = s.give kp.length vp := by rw [← HFE.out, ← HS0.out, ← HNV.out]; rfl
      exact ⟨rfl, ⟨_, by rw [← e]; exact S0.out⟩, SB0.out⟩
end Go.Proofs.YtghggcehloiemabGreatDoor
namespace Go.Proofs.YtghggcehloiemabGreatDoor
open Go.RowKit
set_option linter.unusedVariables false
set_option maxRecDepth 16000
theorem Wo.on {w w' : World} {b sl : Nat} {kv vv lv : Value} {s : P.W} (h : Wo w b kv vv sl s lv) (hb : Below w.heap.size w w') : Wo w' b kv vv sl s lv := ⟨by rw [hb.block _ h.lt]; exact h.blk, owns_on h.own hb, h.sixteen⟩
set_option maxHeartbeats 1000000 in
theorem entry_any (gk ck gv cv nk nv sl : Nat) (w : World) (hk : nk ≤ 100) (hv : nv ≤ 100) :
    Calls Tryz.prog 54 #[.agg #[.slice (some ⟨gk, 0, none⟩) nk ck, .slice (some ⟨gv, 0, none⟩) nv cv, .int .i64 sl]] w fun e w' => e = .returned (.int .i64 ((nk + nv : Nat) : Int)) ∧ Below w.heap.size w w' := by
  have hw : wrap64 ((nk : Int) + (nv : Int)) = ((nk + nv : Nat) : Int) := by rw [w64_id _ (by omega) (by omega)]; rfl
  have HB : Hid (Below w.heap.size w (w.alloc (.cells #[.slice (some ⟨gk, 0, none⟩) nk ck, .slice (some ⟨gv, 0, none⟩) nv cv, .int .i64 sl] 65))) := (Below.refl _ _).alloc (Nat.le_refl _) _
  go_enter Tryz.func54, Tryz.ntmps54
  go_wp2_with fail
  go_ret
  exact ⟨by first | rfl | (rw [← hw]; rfl), HB.out⟩
namespace P
def W.search (s : W) (kp : List Nat) (vl : Nat) : W := ((((W.upTo (fun s i => ((s.put 9 8 1 (at_ kp i)).put 9 9 5 i).put 13 8 9 2) (((((((((s.here 0).put 9 3 15 0).put 1 4 0 (kp.length + vl)).put 1 5 0 1).put 2 6 3 0).put 5 6 4 0).put 3 6 5 0).here 1).put 12 5 6 3) kp.length).put 11 0 0 4).here 2).put 3 5 4 0).put 11 0 0 1
end P
set_option maxHeartbeats 4000000 in
theorem pabsent_any {w : World} {b sl : Nat} {kv vv lv : Value} {s : P.W} (kp vp : List Nat) (h : Wo w b kv vv sl s lv) (hk : Kp w b kv kp) (hv : Kp w b vv vp) (hk1 : 1 ≤ kp.length) (hv1 : 1 ≤ vp.length) (hkl : kp.length ≤ 100) (hvl : vp.length ≤ 100) (hn : s.list.length ≤ 70000) :
    Calls Tryz.prog 59 #[.pointer (some ⟨b, 0, none⟩)] w fun e w' => e = .returned (.tuple #[]) ∧ (∃ lv', Wo w' b kv vv sl (s.absent kp sl) lv') ∧ Below b w w' := by
  obtain ⟨f, hf⟩ : ∃ f : P.W → Nat → P.W, (fun s i => s.move 5 i 1 (P.at_ kp i)) = f := ⟨_, rfl⟩
  obtain ⟨s0, hs0⟩ : ∃ s0, ((((s.here 3).put 1 7 0 2).put 13 0 7 9).put 1 7 0 sl).put 12 3 7 10 = s0 := ⟨_, rfl⟩
  have hfl : ∀ t, (P.W.upTo f s0 t).list.length = s.list.length + 4 + 2 * t := fun t => by
    rw [← hf, P.upTo_len _ 2 (fun s i => by (repeat (first | rw [P.W.put_len] | rw [P.W.move_len]))), ← hs0]; (repeat (first | rw [P.W.put_len] | rw [P.W.here_len])); try omega
  have H := hid_m h
  have HB : Hid (Below b w w) := Below.refl _ _
  have HK := hid_m hk
  have HV := hid_m hv
  have HN := hid_m hn
  have HFE := hid_m hf
  have HFL := hid_m hfl
  have HS0 := hid_m hs0
  obtain ⟨bv, hov⟩ := hv.own
  obtain ⟨bk, hok⟩ := hk.own
  obtain ⟨gv, cv, hvv, _, _⟩ := hov.form hv1
  obtain ⟨gk, ck, hkv, _, _⟩ := hok.form hk1
  obtain ⟨nv, hnv⟩ : ∃ n, vp.length = n := ⟨_, rfl⟩
  obtain ⟨nk, hnk⟩ : ∃ n, kp.length = n := ⟨_, rfl⟩
  rw [hnv] at hvv hvl hv1
  rw [hnk] at hkv hkl hk1
  subst hvv
  subst hkv
  have HNV := hid_m hnv
  have HNK := hid_m hnk
  clear h hn hk hv hf hfl hs0 hov hok hnv hnk
  go_enter Tryz.func59, Tryz.ntmps59
  go_wp2_with fail
  refine (where_any 3 H.out (by decide) (by have := HN.out; (repeat (first | rw [P.W.put_len] | rw [P.W.here_len] | rw [P.W.task_len] | rw [P.W.move_len])); omega)).mono ?_
  rintro e wp0 ⟨rfl, hw, hb⟩
  have P0 := hid_m hw
  have PB0 := hid_m (HB.out.trans hb)
  have c0 := hw.c0
  have c1 := hw.c1
  have c2 := hw.c2
  clear hw hb
  go_wp2_with fail
  clear c0 c1 c2
  refine (wnumber_any 7 2 P0.out (by have := HN.out; (repeat (first | rw [P.W.put_len] | rw [P.W.here_len] | rw [P.W.task_len] | rw [P.W.move_len])); omega)).mono ?_
  rintro e wp1 ⟨rfl, ⟨lvp1, hw⟩, hb⟩
  have P1 := hid_m hw
  have PB1 := hid_m (PB0.out.trans hb)
  have c0 := hw.c0
  have c1 := hw.c1
  have c2 := hw.c2
  clear hw hb
  go_wp2_with fail
  clear c0 c1 c2
  refine (wnotsame_any 0 7 9 P1.out (by have := HN.out; (repeat (first | rw [P.W.put_len] | rw [P.W.here_len] | rw [P.W.task_len] | rw [P.W.move_len])); omega)).mono ?_
  rintro e wp2 ⟨rfl, ⟨lvp2, hw⟩, hb⟩
  have P2 := hid_m hw
  have PB2 := hid_m (PB1.out.trans hb)
  have c0 := hw.c0
  have c1 := hw.c1
  have c2 := hw.c2
  clear hw hb
  go_wp2_with fail
  go_region_held3 (fun w' => w'.cell? ⟨b, 2, none⟩ = some (.int .i64 sl)) (first | (exact c2) | (exact kk) | (simp [go_sem, c2]; done)) (first | (go_at_call 104; refine (wnumber_any 7 sl P2.out.drewn (by have := HN.out; (repeat (first | rw [P.W.put_len] | rw [P.W.here_len] | rw [P.W.task_len] | rw [P.W.move_len])); omega)).mono ?_; rintro e wp3 ⟨rfl, ⟨lvp3, hw⟩, hb⟩; have kk := hw.c2))
  have P3 := hid_m hw
  have PB3 := hid_m ((drew_below PB2.out).trans hb)
  clear hw hb kk c0 c1 c2
  have c0 := P3.out.c0
  have c1 := P3.out.c1
  have c2 := P3.out.c2
  go_wp2_with fail
  clear c0 c1 c2
  refine (wsame_any 3 7 10 P3.out (by have := HN.out; (repeat (first | rw [P.W.put_len] | rw [P.W.here_len] | rw [P.W.task_len] | rw [P.W.move_len])); omega)).mono ?_
  rintro e wp4 ⟨rfl, ⟨lvp4, hw⟩, hb⟩
  have P4 := hid_m hw
  have PB4 := hid_m (PB3.out.trans hb)
  have c0 := hw.c0
  have c1 := hw.c1
  have c2 := hw.c2
  clear hw hb
  go_wp2_with fail
  have es : ((((s.here 3).put 1 7 0 2).put 13 0 7 9).put 1 7 0 sl).put 12 3 7 10 = s0 := by rw [← HS0.out]
  have HI0 := P4
  rw [es] at HI0
  clear es
  go_loopw [35] (fun j wr => ∃ (t : Nat), t ≤ nk ∧ j = .int .i64 t ∧ Hid (∃ lv', Wo wr b (.slice (some ⟨gk, 0, none⟩) nk ck) (.slice (some ⟨gv, 0, none⟩) nv cv) sl (P.W.upTo f s0 t) lv') ∧ Hid (Below b w wr)) (fun j _ => nk - (intOf j).toNat)
  case atStart => exact ⟨0, Nat.zero_le _, rfl, ⟨_, HI0.out⟩, PB4.out⟩
  case round =>
    obtain ⟨t, ht, rfl, HL, HBR⟩ := hrel
    obtain ⟨lv', hl⟩ := HL.out
    have c0 := hl.c0
    by_cases hlt : t < nk
    · obtain ⟨p, hp⟩ : ∃ p, kp[t]? = some p := ⟨_, List.getElem?_eq_getElem (by have := HNK.out; omega)⟩
      obtain ⟨bv2, hov2⟩ := (HK.out.on HBR.out).own
      have cp : wr.cell? ⟨gk, t, none⟩ = some (.int .i64 p) := row1_cell hov2 (by simp) (by rw [List.getElem?_map, hp]; rfl)
      have HPE : Hid (P.at_ kp t = p) := by unfold Hid P.at_; rw [hp]; rfl
      have j0 : (0 : Int) ≤ (t : Int) := Int.natCast_nonneg t
      have j1 : (t : Int) < (nk : Int) := by omega
      have HTW : Hid (wrap64 ((t : Int) + 1) = (t : Int) + 1) := w64_id _ (by omega) (by omega)
      have hkt : wrap64 ((nk : Int) + (t : Int)) = ((nk + t : Nat) : Int) := by rw [w64_id _ (by omega) (by omega)]; rfl
      have HTN : Hid (t + 1 ≤ nk) := hlt
      have HH := hid_m hl
      have HTL : Hid (t ≤ 100) := by unfold Hid; omega
      clear hp hov2 hl ht hlt
      go_wp2_with fail
      refine (pmove_any 5 t 1 p HH.out (by (repeat (first | rw [P.W.put_len] | rw [P.W.here_len] | rw [P.W.task_len] | rw [P.W.move_len])); rw [HFL.out]; have := HN.out; have := HTL.out; omega)).mono ?_
      rintro e wq0 ⟨rfl, ⟨lvq0, hw⟩, hb⟩
      have Q0 := hid_m hw
      have QB0 := hid_m (HBR.out.trans hb)
      clear hw hb
      go_wp2_with fail
      have e : P.W.upTo f s0 (t + 1) = (P.W.upTo f s0 t).move 5 t 1 p := by show f _ t = _; rw [← HFE.out]; simp only [HPE.out]
      exact ⟨⟨t + 1, HTN.out, by first | (rw [HTW.out]; exact next_t) | exact next_t, ⟨_, by rw [e]; exact Q0.out⟩, QB0.out⟩, by first | (rw [HTW.out]; exact less_t HTN.out) | exact less_t HTN.out⟩
    · have hte : t = nk := by omega
      subst hte
      have HH := hid_m hl
      clear hl ht hlt
      go_wp2_with fail
      refine (wnumber_any 7 1 HH.out (by (repeat (first | rw [P.W.put_len] | rw [P.W.here_len] | rw [P.W.task_len] | rw [P.W.move_len])); rw [HFL.out]; have := HN.out; omega)).mono ?_
      rintro e ws0 ⟨rfl, ⟨lvs0, hw⟩, hb⟩
      have S0 := hid_m hw
      have SB0 := hid_m (HBR.out.trans hb)
      clear hw hb
      go_wp2_with fail
      refine (wadd_any 3 7 S0.out (by (repeat (first | rw [P.W.put_len] | rw [P.W.here_len] | rw [P.W.task_len] | rw [P.W.move_len])); rw [HFL.out]; have := HN.out; omega)).mono ?_
      rintro e ws1 ⟨rfl, ⟨lvs1, hw⟩, hb⟩
      have S1 := hid_m hw
      have SB1 := hid_m (SB0.out.trans hb)
      clear hw hb
      go_wp2_with fail
      refine (wstore_any 3 15 0 S1.out (by (repeat (first | rw [P.W.put_len] | rw [P.W.here_len] | rw [P.W.task_len] | rw [P.W.move_len])); rw [HFL.out]; have := HN.out; omega)).mono ?_
      rintro e ws2 ⟨rfl, ⟨lvs2, hw⟩, hb⟩
      have S2 := hid_m hw
      have SB2 := hid_m (SB1.out.trans hb)
      clear hw hb
      go_wp2_with fail
      refine (wgo_any 5 S2.out (by (repeat (first | rw [P.W.put_len] | rw [P.W.here_len] | rw [P.W.task_len] | rw [P.W.move_len])); rw [HFL.out]; have := HN.out; omega)).mono ?_
      rintro e ws3 ⟨rfl, ⟨lvs3, hw⟩, hb⟩
      have S3 := hid_m hw
      have SB3 := hid_m (SB2.out.trans hb)
      clear hw hb
      go_wp2_with fail
      go_end0
      have e : ((((P.W.upTo f s0 t).put 1 7 0 1).put 3 3 7 0).put 10 3 15 0).put 11 0 0 5 = s.absent kp sl := by rw [← HFE.out, ← HS0.out, ← HNK.out]; rfl
      exact ⟨rfl, ⟨_, by rw [← e]; exact S3.out⟩, SB3.out⟩
set_option maxHeartbeats 4000000 in
theorem psearch_any {w : World} {b sl : Nat} {kv vv lv : Value} {s : P.W} (kp vp : List Nat) (h : Wo w b kv vv sl s lv) (hk : Kp w b kv kp) (hv : Kp w b vv vp) (hk1 : 1 ≤ kp.length) (hv1 : 1 ≤ vp.length) (hkl : kp.length ≤ 100) (hvl : vp.length ≤ 100) (hn : s.list.length ≤ 70000) :
    Calls Tryz.prog 58 #[.pointer (some ⟨b, 0, none⟩)] w fun e w' => e = .returned (.tuple #[]) ∧ (∃ lv', Wo w' b kv vv sl (s.search kp vp.length) lv') ∧ Below b w w' := by
  obtain ⟨f, hf⟩ : ∃ f : P.W → Nat → P.W, (fun s i => ((s.put 9 8 1 (P.at_ kp i)).put 9 9 5 i).put 13 8 9 2) = f := ⟨_, rfl⟩
  obtain ⟨s0, hs0⟩ : ∃ s0, (((((((((s.here 0).put 9 3 15 0).put 1 4 0 (kp.length + vp.length)).put 1 5 0 1).put 2 6 3 0).put 5 6 4 0).put 3 6 5 0).here 1).put 12 5 6 3) = s0 := ⟨_, rfl⟩
  have hfl : ∀ t, (P.W.upTo f s0 t).list.length = s.list.length + 7 + 3 * t := fun t => by
    rw [← hf, P.upTo_len _ 3 (fun s i => by (repeat (first | rw [P.W.put_len] | rw [P.W.move_len]))), ← hs0]; (repeat (first | rw [P.W.put_len] | rw [P.W.here_len])); try omega
  have H := hid_m h
  have HB : Hid (Below b w w) := Below.refl _ _
  have HK := hid_m hk
  have HV := hid_m hv
  have HN := hid_m hn
  have HFE := hid_m hf
  have HFL := hid_m hfl
  have HS0 := hid_m hs0
  obtain ⟨bv, hov⟩ := hv.own
  obtain ⟨bk, hok⟩ := hk.own
  obtain ⟨gv, cv, hvv, _, _⟩ := hov.form hv1
  obtain ⟨gk, ck, hkv, _, _⟩ := hok.form hk1
  obtain ⟨nv, hnv⟩ : ∃ n, vp.length = n := ⟨_, rfl⟩
  obtain ⟨nk, hnk⟩ : ∃ n, kp.length = n := ⟨_, rfl⟩
  rw [hnv] at hvv hvl hv1
  rw [hnk] at hkv hkl hk1
  subst hvv
  subst hkv
  have HNV := hid_m hnv
  have HNK := hid_m hnk
  clear h hn hk hv hf hfl hs0 hov hok hnv hnk
  have z0 := H.out.c0
  have z1 := H.out.c1
  have z2 := H.out.c2
  go_enter Tryz.func58, Tryz.ntmps58
  go_wp2_with fail
  refine (entry_any gk ck gv cv nk nv sl _ hkl hvl).mono ?_
  rintro e wz ⟨rfl, hbz⟩
  have HZ := hid_m (H.out.on hbz)
  have HBZ : Hid (Below b w wz) := hbz.mono (Nat.le_of_lt H.out.lt)
  clear hbz z0 z1 z2
  go_wp2_with fail
  refine (where_any 0 HZ.out (by decide) (by have := HN.out; (repeat (first | rw [P.W.put_len] | rw [P.W.here_len] | rw [P.W.task_len] | rw [P.W.move_len])); omega)).mono ?_
  rintro e wp0 ⟨rfl, hw, hb⟩
  have P0 := hid_m hw
  have PB0 := hid_m (HBZ.out.trans hb)
  have c0 := hw.c0
  have c1 := hw.c1
  have c2 := hw.c2
  clear hw hb
  go_wp2_with fail
  clear c0 c1 c2
  refine (wload_any 3 15 0 P0.out (by have := HN.out; (repeat (first | rw [P.W.put_len] | rw [P.W.here_len] | rw [P.W.task_len] | rw [P.W.move_len])); omega)).mono ?_
  rintro e wp1 ⟨rfl, ⟨lvp1, hw⟩, hb⟩
  have P1 := hid_m hw
  have PB1 := hid_m (PB0.out.trans hb)
  have c0 := hw.c0
  have c1 := hw.c1
  have c2 := hw.c2
  clear hw hb
  go_wp2_with fail
  clear c0 c1 c2
  refine (wnumber_any 4 (nk + nv) P1.out (by have := HN.out; (repeat (first | rw [P.W.put_len] | rw [P.W.here_len] | rw [P.W.task_len] | rw [P.W.move_len])); omega)).mono ?_
  rintro e wp2 ⟨rfl, ⟨lvp2, hw⟩, hb⟩
  have P2 := hid_m hw
  have PB2 := hid_m (PB1.out.trans hb)
  have c0 := hw.c0
  have c1 := hw.c1
  have c2 := hw.c2
  clear hw hb
  go_wp2_with fail
  clear c0 c1 c2
  refine (wnumber_any 5 1 P2.out (by have := HN.out; (repeat (first | rw [P.W.put_len] | rw [P.W.here_len] | rw [P.W.task_len] | rw [P.W.move_len])); omega)).mono ?_
  rintro e wp3 ⟨rfl, ⟨lvp3, hw⟩, hb⟩
  have P3 := hid_m hw
  have PB3 := hid_m (PB2.out.trans hb)
  have c0 := hw.c0
  have c1 := hw.c1
  have c2 := hw.c2
  clear hw hb
  go_wp2_with fail
  clear c0 c1 c2
  refine (wcopy_any 6 3 P3.out (by have := HN.out; (repeat (first | rw [P.W.put_len] | rw [P.W.here_len] | rw [P.W.task_len] | rw [P.W.move_len])); omega)).mono ?_
  rintro e wp4 ⟨rfl, ⟨lvp4, hw⟩, hb⟩
  have P4 := hid_m hw
  have PB4 := hid_m (PB3.out.trans hb)
  have c0 := hw.c0
  have c1 := hw.c1
  have c2 := hw.c2
  clear hw hb
  go_wp2_with fail
  clear c0 c1 c2
  refine (wmul_any 6 4 P4.out (by have := HN.out; (repeat (first | rw [P.W.put_len] | rw [P.W.here_len] | rw [P.W.task_len] | rw [P.W.move_len])); omega)).mono ?_
  rintro e wp5 ⟨rfl, ⟨lvp5, hw⟩, hb⟩
  have P5 := hid_m hw
  have PB5 := hid_m (PB4.out.trans hb)
  have c0 := hw.c0
  have c1 := hw.c1
  have c2 := hw.c2
  clear hw hb
  go_wp2_with fail
  clear c0 c1 c2
  refine (wadd_any 6 5 P5.out (by have := HN.out; (repeat (first | rw [P.W.put_len] | rw [P.W.here_len] | rw [P.W.task_len] | rw [P.W.move_len])); omega)).mono ?_
  rintro e wp6 ⟨rfl, ⟨lvp6, hw⟩, hb⟩
  have P6 := hid_m hw
  have PB6 := hid_m (PB5.out.trans hb)
  have c0 := hw.c0
  have c1 := hw.c1
  have c2 := hw.c2
  clear hw hb
  go_wp2_with fail
  clear c0 c1 c2
  refine (where_any 1 P6.out (by decide) (by have := HN.out; (repeat (first | rw [P.W.put_len] | rw [P.W.here_len] | rw [P.W.task_len] | rw [P.W.move_len])); omega)).mono ?_
  rintro e wp7 ⟨rfl, hw, hb⟩
  have P7 := hid_m hw
  have PB7 := hid_m (PB6.out.trans hb)
  have c0 := hw.c0
  have c1 := hw.c1
  have c2 := hw.c2
  clear hw hb
  go_wp2_with fail
  clear c0 c1 c2
  refine (wsame_any 5 6 3 P7.out (by have := HN.out; (repeat (first | rw [P.W.put_len] | rw [P.W.here_len] | rw [P.W.task_len] | rw [P.W.move_len])); omega)).mono ?_
  rintro e wp8 ⟨rfl, ⟨lvp8, hw⟩, hb⟩
  have P8 := hid_m hw
  have PB8 := hid_m (PB7.out.trans hb)
  have c0 := hw.c0
  have c1 := hw.c1
  have c2 := hw.c2
  clear hw hb
  go_wp2_with fail
  have es : (((((((((s.here 0).put 9 3 15 0).put 1 4 0 (nk + nv)).put 1 5 0 1).put 2 6 3 0).put 5 6 4 0).put 3 6 5 0).here 1).put 12 5 6 3) = s0 := by rw [← HS0.out, HNK.out, HNV.out]
  have HI0 := P8
  rw [es] at HI0
  clear es
  go_loopw [53] (fun j wr => ∃ (t : Nat), t ≤ nk ∧ j = .int .i64 t ∧ Hid (∃ lv', Wo wr b (.slice (some ⟨gk, 0, none⟩) nk ck) (.slice (some ⟨gv, 0, none⟩) nv cv) sl (P.W.upTo f s0 t) lv') ∧ Hid (Below b w wr)) (fun j _ => nk - (intOf j).toNat)
  case atStart => exact ⟨0, Nat.zero_le _, rfl, ⟨_, HI0.out⟩, PB8.out⟩
  case round =>
    obtain ⟨t, ht, rfl, HL, HBR⟩ := hrel
    obtain ⟨lv', hl⟩ := HL.out
    have c0 := hl.c0
    by_cases hlt : t < nk
    · obtain ⟨p, hp⟩ : ∃ p, kp[t]? = some p := ⟨_, List.getElem?_eq_getElem (by have := HNK.out; omega)⟩
      obtain ⟨bv2, hov2⟩ := (HK.out.on HBR.out).own
      have cp : wr.cell? ⟨gk, t, none⟩ = some (.int .i64 p) := row1_cell hov2 (by simp) (by rw [List.getElem?_map, hp]; rfl)
      have HPE : Hid (P.at_ kp t = p) := by unfold Hid P.at_; rw [hp]; rfl
      have j0 : (0 : Int) ≤ (t : Int) := Int.natCast_nonneg t
      have j1 : (t : Int) < (nk : Int) := by omega
      have HTW : Hid (wrap64 ((t : Int) + 1) = (t : Int) + 1) := w64_id _ (by omega) (by omega)
      have hkt : wrap64 ((nk : Int) + (t : Int)) = ((nk + t : Nat) : Int) := by rw [w64_id _ (by omega) (by omega)]; rfl
      have HTN : Hid (t + 1 ≤ nk) := hlt
      have HH := hid_m hl
      have HTL : Hid (t ≤ 100) := by unfold Hid; omega
      clear hp hov2 hl ht hlt
      go_wp2_with fail
      refine (wload_any 8 1 p HH.out (by (repeat (first | rw [P.W.put_len] | rw [P.W.here_len] | rw [P.W.task_len] | rw [P.W.move_len])); rw [HFL.out]; have := HN.out; have := HTL.out; omega)).mono ?_
      rintro e wq0 ⟨rfl, ⟨lvq0, hw⟩, hb⟩
      have Q0 := hid_m hw
      have QB0 := hid_m (HBR.out.trans hb)
      clear hw hb
      go_wp2_with fail
      refine (wload_any 9 5 t Q0.out (by (repeat (first | rw [P.W.put_len] | rw [P.W.here_len] | rw [P.W.task_len] | rw [P.W.move_len])); rw [HFL.out]; have := HN.out; have := HTL.out; omega)).mono ?_
      rintro e wq1 ⟨rfl, ⟨lvq1, hw⟩, hb⟩
      have Q1 := hid_m hw
      have QB1 := hid_m (QB0.out.trans hb)
      clear hw hb
      go_wp2_with fail
      refine (wnotsame_any 8 9 2 Q1.out (by (repeat (first | rw [P.W.put_len] | rw [P.W.here_len] | rw [P.W.task_len] | rw [P.W.move_len])); rw [HFL.out]; have := HN.out; have := HTL.out; omega)).mono ?_
      rintro e wq2 ⟨rfl, ⟨lvq2, hw⟩, hb⟩
      have Q2 := hid_m hw
      have QB2 := hid_m (QB1.out.trans hb)
      clear hw hb
      go_wp2_with fail
      have e : P.W.upTo f s0 (t + 1) = (((P.W.upTo f s0 t).put 9 8 1 p).put 9 9 5 t).put 13 8 9 2 := by show f _ t = _; rw [← HFE.out]; simp only [HPE.out]
      exact ⟨⟨t + 1, HTN.out, by first | (rw [HTW.out]; exact next_t) | exact next_t, ⟨_, by rw [e]; exact Q2.out⟩, QB2.out⟩, by first | (rw [HTW.out]; exact less_t HTN.out) | exact less_t HTN.out⟩
    · have hte : t = nk := by omega
      subst hte
      have HH := hid_m hl
      clear hl ht hlt
      go_wp2_with fail
      refine (wgo_any 4 HH.out (by (repeat (first | rw [P.W.put_len] | rw [P.W.here_len] | rw [P.W.task_len] | rw [P.W.move_len])); rw [HFL.out]; have := HN.out; omega)).mono ?_
      rintro e ws0 ⟨rfl, ⟨lvs0, hw⟩, hb⟩
      have S0 := hid_m hw
      have SB0 := hid_m (HBR.out.trans hb)
      clear hw hb
      go_wp2_with fail
      refine (where_any 2 S0.out (by decide) (by (repeat (first | rw [P.W.put_len] | rw [P.W.here_len] | rw [P.W.task_len] | rw [P.W.move_len])); rw [HFL.out]; have := HN.out; omega)).mono ?_
      rintro e ws1 ⟨rfl, hw, hb⟩
      have S1 := hid_m hw
      have SB1 := hid_m (SB0.out.trans hb)
      clear hw hb
      go_wp2_with fail
      refine (wadd_any 5 4 S1.out (by (repeat (first | rw [P.W.put_len] | rw [P.W.here_len] | rw [P.W.task_len] | rw [P.W.move_len])); rw [HFL.out]; have := HN.out; omega)).mono ?_
      rintro e ws2 ⟨rfl, ⟨lvs2, hw⟩, hb⟩
      have S2 := hid_m hw
      have SB2 := hid_m (SB1.out.trans hb)
      clear hw hb
      go_wp2_with fail
      refine (wgo_any 1 S2.out (by (repeat (first | rw [P.W.put_len] | rw [P.W.here_len] | rw [P.W.task_len] | rw [P.W.move_len])); rw [HFL.out]; have := HN.out; omega)).mono ?_
      rintro e ws3 ⟨rfl, ⟨lvs3, hw⟩, hb⟩
      have S3 := hid_m hw
      have SB3 := hid_m (SB2.out.trans hb)
      clear hw hb
      go_wp2_with fail
      go_end0
      have e : ((((P.W.upTo f s0 t).put 11 0 0 4).here 2).put 3 5 4 0).put 11 0 0 1 = s.search kp vp.length := by rw [← HFE.out, ← HS0.out, ← HNK.out]; rfl
      exact ⟨rfl, ⟨_, by rw [← e]; exact S3.out⟩, SB3.out⟩
end Go.Proofs.YtghggcehloiemabGreatDoor
