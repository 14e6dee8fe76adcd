import Derived.Test.YtghggcehloiemaaPrW
namespace Go.Proofs.Ytghggcehloiemaa
open Go.RowKit
set_option linter.unusedVariables false
set_option maxRecDepth 16000
namespace P
def W.task (s : W) (wanted label : Nat) : W := (s.put 1 7 0 wanted).put 12 0 7 label
def W.move (s : W) (to tp from_ fp : Nat) : W := (s.put 9 8 from_ fp).put 10 8 to tp
theorem W.put_len (s : W) (op a b k : Nat) : (s.put op a b k).list.length = s.list.length + 1 := by simp [W.put]
theorem W.here_len (s : W) (l : Nat) : (s.here l).list.length = s.list.length := rfl
theorem W.task_len (s : W) (wanted label : Nat) : (s.task wanted label).list.length = s.list.length + 1 + 1 := by simp [W.task, W.put]
theorem W.move_len (s : W) (to tp from_ fp : Nat) : (s.move to tp from_ fp).list.length = s.list.length + 1 + 1 := by simp [W.move, W.put]
def W.choose (s : W) : W := ((((((s.task 1 0).task 2 0).task 3 0).task 4 7).task 5 8).put 0 0 0 3)
def W.tell (s : W) : W := ((s.here 7).put 9 0 15 0).put 0 0 0 0
def W.empty (s : W) : W := ((s.here 8).put 10 15 15 0).put 0 0 0 0
def W.refuse (s : W) : W := (((s.here 9).put 0 0 0 1).here 10).put 0 0 0 2
end P
set_option maxHeartbeats 1000000 in
theorem ptask_any {w : World} {b sl : Nat} {kv vv lv : Value} {s : P.W} (wanted : Nat) (label : Nat) (h : Wo w b kv vv sl s lv) (hn : s.list.length ≤ 90000) :
    Calls Try.prog 104 #[.pointer (some ⟨b, 0, none⟩), .int .i64 wanted, .int .i64 label] w fun e w' => e = .returned (.tuple #[]) ∧ (∃ lv', Wo w' b kv vv sl (s.task wanted label) lv') ∧ Below b w w' := by
  have H := hid_m h
  have HB : Hid (Below b w w) := Below.refl _ _
  have HN := hid_m hn
  clear h hn
  go_enter Try.func104, Try.ntmps104
  go_wp2_with fail
  refine (wnumber_any 7 wanted H.out (by have := HN.out; (repeat (first | rw [P.W.put_len] | rw [P.W.here_len] | rw [P.W.task_len] | rw [P.W.move_len])); omega)).mono ?_
  rintro e w0 ⟨rfl, ⟨lv0, hw0⟩, hb0⟩
  have H0 := hid_m hw0
  have HB0 := hid_m (HB.out.trans hb0)
  clear hw0 hb0
  go_wp2_with fail
  refine (wsame_any 0 7 label H0.out (by have := HN.out; (repeat (first | rw [P.W.put_len] | rw [P.W.here_len] | rw [P.W.task_len] | rw [P.W.move_len])); omega)).mono ?_
  rintro e w1 ⟨rfl, ⟨lv1, hw1⟩, hb1⟩
  have H1 := hid_m hw1
  have HB1 := hid_m (HB0.out.trans hb1)
  clear hw1 hb1
  go_wp2_with fail
  go_end0
  exact ⟨rfl, ⟨_, H1.out⟩, HB1.out⟩
set_option maxHeartbeats 1000000 in
theorem pmove_any {w : World} {b sl : Nat} {kv vv lv : Value} {s : P.W} (to : Nat) (tp : Nat) (fr : Nat) (fp : Nat) (h : Wo w b kv vv sl s lv) (hn : s.list.length ≤ 90000) :
    Calls Try.prog 116 #[.pointer (some ⟨b, 0, none⟩), .int .i64 to, .int .i64 tp, .int .i64 fr, .int .i64 fp] w fun e w' => e = .returned (.tuple #[]) ∧ (∃ lv', Wo w' b kv vv sl (s.move to tp fr fp) lv') ∧ Below b w w' := by
  have H := hid_m h
  have HB : Hid (Below b w w) := Below.refl _ _
  have HN := hid_m hn
  clear h hn
  go_enter Try.func116, Try.ntmps116
  go_wp2_with fail
  refine (wload_any 8 fr fp H.out (by have := HN.out; (repeat (first | rw [P.W.put_len] | rw [P.W.here_len] | rw [P.W.task_len] | rw [P.W.move_len])); omega)).mono ?_
  rintro e w0 ⟨rfl, ⟨lv0, hw0⟩, hb0⟩
  have H0 := hid_m hw0
  have HB0 := hid_m (HB.out.trans hb0)
  clear hw0 hb0
  go_wp2_with fail
  refine (wstore_any 8 to tp H0.out (by have := HN.out; (repeat (first | rw [P.W.put_len] | rw [P.W.here_len] | rw [P.W.task_len] | rw [P.W.move_len])); omega)).mono ?_
  rintro e w1 ⟨rfl, ⟨lv1, hw1⟩, hb1⟩
  have H1 := hid_m hw1
  have HB1 := hid_m (HB0.out.trans hb1)
  clear hw1 hb1
  go_wp2_with fail
  go_end0
  exact ⟨rfl, ⟨_, H1.out⟩, HB1.out⟩
set_option maxHeartbeats 1000000 in
theorem pchoose_any {w : World} {b sl : Nat} {kv vv lv : Value} {s : P.W} (h : Wo w b kv vv sl s lv) (hn : s.list.length ≤ 80000) :
    Calls Try.prog 87 #[.pointer (some ⟨b, 0, none⟩)] w fun e w' => e = .returned (.tuple #[]) ∧ (∃ lv', Wo w' b kv vv sl s.choose lv') ∧ Below b w w' := by
  have H := hid_m h
  have HB : Hid (Below b w w) := Below.refl _ _
  have HN := hid_m hn
  clear h hn
  go_enter Try.func87, Try.ntmps87
  go_wp2_with fail
  refine (ptask_any 1 0 H.out (by have := HN.out; (repeat (first | rw [P.W.put_len] | rw [P.W.here_len] | rw [P.W.task_len] | rw [P.W.move_len])); omega)).mono ?_
  rintro e w0 ⟨rfl, ⟨lv0, hw0⟩, hb0⟩
  have H0 := hid_m hw0
  have HB0 := hid_m (HB.out.trans hb0)
  clear hw0 hb0
  go_wp2_with fail
  refine (ptask_any 2 0 H0.out (by have := HN.out; (repeat (first | rw [P.W.put_len] | rw [P.W.here_len] | rw [P.W.task_len] | rw [P.W.move_len])); omega)).mono ?_
  rintro e w1 ⟨rfl, ⟨lv1, hw1⟩, hb1⟩
  have H1 := hid_m hw1
  have HB1 := hid_m (HB0.out.trans hb1)
  clear hw1 hb1
  go_wp2_with fail
  refine (ptask_any 3 0 H1.out (by have := HN.out; (repeat (first | rw [P.W.put_len] | rw [P.W.here_len] | rw [P.W.task_len] | rw [P.W.move_len])); omega)).mono ?_
  rintro e w2 ⟨rfl, ⟨lv2, hw2⟩, hb2⟩
  have H2 := hid_m hw2
  have HB2 := hid_m (HB1.out.trans hb2)
  clear hw2 hb2
  go_wp2_with fail
  refine (ptask_any 4 7 H2.out (by have := HN.out; (repeat (first | rw [P.W.put_len] | rw [P.W.here_len] | rw [P.W.task_len] | rw [P.W.move_len])); omega)).mono ?_
  rintro e w3 ⟨rfl, ⟨lv3, hw3⟩, hb3⟩
  have H3 := hid_m hw3
  have HB3 := hid_m (HB2.out.trans hb3)
  clear hw3 hb3
  go_wp2_with fail
  refine (ptask_any 5 8 H3.out (by have := HN.out; (repeat (first | rw [P.W.put_len] | rw [P.W.here_len] | rw [P.W.task_len] | rw [P.W.move_len])); omega)).mono ?_
  rintro e w4 ⟨rfl, ⟨lv4, hw4⟩, hb4⟩
  have H4 := hid_m hw4
  have HB4 := hid_m (HB3.out.trans hb4)
  clear hw4 hb4
  go_wp2_with fail
  refine (wend_any 3 H4.out (by have := HN.out; (repeat (first | rw [P.W.put_len] | rw [P.W.here_len] | rw [P.W.task_len] | rw [P.W.move_len])); omega)).mono ?_
  rintro e w5 ⟨rfl, ⟨lv5, hw5⟩, hb5⟩
  have H5 := hid_m hw5
  have HB5 := hid_m (HB4.out.trans hb5)
  clear hw5 hb5
  go_wp2_with fail
  go_end0
  exact ⟨rfl, ⟨_, H5.out⟩, HB5.out⟩
set_option maxHeartbeats 1000000 in
theorem ptell_any {w : World} {b sl : Nat} {kv vv lv : Value} {s : P.W} (h : Wo w b kv vv sl s lv) (hn : s.list.length ≤ 80000) :
    Calls Try.prog 88 #[.pointer (some ⟨b, 0, none⟩)] w fun e w' => e = .returned (.tuple #[]) ∧ (∃ lv', Wo w' b kv vv sl s.tell lv') ∧ Below b w w' := by
  have H := hid_m h
  have HB : Hid (Below b w w) := Below.refl _ _
  have HN := hid_m hn
  clear h hn
  go_enter Try.func88, Try.ntmps88
  go_wp2_with fail
  refine (where_any 7 H.out (by decide) (by have := HN.out; (repeat (first | rw [P.W.put_len] | rw [P.W.here_len] | rw [P.W.task_len] | rw [P.W.move_len])); omega)).mono ?_
  rintro e w0 ⟨rfl, hw0, hb0⟩
  have H0 := hid_m hw0
  have HB0 := hid_m (HB.out.trans hb0)
  clear hw0 hb0
  go_wp2_with fail
  refine (wload_any 0 15 0 H0.out (by have := HN.out; (repeat (first | rw [P.W.put_len] | rw [P.W.here_len] | rw [P.W.task_len] | rw [P.W.move_len])); omega)).mono ?_
  rintro e w1 ⟨rfl, ⟨lv1, hw1⟩, hb1⟩
  have H1 := hid_m hw1
  have HB1 := hid_m (HB0.out.trans hb1)
  clear hw1 hb1
  go_wp2_with fail
  refine (wend_any 0 H1.out (by have := HN.out; (repeat (first | rw [P.W.put_len] | rw [P.W.here_len] | rw [P.W.task_len] | rw [P.W.move_len])); omega)).mono ?_
  rintro e w2 ⟨rfl, ⟨lv2, hw2⟩, hb2⟩
  have H2 := hid_m hw2
  have HB2 := hid_m (HB1.out.trans hb2)
  clear hw2 hb2
  go_wp2_with fail
  go_end0
  exact ⟨rfl, ⟨_, H2.out⟩, HB2.out⟩
set_option maxHeartbeats 1000000 in
theorem pempty_any {w : World} {b sl : Nat} {kv vv lv : Value} {s : P.W} (h : Wo w b kv vv sl s lv) (hn : s.list.length ≤ 80000) :
    Calls Try.prog 89 #[.pointer (some ⟨b, 0, none⟩)] w fun e w' => e = .returned (.tuple #[]) ∧ (∃ lv', Wo w' b kv vv sl s.empty lv') ∧ Below b w w' := by
  have H := hid_m h
  have HB : Hid (Below b w w) := Below.refl _ _
  have HN := hid_m hn
  clear h hn
  go_enter Try.func89, Try.ntmps89
  go_wp2_with fail
  refine (where_any 8 H.out (by decide) (by have := HN.out; (repeat (first | rw [P.W.put_len] | rw [P.W.here_len] | rw [P.W.task_len] | rw [P.W.move_len])); omega)).mono ?_
  rintro e w0 ⟨rfl, hw0, hb0⟩
  have H0 := hid_m hw0
  have HB0 := hid_m (HB.out.trans hb0)
  clear hw0 hb0
  go_wp2_with fail
  refine (wstore_any 15 15 0 H0.out (by have := HN.out; (repeat (first | rw [P.W.put_len] | rw [P.W.here_len] | rw [P.W.task_len] | rw [P.W.move_len])); omega)).mono ?_
  rintro e w1 ⟨rfl, ⟨lv1, hw1⟩, hb1⟩
  have H1 := hid_m hw1
  have HB1 := hid_m (HB0.out.trans hb1)
  clear hw1 hb1
  go_wp2_with fail
  refine (wend_any 0 H1.out (by have := HN.out; (repeat (first | rw [P.W.put_len] | rw [P.W.here_len] | rw [P.W.task_len] | rw [P.W.move_len])); omega)).mono ?_
  rintro e w2 ⟨rfl, ⟨lv2, hw2⟩, hb2⟩
  have H2 := hid_m hw2
  have HB2 := hid_m (HB1.out.trans hb2)
  clear hw2 hb2
  go_wp2_with fail
  go_end0
  exact ⟨rfl, ⟨_, H2.out⟩, HB2.out⟩
set_option maxHeartbeats 1000000 in
theorem prefuse_any {w : World} {b sl : Nat} {kv vv lv : Value} {s : P.W} (h : Wo w b kv vv sl s lv) (hn : s.list.length ≤ 80000) :
    Calls Try.prog 95 #[.pointer (some ⟨b, 0, none⟩)] w fun e w' => e = .returned (.tuple #[]) ∧ (∃ lv', Wo w' b kv vv sl s.refuse lv') ∧ Below b w w' := by
  have H := hid_m h
  have HB : Hid (Below b w w) := Below.refl _ _
  have HN := hid_m hn
  clear h hn
  go_enter Try.func95, Try.ntmps95
  go_wp2_with fail
  refine (where_any 9 H.out (by decide) (by have := HN.out; (repeat (first | rw [P.W.put_len] | rw [P.W.here_len] | rw [P.W.task_len] | rw [P.W.move_len])); omega)).mono ?_
  rintro e w0 ⟨rfl, hw0, hb0⟩
  have H0 := hid_m hw0
  have HB0 := hid_m (HB.out.trans hb0)
  clear hw0 hb0
  go_wp2_with fail
  refine (wend_any 1 H0.out (by have := HN.out; (repeat (first | rw [P.W.put_len] | rw [P.W.here_len] | rw [P.W.task_len] | rw [P.W.move_len])); omega)).mono ?_
  rintro e w1 ⟨rfl, ⟨lv1, hw1⟩, hb1⟩
  have H1 := hid_m hw1
  have HB1 := hid_m (HB0.out.trans hb1)
  clear hw1 hb1
  go_wp2_with fail
  refine (where_any 10 H1.out (by decide) (by have := HN.out; (repeat (first | rw [P.W.put_len] | rw [P.W.here_len] | rw [P.W.task_len] | rw [P.W.move_len])); omega)).mono ?_
  rintro e w2 ⟨rfl, hw2, hb2⟩
  have H2 := hid_m hw2
  have HB2 := hid_m (HB1.out.trans hb2)
  clear hw2 hb2
  go_wp2_with fail
  refine (wend_any 2 H2.out (by have := HN.out; (repeat (first | rw [P.W.put_len] | rw [P.W.here_len] | rw [P.W.task_len] | rw [P.W.move_len])); omega)).mono ?_
  rintro e w3 ⟨rfl, ⟨lv3, hw3⟩, hb3⟩
  have H3 := hid_m hw3
  have HB3 := hid_m (HB2.out.trans hb3)
  clear hw3 hb3
  go_wp2_with fail
  go_end0
  exact ⟨rfl, ⟨_, H3.out⟩, HB3.out⟩
end Go.Proofs.Ytghggcehloiemaa
