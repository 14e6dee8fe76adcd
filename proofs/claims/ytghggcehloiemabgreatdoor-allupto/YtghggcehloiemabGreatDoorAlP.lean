import Derived.Test.YtghggcehloiemabGreatDoorTwT
import Derived.Test.YtghggcehloiemabGreatDoorAlW
namespace Go.Proofs.YtghggcehloiemabGreatDoor
open Go.RowKit
set_option linter.unusedVariables false
set_option maxRecDepth 16000
set_option maxHeartbeats 1000000 in
theorem plain_1 (on a b c d : Int) (s t : ByteArray) (hs : s.size ≤ 1048576) (ht : t.size ≤ 1048576) (w : World) (htab : Lib.TabIs Tryz.prog w "internal/strconv.uint64pow10" .u64 Lib.pow10Tab) :
    Calls Tryz.prog 43 #[.agg #[.int .i64 1, .int .i64 on, .int .i64 a, .int .i64 b, .int .i64 c, .int .i64 d, .string s, .string t]] w fun e w' => e = .returned (.bool true) ∧ Below w.heap.size w w' := by
  have hA : Below w.heap.size w (w.alloc (.cells #[.int .i64 1, .int .i64 on, .int .i64 a, .int .i64 b, .int .i64 c, .int .i64 d, .string s, .string t] 86)) := (Below.refl _ _).alloc (Nat.le_refl _) _
  have HTAB := hid_m ((Lib.tabBelow_of_tabIs htab).on hA).here
  have HSU := hid_m (And.intro hs ht)
  have HML : Hid (s.size ≤ maxLen ∧ t.size ≤ maxLen) := by unfold Hid maxLen; omega
  have B0 := hid_m hA
  clear hs ht htab hA
  go_enter Tryz.func43, Tryz.ntmps43
  go_wp2_with fail
  refine (al_sizes s HML.out.1 _).mono ?_
  rintro e w1 ⟨rfl, hb1⟩
  have B1 := hid_m (B0.out.trans (hb1.mono B0.out.size))
  clear hb1
  go_wp2_with fail
  go_ret
  exact ⟨rfl, B1.out⟩
set_option maxHeartbeats 1000000 in
theorem plain_2 (on a b c d : Int) (s t : ByteArray) (hs : s.size ≤ 1048576) (ht : t.size ≤ 1048576) (w : World) (htab : Lib.TabIs Tryz.prog w "internal/strconv.uint64pow10" .u64 Lib.pow10Tab) :
    Calls Tryz.prog 43 #[.agg #[.int .i64 2, .int .i64 on, .int .i64 a, .int .i64 b, .int .i64 c, .int .i64 d, .string s, .string t]] w fun e w' => e = .returned (.bool true) ∧ Below w.heap.size w w' := by
  have hA : Below w.heap.size w (w.alloc (.cells #[.int .i64 2, .int .i64 on, .int .i64 a, .int .i64 b, .int .i64 c, .int .i64 d, .string s, .string t] 86)) := (Below.refl _ _).alloc (Nat.le_refl _) _
  have HTAB := hid_m ((Lib.tabBelow_of_tabIs htab).on hA).here
  have HSU := hid_m (And.intro hs ht)
  have HML : Hid (s.size ≤ maxLen ∧ t.size ≤ maxLen) := by unfold Hid maxLen; omega
  have B0 := hid_m hA
  clear hs ht htab hA
  go_enter Tryz.func43, Tryz.ntmps43
  go_wp2_with fail
  refine (al_encodes s t a HML.out.1 HSU.out.2 _).mono ?_
  rintro e w1 ⟨rfl, hb1⟩
  have B1 := hid_m (B0.out.trans (hb1.mono B0.out.size))
  clear hb1
  go_wp2_with fail
  go_ret
  exact ⟨rfl, B1.out⟩
set_option maxHeartbeats 1000000 in
theorem plain_3 (on a b c d : Int) (s t : ByteArray) (hs : s.size ≤ 1048576) (ht : t.size ≤ 1048576) (w : World) (htab : Lib.TabIs Tryz.prog w "internal/strconv.uint64pow10" .u64 Lib.pow10Tab) :
    Calls Tryz.prog 43 #[.agg #[.int .i64 3, .int .i64 on, .int .i64 a, .int .i64 b, .int .i64 c, .int .i64 d, .string s, .string t]] w fun e w' => e = .returned (.bool true) ∧ Below w.heap.size w w' := by
  have hA : Below w.heap.size w (w.alloc (.cells #[.int .i64 3, .int .i64 on, .int .i64 a, .int .i64 b, .int .i64 c, .int .i64 d, .string s, .string t] 86)) := (Below.refl _ _).alloc (Nat.le_refl _) _
  have HTAB := hid_m ((Lib.tabBelow_of_tabIs htab).on hA).here
  have HSU := hid_m (And.intro hs ht)
  have HML : Hid (s.size ≤ maxLen ∧ t.size ≤ maxLen) := by unfold Hid maxLen; omega
  have B0 := hid_m hA
  clear hs ht htab hA
  go_enter Tryz.func43, Tryz.ntmps43
  go_wp2_with fail
  refine (al_decodes s t HML.out.1 _ HTAB.out).mono ?_
  rintro e w1 ⟨rfl, hb1⟩
  have B1 := hid_m (B0.out.trans (hb1.mono B0.out.size))
  clear hb1
  go_wp2_with fail
  go_ret
  exact ⟨rfl, B1.out⟩
set_option maxHeartbeats 1000000 in
theorem plain_4 (on a b c d : Int) (s t : ByteArray) (hs : s.size ≤ 1048576) (ht : t.size ≤ 1048576) (w : World) (htab : Lib.TabIs Tryz.prog w "internal/strconv.uint64pow10" .u64 Lib.pow10Tab) :
    Calls Tryz.prog 43 #[.agg #[.int .i64 4, .int .i64 on, .int .i64 a, .int .i64 b, .int .i64 c, .int .i64 d, .string s, .string t]] w fun e w' => e = .returned (.bool true) ∧ Below w.heap.size w w' := by
  have hA : Below w.heap.size w (w.alloc (.cells #[.int .i64 4, .int .i64 on, .int .i64 a, .int .i64 b, .int .i64 c, .int .i64 d, .string s, .string t] 86)) := (Below.refl _ _).alloc (Nat.le_refl _) _
  have HTAB := hid_m ((Lib.tabBelow_of_tabIs htab).on hA).here
  have HSU := hid_m (And.intro hs ht)
  have HML : Hid (s.size ≤ maxLen ∧ t.size ≤ maxLen) := by unfold Hid maxLen; omega
  have B0 := hid_m hA
  clear hs ht htab hA
  go_enter Tryz.func43, Tryz.ntmps43
  go_wp2_with fail
  refine (al_checks s HML.out.1 _).mono ?_
  rintro e w1 ⟨rfl, hb1⟩
  have B1 := hid_m (B0.out.trans (hb1.mono B0.out.size))
  clear hb1
  go_wp2_with fail
  go_ret
  exact ⟨rfl, B1.out⟩
set_option maxHeartbeats 1000000 in
theorem plain_5 (on a b c d : Int) (s t : ByteArray) (hs : s.size ≤ 1048576) (ht : t.size ≤ 1048576) (w : World) (htab : Lib.TabIs Tryz.prog w "internal/strconv.uint64pow10" .u64 Lib.pow10Tab) :
    Calls Tryz.prog 43 #[.agg #[.int .i64 5, .int .i64 on, .int .i64 a, .int .i64 b, .int .i64 c, .int .i64 d, .string s, .string t]] w fun e w' => e = .returned (.bool true) ∧ Below w.heap.size w w' := by
  have hA : Below w.heap.size w (w.alloc (.cells #[.int .i64 5, .int .i64 on, .int .i64 a, .int .i64 b, .int .i64 c, .int .i64 d, .string s, .string t] 86)) := (Below.refl _ _).alloc (Nat.le_refl _) _
  have HTAB := hid_m ((Lib.tabBelow_of_tabIs htab).on hA).here
  have HSU := hid_m (And.intro hs ht)
  have HML : Hid (s.size ≤ maxLen ∧ t.size ≤ maxLen) := by unfold Hid maxLen; omega
  have B0 := hid_m hA
  clear hs ht htab hA
  go_enter Tryz.func43, Tryz.ntmps43
  go_wp2_with fail
  refine (al_runs s t a b c d HML.out.1 HML.out.2 _).mono ?_
  rintro e w1 ⟨rfl, hb1⟩
  have B1 := hid_m (B0.out.trans (hb1.mono B0.out.size))
  clear hb1
  go_wp2_with fail
  go_ret
  exact ⟨rfl, B1.out⟩
set_option maxHeartbeats 1000000 in
theorem plain_6 (on a b c d : Int) (s t : ByteArray) (hs : s.size ≤ 1048576) (ht : t.size ≤ 1048576) (w : World) (htab : Lib.TabIs Tryz.prog w "internal/strconv.uint64pow10" .u64 Lib.pow10Tab) :
    Calls Tryz.prog 43 #[.agg #[.int .i64 6, .int .i64 on, .int .i64 a, .int .i64 b, .int .i64 c, .int .i64 d, .string s, .string t]] w fun e w' => e = .returned (.bool true) ∧ Below w.heap.size w w' := by
  have hA : Below w.heap.size w (w.alloc (.cells #[.int .i64 6, .int .i64 on, .int .i64 a, .int .i64 b, .int .i64 c, .int .i64 d, .string s, .string t] 86)) := (Below.refl _ _).alloc (Nat.le_refl _) _
  have HTAB := hid_m ((Lib.tabBelow_of_tabIs htab).on hA).here
  have HSU := hid_m (And.intro hs ht)
  have HML : Hid (s.size ≤ maxLen ∧ t.size ≤ maxLen) := by unfold Hid maxLen; omega
  have B0 := hid_m hA
  clear hs ht htab hA
  go_enter Tryz.func43, Tryz.ntmps43
  go_wp2_with fail
  refine (al_trims s HML.out.1 _).mono ?_
  rintro e w1 ⟨rfl, hb1⟩
  have B1 := hid_m (B0.out.trans (hb1.mono B0.out.size))
  clear hb1
  go_wp2_with fail
  go_ret
  exact ⟨rfl, B1.out⟩
set_option maxHeartbeats 1000000 in
theorem plain_7 (on a b c d : Int) (s t : ByteArray) (hs : s.size ≤ 1048576) (ht : t.size ≤ 1048576) (w : World) (htab : Lib.TabIs Tryz.prog w "internal/strconv.uint64pow10" .u64 Lib.pow10Tab) :
    Calls Tryz.prog 43 #[.agg #[.int .i64 7, .int .i64 on, .int .i64 a, .int .i64 b, .int .i64 c, .int .i64 d, .string s, .string t]] w fun e w' => e = .returned (.bool true) ∧ Below w.heap.size w w' := by
  have hA : Below w.heap.size w (w.alloc (.cells #[.int .i64 7, .int .i64 on, .int .i64 a, .int .i64 b, .int .i64 c, .int .i64 d, .string s, .string t] 86)) := (Below.refl _ _).alloc (Nat.le_refl _) _
  have HTAB := hid_m ((Lib.tabBelow_of_tabIs htab).on hA).here
  have HSU := hid_m (And.intro hs ht)
  have HML : Hid (s.size ≤ maxLen ∧ t.size ≤ maxLen) := by unfold Hid maxLen; omega
  have B0 := hid_m hA
  clear hs ht htab hA
  go_enter Tryz.func43, Tryz.ntmps43
  go_wp2_with fail
  refine (al_programs s t a HML.out.1 HML.out.2 _).mono ?_
  rintro e w1 ⟨rfl, hb1⟩
  have B1 := hid_m (B0.out.trans (hb1.mono B0.out.size))
  clear hb1
  go_wp2_with fail
  go_ret
  exact ⟨rfl, B1.out⟩
set_option maxHeartbeats 1000000 in
theorem plain_none (kd on a b c d : Int) (s t : ByteArray) (w : World) (hk : kd ≠ 1 ∧ kd ≠ 2 ∧ kd ≠ 3 ∧ kd ≠ 4 ∧ kd ≠ 5 ∧ kd ≠ 6 ∧ kd ≠ 7) :
    Calls Tryz.prog 43 #[.agg #[.int .i64 kd, .int .i64 on, .int .i64 a, .int .i64 b, .int .i64 c, .int .i64 d, .string s, .string t]] w fun e w' => e = .returned (.bool true) ∧ Below w.heap.size w w' := by
  have hA : Below w.heap.size w (w.alloc (.cells #[.int .i64 kd, .int .i64 on, .int .i64 a, .int .i64 b, .int .i64 c, .int .i64 d, .string s, .string t] 86)) := (Below.refl _ _).alloc (Nat.le_refl _) _
  have B0 := hid_m hA
  have z1 : (kd == 1) = false := by rw [beq_eq_false_iff_ne]; exact hk.1
  have z2 : (kd == 2) = false := by rw [beq_eq_false_iff_ne]; exact hk.2.1
  have z3 : (kd == 3) = false := by rw [beq_eq_false_iff_ne]; exact hk.2.2.1
  have z4 : (kd == 4) = false := by rw [beq_eq_false_iff_ne]; exact hk.2.2.2.1
  have z5 : (kd == 5) = false := by rw [beq_eq_false_iff_ne]; exact hk.2.2.2.2.1
  have z6 : (kd == 6) = false := by rw [beq_eq_false_iff_ne]; exact hk.2.2.2.2.2.1
  have z7 : (kd == 7) = false := by rw [beq_eq_false_iff_ne]; exact hk.2.2.2.2.2.2
  clear hA hk
  go_enter Tryz.func43, Tryz.ntmps43
  go_wp2_with fail
  go_ret
  exact ⟨rfl, B0.out⟩
theorem plain_any (kd on a b c d : Int) (s t : ByteArray) (hs : s.size ≤ 1048576) (ht : t.size ≤ 1048576) (w : World) (htab : Lib.TabIs Tryz.prog w "internal/strconv.uint64pow10" .u64 Lib.pow10Tab) :
    Calls Tryz.prog 43 #[.agg #[.int .i64 kd, .int .i64 on, .int .i64 a, .int .i64 b, .int .i64 c, .int .i64 d, .string s, .string t]] w fun e w' => e = .returned (.bool true) ∧ Below w.heap.size w w' := by
  by_cases h1 : kd = 1
  · subst h1; exact plain_1 on a b c d s t hs ht w htab
  by_cases h2 : kd = 2
  · subst h2; exact plain_2 on a b c d s t hs ht w htab
  by_cases h3 : kd = 3
  · subst h3; exact plain_3 on a b c d s t hs ht w htab
  by_cases h4 : kd = 4
  · subst h4; exact plain_4 on a b c d s t hs ht w htab
  by_cases h5 : kd = 5
  · subst h5; exact plain_5 on a b c d s t hs ht w htab
  by_cases h6 : kd = 6
  · subst h6; exact plain_6 on a b c d s t hs ht w htab
  by_cases h7 : kd = 7
  · subst h7; exact plain_7 on a b c d s t hs ht w htab
  exact plain_none kd on a b c d s t w ⟨h1, h2, h3, h4, h5, h6, h7⟩
set_option maxHeartbeats 4000000 in
theorem all_any (x : Option Addr) (N cap : Nat) (w : World) (hN : N ≤ 1048576) (hts : OpsAt w x N) (htab : Lib.TabIs Tryz.prog w "internal/strconv.uint64pow10" .u64 Lib.pow10Tab) :
    Calls Tryz.prog 6 #[.slice x N cap] w fun e w' => e = .returned (.bool true) ∧ Below w.heap.size w w' := by
  have HK := hid_m (known_any w htab)
  have HP : Hid (∀ w', Below w.heap.size w w' → Calls Tryz.prog 21 #[.slice x N cap, .bool true] w' fun e w'' => e = .returned (.bool true) ∧ Below w'.heap.size w' w'') := fun w' hb => played_any x N cap true w' hN (hts.on hb) ((Lib.tabBelow_of_tabIs htab).on hb).here (fun _ kd on a b c d s t hs ht w'' htab' => plain_any kd on a b c d s t hs ht w'' htab')
  clear hN hts htab
  go_enter Tryz.func6, Tryz.ntmps6
  go_wp2_with fail
  refine HK.out.mono ?_
  rintro e w1 ⟨rfl, hb1⟩
  have B1 := hid_m hb1
  clear hb1
  go_wp2_with fail
  refine (HP.out _ B1.out).mono ?_
  rintro e w2 ⟨rfl, hb2⟩
  have B2 := hid_m (B1.out.trans (hb2.mono B1.out.size))
  clear hb2
  go_wp2_with fail
  go_ret
  exact ⟨by simp, B2.out⟩
end Go.Proofs.YtghggcehloiemabGreatDoor
