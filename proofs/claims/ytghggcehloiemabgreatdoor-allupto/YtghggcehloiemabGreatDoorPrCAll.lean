import Derived.Test.YtghggcehloiemabGreatDoorPrZAll
import Derived.Laws.Tables
import Derived.Laws.Rows
namespace Go.Proofs.YtghggcehloiemabGreatDoor
open Go.RowKit
set_option linter.unusedVariables false
set_option maxRecDepth 16000
namespace P
theorem W.choose_len (s : W) : s.choose.list.length = s.list.length + 11 := by unfold W.choose; (repeat (first | rw [W.put_len] | rw [W.task_len]))
theorem W.tell_len (s : W) : s.tell.list.length = s.list.length + 2 := by unfold W.tell; (repeat (first | rw [W.put_len] | rw [W.here_len]))
theorem W.empty_len (s : W) : s.empty.list.length = s.list.length + 2 := by unfold W.empty; (repeat (first | rw [W.put_len] | rw [W.here_len]))
theorem W.refuse_len (s : W) : s.refuse.list.length = s.list.length + 2 := by unfold W.refuse; (repeat (first | rw [W.put_len] | rw [W.here_len]))
theorem W.lay_len (s : W) (kl : Nat) (vp : List Nat) : (s.lay kl vp).list.length = s.list.length + 2 * vp.length + 1 := by
  unfold W.lay; rw [W.put_len, upTo_len _ 2 (fun s i => by rw [W.move_len]), W.here_len]
theorem W.give_len (s : W) (kl : Nat) (vp : List Nat) : (s.give kl vp).list.length = s.list.length + 2 * vp.length + 1 := by
  unfold W.give; rw [W.put_len, upTo_len _ 2 (fun s i => by rw [W.move_len]), W.here_len]
theorem W.absent_len (s : W) (kp : List Nat) (sl : Nat) : (s.absent kp sl).list.length = s.list.length + 8 + 2 * kp.length := by
  unfold W.absent; rw [W.put_len, W.put_len, W.put_len, W.put_len, upTo_len _ 2 (fun s i => by rw [W.move_len])]; (repeat (first | rw [W.put_len] | rw [W.here_len])); omega
theorem W.search_len (s : W) (kp : List Nat) (vl : Nat) : (s.search kp vl).list.length = s.list.length + 10 + 3 * kp.length := by
  unfold W.search; rw [W.put_len, W.put_len, W.here_len, W.put_len, upTo_len _ 3 (fun s i => by rw [W.put_len, W.put_len, W.put_len])]; (repeat (first | rw [W.put_len] | rw [W.here_len])); omega
theorem W.present_len (s : W) (n : Nat) : (s.present n).list.length = s.list.length + 9 + 2 * n := by
  unfold W.present; rw [W.put_len, W.put_len, W.put_len, W.put_len, upTo_len _ 2 (fun s i => by rw [W.move_len])]; (repeat (first | rw [W.put_len] | rw [W.here_len] | rw [W.task_len])); omega
/-- The whole program, labels not yet told. -/
def prog (kp vp : List Nat) (sl : Nat) : W := (((((W.start.choose.tell.empty.search kp vp.length).absent kp sl).present (kp.length + vp.length)).lay kp.length vp).give kp.length vp).refuse
end P
theorem built_w (kv vv : Value) (sl : Nat) : Tryz.prog.built 110 [(0, .agg #[kv, vv, .int .i64 sl])] = some #[kv, vv, .int .i64 sl, .slice none 0 0, .int .i64 0, .int .i64 0, .int .i64 0, .int .i64 0, .int .i64 0, .int .i64 0, .int .i64 0, .int .i64 0, .int .i64 0, .int .i64 0, .int .i64 0, .int .i64 0, .int .i64 0, .int .i64 0, .int .i64 0, .int .i64 0] := by rfl
theorem wpList_build_to {P : Program} {ops : Array Oper} {rest : List Oper} {o : Oper} {a : Act} {w : World} {Q : Exit → Act → World → Prop} (hg : o.guard = none) (t : TypeId) (i : Nat) (x : Operand) (ho : o.op = .build t #[(i, x)]) (v : Value) (hv : a.eval x = v) (cells : Array Value)
    (hb : P.built t [(i, v)] = some cells) (h : wpList P ops Q rest (a.put o.dst (.agg cells)) w) : wpList P ops Q (o :: rest) a w := by
  have e : (Array.map (fun (p : Nat × Operand) => (p.1, a.eval p.2)) #[(i, x)]).toList = [(i, v)] := by simp [hv]
  exact wpList_build hg t #[(i, x)] ho (by show (P.built t (Array.map (fun (p : Nat × Operand) => (p.1, a.eval p.2)) #[(i, x)]).toList).isSome = true; rw [e, hb]; rfl) (by show wpList P ops Q rest (a.put o.dst (.agg ((P.built t (Array.map (fun (p : Nat × Operand) => (p.1, a.eval p.2)) #[(i, x)]).toList).getD #[]))) w; rw [e, hb]; exact h)
theorem run_alloc_to {P : Program} (w : World) (t : TypeId) (z : Value) (hz : (P.info? t).bind (·.zero) = some z) : (Instr.alloc t true (.tuple #[])).run P w = .ok (.pointer (some ⟨w.heap.size, 0, none⟩)) (w.alloc (.cells z.cells t)) := by
  cases hq : P.info? t with
  | none => simp [hq] at hz
  | some i =>
    simp [hq] at hz
    simp [Instr.alloc, zeroValue, typeInfo, newVar, newRow, hq, hz]
theorem wpList_alloc_to {P : Program} {ops : Array Oper} {rest : List Oper} {o : Oper} {a : Act} {w : World} {Q : Exit → Act → World → Prop} (hg : o.guard = none) (t : TypeId) (ho : o.op = .alloc t) (z : Value) (hz : (P.info? t).bind (·.zero) = some z)
    (h : wpList P ops Q rest (a.put o.dst (.pointer (some ⟨w.heap.size, 0, none⟩))) (w.alloc (.cells z.cells t))) : wpList P ops Q (o :: rest) a w :=
  wpList_plain hg fun K hK => by
    unfold Oper.wp execOp
    simp only [ho, Sem.run_bind, run_alloc_to w t z hz, Result.andThen_ok]
    exact hK _ _ h
theorem setRow_new (w : World) (o : Array Value) (t : TypeId) (cells : Array Value) (g : Nat) (hg : g = w.heap.size) : (w.alloc (.cells o t)).setRow g cells = w.alloc (.cells cells t) := by
  subst hg
  unfold World.setRow World.alloc
  congr 1
  apply Array.ext_getElem?
  intro i
  simp [Array.getElem?_modify, Array.getElem?_push]
  split
  · rename_i h; subst h; simp
  · rename_i h; rw [if_neg (fun e => h e.symm), if_neg (fun e => h e.symm)]
theorem zero_w : (Tryz.prog.info? 110).bind (·.zero) = some (.agg #[.slice none 0 0, .slice none 0 0, .int .i64 0, .slice none 0 0, .int .i64 0, .int .i64 0, .int .i64 0, .int .i64 0, .int .i64 0, .int .i64 0, .int .i64 0, .int .i64 0, .int .i64 0, .int .i64 0, .int .i64 0, .int .i64 0, .int .i64 0, .int .i64 0, .int .i64 0, .int .i64 0]) := by kernel_rfl
theorem size_w : (Tryz.prog.info? 110).map (·.size) = some 20 := by kernel_rfl
theorem size_p : (Tryz.prog.info? 65).map (·.size) = some 3 := by kernel_rfl
set_option maxHeartbeats 4000000 in
theorem pcode_any {w : World} {sl : Nat} {kv vv : Value} (kp vp : List Nat) (hk : Kp w w.heap.size kv kp) (hv : Kp w w.heap.size vv vp) (hk1 : 1 ≤ kp.length) (hv1 : 1 ≤ vp.length) (hkl : kp.length ≤ 32) (hvl : vp.length ≤ 32) (hp1 : 1 ≤ (P.prog kp vp sl).list.length) (hp8 : (P.prog kp vp sl).list.length ≤ 800) (hlab : ∀ x ∈ (P.prog kp vp sl).list, 11 ≤ x.op → x.k < 16) (hsm : ∀ x ∈ (P.prog kp vp sl).resolve, P.Small x) :
    Calls Tryz.prog 31 #[.agg #[kv, vv, .int .i64 sl]] w fun e w' => e = .returned (.string ⟨(P.text (P.prog kp vp sl).resolve).toArray⟩) ∧ Below w.heap.size w w' := by
  obtain ⟨q1, e1⟩ : ∃ q, P.W.start.choose = q := ⟨_, rfl⟩
  obtain ⟨q2, e2⟩ : ∃ q, q1.tell = q := ⟨_, rfl⟩
  obtain ⟨q3, e3⟩ : ∃ q, q2.empty = q := ⟨_, rfl⟩
  obtain ⟨q4, e4⟩ : ∃ q, q3.search kp vp.length = q := ⟨_, rfl⟩
  obtain ⟨q5, e5⟩ : ∃ q, q4.absent kp sl = q := ⟨_, rfl⟩
  obtain ⟨q6, e6⟩ : ∃ q, q5.present (kp.length + vp.length) = q := ⟨_, rfl⟩
  obtain ⟨q7, e7⟩ : ∃ q, q6.lay kp.length vp = q := ⟨_, rfl⟩
  obtain ⟨q8, e8⟩ : ∃ q, q7.give kp.length vp = q := ⟨_, rfl⟩
  obtain ⟨q9, e9⟩ : ∃ q, q8.refuse = q := ⟨_, rfl⟩
  have eq : P.prog kp vp sl = q9 := by unfold P.prog; rw [e1, e2, e3, e4, e5, e6, e7, e8, e9]
  rw [eq] at hp1 hp8 hlab hsm ⊢
  have L0 : Hid (P.W.start.list.length ≤ 1000) := Nat.zero_le _
  have l1 : q1.list.length ≤ 11 := by rw [← e1, P.W.choose_len]; exact Nat.le_refl _
  have l2 : q2.list.length ≤ 13 := by rw [← e2, P.W.tell_len]; omega
  have l3 : q3.list.length ≤ 15 := by rw [← e3, P.W.empty_len]; omega
  have l4 : q4.list.length ≤ 121 := by rw [← e4, P.W.search_len]; omega
  have l5 : q5.list.length ≤ 193 := by rw [← e5, P.W.absent_len]; omega
  have l6 : q6.list.length ≤ 330 := by rw [← e6, P.W.present_len]; omega
  have l7 : q7.list.length ≤ 395 := by rw [← e7, P.W.lay_len]; omega
  have l8 : q8.list.length ≤ 460 := by rw [← e8, P.W.give_len]; omega
  have L1 : Hid (q1.list.length ≤ 1000) := Nat.le_trans l1 (by decide)
  have L2 : Hid (q2.list.length ≤ 1000) := Nat.le_trans l2 (by decide)
  have L3 : Hid (q3.list.length ≤ 1000) := Nat.le_trans l3 (by decide)
  have L4 : Hid (q4.list.length ≤ 1000) := Nat.le_trans l4 (by decide)
  have L5 : Hid (q5.list.length ≤ 1000) := Nat.le_trans l5 (by decide)
  have L6 : Hid (q6.list.length ≤ 1000) := Nat.le_trans l6 (by decide)
  have L7 : Hid (q7.list.length ≤ 1000) := Nat.le_trans l7 (by decide)
  have L8 : Hid (q8.list.length ≤ 1000) := Nat.le_trans l8 (by decide)
  have E1 := hid_m e1
  have E2 := hid_m e2
  have E3 := hid_m e3
  have E4 := hid_m e4
  have E5 := hid_m e5
  have E6 := hid_m e6
  have E7 := hid_m e7
  have E8 := hid_m e8
  have E9 := hid_m e9
  clear e1 e2 e3 e4 e5 e6 e7 e8 e9 l1 l2 l3 l4 l5 l6 l7 l8 eq
  obtain ⟨bv, hov⟩ := hv.own
  obtain ⟨bk, hok⟩ := hk.own
  obtain ⟨gv, cv, hvv, _, _⟩ := hov.form hv1
  obtain ⟨gk, ck, hkv, _, _⟩ := hok.form hk1
  obtain ⟨nv, hnv⟩ : ∃ n, vp.length = n := ⟨_, rfl⟩
  obtain ⟨nk, hnk⟩ : ∃ n, kp.length = n := ⟨_, rfl⟩
  rw [hnv] at hvv
  rw [hnk] at hkv
  subst hvv
  subst hkv
  have HK := hid_m hk
  have HV := hid_m hv
  clear hk hv hov hok
  go_enter Tryz.func31, Tryz.ntmps31
  go_wp2_with (first
    | (refine wpList_load_row rfl 65 _ rfl w.heap.size rfl 65 #[.slice (some ⟨gk, 0, none⟩) nk ck, .slice (some ⟨gv, 0, none⟩) nv cv, .int .i64 sl] (0, 0) _ (heap_alloc_new _ _) Tryz.underlying65 rfl size_p ?_
       refine wpList_build_to rfl 110 _ _ rfl (.agg #[.slice (some ⟨gk, 0, none⟩) nk ck, .slice (some ⟨gv, 0, none⟩) nv cv, .int .i64 sl]) rfl #[.slice (some ⟨gk, 0, none⟩) nk ck, .slice (some ⟨gv, 0, none⟩) nv cv, .int .i64 sl, .slice none 0 0, .int .i64 0, .int .i64 0, .int .i64 0, .int .i64 0, .int .i64 0, .int .i64 0, .int .i64 0, .int .i64 0, .int .i64 0, .int .i64 0, .int .i64 0, .int .i64 0, .int .i64 0, .int .i64 0, .int .i64 0, .int .i64 0] (built_w _ _ _) ?_
       refine wpList_alloc_to rfl 110 rfl _ zero_w ?_
       refine wpList_store_row rfl 110 _ _ rfl _ #[.slice (some ⟨gk, 0, none⟩) nk ck, .slice (some ⟨gv, 0, none⟩) nv cv, .int .i64 sl, .slice none 0 0, .int .i64 0, .int .i64 0, .int .i64 0, .int .i64 0, .int .i64 0, .int .i64 0, .int .i64 0, .int .i64 0, .int .i64 0, .int .i64 0, .int .i64 0, .int .i64 0, .int .i64 0, .int .i64 0, .int .i64 0, .int .i64 0] rfl rfl 110 _ (heap_alloc_new _ _) size_w rfl (by simp [Value.oneCell']) ?_
       rw [setRow_new _ _ _ _ _ rfl]))
  have hbA : Below w.heap.size w ((w.alloc (.cells #[.slice (some ⟨gk, 0, none⟩) nk ck, .slice (some ⟨gv, 0, none⟩) nv cv, .int .i64 sl] 65)).alloc (.cells #[.slice (some ⟨gk, 0, none⟩) nk ck, .slice (some ⟨gv, 0, none⟩) nv cv, .int .i64 sl, .slice none 0 0, .int .i64 0, .int .i64 0, .int .i64 0, .int .i64 0, .int .i64 0, .int .i64 0, .int .i64 0, .int .i64 0, .int .i64 0, .int .i64 0, .int .i64 0, .int .i64 0, .int .i64 0, .int .i64 0, .int .i64 0, .int .i64 0] 110)) := ((Below.refl _ _).alloc (Nat.le_refl _) _).alloc (by simp) _
  have hwA : Wo ((w.alloc (.cells #[.slice (some ⟨gk, 0, none⟩) nk ck, .slice (some ⟨gv, 0, none⟩) nv cv, .int .i64 sl] 65)).alloc (.cells #[.slice (some ⟨gk, 0, none⟩) nk ck, .slice (some ⟨gv, 0, none⟩) nv cv, .int .i64 sl, .slice none 0 0, .int .i64 0, .int .i64 0, .int .i64 0, .int .i64 0, .int .i64 0, .int .i64 0, .int .i64 0, .int .i64 0, .int .i64 0, .int .i64 0, .int .i64 0, .int .i64 0, .int .i64 0, .int .i64 0, .int .i64 0, .int .i64 0] 110)) (w.heap.size + 1) (.slice (some ⟨gk, 0, none⟩) nk ck) (.slice (some ⟨gv, 0, none⟩) nv cv) sl P.W.start (.slice none 0 0) := by
    refine ⟨?_, World.ownsRow_nil _ _ _ _, rfl⟩
    have e : w.heap.size + 1 = (w.alloc (.cells #[.slice (some ⟨gk, 0, none⟩) nk ck, .slice (some ⟨gv, 0, none⟩) nv cv, .int .i64 sl] 65)).heap.size := by simp
    rw [e]; exact heap_alloc_new _ _
  generalize ((w.alloc (.cells #[.slice (some ⟨gk, 0, none⟩) nk ck, .slice (some ⟨gv, 0, none⟩) nv cv, .int .i64 sl] 65)).alloc (.cells #[.slice (some ⟨gk, 0, none⟩) nk ck, .slice (some ⟨gv, 0, none⟩) nv cv, .int .i64 sl, .slice none 0 0, .int .i64 0, .int .i64 0, .int .i64 0, .int .i64 0, .int .i64 0, .int .i64 0, .int .i64 0, .int .i64 0, .int .i64 0, .int .i64 0, .int .i64 0, .int .i64 0, .int .i64 0, .int .i64 0, .int .i64 0, .int .i64 0] 110)) = W at hbA hwA ⊢
  obtain ⟨b, hb⟩ : ∃ b, w.heap.size + 1 = b := ⟨_, rfl⟩
  have KK : Hid (Kp W b (.slice (some ⟨gk, 0, none⟩) nk ck) kp) := ⟨(HK.out.on hbA).own, fun g hg => by have := HK.out.low g hg; omega⟩
  have KV : Hid (Kp W b (.slice (some ⟨gv, 0, none⟩) nv cv) vp) := ⟨(HV.out.on hbA).own, fun g hg => by have := HV.out.low g hg; omega⟩
  rw [hb] at hwA ⊢
  have HW := hid_m hwA
  have HBW : Hid (Below b W W) := Below.refl _ _
  have HBA := hid_m hbA
  have HBE := hid_m hb
  have HLB := hid_m hlab
  have HPN := hid_m (And.intro hp1 hp8)
  have HSM := hid_m hsm
  clear hbA hwA hb hlab hsm hnv hnk hp1 hp8
  refine (pchoose_any HW.out (Nat.le_trans L0.out (by decide))).mono ?_
  rintro e w0 ⟨rfl, ⟨lv0, hw⟩, hbb⟩
  rw [E1.out] at hw
  have H0 := hid_m hw
  have B0 := hid_m (HBW.out.trans hbb)
  clear hw hbb
  go_wp2_with fail
  refine (ptell_any H0.out (Nat.le_trans L1.out (by decide))).mono ?_
  rintro e w1 ⟨rfl, ⟨lv1, hw⟩, hbb⟩
  rw [E2.out] at hw
  have H1 := hid_m hw
  have B1 := hid_m (B0.out.trans hbb)
  clear hw hbb
  go_wp2_with fail
  refine (pempty_any H1.out (Nat.le_trans L2.out (by decide))).mono ?_
  rintro e w2 ⟨rfl, ⟨lv2, hw⟩, hbb⟩
  rw [E3.out] at hw
  have H2 := hid_m hw
  have B2 := hid_m (B1.out.trans hbb)
  clear hw hbb
  go_wp2_with fail
  refine (psearch_any kp vp H2.out (KK.out.on B2.out) (KV.out.on B2.out) hk1 hv1 (by omega) (by omega) (Nat.le_trans L3.out (by decide))).mono ?_
  rintro e w3 ⟨rfl, ⟨lv3, hw⟩, hbb⟩
  rw [E4.out] at hw
  have H3 := hid_m hw
  have B3 := hid_m (B2.out.trans hbb)
  clear hw hbb
  go_wp2_with fail
  refine (pabsent_any kp vp H3.out (KK.out.on B3.out) (KV.out.on B3.out) hk1 hv1 (by omega) (by omega) (Nat.le_trans L4.out (by decide))).mono ?_
  rintro e w4 ⟨rfl, ⟨lv4, hw⟩, hbb⟩
  rw [E5.out] at hw
  have H4 := hid_m hw
  have B4 := hid_m (B3.out.trans hbb)
  clear hw hbb
  go_wp2_with fail
  refine (ppresent_any kp vp H4.out (KK.out.on B4.out) (KV.out.on B4.out) hk1 hv1 (by omega) (by omega) (Nat.le_trans L5.out (by decide))).mono ?_
  rintro e w5 ⟨rfl, ⟨lv5, hw⟩, hbb⟩
  rw [E6.out] at hw
  have H5 := hid_m hw
  have B5 := hid_m (B4.out.trans hbb)
  clear hw hbb
  go_wp2_with fail
  refine (play_any kp vp H5.out (KK.out.on B5.out) (KV.out.on B5.out) hk1 hv1 (by omega) (by omega) (Nat.le_trans L6.out (by decide))).mono ?_
  rintro e w6 ⟨rfl, ⟨lv6, hw⟩, hbb⟩
  rw [E7.out] at hw
  have H6 := hid_m hw
  have B6 := hid_m (B5.out.trans hbb)
  clear hw hbb
  go_wp2_with fail
  refine (pgive_any kp vp H6.out (KK.out.on B6.out) (KV.out.on B6.out) hk1 hv1 (by omega) (by omega) (Nat.le_trans L7.out (by decide))).mono ?_
  rintro e w7 ⟨rfl, ⟨lv7, hw⟩, hbb⟩
  rw [E8.out] at hw
  have H7 := hid_m hw
  have B7 := hid_m (B6.out.trans hbb)
  clear hw hbb
  go_wp2_with fail
  refine (prefuse_any H7.out (Nat.le_trans L8.out (by decide))).mono ?_
  rintro e w8 ⟨rfl, ⟨lv8, hw⟩, hbb⟩
  rw [E9.out] at hw
  have H8 := hid_m hw
  have B8 := hid_m (B7.out.trans hbb)
  clear hw hbb
  go_wp2_with fail
  refine (wtext_any H8.out HPN.out.2 HPN.out.1 HLB.out HSM.out).mono ?_
  rintro e w9 ⟨rfl, hbb⟩
  have HF : Hid (Below w.heap.size w w9) := HBA.out.trans ((B8.out.mono (by rw [← HBE.out]; omega)).trans (hbb.mono (by have := HBA.out.size; have := B8.out.size; omega)))
  clear hbb
  go_wp2_with fail
  go_ret
  exact ⟨rfl, HF.out⟩
end Go.Proofs.YtghggcehloiemabGreatDoor
namespace Go.Proofs.YtghggcehloiemabGreatDoor
set_option linter.unusedVariables false
namespace P
def each (n : Nat) (g : Nat → List I) : List I := (List.range n).flatMap g
theorem each_zero (g : Nat → List I) : each 0 g = [] := rfl
theorem each_succ (n : Nat) (g : Nat → List I) : each (n + 1) g = each n g ++ g n := by simp [each, List.range_succ]
theorem each_len (d n : Nat) (g : Nat → List I) (hg : ∀ i, (g i).length = d) : (each n g).length = d * n := by
  induction n with
  | zero => rfl
  | succ n ih => rw [each_succ, List.length_append, ih, hg, Nat.mul_succ]
theorem each_map (f : I → I) (n : Nat) (g : Nat → List I) : (each n g).map f = each n (fun i => (g i).map f) := by
  induction n with
  | zero => rfl
  | succ n ih => rw [each_succ, each_succ, List.map_append, ih]
theorem mem_each {n : Nat} {g : Nat → List I} {x : I} (h : x ∈ each n g) : ∃ i, i < n ∧ x ∈ g i := by
  simp only [each, List.mem_flatMap, List.mem_range] at h
  exact h
theorem upTo_eq (f : W → Nat → W) (g : Nat → List I) (hf : ∀ s i, f s i = ⟨s.list ++ g i, s.places⟩) (s : W) (t : Nat) : W.upTo f s t = ⟨s.list ++ each t g, s.places⟩ := by
  induction t with
  | zero => simp [W.upTo, each_zero]
  | succ t ih => simp only [W.upTo]; rw [hf, ih, each_succ, List.append_assoc]
/-- The parts of the program, its labels as z tells them. -/
def pChoose (z : Nat → Nat) : List I := [⟨1, 7, 0, 1⟩, ⟨12, 0, 7, z 0⟩, ⟨1, 7, 0, 2⟩, ⟨12, 0, 7, z 0⟩, ⟨1, 7, 0, 3⟩, ⟨12, 0, 7, z 0⟩, ⟨1, 7, 0, 4⟩, ⟨12, 0, 7, z 7⟩, ⟨1, 7, 0, 5⟩, ⟨12, 0, 7, z 8⟩, ⟨0, 0, 0, 3⟩]
def pTell : List I := [⟨9, 0, 15, 0⟩, ⟨0, 0, 0, 0⟩]
def pEmpty : List I := [⟨10, 15, 15, 0⟩, ⟨0, 0, 0, 0⟩]
def pSearch1 (z : Nat → Nat) (size : Nat) : List I := [⟨9, 3, 15, 0⟩, ⟨1, 4, 0, size⟩, ⟨1, 5, 0, 1⟩, ⟨2, 6, 3, 0⟩, ⟨5, 6, 4, 0⟩, ⟨3, 6, 5, 0⟩, ⟨12, 5, 6, z 3⟩]
def pSearch2 (z : Nat → Nat) (kp : List Nat) (i : Nat) : List I := [⟨9, 8, 1, at_ kp i⟩, ⟨9, 9, 5, i⟩, ⟨13, 8, 9, z 2⟩]
def pSearch3 (z : Nat → Nat) : List I := [⟨11, 0, 0, z 4⟩, ⟨3, 5, 4, 0⟩, ⟨11, 0, 0, z 1⟩]
def pAbsent1 (z : Nat → Nat) (sl : Nat) : List I := [⟨1, 7, 0, 2⟩, ⟨13, 0, 7, z 9⟩, ⟨1, 7, 0, sl⟩, ⟨12, 3, 7, z 10⟩]
def pMove (to fr : Nat) (tp fp : Nat → Nat) (i : Nat) : List I := [⟨9, 8, fr, fp i⟩, ⟨10, 8, to, tp i⟩]
def pAbsent3 (z : Nat → Nat) : List I := [⟨1, 7, 0, 1⟩, ⟨3, 3, 7, 0⟩, ⟨10, 3, 15, 0⟩, ⟨11, 0, 0, z 5⟩]
def pPresent1 (z : Nat → Nat) : List I := [⟨1, 7, 0, 1⟩, ⟨12, 0, 7, z 6⟩, ⟨1, 7, 0, 2⟩, ⟨12, 0, 7, z 5⟩, ⟨4, 6, 4, 0⟩]
def pPresent3 : List I := [⟨1, 7, 0, 1⟩, ⟨4, 3, 7, 0⟩, ⟨10, 3, 15, 0⟩, ⟨0, 0, 0, 0⟩]
def pEnd (k : Nat) : List I := [⟨0, 0, 0, k⟩]
def progZ (z : Nat → Nat) (kp vp : List Nat) (sl : Nat) : List I :=
  pChoose z ++ (pTell ++ (pEmpty ++ (pSearch1 z (kp.length + vp.length) ++ (each kp.length (pSearch2 z kp) ++ (pSearch3 z ++ (pAbsent1 z sl ++ (each kp.length (pMove 5 1 (fun i => i) (at_ kp)) ++ (pAbsent3 z ++ (pPresent1 z ++
  (each (kp.length + vp.length) (pMove 5 6 (fun i => i) (fun i => i)) ++ (pPresent3 ++ (each vp.length (pMove 5 2 (fun i => kp.length + i) (at_ vp)) ++ (pEnd 0 ++ (each vp.length (pMove 2 5 (at_ vp) (fun i => kp.length + i)) ++ (pEnd 0 ++ (pEnd 1 ++ pEnd 2))))))))))))))))
def tells (nk nv : Nat) : List Nat := [15, 21, 23 + 3 * nk, 25 + 3 * nk, 33 + 5 * nk, 42 + 7 * nk + 2 * nv, 43 + 7 * nk + 4 * nv, 11, 13, 44 + 7 * nk + 6 * nv, 45 + 7 * nk + 6 * nv, 0, 0, 0, 0, 0]
theorem choose_eq (s : W) : s.choose = ⟨s.list ++ pChoose (fun l => l), s.places⟩ := by simp [W.choose, W.task, W.put, pChoose]
theorem tell_eq (s : W) : s.tell = ⟨s.list ++ pTell, s.places.set 7 s.list.length⟩ := by simp [W.tell, W.here, W.put, pTell]
theorem empty_eq (s : W) : s.empty = ⟨s.list ++ pEmpty, s.places.set 8 s.list.length⟩ := by simp [W.empty, W.here, W.put, pEmpty]
theorem search_eq (s : W) (kp : List Nat) (vl : Nat) : s.search kp vl = ⟨s.list ++ (pSearch1 (fun l => l) (kp.length + vl) ++ (each kp.length (pSearch2 (fun l => l) kp) ++ pSearch3 (fun l => l))), ((s.places.set 0 s.list.length).set 1 (s.list.length + 6)).set 2 (s.list.length + (8 + 3 * kp.length))⟩ := by
  unfold W.search
  rw [upTo_eq _ (pSearch2 (fun l => l) kp) (fun s i => by simp [W.put, pSearch2])]
  simp [W.here, W.put, pSearch1, pSearch3, each_len 3 _ (pSearch2 (fun l => l) kp) (fun i => rfl)]
  congr 1
  omega
theorem absent_eq (s : W) (kp : List Nat) (sl : Nat) : s.absent kp sl = ⟨s.list ++ (pAbsent1 (fun l => l) sl ++ (each kp.length (pMove 5 1 (fun i => i) (at_ kp)) ++ pAbsent3 (fun l => l))), s.places.set 3 s.list.length⟩ := by
  unfold W.absent
  rw [upTo_eq _ (pMove 5 1 (fun i => i) (at_ kp)) (fun s i => by simp [W.move, W.put, pMove])]
  simp [W.here, W.put, pAbsent1, pAbsent3]
theorem present_eq (s : W) (n : Nat) : s.present n = ⟨s.list ++ (pPresent1 (fun l => l) ++ (each n (pMove 5 6 (fun i => i) (fun i => i)) ++ pPresent3)), s.places.set 4 s.list.length⟩ := by
  unfold W.present
  rw [upTo_eq _ (pMove 5 6 (fun i => i) (fun i => i)) (fun s i => by simp [W.move, W.put, pMove])]
  simp [W.here, W.task, W.put, pPresent1, pPresent3]
theorem lay_eq (s : W) (kl : Nat) (vp : List Nat) : s.lay kl vp = ⟨s.list ++ (each vp.length (pMove 5 2 (fun i => kl + i) (at_ vp)) ++ pEnd 0), s.places.set 5 s.list.length⟩ := by
  unfold W.lay
  rw [upTo_eq _ (pMove 5 2 (fun i => kl + i) (at_ vp)) (fun s i => by simp [W.move, W.put, pMove])]
  simp [W.here, W.put, pEnd]
theorem give_eq (s : W) (kl : Nat) (vp : List Nat) : s.give kl vp = ⟨s.list ++ (each vp.length (pMove 2 5 (at_ vp) (fun i => kl + i)) ++ pEnd 0), s.places.set 6 s.list.length⟩ := by
  unfold W.give
  rw [upTo_eq _ (pMove 2 5 (at_ vp) (fun i => kl + i)) (fun s i => by simp [W.move, W.put, pMove])]
  simp [W.here, W.put, pEnd]
theorem refuse_eq (s : W) : s.refuse = ⟨s.list ++ (pEnd 1 ++ pEnd 2), (s.places.set 9 s.list.length).set 10 (s.list.length + 1)⟩ := by simp [W.refuse, W.here, W.put, pEnd]
theorem prog_list (kp vp : List Nat) (sl : Nat) : (prog kp vp sl).list = progZ (fun l => l) kp vp sl := by
  unfold prog progZ
  rw [refuse_eq, give_eq, lay_eq, present_eq, absent_eq, search_eq, empty_eq, tell_eq, choose_eq]
  simp only [W.start, List.append_assoc, List.nil_append]
theorem prog_len (kp vp : List Nat) (sl : Nat) : (prog kp vp sl).list.length = 46 + 7 * kp.length + 6 * vp.length := by
  unfold prog
  rw [W.refuse_len, W.give_len, W.lay_len, W.present_len, W.absent_len, W.search_len, W.empty_len, W.tell_len, W.choose_len]
  simp [W.start]; omega
theorem set_16 (a0 a1 a2 a3 a4 a5 a6 a7 a8 a9 a10 : Nat) : (((((((((((List.replicate 16 0).set 7 a7).set 8 a8).set 0 a0).set 1 a1).set 2 a2).set 3 a3).set 4 a4).set 5 a5).set 6 a6).set 9 a9).set 10 a10 = [a0, a1, a2, a3, a4, a5, a6, a7, a8, a9, a10, 0, 0, 0, 0, 0] := rfl
theorem prog_places (kp vp : List Nat) (sl : Nat) : (prog kp vp sl).places = tells kp.length vp.length := by
  have h0 : W.start.list.length = 0 := rfl
  unfold prog tells
  rw [refuse_eq]
  simp only []
  rw [W.give_len, W.lay_len, W.present_len, W.absent_len, W.search_len, W.empty_len, W.tell_len, W.choose_len, give_eq]
  simp only []
  rw [W.lay_len, W.present_len, W.absent_len, W.search_len, W.empty_len, W.tell_len, W.choose_len, lay_eq]
  simp only []
  rw [W.present_len, W.absent_len, W.search_len, W.empty_len, W.tell_len, W.choose_len, present_eq]
  simp only []
  rw [W.absent_len, W.search_len, W.empty_len, W.tell_len, W.choose_len, absent_eq]
  simp only []
  rw [W.search_len, W.empty_len, W.tell_len, W.choose_len, search_eq]
  simp only []
  rw [W.empty_len, W.tell_len, W.choose_len, empty_eq]
  simp only []
  rw [W.tell_len, W.choose_len, tell_eq]
  simp only []
  rw [W.choose_len, choose_eq]
  simp only []
  rw [h0]
  show ((((((((((((List.replicate 16 0).set 7 _).set 8 _).set 0 _).set 1 _).set 2 _).set 3 _).set 4 _).set 5 _).set 6 _).set 9 _).set 10 _) = _
  rw [set_16]
  simp only [List.cons.injEq, and_true, true_and]
  omega
theorem told_z (z : List Nat) (a b k op : Nat) : told z ⟨op, a, b, k⟩ = if 11 ≤ op then ⟨op, a, b, at_ z k⟩ else ⟨op, a, b, k⟩ := rfl
theorem progZ_told (z : List Nat) (kp vp : List Nat) (sl : Nat) : (progZ (fun l => l) kp vp sl).map (told z) = progZ (at_ z) kp vp sl := by
  unfold progZ
  simp only [List.map_append, each_map]
  rfl
def zOf (nk nv : Nat) (l : Nat) : Nat := at_ (tells nk nv) l
theorem resolve_eq (kp vp : List Nat) (sl : Nat) : (prog kp vp sl).resolve = progZ (zOf kp.length vp.length) kp vp sl := by
  unfold W.resolve
  rw [prog_list, prog_places, progZ_told]
  rfl
theorem resolve_len (kp vp : List Nat) (sl : Nat) : (prog kp vp sl).resolve.length = 46 + 7 * kp.length + 6 * vp.length := by
  unfold W.resolve
  rw [List.length_map, prog_len]
theorem zOf_lt (nk nv l : Nat) : zOf nk nv l < 46 + 7 * nk + 6 * nv := by
  unfold zOf at_ tells
  rcases l with _ | _ | _ | _ | _ | _ | _ | _ | _ | _ | _ | _ | _ | _ | _ | _ | l <;> simp <;> omega
theorem at_small {l : List Nat} (h : ∀ x ∈ l, x < 32) (i : Nat) : at_ l i < 32 := by
  unfold at_
  cases hi : l[i]? with
  | none => simp
  | some x => exact h x (List.mem_of_getElem? hi)
theorem mem_progZ {z : Nat → Nat} {kp vp : List Nat} {sl : Nat} {x : I} (h : x ∈ progZ z kp vp sl) :
    x ∈ pChoose z ∨ x ∈ pTell ∨ x ∈ pEmpty ∨ x ∈ pSearch1 z (kp.length + vp.length) ∨ (∃ i, i < kp.length ∧ x ∈ pSearch2 z kp i) ∨ x ∈ pSearch3 z ∨ x ∈ pAbsent1 z sl ∨ (∃ i, i < kp.length ∧ x ∈ pMove 5 1 (fun i => i) (at_ kp) i) ∨ x ∈ pAbsent3 z ∨ x ∈ pPresent1 z ∨
    (∃ i, i < kp.length + vp.length ∧ x ∈ pMove 5 6 (fun i => i) (fun i => i) i) ∨ x ∈ pPresent3 ∨ (∃ i, i < vp.length ∧ x ∈ pMove 5 2 (fun i => kp.length + i) (at_ vp) i) ∨ x ∈ pEnd 0 ∨ (∃ i, i < vp.length ∧ x ∈ pMove 2 5 (at_ vp) (fun i => kp.length + i) i) ∨ x ∈ pEnd 0 ∨ x ∈ pEnd 1 ∨ x ∈ pEnd 2 := by
  unfold progZ at h
  simp only [List.mem_append] at h
  have me := fun n (g : Nat → List I) => @mem_each n g x
  rcases h with h | h | h | h | h | h | h | h | h | h | h | h | h | h | h | h | h | h
  · exact .inl h
  · exact .inr (.inl h)
  · exact .inr (.inr (.inl h))
  · exact .inr (.inr (.inr (.inl h)))
  · exact .inr (.inr (.inr (.inr (.inl (mem_each h)))))
  · exact .inr (.inr (.inr (.inr (.inr (.inl h)))))
  · exact .inr (.inr (.inr (.inr (.inr (.inr (.inl h))))))
  · exact .inr (.inr (.inr (.inr (.inr (.inr (.inr (.inl (mem_each h))))))))
  · exact .inr (.inr (.inr (.inr (.inr (.inr (.inr (.inr (.inl h))))))))
  · exact .inr (.inr (.inr (.inr (.inr (.inr (.inr (.inr (.inr (.inl h)))))))))
  · exact .inr (.inr (.inr (.inr (.inr (.inr (.inr (.inr (.inr (.inr (.inl (mem_each h)))))))))))
  · exact .inr (.inr (.inr (.inr (.inr (.inr (.inr (.inr (.inr (.inr (.inr (.inl h)))))))))))
  · exact .inr (.inr (.inr (.inr (.inr (.inr (.inr (.inr (.inr (.inr (.inr (.inr (.inl (mem_each h)))))))))))))
  · exact .inr (.inr (.inr (.inr (.inr (.inr (.inr (.inr (.inr (.inr (.inr (.inr (.inr (.inl h)))))))))))))
  · exact .inr (.inr (.inr (.inr (.inr (.inr (.inr (.inr (.inr (.inr (.inr (.inr (.inr (.inr (.inl (mem_each h)))))))))))))))
  · exact .inr (.inr (.inr (.inr (.inr (.inr (.inr (.inr (.inr (.inr (.inr (.inr (.inr (.inr (.inr (.inl h)))))))))))))))
  · exact .inr (.inr (.inr (.inr (.inr (.inr (.inr (.inr (.inr (.inr (.inr (.inr (.inr (.inr (.inr (.inr (.inl h))))))))))))))))
  · exact .inr (.inr (.inr (.inr (.inr (.inr (.inr (.inr (.inr (.inr (.inr (.inr (.inr (.inr (.inr (.inr (.inr h))))))))))))))))
/-- Of each instruction: what it may be. -/
def FineI (n : Nat) (x : I) : Prop := x.op ≤ 13 ∧ x.op ≠ 8 ∧ x.a ≤ 15 ∧ x.b ≤ 15 ∧ (11 ≤ x.op → x.k < n) ∧ (x.op < 11 → x.k ≤ 64)
theorem fine_mk {n op a b k : Nat} (h1 : op ≤ 13) (h2 : op ≠ 8) (h3 : a ≤ 15) (h4 : b ≤ 15) (h5 : 11 ≤ op → k < n) (h6 : op < 11 → k ≤ 64) : FineI n ⟨op, a, b, k⟩ := ⟨h1, h2, h3, h4, h5, h6⟩
theorem fine_jump {n op a b k : Nat} (h0 : 11 ≤ op) (h1 : op ≤ 13) (h3 : a ≤ 15) (h4 : b ≤ 15) (h5 : k < n) : FineI n ⟨op, a, b, k⟩ := ⟨h1, (by omega : op ≠ 8), h3, h4, fun _ => h5, fun h => absurd (show op < 11 from h) (by omega)⟩
theorem fine_plain {n op a b k : Nat} (h0 : op < 11) (h1 : op ≠ 8) (h3 : a ≤ 15) (h4 : b ≤ 15) (h5 : k ≤ 64) : FineI n ⟨op, a, b, k⟩ := ⟨(by omega : op ≤ 13), h1, h3, h4, fun h => absurd (show 11 ≤ op from h) (by omega), fun _ => h5⟩
theorem all_nil {n : Nat} : ∀ x ∈ ([] : List I), FineI n x := fun x h => absurd h (by simp)
theorem all_cons {n : Nat} {y : I} {l : List I} (h : FineI n y) (hl : ∀ x ∈ l, FineI n x) : ∀ x ∈ y :: l, FineI n x := fun x hx => by
  rcases List.mem_cons.1 hx with e | e
  · rw [e]; exact h
  · exact hl x e
theorem progZ_fine {z : Nat → Nat} {kp vp : List Nat} {sl n : Nat} (hz : ∀ l, l ≤ 10 → z l < n) (hk : ∀ x ∈ kp, x < 32) (hv : ∀ x ∈ vp, x < 32) (hkl : kp.length ≤ 32) (hvl : vp.length ≤ 32) (hsl : sl ≤ 16) : ∀ x ∈ progZ z kp vp sl, FineI n x := by
  intro x hx
  have ak := at_small hk
  have av := at_small hv
  rcases mem_progZ hx with h | h | h | h | ⟨i, hi, h⟩ | h | h | ⟨i, hi, h⟩ | h | h | ⟨i, hi, h⟩ | h | ⟨i, hi, h⟩ | h | ⟨i, hi, h⟩ | h | h | h
  all_goals first | have ai := ak i | skip
  all_goals first | have bi := av i | skip
  all_goals revert h
  all_goals refine (?_ : ∀ y ∈ _, FineI n y) x
  all_goals simp only [pChoose, pTell, pEmpty, pSearch1, pSearch2, pSearch3, pAbsent1, pMove, pAbsent3, pPresent1, pPresent3, pEnd]
  all_goals repeat' (refine all_cons ?_ ?_)
  all_goals first | exact all_nil | exact fine_jump (by decide) (by decide) (by decide) (by decide) (hz _ (by decide)) | exact fine_plain (by decide) (by decide) (by decide) (by decide) (by omega)
theorem resolve_fine {kp vp : List Nat} {sl : Nat} (hk : ∀ x ∈ kp, x < 32) (hv : ∀ x ∈ vp, x < 32) (hkl : kp.length ≤ 32) (hvl : vp.length ≤ 32) (hsl : sl ≤ 16) : ∀ x ∈ (prog kp vp sl).resolve, FineI (46 + 7 * kp.length + 6 * vp.length) x := by
  rw [resolve_eq]
  exact progZ_fine (fun l _ => zOf_lt _ _ l) hk hv hkl hvl hsl
theorem prog_labels {kp vp : List Nat} {sl : Nat} (hk : ∀ x ∈ kp, x < 32) (hv : ∀ x ∈ vp, x < 32) (hkl : kp.length ≤ 32) (hvl : vp.length ≤ 32) (hsl : sl ≤ 16) : ∀ x ∈ (prog kp vp sl).list, 11 ≤ x.op → x.k < 16 := by
  rw [prog_list]
  intro x hx
  exact (progZ_fine (n := 16) (fun l hl => by show l < 16; omega) hk hv hkl hvl hsl x hx).2.2.2.2.1
theorem progZ_last (z : Nat → Nat) (kp vp : List Nat) (sl : Nat) : ∃ l, progZ z kp vp sl = l ++ [⟨0, 0, 0, 2⟩] := by
  unfold progZ
  simp only [← List.append_assoc]
  exact ⟨_, rfl⟩
end P
end Go.Proofs.YtghggcehloiemabGreatDoor
