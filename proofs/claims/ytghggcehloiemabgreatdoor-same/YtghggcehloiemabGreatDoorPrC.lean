import Derived.Test.YtghggcehloiemabGreatDoorPrVAll
import Derived.Laws.Tables
import Derived.Laws.Rows
namespace Go.Proofs.YtghggcehloiemabGreatDoor
open Go.RowKit
set_option linter.unusedVariables false
set_option maxRecDepth 16000
namespace P
theorem W.choose_len (s : W) : s.choose.list.length = s.list.length + 11 := by unfold W.choose; (repeat (first | rw [W.put_len] | rw [W.task_len]))
theorem W.tell_len (s : W) : s.tell.list.length = s.list.length + 2 := by unfold W.tell; (repeat (first | rw [W.put_len] | rw [W.here_len]))
theorem W.empty_len (s : W) : s.empty.list.length = s.list.length + 2 := by unfold W.empty; (repeat (first | rw [W.put_len] | rw [W.here_len]))
theorem W.refuse_len (s : W) : s.refuse.list.length = s.list.length + 2 := by unfold W.refuse; (repeat (first | rw [W.put_len] | rw [W.here_len]))
theorem W.lay_len (s : W) (kl : Nat) (vp : List Nat) : (s.lay kl vp).list.length = s.list.length + 2 * vp.length + 1 := by
  unfold W.lay; rw [W.put_len, upTo_len _ 2 (fun s i => by rw [W.move_len]), W.here_len]
theorem W.give_len (s : W) (kl : Nat) (vp : List Nat) : (s.give kl vp).list.length = s.list.length + 2 * vp.length + 1 := by
  unfold W.give; rw [W.put_len, upTo_len _ 2 (fun s i => by rw [W.move_len]), W.here_len]
theorem W.absent_len (s : W) (kp : List Nat) (sl : Nat) : (s.absent kp sl).list.length = s.list.length + 8 + 2 * kp.length := by
  unfold W.absent; rw [W.put_len, W.put_len, W.put_len, W.put_len, upTo_len _ 2 (fun s i => by rw [W.move_len])]; (repeat (first | rw [W.put_len] | rw [W.here_len])); omega
theorem W.search_len (s : W) (kp : List Nat) (vl : Nat) : (s.search kp vl).list.length = s.list.length + 10 + 3 * kp.length := by
  unfold W.search; rw [W.put_len, W.put_len, W.here_len, W.put_len, upTo_len _ 3 (fun s i => by rw [W.put_len, W.put_len, W.put_len])]; (repeat (first | rw [W.put_len] | rw [W.here_len])); omega
theorem W.present_len (s : W) (n : Nat) : (s.present n).list.length = s.list.length + 9 + 2 * n := by
  unfold W.present; rw [W.put_len, W.put_len, W.put_len, W.put_len, upTo_len _ 2 (fun s i => by rw [W.move_len])]; (repeat (first | rw [W.put_len] | rw [W.here_len] | rw [W.task_len])); omega
/-- The whole program, labels not yet told. -/
def prog (kp vp : List Nat) (sl : Nat) : W := (((((W.start.choose.tell.empty.search kp vp.length).absent kp sl).present (kp.length + vp.length)).lay kp.length vp).give kp.length vp).refuse
end P
theorem built_w (kv vv : Value) (sl : Nat) : Tryz.prog.built 110 [(0, .agg #[kv, vv, .int .i64 sl])] = some #[kv, vv, .int .i64 sl, .slice none 0 0, .int .i64 0, .int .i64 0, .int .i64 0, .int .i64 0, .int .i64 0, .int .i64 0, .int .i64 0, .int .i64 0, .int .i64 0, .int .i64 0, .int .i64 0, .int .i64 0, .int .i64 0, .int .i64 0, .int .i64 0, .int .i64 0] := by rfl
theorem wpList_build_to {P : Program} {ops : Array Oper} {rest : List Oper} {o : Oper} {a : Act} {w : World} {Q : Exit → Act → World → Prop} (hg : o.guard = none) (t : TypeId) (i : Nat) (x : Operand) (ho : o.op = .build t #[(i, x)]) (v : Value) (hv : a.eval x = v) (cells : Array Value)
    (hb : P.built t [(i, v)] = some cells) (h : wpList P ops Q rest (a.put o.dst (.agg cells)) w) : wpList P ops Q (o :: rest) a w := by
  have e : (Array.map (fun (p : Nat × Operand) => (p.1, a.eval p.2)) #[(i, x)]).toList = [(i, v)] := by simp [hv]
  exact wpList_build hg t #[(i, x)] ho (by show (P.built t (Array.map (fun (p : Nat × Operand) => (p.1, a.eval p.2)) #[(i, x)]).toList).isSome = true; rw [e, hb]; rfl) (by show wpList P ops Q rest (a.put o.dst (.agg ((P.built t (Array.map (fun (p : Nat × Operand) => (p.1, a.eval p.2)) #[(i, x)]).toList).getD #[]))) w; rw [e, hb]; exact h)
theorem run_alloc_to {P : Program} (w : World) (t : TypeId) (z : Value) (hz : (P.info? t).bind (·.zero) = some z) : (Instr.alloc t true (.tuple #[])).run P w = .ok (.pointer (some ⟨w.heap.size, 0, none⟩)) (w.alloc (.cells z.cells t)) := by
  cases hq : P.info? t with
  | none => simp [hq] at hz
  | some i =>
    simp [hq] at hz
    simp [Instr.alloc, zeroValue, typeInfo, newVar, newRow, hq, hz]
theorem wpList_alloc_to {P : Program} {ops : Array Oper} {rest : List Oper} {o : Oper} {a : Act} {w : World} {Q : Exit → Act → World → Prop} (hg : o.guard = none) (t : TypeId) (ho : o.op = .alloc t) (z : Value) (hz : (P.info? t).bind (·.zero) = some z)
    (h : wpList P ops Q rest (a.put o.dst (.pointer (some ⟨w.heap.size, 0, none⟩))) (w.alloc (.cells z.cells t))) : wpList P ops Q (o :: rest) a w :=
  wpList_plain hg fun K hK => by
    unfold Oper.wp execOp
    simp only [ho, Sem.run_bind, run_alloc_to w t z hz, Result.andThen_ok]
    exact hK _ _ h
theorem setRow_new (w : World) (o : Array Value) (t : TypeId) (cells : Array Value) (g : Nat) (hg : g = w.heap.size) : (w.alloc (.cells o t)).setRow g cells = w.alloc (.cells cells t) := by
  subst hg
  unfold World.setRow World.alloc
  congr 1
  apply Array.ext_getElem?
  intro i
  simp [Array.getElem?_modify, Array.getElem?_push]
  split
  · rename_i h; subst h; simp
  · rename_i h; rw [if_neg (fun e => h e.symm), if_neg (fun e => h e.symm)]
theorem zero_w : (Tryz.prog.info? 110).bind (·.zero) = some (.agg #[.slice none 0 0, .slice none 0 0, .int .i64 0, .slice none 0 0, .int .i64 0, .int .i64 0, .int .i64 0, .int .i64 0, .int .i64 0, .int .i64 0, .int .i64 0, .int .i64 0, .int .i64 0, .int .i64 0, .int .i64 0, .int .i64 0, .int .i64 0, .int .i64 0, .int .i64 0, .int .i64 0]) := by kernel_rfl
theorem size_w : (Tryz.prog.info? 110).map (·.size) = some 20 := by kernel_rfl
theorem size_p : (Tryz.prog.info? 65).map (·.size) = some 3 := by kernel_rfl
set_option maxHeartbeats 4000000 in
theorem pcode_any {w : World} {sl : Nat} {kv vv : Value} (kp vp : List Nat) (hk : Kp w w.heap.size kv kp) (hv : Kp w w.heap.size vv vp) (hk1 : 1 ≤ kp.length) (hv1 : 1 ≤ vp.length) (hkl : kp.length ≤ 32) (hvl : vp.length ≤ 32) (hp1 : 1 ≤ (P.prog kp vp sl).list.length) (hp8 : (P.prog kp vp sl).list.length ≤ 800) (hlab : ∀ x ∈ (P.prog kp vp sl).list, 11 ≤ x.op → x.k < 16) (hsm : ∀ x ∈ (P.prog kp vp sl).resolve, P.Small x) :
    Calls Tryz.prog 31 #[.agg #[kv, vv, .int .i64 sl]] w fun e w' => e = .returned (.string ⟨(P.text (P.prog kp vp sl).resolve).toArray⟩) ∧ Below w.heap.size w w' := by
  obtain ⟨q1, e1⟩ : ∃ q, P.W.start.choose = q := ⟨_, rfl⟩
  obtain ⟨q2, e2⟩ : ∃ q, q1.tell = q := ⟨_, rfl⟩
  obtain ⟨q3, e3⟩ : ∃ q, q2.empty = q := ⟨_, rfl⟩
  obtain ⟨q4, e4⟩ : ∃ q, q3.search kp vp.length = q := ⟨_, rfl⟩
  obtain ⟨q5, e5⟩ : ∃ q, q4.absent kp sl = q := ⟨_, rfl⟩
  obtain ⟨q6, e6⟩ : ∃ q, q5.present (kp.length + vp.length) = q := ⟨_, rfl⟩
  obtain ⟨q7, e7⟩ : ∃ q, q6.lay kp.length vp = q := ⟨_, rfl⟩
  obtain ⟨q8, e8⟩ : ∃ q, q7.give kp.length vp = q := ⟨_, rfl⟩
  obtain ⟨q9, e9⟩ : ∃ q, q8.refuse = q := ⟨_, rfl⟩
  have eq : P.prog kp vp sl = q9 := by unfold P.prog; rw [e1, e2, e3, e4, e5, e6, e7, e8, e9]
  rw [eq] at hp1 hp8 hlab hsm ⊢
  have L0 : Hid (P.W.start.list.length ≤ 1000) := Nat.zero_le _
  have l1 : q1.list.length ≤ 11 := by rw [← e1, P.W.choose_len]; exact Nat.le_refl _
  have l2 : q2.list.length ≤ 13 := by rw [← e2, P.W.tell_len]; omega
  have l3 : q3.list.length ≤ 15 := by rw [← e3, P.W.empty_len]; omega
  have l4 : q4.list.length ≤ 121 := by rw [← e4, P.W.search_len]; omega
  have l5 : q5.list.length ≤ 193 := by rw [← e5, P.W.absent_len]; omega
  have l6 : q6.list.length ≤ 330 := by rw [← e6, P.W.present_len]; omega
  have l7 : q7.list.length ≤ 395 := by rw [← e7, P.W.lay_len]; omega
  have l8 : q8.list.length ≤ 460 := by rw [← e8, P.W.give_len]; omega
  have L1 : Hid (q1.list.length ≤ 1000) := Nat.le_trans l1 (by decide)
  have L2 : Hid (q2.list.length ≤ 1000) := Nat.le_trans l2 (by decide)
  have L3 : Hid (q3.list.length ≤ 1000) := Nat.le_trans l3 (by decide)
  have L4 : Hid (q4.list.length ≤ 1000) := Nat.le_trans l4 (by decide)
  have L5 : Hid (q5.list.length ≤ 1000) := Nat.le_trans l5 (by decide)
  have L6 : Hid (q6.list.length ≤ 1000) := Nat.le_trans l6 (by decide)
  have L7 : Hid (q7.list.length ≤ 1000) := Nat.le_trans l7 (by decide)
  have L8 : Hid (q8.list.length ≤ 1000) := Nat.le_trans l8 (by decide)
  have E1 := hid_m e1
  have E2 := hid_m e2
  have E3 := hid_m e3
  have E4 := hid_m e4
  have E5 := hid_m e5
  have E6 := hid_m e6
  have E7 := hid_m e7
  have E8 := hid_m e8
  have E9 := hid_m e9
  clear e1 e2 e3 e4 e5 e6 e7 e8 e9 l1 l2 l3 l4 l5 l6 l7 l8 eq
  obtain ⟨bv, hov⟩ := hv.own
  obtain ⟨bk, hok⟩ := hk.own
  obtain ⟨gv, cv, hvv, _, _⟩ := hov.form hv1
  obtain ⟨gk, ck, hkv, _, _⟩ := hok.form hk1
  obtain ⟨nv, hnv⟩ : ∃ n, vp.length = n := ⟨_, rfl⟩
  obtain ⟨nk, hnk⟩ : ∃ n, kp.length = n := ⟨_, rfl⟩
  rw [hnv] at hvv
  rw [hnk] at hkv
  subst hvv
  subst hkv
  have HK := hid_m hk
  have HV := hid_m hv
  clear hk hv hov hok
  go_enter Tryz.func31, Tryz.ntmps31
  go_wp2_with (first
    | (refine wpList_load_row rfl 65 _ rfl w.heap.size rfl 65 #[.slice (some ⟨gk, 0, none⟩) nk ck, .slice (some ⟨gv, 0, none⟩) nv cv, .int .i64 sl] (0, 0) _ (heap_alloc_new _ _) Tryz.underlying65 rfl size_p ?_
       refine wpList_build_to rfl 110 _ _ rfl (.agg #[.slice (some ⟨gk, 0, none⟩) nk ck, .slice (some ⟨gv, 0, none⟩) nv cv, .int .i64 sl]) rfl #[.slice (some ⟨gk, 0, none⟩) nk ck, .slice (some ⟨gv, 0, none⟩) nv cv, .int .i64 sl, .slice none 0 0, .int .i64 0, .int .i64 0, .int .i64 0, .int .i64 0, .int .i64 0, .int .i64 0, .int .i64 0, .int .i64 0, .int .i64 0, .int .i64 0, .int .i64 0, .int .i64 0, .int .i64 0, .int .i64 0, .int .i64 0, .int .i64 0] (built_w _ _ _) ?_
       refine wpList_alloc_to rfl 110 rfl _ zero_w ?_
       refine wpList_store_row rfl 110 _ _ rfl _ #[.slice (some ⟨gk, 0, none⟩) nk ck, .slice (some ⟨gv, 0, none⟩) nv cv, .int .i64 sl, .slice none 0 0, .int .i64 0, .int .i64 0, .int .i64 0, .int .i64 0, .int .i64 0, .int .i64 0, .int .i64 0, .int .i64 0, .int .i64 0, .int .i64 0, .int .i64 0, .int .i64 0, .int .i64 0, .int .i64 0, .int .i64 0, .int .i64 0] rfl rfl 110 _ (heap_alloc_new _ _) size_w rfl (by simp [Value.oneCell']) ?_
       rw [setRow_new _ _ _ _ _ rfl]))
  have hbA : Below w.heap.size w ((w.alloc (.cells #[.slice (some ⟨gk, 0, none⟩) nk ck, .slice (some ⟨gv, 0, none⟩) nv cv, .int .i64 sl] 65)).alloc (.cells #[.slice (some ⟨gk, 0, none⟩) nk ck, .slice (some ⟨gv, 0, none⟩) nv cv, .int .i64 sl, .slice none 0 0, .int .i64 0, .int .i64 0, .int .i64 0, .int .i64 0, .int .i64 0, .int .i64 0, .int .i64 0, .int .i64 0, .int .i64 0, .int .i64 0, .int .i64 0, .int .i64 0, .int .i64 0, .int .i64 0, .int .i64 0, .int .i64 0] 110)) := ((Below.refl _ _).alloc (Nat.le_refl _) _).alloc (by simp) _
  have hwA : Wo ((w.alloc (.cells #[.slice (some ⟨gk, 0, none⟩) nk ck, .slice (some ⟨gv, 0, none⟩) nv cv, .int .i64 sl] 65)).alloc (.cells #[.slice (some ⟨gk, 0, none⟩) nk ck, .slice (some ⟨gv, 0, none⟩) nv cv, .int .i64 sl, .slice none 0 0, .int .i64 0, .int .i64 0, .int .i64 0, .int .i64 0, .int .i64 0, .int .i64 0, .int .i64 0, .int .i64 0, .int .i64 0, .int .i64 0, .int .i64 0, .int .i64 0, .int .i64 0, .int .i64 0, .int .i64 0, .int .i64 0] 110)) (w.heap.size + 1) (.slice (some ⟨gk, 0, none⟩) nk ck) (.slice (some ⟨gv, 0, none⟩) nv cv) sl P.W.start (.slice none 0 0) := by
    refine ⟨?_, World.ownsRow_nil _ _ _ _, rfl⟩
    have e : w.heap.size + 1 = (w.alloc (.cells #[.slice (some ⟨gk, 0, none⟩) nk ck, .slice (some ⟨gv, 0, none⟩) nv cv, .int .i64 sl] 65)).heap.size := by simp
    rw [e]; exact heap_alloc_new _ _
  generalize ((w.alloc (.cells #[.slice (some ⟨gk, 0, none⟩) nk ck, .slice (some ⟨gv, 0, none⟩) nv cv, .int .i64 sl] 65)).alloc (.cells #[.slice (some ⟨gk, 0, none⟩) nk ck, .slice (some ⟨gv, 0, none⟩) nv cv, .int .i64 sl, .slice none 0 0, .int .i64 0, .int .i64 0, .int .i64 0, .int .i64 0, .int .i64 0, .int .i64 0, .int .i64 0, .int .i64 0, .int .i64 0, .int .i64 0, .int .i64 0, .int .i64 0, .int .i64 0, .int .i64 0, .int .i64 0, .int .i64 0] 110)) = W at hbA hwA ⊢
  obtain ⟨b, hb⟩ : ∃ b, w.heap.size + 1 = b := ⟨_, rfl⟩
  have KK : Hid (Kp W b (.slice (some ⟨gk, 0, none⟩) nk ck) kp) := ⟨(HK.out.on hbA).own, fun g hg => by have := HK.out.low g hg; omega⟩
  have KV : Hid (Kp W b (.slice (some ⟨gv, 0, none⟩) nv cv) vp) := ⟨(HV.out.on hbA).own, fun g hg => by have := HV.out.low g hg; omega⟩
  rw [hb] at hwA ⊢
  have HW := hid_m hwA
  have HBW : Hid (Below b W W) := Below.refl _ _
  have HBA := hid_m hbA
  have HBE := hid_m hb
  have HLB := hid_m hlab
  have HPN := hid_m (And.intro hp1 hp8)
  have HSM := hid_m hsm
  clear hbA hwA hb hlab hsm hnv hnk hp1 hp8
  refine (pchoose_any HW.out (Nat.le_trans L0.out (by decide))).mono ?_
  rintro e w0 ⟨rfl, ⟨lv0, hw⟩, hbb⟩
  rw [E1.out] at hw
  have H0 := hid_m hw
  have B0 := hid_m (HBW.out.trans hbb)
  clear hw hbb
  go_wp2_with fail
  refine (ptell_any H0.out (Nat.le_trans L1.out (by decide))).mono ?_
  rintro e w1 ⟨rfl, ⟨lv1, hw⟩, hbb⟩
  rw [E2.out] at hw
  have H1 := hid_m hw
  have B1 := hid_m (B0.out.trans hbb)
  clear hw hbb
  go_wp2_with fail
  refine (pempty_any H1.out (Nat.le_trans L2.out (by decide))).mono ?_
  rintro e w2 ⟨rfl, ⟨lv2, hw⟩, hbb⟩
  rw [E3.out] at hw
  have H2 := hid_m hw
  have B2 := hid_m (B1.out.trans hbb)
  clear hw hbb
  go_wp2_with fail
  refine (psearch_any kp vp H2.out (KK.out.on B2.out) (KV.out.on B2.out) hk1 hv1 (by omega) (by omega) (Nat.le_trans L3.out (by decide))).mono ?_
  rintro e w3 ⟨rfl, ⟨lv3, hw⟩, hbb⟩
  rw [E4.out] at hw
  have H3 := hid_m hw
  have B3 := hid_m (B2.out.trans hbb)
  clear hw hbb
  go_wp2_with fail
  refine (pabsent_any kp vp H3.out (KK.out.on B3.out) (KV.out.on B3.out) hk1 hv1 (by omega) (by omega) (Nat.le_trans L4.out (by decide))).mono ?_
  rintro e w4 ⟨rfl, ⟨lv4, hw⟩, hbb⟩
  rw [E5.out] at hw
  have H4 := hid_m hw
  have B4 := hid_m (B3.out.trans hbb)
  clear hw hbb
  go_wp2_with fail
  refine (ppresent_any kp vp H4.out (KK.out.on B4.out) (KV.out.on B4.out) hk1 hv1 (by omega) (by omega) (Nat.le_trans L5.out (by decide))).mono ?_
  rintro e w5 ⟨rfl, ⟨lv5, hw⟩, hbb⟩
  rw [E6.out] at hw
  have H5 := hid_m hw
  have B5 := hid_m (B4.out.trans hbb)
  clear hw hbb
  go_wp2_with fail
  refine (play_any kp vp H5.out (KK.out.on B5.out) (KV.out.on B5.out) hk1 hv1 (by omega) (by omega) (Nat.le_trans L6.out (by decide))).mono ?_
  rintro e w6 ⟨rfl, ⟨lv6, hw⟩, hbb⟩
  rw [E7.out] at hw
  have H6 := hid_m hw
  have B6 := hid_m (B5.out.trans hbb)
  clear hw hbb
  go_wp2_with fail
  refine (pgive_any kp vp H6.out (KK.out.on B6.out) (KV.out.on B6.out) hk1 hv1 (by omega) (by omega) (Nat.le_trans L7.out (by decide))).mono ?_
  rintro e w7 ⟨rfl, ⟨lv7, hw⟩, hbb⟩
  rw [E8.out] at hw
  have H7 := hid_m hw
  have B7 := hid_m (B6.out.trans hbb)
  clear hw hbb
  go_wp2_with fail
  refine (prefuse_any H7.out (Nat.le_trans L8.out (by decide))).mono ?_
  rintro e w8 ⟨rfl, ⟨lv8, hw⟩, hbb⟩
  rw [E9.out] at hw
  have H8 := hid_m hw
  have B8 := hid_m (B7.out.trans hbb)
  clear hw hbb
  go_wp2_with fail
  refine (wtext_any H8.out HPN.out.2 HPN.out.1 HLB.out HSM.out).mono ?_
  rintro e w9 ⟨rfl, hbb⟩
  have HF : Hid (Below w.heap.size w w9) := HBA.out.trans ((B8.out.mono (by rw [← HBE.out]; omega)).trans (hbb.mono (by have := HBA.out.size; have := B8.out.size; omega)))
  clear hbb
  go_wp2_with fail
  go_ret
  exact ⟨rfl, HF.out⟩
end Go.Proofs.YtghggcehloiemabGreatDoor
