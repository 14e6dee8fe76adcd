import Derived.Test.YtghggcehloiemabGreatDoorPrNAll
import Derived.Test.YtghggcehloiemabGreatDoorLayWAll
import Derived.Test.YtghggcehloiemabGreatDoorTellWAll
import Derived.Test.YtghggcehloiemabGreatDoorRefEncAll
import Derived.Test.YtghggcehloiemabGreatDoorParseWAll
namespace Go.Proofs.YtghggcehloiemabGreatDoor
open Go.RowKit
set_option linter.unusedVariables false
set_option maxRecDepth 16000
set_option maxHeartbeats 4000000 in
theorem blank_any (n : Nat) (w : World) (hn : n ≤ 2000) (hn1 : 1 ≤ n) : Calls Tryz.prog 33 #[.int .i64 n] w fun e w' => e = .returned (.string ⟨(List.replicate n (0 : UInt8)).toArray⟩) ∧ Below w.heap.size w w' := by
  obtain ⟨i0, hi0, hz0, hz1, hz2⟩ := info_parts Tryz.infoU8
  go_enter Tryz.func33, Tryz.ntmps33
  go_wp2_with fail
  go_loopw [3, 4] (fun b i wr => ∃ k : Nat, k ≤ n ∧ i = .int .i64 k ∧ wr.ownsRow w.heap.size 5 1 b k ((List.replicate k (0 : UInt8)).map u8v) ∧ Below w.heap.size w wr) (fun _ i _ => n - (intOf i).toNat)
  case atStart => exact ⟨0, by omega, rfl, World.ownsRow_nil _ _ _ _, Below.refl _ _⟩
  case round =>
    obtain ⟨k, hk, rfl, hown, hb2⟩ := hrel
    have hb2s := hb2.size
    by_cases hlt : k < n
    · go_wp2_with (first
        | (at_builtin; refine wpList_append_lies _ rfl _ _ 38 rfl w.heap.size 5 i0 (.int .u8 0) 1 1 Tryz.underlying38 hi0 hz0 hz1 hz2 rfl (by decide) u3 k ((List.replicate k (0 : UInt8)).map u8v) rfl (hown.alloc _) ⟨wr.heap.size, 0, none⟩ 1 1 [.int .u8 0] rfl rfl (one_new _ _ _) (fun x hx => by simp at hx; subst hx; rfl) (by omega) (by unfold maxLen; omega) (by omega) (by simp; omega) _ rfl ?_; intro g cap w3 hown' hgrow hat hlt3
           have hb3 : Below w.heap.size w w3 := Below.grown (hb2.alloc hb2s _) hgrow (by simp; omega) (fun j hj => (hown.lt _ hj).1)))
      refine ⟨⟨k + 1, by omega, by go_num, ?_, hb3⟩, by simp [intOf]; omega⟩
      rw [List.replicate_succ', List.map_append]
      exact hown'
    · have hke : k = n := by omega
      subst hke
      have hl : (List.replicate k (0 : UInt8)).length = k := List.length_replicate
      obtain ⟨g, capb, hvb, _, _⟩ := hown.form hn1
      subst hvb
      have hown2 : wr.ownsRow w.heap.size 5 1 (.slice (some ⟨g, 0, none⟩) k capb) (List.replicate k (0 : UInt8)).length ((List.replicate k (0 : UInt8)).map u8v) := by rw [hl]; exact hown
      have hcv : (convert 38 9 (.slice (some ⟨g, 0, none⟩) k capb)).run Tryz.prog wr = .ok (.string ⟨(List.replicate k (0 : UInt8)).toArray⟩) wr := by
        have := run_convert_bytes_arg (P := Tryz.prog) wr 38 5 Tryz.underlying38 Tryz.underlying5 g 0 k capb ((List.replicate k (0 : UInt8)).map fun c => (c.toNat : Int)) (by simp) (by
          intro j hj
          rw [Nat.zero_add]
          have := u8_row_cell hown2 (k := j) (by rw [hl]; exact hj)
          simpa [List.getD, u8v, hj] using this) 9 Tryz.underlying9
        rw [this]
        congr 2
        simp [strOfNums]
      obtain ⟨bs, hbs⟩ : ∃ bs : ByteArray, ⟨(List.replicate k (0 : UInt8)).toArray⟩ = bs := ⟨_, rfl⟩
      rw [hbs] at hcv
      have HBS := hid_m hbs
      have HB := hid_m hb2
      clear hbs hown hown2 hl
      go_wp2_with fail
      go_ret
      exact ⟨by rw [HBS.out]; rfl, HB.out⟩
set_option maxHeartbeats 1000000 in
theorem ahead_any (m : ByteArray) (p : Nat) (w : World) (h : p ≤ m.size) (hm : m.size ≤ 4000) : Calls Tryz.prog 116 #[.string m, .int .i64 p] w fun e w' => e = .returned (.string (m.extract 0 p)) ∧ w' = w := by
  have h0 : ¬ (p : Int) < 0 := by omega
  have h1 : (p : Int) ≤ (m.size : Int) := by omega
  have h2 : (0 : Int) ≤ (p : Int) := by omega
  go_enter Tryz.func116, Tryz.ntmps116
  go_wp2_with fail
  go_ret
  exact ⟨rfl, rfl⟩
set_option maxHeartbeats 1000000 in
theorem behind_any (m : ByteArray) (p : Nat) (w : World) (h : p ≤ m.size) (hm : m.size ≤ 4000) : Calls Tryz.prog 71 #[.string m, .int .i64 p] w fun e w' => e = .returned (.string (m.extract p m.size)) ∧ w' = w := by
  have h0 : ¬ (p : Int) < 0 := by omega
  have h1 : (p : Int) ≤ (m.size : Int) := by omega
  have h2 : (0 : Int) ≤ (p : Int) := by omega
  go_enter Tryz.func71, Tryz.ntmps71
  go_wp2_with fail
  go_ret
  exact ⟨rfl, rfl⟩
def errNo (st : Nat) : Nat := if st = 1 then 10 else if st = 2 then 9 else 0
set_option maxHeartbeats 1000000 in
theorem errno_any (st : Nat) (w : World) (h : st ≤ 3) : Calls Tryz.prog 115 #[.int .i64 st] w fun e w' => e = .returned (.int .i64 (errNo st)) ∧ w' = w := by
  have hc : st = 0 ∨ st = 1 ∨ st = 2 ∨ st = 3 := by omega
  rcases hc with rfl | rfl | rfl | rfl
  all_goals
    go_enter Tryz.func115, Tryz.ntmps115
    go_wp2_with fail
    go_ret
    exact ⟨rfl, rfl⟩
end Go.Proofs.YtghggcehloiemabGreatDoor
namespace Go.Proofs.YtghggcehloiemabGreatDoor
open Go.RowKit
set_option linter.unusedVariables false
set_option maxRecDepth 16000
def dropT : Nat → Code → Code
  | 0, c => c
  | k + 1, .seq _ b => dropT k b
  | _ + 1, c => c
theorem t_blk_on {w w' : World} {b : Nat} {o : Obj} (hb : Below w.heap.size w w') (h : w.heap[b]? = some o) : w'.heap[b]? = some o := by rw [hb.block b (m_blk_lt h)]; exact h
/-- A table of the program's in memory. -/
structure Tbl (w : World) (b : Nat) (tk tv : P.Ty 4) (sl : Nat) (a3 b3 cv : Value) (bytes : ByteArray) (S : Nat → Prop) : Prop where
  blk : w.heap[b]? = some (.cells #[.int .i64 (P.sz 4 tk).1, .int .i64 (P.sz 4 tk).2, a3, .int .i64 (P.sz 4 tv).1, .int .i64 (P.sz 4 tv).2, b3, cv, .string bytes] 79 (0, 0))
  pk : ∃ base, w.ownsRow base 145 4 a3 (P.parts 4 tk).length (cellsOf (P.parts 4 tk))
  pv : ∃ base, w.ownsRow base 145 4 b3 (P.parts 4 tv).length (cellsOf (P.parts 4 tv))
  pc : ∃ base, w.ownsRow base 112 4 cv (P.codeOf (P.text (P.prog (P.cov (P.parts 4 tk)) (P.cov (P.parts 4 tv)) sl).resolve)).length (codeCells (P.codeOf (P.text (P.prog (P.cov (P.parts 4 tk)) (P.cov (P.parts 4 tv)) sl).resolve)))
  sub : ∀ g, a3.ownBlock = some g ∨ b3.ownBlock = some g ∨ cv.ownBlock = some g → S g
  own : ∀ g, S g → g ≠ b ∧ g < w.heap.size
section
variable {w w' : World} {b : Nat} {tk tv : P.Ty 4} {sl : Nat} {a3 b3 cv : Value} {bytes : ByteArray} {S : Nat → Prop}
theorem Tbl.lt (h : Tbl w b tk tv sl a3 b3 cv bytes S) : b < w.heap.size := m_blk_lt h.blk
theorem Tbl.of (h : Tbl w b tk tv sl a3 b3 cv bytes S) (hs : w.heap.size ≤ w'.heap.size) (hb : w'.heap[b]? = w.heap[b]?) (hS : ∀ g, S g → w'.heap[g]? = w.heap[g]?) : Tbl w' b tk tv sl a3 b3 cv bytes S := by
  obtain ⟨b1, h1⟩ := h.pk
  obtain ⟨b2, h2⟩ := h.pv
  obtain ⟨b4, h4⟩ := h.pc
  exact ⟨by rw [hb]; exact h.blk, ⟨b1, m_owns_of h1 (fun g hg => hS g (h.sub g (Or.inl hg)))⟩, ⟨b2, m_owns_of h2 (fun g hg => hS g (h.sub g (Or.inr (Or.inl hg))))⟩, ⟨b4, m_owns_of h4 (fun g hg => hS g (h.sub g (Or.inr (Or.inr hg))))⟩, h.sub, fun g hg => ⟨(h.own g hg).1, by have := (h.own g hg).2; omega⟩⟩
theorem Tbl.on (h : Tbl w b tk tv sl a3 b3 cv bytes S) (hb : Below w.heap.size w w') : Tbl w' b tk tv sl a3 b3 cv bytes S := h.of hb.size (hb.block b h.lt) (fun g hg => hb.block g (h.own g hg).2)
theorem Tbl.set (h : Tbl w b tk tv sl a3 b3 cv bytes S) (m : ByteArray) : Tbl (w.setCell ⟨b, 7, none⟩ (.string m)) b tk tv sl a3 b3 cv m S := by
  have hs : (w.setCell ⟨b, 7, none⟩ (.string m)).heap.size = w.heap.size := by simp [World.setCell]
  have hS : ∀ g, S g → (w.setCell ⟨b, 7, none⟩ (.string m)).heap[g]? = w.heap[g]? := fun g hg => set_other (h.own g hg).1
  obtain ⟨b1, h1⟩ := h.pk
  obtain ⟨b2, h2⟩ := h.pv
  obtain ⟨b4, h4⟩ := h.pc
  refine ⟨?_, ⟨b1, m_owns_of h1 (fun g hg => hS g (h.sub g (Or.inl hg)))⟩, ⟨b2, m_owns_of h2 (fun g hg => hS g (h.sub g (Or.inr (Or.inl hg))))⟩, ⟨b4, m_owns_of h4 (fun g hg => hS g (h.sub g (Or.inr (Or.inr hg))))⟩, h.sub, fun g hg => ⟨(h.own g hg).1, by have := (h.own g hg).2; omega⟩⟩
  simp [World.setCell, Array.getElem?_modify, h.blk]
theorem Tbl.cells (h : Tbl w b tk tv sl a3 b3 cv bytes S) : w.cell? ⟨b, 0, none⟩ = some (.int .i64 (P.sz 4 tk).1) ∧ w.cell? ⟨b, 1, none⟩ = some (.int .i64 (P.sz 4 tk).2) ∧ w.cell? ⟨b, 2, none⟩ = some a3 ∧ w.cell? ⟨b, 3, none⟩ = some (.int .i64 (P.sz 4 tv).1) ∧ w.cell? ⟨b, 4, none⟩ = some (.int .i64 (P.sz 4 tv).2) ∧ w.cell? ⟨b, 5, none⟩ = some b3 ∧ w.cell? ⟨b, 6, none⟩ = some cv ∧ w.cell? ⟨b, 7, none⟩ = some (.string bytes) ∧ ∀ j, w.frozen? ⟨b, j, none⟩ = false := by
  refine ⟨?_, ?_, ?_, ?_, ?_, ?_, ?_, ?_, fun j => by simp [World.frozen?, h.blk]⟩ <;> (rw [cell_of_row _ _ _ _ _ _ h.blk]; rfl)
end
set_option maxHeartbeats 4000000 in
theorem do_ok {w0 w : World} (b rb ob R : Nat) (tk tv : P.Ty 4) (sl : Nat) (a3 b3 cv : Value) (bytes om : ByteArray) (S : Nat → Prop) (res st n : Nat) (h : Tbl w b tk tv sl a3 b3 cv bytes S) (hr : w.heap[rb]? = some (.cells #[.string ⟨#[]⟩, .int .i64 0, .int .i64 0, .int .i64 0] 56 (0, 0))) (ho : w.heap[ob]? = some (.cells #[.string om, .int .i64 res, .int .i64 st, .int .i64 n] 56 (0, 0)))
    (hb0 : b < w0.heap.size) (hrb : w0.heap.size ≤ rb) (hrob : rb ≠ ob) (hob : w0.heap.size ≤ ob) (hbel : Below w0.heap.size w0 w) (hS0 : ∀ g, S g → g < w0.heap.size) (hR : R ≤ om.size) (hom : om.size ≤ 4000) (hst : st = 0)
    (c1 c2 c3 c4 c5 c6 c7 c11 c14 c15 c16 c17 c18 c19 c20 c21 c22 c23 c24 c25 c26 c27 c28 c29 c30 c31 c32 c33 c34 c35 c36 c37 c38 c39 c40 c41 c42 c43 c44 c45 c46 c47 c48 c49 c50 c51 c52 c53 c54 c55 c56 c57 c58 c59 c60 c61 : Value) :
    Code.wp Tryz.prog (dropT 4 (Tryz.f72.body.getD .skip)) (bodyPost Tryz.prog Tryz.f72 fun e w' => e = .returned (.tuple #[.agg #[.string om, .int .i64 res, .int .i64 0, .int .i64 n], .int .i64 0]) ∧ Tbl w' b tk tv sl a3 b3 cv (om.extract 0 R) S ∧ Fr b none w0 w') ⟨#[.pointer (some ⟨b, 0, none⟩), c1, c2, c3, c4, c5, c6, c7, .pointer (some ⟨rb, 0, none⟩), .int .i64 0, .int .i64 R, c11, .pointer (some ⟨ob, 0, none⟩), .int .i64 0, c14, c15, c16, c17, c18, c19, c20, c21, c22, c23, c24, c25, c26, c27, c28, c29, c30, c31, c32, c33, c34, c35, c36, c37, c38, c39, c40, c41, c42, c43, c44, c45, c46, c47, c48, c49, c50, c51, c52, c53, c54, c55, c56, c57, c58, c59, c60, c61], []⟩ w := by
  subst hst
  have HE := hid_m (fun w => errno_any 0 w (by decide))
  have HA := hid_m (fun w => ahead_any om R w hR hom)
  obtain ⟨n0, n1, n2, n3, n4, n5, n6, n7, nf⟩ := h.cells
  have HH := hid_m h
  have HR := hid_m hr
  have HBD := hid_m (And.intro hb0 (And.intro hrb (And.intro hrob hob)))
  have HBEL := hid_m hbel
  have HS0 := hid_m hS0
  obtain ⟨e0, e1, e2, e3, ef⟩ := out_facts ho
  obtain ⟨r0, r1, r2, r3, rf⟩ := out_facts hr
  have HO := hid_m ho
  clear h hr ho hb0 hrb hrob hob hbel hS0 hR hom n0 n1 n2 n3 n4 n5 n6
  conv => arg 2; whnf
  go_wp2_with fail
  refine (HE.out _).mono ?_
  rintro e wz ⟨rfl, hwz⟩
  subst wz
  unfold errNo
  go_wp2_with fail
  refine (HA.out _).mono ?_
  rintro e wz ⟨rfl, hwz⟩
  subst wz
  rename_i K9 hK9 Kc hKc
  have HK9 := hid_m hK9
  clear hK9
  go_wp2_with fail
  refine HK9.out _ _ ?_
  obtain ⟨w1, hw1⟩ : ∃ W, (w.setCell ⟨b, 7, none⟩ (.string (om.extract 0 R))) = W := ⟨_, rfl⟩
  have HT1 : Hid (Tbl w1 b tk tv sl a3 b3 cv (om.extract 0 R) S) := by unfold Hid; rw [← hw1]; exact HH.out.set _
  have HO1 : Hid (w1.heap[ob]? = some (.cells #[.string om, .int .i64 res, .int .i64 (0 : Nat), .int .i64 n] 56 (0, 0))) := by unfold Hid; rw [← hw1, set_other (by have := HBD.out; omega)]; exact HO.out
  have HR1 : Hid (w1.heap[rb]? = some (.cells #[.string ⟨#[]⟩, .int .i64 0, .int .i64 0, .int .i64 0] 56 (0, 0))) := by unfold Hid; rw [← hw1, set_other (by have := HBD.out; omega)]; exact HR.out
  have HF1 : Hid (Fr b none w0 w1) := by unfold Hid; rw [← hw1]; exact (Fr.of (b := b) (r := none) HBEL.out).set 7 _
  rw [hw1]
  clear hw1 n7 nf e0 e1 e2 e3 ef r0 r1 r2 r3 rf HK9
  obtain ⟨e0, e1, e2, e3, ef⟩ := out_facts HO1.out
  obtain ⟨r0, r1, r2, r3, rf⟩ := out_facts HR1.out
  go_wp2_with fail
  obtain ⟨W4, hW4, z0, z1, z2, z3, hbf⟩ := out_end (.string om) (.int .i64 res) (.int .i64 0) (.int .i64 n) HR1.out (Below.refl rb w1) (Nat.le_refl _)
  rw [hW4]
  refine bodyPost_ret (v := .tuple #[.agg #[.string om, .int .i64 res, .int .i64 0, .int .i64 n], .int .i64 0]) (by simp [results, Tryz.results72, go_sem, z0, z1, z2, z3]) rfl ?_
  refine ⟨rfl, HT1.out.of hbf.size (hbf.block b (by have := HBD.out; omega)) (fun g hg => hbf.block g (by have := HS0.out g hg; have := HBD.out; omega)), ?_⟩
  exact ⟨hbf.os.trans HF1.out.os, hbf.tape.trans HF1.out.tape, hbf.output.trans HF1.out.output, Nat.le_trans HF1.out.size hbf.size, fun k hk hkb hr => (hbf.block k (by have := HBD.out; omega)).trans (HF1.out.block k hk hkb hr)⟩
set_option maxHeartbeats 4000000 in
theorem do_no {w0 w : World} (b rb ob R : Nat) (tk tv : P.Ty 4) (sl : Nat) (a3 b3 cv : Value) (bytes om : ByteArray) (S : Nat → Prop) (res st n : Nat) (h : Tbl w b tk tv sl a3 b3 cv bytes S) (hr : w.heap[rb]? = some (.cells #[.string ⟨#[]⟩, .int .i64 0, .int .i64 0, .int .i64 0] 56 (0, 0))) (ho : w.heap[ob]? = some (.cells #[.string om, .int .i64 res, .int .i64 st, .int .i64 n] 56 (0, 0)))
    (hb0 : b < w0.heap.size) (hrb : w0.heap.size ≤ rb) (hrob : rb ≠ ob) (hob : w0.heap.size ≤ ob) (hbel : Below w0.heap.size w0 w) (hS0 : ∀ g, S g → g < w0.heap.size) (hR : R ≤ om.size) (hom : om.size ≤ 4000) (hst : st = 1 ∨ st = 2)
    (c1 c2 c3 c4 c5 c6 c7 c11 c14 c15 c16 c17 c18 c19 c20 c21 c22 c23 c24 c25 c26 c27 c28 c29 c30 c31 c32 c33 c34 c35 c36 c37 c38 c39 c40 c41 c42 c43 c44 c45 c46 c47 c48 c49 c50 c51 c52 c53 c54 c55 c56 c57 c58 c59 c60 c61 : Value) :
    Code.wp Tryz.prog (dropT 4 (Tryz.f72.body.getD .skip)) (bodyPost Tryz.prog Tryz.f72 fun e w' => e = .returned (.tuple #[.agg #[.string ⟨#[]⟩, .int .i64 0, .int .i64 0, .int .i64 0], .int .i64 (errNo st)]) ∧ Tbl w' b tk tv sl a3 b3 cv bytes S ∧ Fr b none w0 w') ⟨#[.pointer (some ⟨b, 0, none⟩), c1, c2, c3, c4, c5, c6, c7, .pointer (some ⟨rb, 0, none⟩), .int .i64 0, .int .i64 R, c11, .pointer (some ⟨ob, 0, none⟩), .int .i64 0, c14, c15, c16, c17, c18, c19, c20, c21, c22, c23, c24, c25, c26, c27, c28, c29, c30, c31, c32, c33, c34, c35, c36, c37, c38, c39, c40, c41, c42, c43, c44, c45, c46, c47, c48, c49, c50, c51, c52, c53, c54, c55, c56, c57, c58, c59, c60, c61], []⟩ w := by
  have HE := hid_m (fun w => errno_any st w (by omega))
  have hne : ((errNo st : Nat) : Int) ≠ 0 := by rcases hst with rfl | rfl <;> decide
  obtain ⟨er, her⟩ : ∃ er, errNo st = er := ⟨_, rfl⟩
  rw [her] at HE hne
  have hne2 : ((er : Int) == 0) = false := by rw [beq_eq_false_iff_ne]; exact hne
  have HH := hid_m h
  have HR := hid_m hr
  have HBD := hid_m (And.intro hb0 (And.intro hrb (And.intro hrob hob)))
  have HBEL := hid_m hbel
  have HS0 := hid_m hS0
  have HER := hid_m her
  obtain ⟨e0, e1, e2, e3, ef⟩ := out_facts ho
  obtain ⟨r0, r1, r2, r3, rf⟩ := out_facts hr
  clear h hr ho hb0 hrb hrob hob hbel hS0 hR hom hst her hne
  conv => arg 2; whnf
  go_wp2_with fail
  refine (HE.out _).mono ?_
  rintro e wz ⟨rfl, hwz⟩
  subst wz
  go_wp2_with fail
  obtain ⟨W4, hW4, z0, z1, z2, z3, hbf⟩ := out_end (.string ⟨#[]⟩) (.int .i64 0) (.int .i64 0) (.int .i64 0) HR.out (Below.refl rb w) (Nat.le_refl _)
  rw [hW4]
  refine bodyPost_ret (v := .tuple #[.agg #[.string ⟨#[]⟩, .int .i64 0, .int .i64 0, .int .i64 0], .int .i64 er]) (by simp [results, Tryz.results72, go_sem, z0, z1, z2, z3]) rfl ?_
  have hf : Fr b none w0 w := Fr.of HBEL.out
  refine ⟨by rw [HER.out], HH.out.of hbf.size (hbf.block b (by have := HBD.out; omega)) (fun g hg => hbf.block g (by have := HS0.out g hg; have := HBD.out; omega)), ?_⟩
  exact ⟨hbf.os.trans hf.os, hbf.tape.trans hf.tape, hbf.output.trans hf.output, Nat.le_trans hf.size hbf.size, fun k hk hkb hr => (hbf.block k (by have := HBD.out; omega)).trans (hf.block k hk hkb hr)⟩
end Go.Proofs.YtghggcehloiemabGreatDoor
namespace Go.Proofs.YtghggcehloiemabGreatDoor
open Go.RowKit
set_option linter.unusedVariables false
set_option maxRecDepth 16000
def Qx (b sb : Nat) (cv : Value) (bytes : ByteArray) (t R F : Nat) (w : World) : Prop := w.cell? ⟨b, 6, none⟩ = some cv ∧ w.cell? ⟨b, 7, none⟩ = some (.string bytes) ∧ w.cell? ⟨sb, 0, none⟩ = some (.int .i64 t) ∧ w.cell? ⟨sb, 1, none⟩ = some (.int .i64 R) ∧ w.cell? ⟨sb, 2, none⟩ = some (.int .i64 F) ∧ w.cell? ⟨sb, 3, none⟩ = some (.int .i64 10000)
theorem Qx.of {w : World} {b sb : Nat} {tk tv : P.Ty 4} {sl : Nat} {a3 b3 cv : Value} {bytes : ByteArray} {S : Nat → Prop} {t R F : Nat} (h : Tbl w b tk tv sl a3 b3 cv bytes S) (hs : w.heap[sb]? = some (.cells #[.int .i64 t, .int .i64 R, .int .i64 F, .int .i64 10000] 101 (0, 0))) : Qx b sb cv bytes t R F w := by
  refine ⟨?_, ?_, ?_, ?_, ?_, ?_⟩
  all_goals first | (rw [cell_of_row _ _ _ _ _ _ h.blk]; rfl) | (rw [cell_of_row _ _ _ _ _ _ hs]; rfl)
/-- What 'do' answers. -/
def doV (om : ByteArray) (res st n : Nat) : Value := if st = 0 then .tuple #[.agg #[.string om, .int .i64 res, .int .i64 0, .int .i64 n], .int .i64 0] else .tuple #[.agg #[.string ⟨#[]⟩, .int .i64 0, .int .i64 0, .int .i64 0], .int .i64 (errNo st)]
set_option maxHeartbeats 8000000 in
theorem do_any {w : World} (b : Nat) (tk tv : P.Ty 4) (sl : Nat) (a3 b3 cv : Value) (bytes kb vb om : ByteArray) (S : Nat → Prop) (t res st n : Nat) (h : Tbl w b tk tv sl a3 b3 cv bytes S) (kk : Known tk) (kv : Known tv) (hsl : sl ≤ 16) (hisc : P.IsCode (P.text (P.prog (P.cov (P.parts 4 tk)) (P.cov (P.parts 4 tv)) sl).resolve)) (ht : t ≤ 5)
    (hgo : P.go (P.prog (P.cov (P.parts 4 tk)) (P.cov (P.parts 4 tv)) sl).resolve 10000 0 (P.start (bytes ++ kb ++ vb).data.toList t bytes.size (bytes.size + kb.size)) = ⟨om.data.toList, res, st, n, 0⟩) (hom : om.size = (bytes ++ kb ++ vb).size) (hst : st ≤ 2) (hb1 : bytes.size ≤ 1025) (hk32 : kb.size ≤ 32) (hv32 : vb.size ≤ 32) :
    Calls Tryz.prog 72 #[.pointer (some ⟨b, 0, none⟩), .int .i64 t, .string kb, .string vb] w fun e w' => e = .returned (doV om res st n) ∧ Tbl w' b tk tv sl a3 b3 cv (if st = 0 then om.extract 0 bytes.size else bytes) S ∧ Fr b none w w' := by
  obtain ⟨R, hR⟩ : ∃ R, bytes.size = R := ⟨_, rfl⟩
  obtain ⟨F, hF⟩ : ∃ F, R + kb.size = F := ⟨_, rfl⟩
  obtain ⟨mm, hmm⟩ : ∃ m, bytes ++ kb ++ vb = m := ⟨_, rfl⟩
  have hmsz : mm.size = R + kb.size + vb.size := by rw [← hmm, ByteArray.size_append, ByteArray.size_append, hR]
  rw [hR, hF, hmm] at hgo
  rw [hmm] at hom
  rw [hR]
  have hco : P.codeOf (P.text (P.prog (P.cov (P.parts 4 tk)) (P.cov (P.parts 4 tv)) sl).resolve) = (P.prog (P.cov (P.parts 4 tk)) (P.cov (P.parts 4 tv)) sl).resolve := P.codeOf_text (P.resolve_small kk.cov32 kv.cov32 (by have := kk.covl; have := kk.sz32; omega) (by have := kv.covl; have := kv.sz32; omega) hsl)
  have hlen1 : 1 ≤ (P.codeOf (P.text (P.prog (P.cov (P.parts 4 tk)) (P.cov (P.parts 4 tv)) sl).resolve)).length := by rw [P.codeOf_length]; exact hisc.some
  obtain ⟨cb, hpc⟩ := h.pc
  obtain ⟨cg, ccap, hcv, _, _⟩ := hpc.form hlen1
  obtain ⟨Nc, hNc⟩ : ∃ N, (P.codeOf (P.text (P.prog (P.cov (P.parts 4 tk)) (P.cov (P.parts 4 tv)) sl).resolve)).length = N := ⟨_, rfl⟩
  rw [hNc] at hcv
  have HRN : Hid (∀ w', Below w.heap.size w w' → Calls Tryz.prog 50 #[.agg #[cv], .string mm, .agg #[.int .i64 t, .int .i64 R, .int .i64 F, .int .i64 10000]] w' fun e w'' => e = .returned (.tuple #[.agg #[.string om, .int .i64 res, .int .i64 st, .int .i64 n], .int .i64 0]) ∧ Below w'.heap.size w' w'') := by
    intro w' hb
    have ho := owns_on hpc hb
    rw [hcv] at ho ⊢
    have := mrun_any (P.text (P.prog (P.cov (P.parts 4 tk)) (P.cov (P.parts 4 tv)) sl).resolve) hisc mm t R F 10000 w' cg _ ccap cb (by omega) (by omega) (by omega) (by omega) (by omega) ho
    rw [hco, hgo] at this
    rw [show outV ⟨om.data.toList, res, st, n, 0⟩ = .agg #[.string om, .int .i64 res, .int .i64 st, .int .i64 n] from by unfold outV; rw [← str_of]] at this
    rw [show ((10000 : Nat) : Int) = 10000 by omega, show (((⟨om.data.toList, res, st, n, 0⟩ : P.O).err : Nat) : Int) = 0 from rfl] at this
    exact this
  have HH := hid_m h
  have hcvs : ∃ x N c, cv = .slice x N c := ⟨_, _, _, hcv⟩
  obtain ⟨x1, x2, x3, hcv'⟩ := hcvs
  subst hcv'
  have HTL : Hid (∀ (w' : World) (rb ob : Nat) (c1 c2 c3 c4 c5 c6 c7 c11 c14 c15 c16 c17 c18 c19 c20 c21 c22 c23 c24 c25 c26 c27 c28 c29 c30 c31 c32 c33 c34 c35 c36 c37 c38 c39 c40 c41 c42 c43 c44 c45 c46 c47 c48 c49 c50 c51 c52 c53 c54 c55 c56 c57 c58 c59 c60 c61 : Value), Below w.heap.size w w' → w'.heap[rb]? = some (.cells #[.string ⟨#[]⟩, .int .i64 0, .int .i64 0, .int .i64 0] 56 (0, 0)) → w'.heap[ob]? = some (.cells #[.string om, .int .i64 res, .int .i64 st, .int .i64 n] 56 (0, 0)) → w.heap.size ≤ rb → rb ≠ ob → w.heap.size ≤ ob →
      Code.wp Tryz.prog (dropT 4 (Tryz.f72.body.getD .skip)) (bodyPost Tryz.prog Tryz.f72 fun e w' => e = .returned (doV om res st n) ∧ Tbl w' b tk tv sl a3 b3 (.slice x1 x2 x3) (if st = 0 then om.extract 0 R else bytes) S ∧ Fr b none w w') ⟨#[.pointer (some ⟨b, 0, none⟩), c1, c2, c3, c4, c5, c6, c7, .pointer (some ⟨rb, 0, none⟩), .int .i64 0, .int .i64 R, c11, .pointer (some ⟨ob, 0, none⟩), .int .i64 0, c14, c15, c16, c17, c18, c19, c20, c21, c22, c23, c24, c25, c26, c27, c28, c29, c30, c31, c32, c33, c34, c35, c36, c37, c38, c39, c40, c41, c42, c43, c44, c45, c46, c47, c48, c49, c50, c51, c52, c53, c54, c55, c56, c57, c58, c59, c60, c61], []⟩ w') := by
    intro w' rb ob c1 c2 c3 c4 c5 c6 c7 c11 c14 c15 c16 c17 c18 c19 c20 c21 c22 c23 c24 c25 c26 c27 c28 c29 c30 c31 c32 c33 c34 c35 c36 c37 c38 c39 c40 c41 c42 c43 c44 c45 c46 c47 c48 c49 c50 c51 c52 c53 c54 c55 c56 c57 c58 c59 c60 c61 hb hr ho h1 h2 h3
    by_cases h0 : st = 0
    · subst h0
      exact do_ok b rb ob R tk tv sl a3 b3 (.slice x1 x2 x3) bytes om S res 0 n (h.on hb) hr ho h.lt h1 h2 h3 hb (fun g hg => (h.own g hg).2) (by omega) (by omega) rfl c1 c2 c3 c4 c5 c6 c7 c11 c14 c15 c16 c17 c18 c19 c20 c21 c22 c23 c24 c25 c26 c27 c28 c29 c30 c31 c32 c33 c34 c35 c36 c37 c38 c39 c40 c41 c42 c43 c44 c45 c46 c47 c48 c49 c50 c51 c52 c53 c54 c55 c56 c57 c58 c59 c60 c61
    · have := do_no b rb ob R tk tv sl a3 b3 (.slice x1 x2 x3) bytes om S res st n (h.on hb) hr ho h.lt h1 h2 h3 hb (fun g hg => (h.own g hg).2) (by omega) (by omega) (by omega) c1 c2 c3 c4 c5 c6 c7 c11 c14 c15 c16 c17 c18 c19 c20 c21 c22 c23 c24 c25 c26 c27 c28 c29 c30 c31 c32 c33 c34 c35 c36 c37 c38 c39 c40 c41 c42 c43 c44 c45 c46 c47 c48 c49 c50 c51 c52 c53 c54 c55 c56 c57 c58 c59 c60 c61
      unfold doV
      rw [if_neg h0, if_neg h0]
      exact this
  have HW1 : Hid (IntKind.i64.wrap ((R : Int) + (kb.size : Int)) = (F : Int)) := by unfold Hid; rw [wrap_id _ (by omega) (by omega)]; omega
  have HSZ := hid_m (And.intro hR (And.intro hmm (And.intro hb1 (And.intro hk32 hv32))))
  have hsz : ((bytes.size : Nat) : Int) = (R : Int) := by rw [hR]
  have hs1 : ¬ 9223372036854775807 < bytes.size + kb.size := by omega
  have hs2 : ¬ 9223372036854775807 < bytes.size + kb.size + vb.size := by omega
  have HS12 := hid_m (And.intro hs1 hs2)
  have HSI := hid_m hsz
  have hbA : Below w.heap.size w (w.alloc (Obj.cells #[.string ⟨#[]⟩, .int .i64 0, .int .i64 0, .int .i64 0] 56)) := (Below.refl _ _).alloc (Nat.le_refl _) _
  have hT0 := h.on hbA
  obtain ⟨n0, n1, n2, n3, n4, n5, n6, n7, nf⟩ := hT0.cells
  have hrA : (w.alloc (Obj.cells #[.string ⟨#[]⟩, .int .i64 0, .int .i64 0, .int .i64 0] 56)).heap[w.heap.size]? = some (.cells #[.string ⟨#[]⟩, .int .i64 0, .int .i64 0, .int .i64 0] 56 (0, 0)) := heap_alloc_new _ _
  have B0 := hid_m hbA
  have HT0 := hid_m hT0
  have HR0 := hid_m hrA
  have HLT := hid_m h.lt
  clear h kk kv hsl hisc ht hgo hom hst hb1 hk32 hv32 hR hF hmm hmsz hco hlen1 hpc hcv hsz hs1 hs2 hbA hT0 hrA n0 n1 n2 n3 n4 n5 n6 nf
  go_enter Tryz.func72, Tryz.ntmps72
  have hsz := HSI.out
  have hw1 := HW1.out
  go_wp2_with fail
  clear hsz hw1 n7
  have B2 : Hid (Below w.heap.size w ((w.alloc (Obj.cells #[.string ⟨#[]⟩, .int .i64 0, .int .i64 0, .int .i64 0] 56)).alloc (Obj.cells #[.int .i64 t, .int .i64 R, .int .i64 F, .int .i64 10000] 101))) := B0.out.alloc (by simp) _
  have hbb : Below (w.alloc (Obj.cells #[.string ⟨#[]⟩, .int .i64 0, .int .i64 0, .int .i64 0] 56)).heap.size (w.alloc (Obj.cells #[.string ⟨#[]⟩, .int .i64 0, .int .i64 0, .int .i64 0] 56)) ((w.alloc (Obj.cells #[.string ⟨#[]⟩, .int .i64 0, .int .i64 0, .int .i64 0] 56)).alloc (Obj.cells #[.int .i64 t, .int .i64 R, .int .i64 F, .int .i64 10000] 101)) := (Below.refl _ _).alloc (Nat.le_refl _) _
  have HR2 := hid_m (t_blk_on hbb HR0.out)
  have HT2 := hid_m (HT0.out.on hbb)
  have hsA : ((w.alloc (Obj.cells #[.string ⟨#[]⟩, .int .i64 0, .int .i64 0, .int .i64 0] 56)).alloc (Obj.cells #[.int .i64 t, .int .i64 R, .int .i64 F, .int .i64 10000] 101)).heap[w.heap.size + 1]? = some (.cells #[.int .i64 t, .int .i64 R, .int .i64 F, .int .i64 10000] 101 (0, 0)) := by
    have := heap_alloc_new (w.alloc (Obj.cells #[.string ⟨#[]⟩, .int .i64 0, .int .i64 0, .int .i64 0] 56)) (Obj.cells #[.int .i64 t, .int .i64 R, .int .i64 F, .int .i64 10000] 101)
    simpa using this
  have HS2 := hid_m hsA
  obtain ⟨w2, hw2⟩ : ∃ W, ((w.alloc (Obj.cells #[.string ⟨#[]⟩, .int .i64 0, .int .i64 0, .int .i64 0] 56)).alloc (Obj.cells #[.int .i64 t, .int .i64 R, .int .i64 F, .int .i64 10000] 101)) = W := ⟨_, rfl⟩
  obtain ⟨rb, hrb⟩ : ∃ x, w.heap.size = x := ⟨_, rfl⟩
  obtain ⟨sb, hsb⟩ : ∃ x, w.heap.size + 1 = x := ⟨_, rfl⟩
  have hs2 : ((w.alloc (Obj.cells #[.string ⟨#[]⟩, .int .i64 0, .int .i64 0, .int .i64 0] 56)).alloc (Obj.cells #[.int .i64 t, .int .i64 R, .int .i64 F, .int .i64 10000] 101)).heap.size = w.heap.size + 2 := by simp
  rw [hw2] at B2 HR2 HT2 HS2 hs2 ⊢
  rw [hsb] at HS2 ⊢
  rw [hrb] at HR2 ⊢
  have HRB := hid_m (And.intro hrb (And.intro hsb hs2))
  clear hw2 hrb hsb hbb hsA hs2
  have HX2 := hid_m (Qx.of HT2.out HS2.out)
  rename_i K3 hK3
  have HK3 := hid_m hK3
  clear hK3
  refine wp_region_held_drew (S := Qx b sb (.slice x1 x2 x3) bytes t R F) (by kernel_rfl) HX2.out (fun hHeld => ?_)
  refine wpAnyH_take (i := 0) (v := ?_) rfl (by kernel_rfl) (by kernel_rfl) (by kernel_rfl) (fun _ _ _ h => h) (Or.inl ⟨by rfl, ?_⟩) (by assumption) ?_
  rotate_left
  · intro w hSw
    obtain ⟨y0, y1, y2, y3, y4, y5⟩ := hSw
    go_simp
    all_goals with_reducible rfl
  try simp only [Act.put]
  refine wpAnyH_take (i := 1) (v := ?_) rfl (by kernel_rfl) (by kernel_rfl) (by kernel_rfl) (fun _ _ _ h => h) (Or.inl ⟨by rfl, ?_⟩) (by assumption) ?_
  rotate_left
  · intro w hSw
    obtain ⟨y0, y1, y2, y3, y4, y5⟩ := hSw
    go_simp
    all_goals with_reducible rfl
  try simp only [Act.put]
  refine wpAnyH_take (i := 2) (v := ?_) rfl (by kernel_rfl) (by kernel_rfl) (by kernel_rfl) (fun _ _ _ h => h) (Or.inl ⟨by rfl, ?_⟩) (by assumption) ?_
  rotate_left
  · intro w hSw
    obtain ⟨y0, y1, y2, y3, y4, y5⟩ := hSw
    go_simp
    all_goals with_reducible rfl
  try simp only [Act.put]
  refine wpAnyH_take (i := 3) (v := ?_) rfl (by kernel_rfl) (by kernel_rfl) (by kernel_rfl) (fun _ _ _ h => h) (Or.inl ⟨by rfl, ?_⟩) (by assumption) ?_
  rotate_left
  · intro w hSw
    obtain ⟨y0, y1, y2, y3, y4, y5⟩ := hSw
    go_simp
    all_goals with_reducible rfl
  try simp only [Act.put]
  refine wpAnyH_take (i := 4) (v := ?_) rfl (by kernel_rfl) (by kernel_rfl) (by kernel_rfl) (fun _ _ _ h => h) (Or.inl ⟨by rfl, ?_⟩) (by assumption) ?_
  rotate_left
  · intro w hSw
    obtain ⟨y0, y1, y2, y3, y4, y5⟩ := hSw
    go_simp
    all_goals with_reducible rfl
  try simp only [Act.put]
  refine wpAnyH_take (i := 5) (v := ?_) rfl (by kernel_rfl) (by kernel_rfl) (by kernel_rfl) (fun _ _ _ h => h) (Or.inl ⟨by rfl, ?_⟩) (by assumption) ?_
  rotate_left
  · intro w hSw
    obtain ⟨y0, y1, y2, y3, y4, y5⟩ := hSw
    go_simp
    all_goals with_reducible rfl
  try simp only [Act.put]
  refine wpAnyH_take (i := 6) (v := ?_) rfl (by kernel_rfl) (by kernel_rfl) (by kernel_rfl) (fun _ _ _ h => h) (Or.inl ⟨by rfl, ?_⟩) (by assumption) ?_
  rotate_left
  · intro w hSw
    obtain ⟨y0, y1, y2, y3, y4, y5⟩ := hSw
    go_simp
    all_goals with_reducible rfl
  try simp only [Act.put]
  refine wpAnyH_take (i := 7) (v := ?_) rfl (by kernel_rfl) (by kernel_rfl) (by kernel_rfl) (fun _ _ _ h => h) (Or.inl ⟨by rfl, ?_⟩) (by assumption) ?_
  rotate_left
  · intro w hSw
    obtain ⟨y0, y1, y2, y3, y4, y5⟩ := hSw
    go_simp
    all_goals with_reducible rfl
  try simp only [Act.put]
  refine wpAnyH_take (i := 8) (v := ?_) rfl (by kernel_rfl) (by kernel_rfl) (by kernel_rfl) (fun _ _ _ h => h) (Or.inl ⟨by rfl, ?_⟩) (by assumption) ?_
  rotate_left
  · intro w hSw
    obtain ⟨y0, y1, y2, y3, y4, y5⟩ := hSw
    go_simp
    all_goals with_reducible rfl
  try simp only [Act.put]
  have hs1 := HS12.out.1
  have hs3 := HS12.out.2
  refine wpAnyH_take (i := 9) (v := ?_) rfl (by kernel_rfl) (by kernel_rfl) (by kernel_rfl) (fun _ _ _ h => h) (Or.inl ⟨by rfl, ?_⟩) (by assumption) ?_
  rotate_left
  · intro w hSw
    obtain ⟨y0, y1, y2, y3, y4, y5⟩ := hSw
    go_simp
    all_goals with_reducible rfl
  try simp only [Act.put]
  refine wpAnyH_take (i := 10) (v := ?_) rfl (by kernel_rfl) (by kernel_rfl) (by kernel_rfl) (fun _ _ _ h => h) (Or.inl ⟨by rfl, ?_⟩) (by assumption) ?_
  rotate_left
  · intro w hSw
    obtain ⟨y0, y1, y2, y3, y4, y5⟩ := hSw
    go_simp
    all_goals with_reducible rfl
  try simp only [Act.put]
  refine wpAnyH_take (i := 11) (v := ?_) rfl (by kernel_rfl) (by kernel_rfl) (by kernel_rfl) (fun _ _ _ h => h) (Or.inl ⟨by rfl, ?_⟩) (by assumption) ?_
  rotate_left
  · intro w hSw
    obtain ⟨y0, y1, y2, y3, y4, y5⟩ := hSw
    go_simp
    all_goals with_reducible rfl
  try simp only [Act.put]
  clear hs1 hs3
  refine wpAnyH_take (i := 12) (v := ?_) rfl (by kernel_rfl) (by kernel_rfl) (by kernel_rfl) (fun _ _ _ h => h) (Or.inl ⟨by rfl, ?_⟩) (by assumption) ?_
  rotate_left
  · intro w hSw
    obtain ⟨y0, y1, y2, y3, y4, y5⟩ := hSw
    go_simp
    all_goals with_reducible rfl
  try simp only [Act.put]
  rw [← HSZ.out.2.1] at HRN
  refine wpAnyH_ready (rs := [13, 17]) (by kernel_rfl) (by simp) ?_
  refine AllReadyH.cons (o := _) rfl (fun K hK => ?_) (AllReadyH.cons (o := _) rfl (fun K hK => ?_) AllReadyH.nil)
  · go_simp
    refine (HRN.out w2.drew B2.out.drew).mono ?_
    rintro e w3 ⟨rfl, hb3⟩
    have hbb3 : Below w2.heap.size w2 w3 := ⟨hb3.os, hb3.tape, hb3.output, hb3.size, hb3.block⟩
    have B3 := hid_m (B2.out.trans (hbb3.mono B2.out.size))
    have HB23 := hid_m hbb3
    have HX3 := hid_m (Qx.of (HT2.out.on hbb3) (t_blk_on hbb3 HS2.out))
    clear hb3 hbb3
    go_wp2_with fail
    refine hK.out _ _ HX3.out (fun hHeldb => ?_)
    clear hK K
    try simp only [Act.put]
    refine wpAnyH_take (i := 14) (v := ?_) rfl (by kernel_rfl) (by kernel_rfl) (by kernel_rfl) (fun _ _ _ h => h) (Or.inl ⟨by rfl, ?_⟩) (by assumption) ?_
    rotate_left
    · intro w hSw
      obtain ⟨y0, y1, y2, y3, y4, y5⟩ := hSw
      go_simp
      all_goals with_reducible rfl
    try simp only [Act.put]
    refine wpAnyH_take (i := 15) (v := ?_) rfl (by kernel_rfl) (by kernel_rfl) (by kernel_rfl) (fun _ _ _ h => h) (Or.inl ⟨by rfl, ?_⟩) (by assumption) ?_
    rotate_left
    · intro w hSw
      obtain ⟨y0, y1, y2, y3, y4, y5⟩ := hSw
      go_simp
      all_goals with_reducible rfl
    try simp only [Act.put]
    refine wpAnyH_take (i := 16) (v := ?_) rfl (by kernel_rfl) (by kernel_rfl) (by kernel_rfl) (fun _ _ _ h => h) (Or.inl ⟨by rfl, ?_⟩) (by assumption) ?_
    rotate_left
    · intro w hSw
      obtain ⟨y0, y1, y2, y3, y4, y5⟩ := hSw
      go_simp
      all_goals with_reducible rfl
    try simp only [Act.put]
    have hal : Below w3.heap.size w3 (w3.alloc (Obj.cells #[.string ⟨#[]⟩, .int .i64 0, .int .i64 0, .int .i64 0] 56)) := (Below.refl _ _).alloc (Nat.le_refl _) _
    have HB24 : Hid (Below w2.heap.size w2 (w3.alloc (Obj.cells #[.string ⟨#[]⟩, .int .i64 0, .int .i64 0, .int .i64 0] 56))) := HB23.out.trans (hal.mono HB23.out.size)
    have HX4 := hid_m (Qx.of (HT2.out.on HB24.out) (t_blk_on HB24.out HS2.out))
    have HO4 : Hid ((w3.alloc (Obj.cells #[.string ⟨#[]⟩, .int .i64 0, .int .i64 0, .int .i64 0] 56)).heap[w3.heap.size]? = some (.cells #[.string ⟨#[]⟩, .int .i64 0, .int .i64 0, .int .i64 0] 56 (0, 0))) := heap_alloc_new _ _
    clear hal
    refine wpAnyH_ready (rs := [17]) (by kernel_rfl) (by simp) ?_
    refine AllReadyH.cons (o := _) rfl (fun K hK => ?_) AllReadyH.nil
    go_simp
    refine hK.out _ _ HX4.out (fun hHeldc => ?_)
    clear hK K
    try simp only [Act.put]
    obtain ⟨ob, hob⟩ : ∃ ob, w3.heap.size = ob := ⟨_, rfl⟩
    have HOB : w2.heap.size ≤ ob := by have := HB23.out.size; omega
    generalize (w3.alloc (Obj.cells #[.string ⟨#[]⟩, .int .i64 0, .int .i64 0, .int .i64 0] 56)) = w4 at HB24 HX4 HO4 ⊢
    rw [hob] at HO4 ⊢
    clear hob
    obtain ⟨e0, e1, e2, e3, ef⟩ := out_facts HO4.out
    refine wpAnyH_ready (rs := [18]) (by kernel_rfl) (by simp) ?_
    refine AllReadyH.cons (o := _) rfl (fun K hK => ?_) AllReadyH.nil
    go_simp
    obtain ⟨w5, hw5⟩ : ∃ W, ((((w4.setCell ⟨ob, 0, none⟩ (.string om)).setCell ⟨ob, 1, none⟩ (.int .i64 res)).setCell ⟨ob, 2, none⟩ (.int .i64 st)).setCell ⟨ob, 3, none⟩ (.int .i64 n)) = W := ⟨_, rfl⟩
    have HO5 : Hid (w5.heap[ob]? = some (.cells #[.string om, .int .i64 res, .int .i64 st, .int .i64 n] 56 (0, 0))) := by unfold Hid; rw [← hw5]; exact out4 _ _ _ _ HO4.out
    have HB25 : Hid (Below w2.heap.size w2 w5) := by unfold Hid; rw [← hw5]; exact (((HB24.out.setCell HOB _).setCell HOB _).setCell HOB _).setCell HOB _
    have HX5 := hid_m (Qx.of (HT2.out.on HB25.out) (t_blk_on HB25.out HS2.out))
    rw [hw5]
    clear hw5 e0 e1 e2 e3 ef HX4 HO4 HB24
    refine hK.out _ _ HX5.out (fun hHeldd => ?_)
    clear hK K
    try simp only [Act.put]
    refine wpAnyH_ready (rs := [19]) (by kernel_rfl) (by simp) ?_
    refine AllReadyH.cons (o := _) rfl (fun K hK => ?_) AllReadyH.nil
    go_simp
    refine hK.out _ _ HX5.out (fun hHelde => ?_)
    clear hK K
    try simp only [Act.put]
    refine wpAnyH_done (by kernel_rfl) ?_ _
    go_wp2_with fail
    refine HK3.out _ _ ?_
    exact HTL.out w5 rb ob _ _ _ _ _ _ _ _ _ _ _ _ _ _ _ _ _ _ _ _ _ _ _ _ _ _ _ _ _ _ _ _ _ _ _ _ _ _ _ _ _ _ _ _ _ _ _ _ _ _ _ _ _ _ _ _ (B2.out.trans (HB25.out.mono B2.out.size)) (t_blk_on HB25.out HR2.out) HO5.out (Nat.le_of_eq HRB.out.1) (by have := HRB.out; omega) (by have := HRB.out; omega)
  · go_simp
    have HB23 : Hid (Below w2.heap.size w2 (w2.alloc (Obj.cells #[.string ⟨#[]⟩, .int .i64 0, .int .i64 0, .int .i64 0] 56)).drew) := ((Below.refl _ _).alloc (Nat.le_refl _) _).drew
    have HX3 := hid_m (Qx.of (HT2.out.on HB23.out) (t_blk_on HB23.out HS2.out))
    have HO3 : Hid ((w2.alloc (Obj.cells #[.string ⟨#[]⟩, .int .i64 0, .int .i64 0, .int .i64 0] 56)).drew.heap[w2.heap.size]? = some (.cells #[.string ⟨#[]⟩, .int .i64 0, .int .i64 0, .int .i64 0] 56 (0, 0))) := heap_alloc_new w2 _
    refine hK.out _ _ HX3.out (fun hHeldc => ?_)
    clear hK K
    try simp only [Act.put]
    obtain ⟨ob, hob⟩ : ∃ ob, w2.heap.size = ob := ⟨_, rfl⟩
    have HOB : w2.heap.size ≤ ob := Nat.le_of_eq hob
    generalize (w2.alloc (Obj.cells #[.string ⟨#[]⟩, .int .i64 0, .int .i64 0, .int .i64 0] 56)).drew = w3 at HB23 HX3 HO3 ⊢
    rw [hob] at HO3
    try rw [hob]
    clear hob
    refine wpAnyH_ready (rs := [13]) (by kernel_rfl) (by simp) ?_
    refine AllReadyH.cons (o := _) rfl (fun K hK => ?_) AllReadyH.nil
    go_simp
    refine (HRN.out w3 (B2.out.trans (HB23.out.mono B2.out.size))).mono ?_
    rintro e w4 ⟨rfl, hb4⟩
    have HB24 := hid_m (HB23.out.trans (hb4.mono HB23.out.size))
    have HO4 := hid_m (t_blk_on hb4 HO3.out)
    have HX4 := hid_m (Qx.of (HT2.out.on HB24.out) (t_blk_on HB24.out HS2.out))
    clear hb4
    go_wp2_with fail
    refine hK.out _ _ HX4.out (fun hHeldb => ?_)
    clear hK K
    try simp only [Act.put]
    refine wpAnyH_take (i := 14) (v := ?_) rfl (by kernel_rfl) (by kernel_rfl) (by kernel_rfl) (fun _ _ _ h => h) (Or.inl ⟨by rfl, ?_⟩) (by assumption) ?_
    rotate_left
    · intro w hSw
      obtain ⟨y0, y1, y2, y3, y4, y5⟩ := hSw
      go_simp
      all_goals with_reducible rfl
    try simp only [Act.put]
    refine wpAnyH_take (i := 15) (v := ?_) rfl (by kernel_rfl) (by kernel_rfl) (by kernel_rfl) (fun _ _ _ h => h) (Or.inl ⟨by rfl, ?_⟩) (by assumption) ?_
    rotate_left
    · intro w hSw
      obtain ⟨y0, y1, y2, y3, y4, y5⟩ := hSw
      go_simp
      all_goals with_reducible rfl
    try simp only [Act.put]
    refine wpAnyH_take (i := 16) (v := ?_) rfl (by kernel_rfl) (by kernel_rfl) (by kernel_rfl) (fun _ _ _ h => h) (Or.inl ⟨by rfl, ?_⟩) (by assumption) ?_
    rotate_left
    · intro w hSw
      obtain ⟨y0, y1, y2, y3, y4, y5⟩ := hSw
      go_simp
      all_goals with_reducible rfl
    try simp only [Act.put]
    obtain ⟨e0, e1, e2, e3, ef⟩ := out_facts HO4.out
    refine wpAnyH_ready (rs := [18]) (by kernel_rfl) (by simp) ?_
    refine AllReadyH.cons (o := _) rfl (fun K hK => ?_) AllReadyH.nil
    go_simp
    obtain ⟨w5, hw5⟩ : ∃ W, ((((w4.setCell ⟨ob, 0, none⟩ (.string om)).setCell ⟨ob, 1, none⟩ (.int .i64 res)).setCell ⟨ob, 2, none⟩ (.int .i64 st)).setCell ⟨ob, 3, none⟩ (.int .i64 n)) = W := ⟨_, rfl⟩
    have HO5 : Hid (w5.heap[ob]? = some (.cells #[.string om, .int .i64 res, .int .i64 st, .int .i64 n] 56 (0, 0))) := by unfold Hid; rw [← hw5]; exact out4 _ _ _ _ HO4.out
    have HB25 : Hid (Below w2.heap.size w2 w5) := by unfold Hid; rw [← hw5]; exact (((HB24.out.setCell HOB _).setCell HOB _).setCell HOB _).setCell HOB _
    have HX5 := hid_m (Qx.of (HT2.out.on HB25.out) (t_blk_on HB25.out HS2.out))
    rw [hw5]
    clear hw5 e0 e1 e2 e3 ef HX4 HO4 HB24
    refine hK.out _ _ HX5.out (fun hHeldd => ?_)
    clear hK K
    try simp only [Act.put]
    refine wpAnyH_ready (rs := [19]) (by kernel_rfl) (by simp) ?_
    refine AllReadyH.cons (o := _) rfl (fun K hK => ?_) AllReadyH.nil
    go_simp
    refine hK.out _ _ HX5.out (fun hHelde => ?_)
    clear hK K
    try simp only [Act.put]
    refine wpAnyH_done (by kernel_rfl) ?_ _
    go_wp2_with fail
    refine HK3.out _ _ ?_
    exact HTL.out w5 rb ob _ _ _ _ _ _ _ _ _ _ _ _ _ _ _ _ _ _ _ _ _ _ _ _ _ _ _ _ _ _ _ _ _ _ _ _ _ _ _ _ _ _ _ _ _ _ _ _ _ _ _ _ _ _ _ _ (B2.out.trans (HB25.out.mono B2.out.size)) (t_blk_on HB25.out HR2.out) HO5.out (Nat.le_of_eq HRB.out.1) (by have := HRB.out; omega) (by have := HRB.out; omega)
end Go.Proofs.YtghggcehloiemabGreatDoor
