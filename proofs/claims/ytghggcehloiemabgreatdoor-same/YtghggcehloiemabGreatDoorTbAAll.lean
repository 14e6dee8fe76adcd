import Derived.Test.YtghggcehloiemabGreatDoorTbPAll
import Derived.Test.YtghggcehloiemabGreatDoorParseWAll
import Derived.Test.YtghggcehloiemabGreatDoorPrNAll
import Derived.Test.YtghggcehloiemabGreatDoorEncWAll
import Derived.Test.YtghggcehloiemabGreatDoorMcRun2
import Derived.Test.YtghggcehloiemabGreatDoorRefLieAll
import Derived.Test.YtghggcehloiemabGreatDoorMdAAll
import Derived.Test.YtghggcehloiemabGreatDoorSizeWAll
import Derived.Test.YtghggcehloiemabGreatDoorHdPAll
import Derived.Test.YtghggcehloiemabGreatDoorTellWAll
import Derived.Test.YtghggcehloiemabGreatDoorHdH
namespace Go.Proofs.YtghggcehloiemabGreatDoor
open Go.RowKit
set_option linter.unusedVariables false
set_option maxRecDepth 16000
set_option maxHeartbeats 4000000 in
theorem blank_any (n : Nat) (w : World) (hn : n ≤ 2000) (hn1 : 1 ≤ n) : Calls Tryz.prog 33 #[.int .i64 n] w fun e w' => e = .returned (.string ⟨(List.replicate n (0 : UInt8)).toArray⟩) ∧ Below w.heap.size w w' := by
  obtain ⟨i0, hi0, hz0, hz1, hz2⟩ := info_parts Tryz.infoU8
  go_enter Tryz.func33, Tryz.ntmps33
  go_wp2_with fail
  go_loopw [3, 4] (fun b i wr => ∃ k : Nat, k ≤ n ∧ i = .int .i64 k ∧ wr.ownsRow w.heap.size 5 1 b k ((List.replicate k (0 : UInt8)).map u8v) ∧ Below w.heap.size w wr) (fun _ i _ => n - (intOf i).toNat)
  case atStart => exact ⟨0, by omega, rfl, World.ownsRow_nil _ _ _ _, Below.refl _ _⟩
  case round =>
    obtain ⟨k, hk, rfl, hown, hb2⟩ := hrel
    have hb2s := hb2.size
    by_cases hlt : k < n
    · go_wp2_with (first
        | (at_builtin; refine wpList_append_lies _ rfl _ _ 38 rfl w.heap.size 5 i0 (.int .u8 0) 1 1 Tryz.underlying38 hi0 hz0 hz1 hz2 rfl (by decide) u3 k ((List.replicate k (0 : UInt8)).map u8v) rfl (hown.alloc _) ⟨wr.heap.size, 0, none⟩ 1 1 [.int .u8 0] rfl rfl (one_new _ _ _) (fun x hx => by simp at hx; subst hx; rfl) (by omega) (by unfold maxLen; omega) (by omega) (by simp; omega) _ rfl ?_; intro g cap w3 hown' hgrow hat hlt3
           have hb3 : Below w.heap.size w w3 := Below.grown (hb2.alloc hb2s _) hgrow (by simp; omega) (fun j hj => (hown.lt _ hj).1)))
      refine ⟨⟨k + 1, by omega, by go_num, ?_, hb3⟩, by simp [intOf]; omega⟩
      rw [List.replicate_succ', List.map_append]
      exact hown'
    · have hke : k = n := by omega
      subst hke
      have hl : (List.replicate k (0 : UInt8)).length = k := List.length_replicate
      obtain ⟨g, capb, hvb, _, _⟩ := hown.form hn1
      subst hvb
      have hown2 : wr.ownsRow w.heap.size 5 1 (.slice (some ⟨g, 0, none⟩) k capb) (List.replicate k (0 : UInt8)).length ((List.replicate k (0 : UInt8)).map u8v) := by rw [hl]; exact hown
      have hcv : (convert 38 9 (.slice (some ⟨g, 0, none⟩) k capb)).run Tryz.prog wr = .ok (.string ⟨(List.replicate k (0 : UInt8)).toArray⟩) wr := by
        have := run_convert_bytes_arg (P := Tryz.prog) wr 38 5 Tryz.underlying38 Tryz.underlying5 g 0 k capb ((List.replicate k (0 : UInt8)).map fun c => (c.toNat : Int)) (by simp) (by
          intro j hj
          rw [Nat.zero_add]
          have := u8_row_cell hown2 (k := j) (by rw [hl]; exact hj)
          simpa [List.getD, u8v, hj] using this) 9 Tryz.underlying9
        rw [this]
        congr 2
        simp [strOfNums]
      obtain ⟨bs, hbs⟩ : ∃ bs : ByteArray, ⟨(List.replicate k (0 : UInt8)).toArray⟩ = bs := ⟨_, rfl⟩
      rw [hbs] at hcv
      have HBS := hid_m hbs
      have HB := hid_m hb2
      clear hbs hown hown2 hl
      go_wp2_with fail
      go_ret
      exact ⟨by rw [HBS.out]; rfl, HB.out⟩
set_option maxHeartbeats 1000000 in
theorem ahead_any (m : ByteArray) (p : Nat) (w : World) (h : p ≤ m.size) (hm : m.size ≤ 4000) : Calls Tryz.prog 116 #[.string m, .int .i64 p] w fun e w' => e = .returned (.string (m.extract 0 p)) ∧ w' = w := by
  have h0 : ¬ (p : Int) < 0 := by omega
  have h1 : (p : Int) ≤ (m.size : Int) := by omega
  have h2 : (0 : Int) ≤ (p : Int) := by omega
  go_enter Tryz.func116, Tryz.ntmps116
  go_wp2_with fail
  go_ret
  exact ⟨rfl, rfl⟩
set_option maxHeartbeats 1000000 in
theorem behind_any (m : ByteArray) (p : Nat) (w : World) (h : p ≤ m.size) (hm : m.size ≤ 4000) : Calls Tryz.prog 71 #[.string m, .int .i64 p] w fun e w' => e = .returned (.string (m.extract p m.size)) ∧ w' = w := by
  have h0 : ¬ (p : Int) < 0 := by omega
  have h1 : (p : Int) ≤ (m.size : Int) := by omega
  have h2 : (0 : Int) ≤ (p : Int) := by omega
  go_enter Tryz.func71, Tryz.ntmps71
  go_wp2_with fail
  go_ret
  exact ⟨rfl, rfl⟩
def errNo (st : Nat) : Nat := if st = 1 then 10 else if st = 2 then 9 else 0
set_option maxHeartbeats 1000000 in
theorem errno_any (st : Nat) (w : World) (h : st ≤ 3) : Calls Tryz.prog 115 #[.int .i64 st] w fun e w' => e = .returned (.int .i64 (errNo st)) ∧ w' = w := by
  have hc : st = 0 ∨ st = 1 ∨ st = 2 ∨ st = 3 := by omega
  rcases hc with rfl | rfl | rfl | rfl
  all_goals
    go_enter Tryz.func115, Tryz.ntmps115
    go_wp2_with fail
    go_ret
    exact ⟨rfl, rfl⟩
end Go.Proofs.YtghggcehloiemabGreatDoor
namespace Go.Proofs.YtghggcehloiemabGreatDoor
open Go.RowKit
set_option linter.unusedVariables false
set_option maxRecDepth 16000
def dropT : Nat → Code → Code
  | 0, c => c
  | k + 1, .seq _ b => dropT k b
  | _ + 1, c => c
theorem t_blk_on {w w' : World} {b : Nat} {o : Obj} (hb : Below w.heap.size w w') (h : w.heap[b]? = some o) : w'.heap[b]? = some o := by rw [hb.block b (m_blk_lt h)]; exact h
/-- A table of the program's in memory. -/
structure Tbl (w : World) (b : Nat) (tk tv : P.Ty 4) (sl : Nat) (a3 b3 cv : Value) (bytes : ByteArray) (S : Nat → Prop) : Prop where
  blk : w.heap[b]? = some (.cells #[.int .i64 (P.sz 4 tk).1, .int .i64 (P.sz 4 tk).2, a3, .int .i64 (P.sz 4 tv).1, .int .i64 (P.sz 4 tv).2, b3, cv, .string bytes] 79 (0, 0))
  pk : ∃ base, w.ownsRow base 145 4 a3 (P.parts 4 tk).length (cellsOf (P.parts 4 tk))
  pv : ∃ base, w.ownsRow base 145 4 b3 (P.parts 4 tv).length (cellsOf (P.parts 4 tv))
  pc : ∃ base, w.ownsRow base 112 4 cv (P.codeOf (P.text (P.prog (P.cov (P.parts 4 tk)) (P.cov (P.parts 4 tv)) sl).resolve)).length (codeCells (P.codeOf (P.text (P.prog (P.cov (P.parts 4 tk)) (P.cov (P.parts 4 tv)) sl).resolve)))
  sub : ∀ g, a3.ownBlock = some g ∨ b3.ownBlock = some g ∨ cv.ownBlock = some g → S g
  own : ∀ g, S g → g ≠ b ∧ g < w.heap.size
section
variable {w w' : World} {b : Nat} {tk tv : P.Ty 4} {sl : Nat} {a3 b3 cv : Value} {bytes : ByteArray} {S : Nat → Prop}
theorem Tbl.lt (h : Tbl w b tk tv sl a3 b3 cv bytes S) : b < w.heap.size := m_blk_lt h.blk
theorem Tbl.of (h : Tbl w b tk tv sl a3 b3 cv bytes S) (hs : w.heap.size ≤ w'.heap.size) (hb : w'.heap[b]? = w.heap[b]?) (hS : ∀ g, S g → w'.heap[g]? = w.heap[g]?) : Tbl w' b tk tv sl a3 b3 cv bytes S := by
  obtain ⟨b1, h1⟩ := h.pk
  obtain ⟨b2, h2⟩ := h.pv
  obtain ⟨b4, h4⟩ := h.pc
  exact ⟨by rw [hb]; exact h.blk, ⟨b1, m_owns_of h1 (fun g hg => hS g (h.sub g (Or.inl hg)))⟩, ⟨b2, m_owns_of h2 (fun g hg => hS g (h.sub g (Or.inr (Or.inl hg))))⟩, ⟨b4, m_owns_of h4 (fun g hg => hS g (h.sub g (Or.inr (Or.inr hg))))⟩, h.sub, fun g hg => ⟨(h.own g hg).1, by have := (h.own g hg).2; omega⟩⟩
theorem Tbl.on (h : Tbl w b tk tv sl a3 b3 cv bytes S) (hb : Below w.heap.size w w') : Tbl w' b tk tv sl a3 b3 cv bytes S := h.of hb.size (hb.block b h.lt) (fun g hg => hb.block g (h.own g hg).2)
theorem Tbl.set (h : Tbl w b tk tv sl a3 b3 cv bytes S) (m : ByteArray) : Tbl (w.setCell ⟨b, 7, none⟩ (.string m)) b tk tv sl a3 b3 cv m S := by
  have hs : (w.setCell ⟨b, 7, none⟩ (.string m)).heap.size = w.heap.size := by simp [World.setCell]
  have hS : ∀ g, S g → (w.setCell ⟨b, 7, none⟩ (.string m)).heap[g]? = w.heap[g]? := fun g hg => set_other (h.own g hg).1
  obtain ⟨b1, h1⟩ := h.pk
  obtain ⟨b2, h2⟩ := h.pv
  obtain ⟨b4, h4⟩ := h.pc
  refine ⟨?_, ⟨b1, m_owns_of h1 (fun g hg => hS g (h.sub g (Or.inl hg)))⟩, ⟨b2, m_owns_of h2 (fun g hg => hS g (h.sub g (Or.inr (Or.inl hg))))⟩, ⟨b4, m_owns_of h4 (fun g hg => hS g (h.sub g (Or.inr (Or.inr hg))))⟩, h.sub, fun g hg => ⟨(h.own g hg).1, by have := (h.own g hg).2; omega⟩⟩
  simp [World.setCell, Array.getElem?_modify, h.blk]
theorem Tbl.cells (h : Tbl w b tk tv sl a3 b3 cv bytes S) : w.cell? ⟨b, 0, none⟩ = some (.int .i64 (P.sz 4 tk).1) ∧ w.cell? ⟨b, 1, none⟩ = some (.int .i64 (P.sz 4 tk).2) ∧ w.cell? ⟨b, 2, none⟩ = some a3 ∧ w.cell? ⟨b, 3, none⟩ = some (.int .i64 (P.sz 4 tv).1) ∧ w.cell? ⟨b, 4, none⟩ = some (.int .i64 (P.sz 4 tv).2) ∧ w.cell? ⟨b, 5, none⟩ = some b3 ∧ w.cell? ⟨b, 6, none⟩ = some cv ∧ w.cell? ⟨b, 7, none⟩ = some (.string bytes) ∧ ∀ j, w.frozen? ⟨b, j, none⟩ = false := by
  refine ⟨?_, ?_, ?_, ?_, ?_, ?_, ?_, ?_, fun j => by simp [World.frozen?, h.blk]⟩ <;> (rw [cell_of_row _ _ _ _ _ _ h.blk]; rfl)
end
set_option maxHeartbeats 4000000 in
theorem do_ok {w0 w : World} (b rb ob R : Nat) (tk tv : P.Ty 4) (sl : Nat) (a3 b3 cv : Value) (bytes om : ByteArray) (S : Nat → Prop) (res st n : Nat) (h : Tbl w b tk tv sl a3 b3 cv bytes S) (hr : w.heap[rb]? = some (.cells #[.string ⟨#[]⟩, .int .i64 0, .int .i64 0, .int .i64 0] 56 (0, 0))) (ho : w.heap[ob]? = some (.cells #[.string om, .int .i64 res, .int .i64 st, .int .i64 n] 56 (0, 0)))
    (hb0 : b < w0.heap.size) (hrb : w0.heap.size ≤ rb) (hrob : rb ≠ ob) (hob : w0.heap.size ≤ ob) (hbel : Below w0.heap.size w0 w) (hS0 : ∀ g, S g → g < w0.heap.size) (hR : R ≤ om.size) (hom : om.size ≤ 4000) (hst : st = 0)
    (c1 c2 c3 c4 c5 c6 c7 c11 c14 c15 c16 c17 c18 c19 c20 c21 c22 c23 c24 c25 c26 c27 c28 c29 c30 c31 c32 c33 c34 c35 c36 c37 c38 c39 c40 c41 c42 c43 c44 c45 c46 c47 c48 c49 c50 c51 c52 c53 c54 c55 c56 c57 c58 c59 c60 c61 : Value) :
    Code.wp Tryz.prog (dropT 4 (Tryz.f72.body.getD .skip)) (bodyPost Tryz.prog Tryz.f72 fun e w' => e = .returned (.tuple #[.agg #[.string om, .int .i64 res, .int .i64 0, .int .i64 n], .int .i64 0]) ∧ Tbl w' b tk tv sl a3 b3 cv (om.extract 0 R) S ∧ Fr b none w0 w') ⟨#[.pointer (some ⟨b, 0, none⟩), c1, c2, c3, c4, c5, c6, c7, .pointer (some ⟨rb, 0, none⟩), .int .i64 0, .int .i64 R, c11, .pointer (some ⟨ob, 0, none⟩), .int .i64 0, c14, c15, c16, c17, c18, c19, c20, c21, c22, c23, c24, c25, c26, c27, c28, c29, c30, c31, c32, c33, c34, c35, c36, c37, c38, c39, c40, c41, c42, c43, c44, c45, c46, c47, c48, c49, c50, c51, c52, c53, c54, c55, c56, c57, c58, c59, c60, c61], []⟩ w := by
  subst hst
  have HE := hid_m (fun w => errno_any 0 w (by decide))
  have HA := hid_m (fun w => ahead_any om R w hR hom)
  obtain ⟨n0, n1, n2, n3, n4, n5, n6, n7, nf⟩ := h.cells
  have HH := hid_m h
  have HR := hid_m hr
  have HBD := hid_m (And.intro hb0 (And.intro hrb (And.intro hrob hob)))
  have HBEL := hid_m hbel
  have HS0 := hid_m hS0
  obtain ⟨e0, e1, e2, e3, ef⟩ := out_facts ho
  obtain ⟨r0, r1, r2, r3, rf⟩ := out_facts hr
  have HO := hid_m ho
  clear h hr ho hb0 hrb hrob hob hbel hS0 hR hom n0 n1 n2 n3 n4 n5 n6
  conv => arg 2; whnf
  go_wp2_with fail
  refine (HE.out _).mono ?_
  rintro e wz ⟨rfl, hwz⟩
  subst wz
  unfold errNo
  go_wp2_with fail
  refine (HA.out _).mono ?_
  rintro e wz ⟨rfl, hwz⟩
  subst wz
  rename_i K9 hK9 Kc hKc
  have HK9 := hid_m hK9
  clear hK9
  go_wp2_with fail
  refine HK9.out _ _ ?_
  obtain ⟨w1, hw1⟩ : ∃ W, (w.setCell ⟨b, 7, none⟩ (.string (om.extract 0 R))) = W := ⟨_, rfl⟩
  have HT1 : Hid (Tbl w1 b tk tv sl a3 b3 cv (om.extract 0 R) S) := by unfold Hid; rw [← hw1]; exact HH.out.set _
  have HO1 : Hid (w1.heap[ob]? = some (.cells #[.string om, .int .i64 res, .int .i64 (0 : Nat), .int .i64 n] 56 (0, 0))) := by unfold Hid; rw [← hw1, set_other (by have := HBD.out; omega)]; exact HO.out
  have HR1 : Hid (w1.heap[rb]? = some (.cells #[.string ⟨#[]⟩, .int .i64 0, .int .i64 0, .int .i64 0] 56 (0, 0))) := by unfold Hid; rw [← hw1, set_other (by have := HBD.out; omega)]; exact HR.out
  have HF1 : Hid (Fr b none w0 w1) := by unfold Hid; rw [← hw1]; exact (Fr.of (b := b) (r := none) HBEL.out).set 7 _
  rw [hw1]
  clear hw1 n7 nf e0 e1 e2 e3 ef r0 r1 r2 r3 rf HK9
  obtain ⟨e0, e1, e2, e3, ef⟩ := out_facts HO1.out
  obtain ⟨r0, r1, r2, r3, rf⟩ := out_facts HR1.out
  go_wp2_with fail
  obtain ⟨W4, hW4, z0, z1, z2, z3, hbf⟩ := out_end (.string om) (.int .i64 res) (.int .i64 0) (.int .i64 n) HR1.out (Below.refl rb w1) (Nat.le_refl _)
  rw [hW4]
  refine bodyPost_ret (v := .tuple #[.agg #[.string om, .int .i64 res, .int .i64 0, .int .i64 n], .int .i64 0]) (by simp [results, Tryz.results72, go_sem, z0, z1, z2, z3]) rfl ?_
  refine ⟨rfl, HT1.out.of hbf.size (hbf.block b (by have := HBD.out; omega)) (fun g hg => hbf.block g (by have := HS0.out g hg; have := HBD.out; omega)), ?_⟩
  exact ⟨hbf.os.trans HF1.out.os, hbf.tape.trans HF1.out.tape, hbf.output.trans HF1.out.output, Nat.le_trans HF1.out.size hbf.size, fun k hk hkb hr => (hbf.block k (by have := HBD.out; omega)).trans (HF1.out.block k hk hkb hr)⟩
set_option maxHeartbeats 4000000 in
theorem do_no {w0 w : World} (b rb ob R : Nat) (tk tv : P.Ty 4) (sl : Nat) (a3 b3 cv : Value) (bytes om : ByteArray) (S : Nat → Prop) (res st n : Nat) (h : Tbl w b tk tv sl a3 b3 cv bytes S) (hr : w.heap[rb]? = some (.cells #[.string ⟨#[]⟩, .int .i64 0, .int .i64 0, .int .i64 0] 56 (0, 0))) (ho : w.heap[ob]? = some (.cells #[.string om, .int .i64 res, .int .i64 st, .int .i64 n] 56 (0, 0)))
    (hb0 : b < w0.heap.size) (hrb : w0.heap.size ≤ rb) (hrob : rb ≠ ob) (hob : w0.heap.size ≤ ob) (hbel : Below w0.heap.size w0 w) (hS0 : ∀ g, S g → g < w0.heap.size) (hR : R ≤ om.size) (hom : om.size ≤ 4000) (hst : st = 1 ∨ st = 2)
    (c1 c2 c3 c4 c5 c6 c7 c11 c14 c15 c16 c17 c18 c19 c20 c21 c22 c23 c24 c25 c26 c27 c28 c29 c30 c31 c32 c33 c34 c35 c36 c37 c38 c39 c40 c41 c42 c43 c44 c45 c46 c47 c48 c49 c50 c51 c52 c53 c54 c55 c56 c57 c58 c59 c60 c61 : Value) :
    Code.wp Tryz.prog (dropT 4 (Tryz.f72.body.getD .skip)) (bodyPost Tryz.prog Tryz.f72 fun e w' => e = .returned (.tuple #[.agg #[.string ⟨#[]⟩, .int .i64 0, .int .i64 0, .int .i64 0], .int .i64 (errNo st)]) ∧ Tbl w' b tk tv sl a3 b3 cv bytes S ∧ Fr b none w0 w') ⟨#[.pointer (some ⟨b, 0, none⟩), c1, c2, c3, c4, c5, c6, c7, .pointer (some ⟨rb, 0, none⟩), .int .i64 0, .int .i64 R, c11, .pointer (some ⟨ob, 0, none⟩), .int .i64 0, c14, c15, c16, c17, c18, c19, c20, c21, c22, c23, c24, c25, c26, c27, c28, c29, c30, c31, c32, c33, c34, c35, c36, c37, c38, c39, c40, c41, c42, c43, c44, c45, c46, c47, c48, c49, c50, c51, c52, c53, c54, c55, c56, c57, c58, c59, c60, c61], []⟩ w := by
  have HE := hid_m (fun w => errno_any st w (by omega))
  have hne : ((errNo st : Nat) : Int) ≠ 0 := by rcases hst with rfl | rfl <;> decide
  obtain ⟨er, her⟩ : ∃ er, errNo st = er := ⟨_, rfl⟩
  rw [her] at HE hne
  have hne2 : ((er : Int) == 0) = false := by rw [beq_eq_false_iff_ne]; exact hne
  have HH := hid_m h
  have HR := hid_m hr
  have HBD := hid_m (And.intro hb0 (And.intro hrb (And.intro hrob hob)))
  have HBEL := hid_m hbel
  have HS0 := hid_m hS0
  have HER := hid_m her
  obtain ⟨e0, e1, e2, e3, ef⟩ := out_facts ho
  obtain ⟨r0, r1, r2, r3, rf⟩ := out_facts hr
  clear h hr ho hb0 hrb hrob hob hbel hS0 hR hom hst her hne
  conv => arg 2; whnf
  go_wp2_with fail
  refine (HE.out _).mono ?_
  rintro e wz ⟨rfl, hwz⟩
  subst wz
  go_wp2_with fail
  obtain ⟨W4, hW4, z0, z1, z2, z3, hbf⟩ := out_end (.string ⟨#[]⟩) (.int .i64 0) (.int .i64 0) (.int .i64 0) HR.out (Below.refl rb w) (Nat.le_refl _)
  rw [hW4]
  refine bodyPost_ret (v := .tuple #[.agg #[.string ⟨#[]⟩, .int .i64 0, .int .i64 0, .int .i64 0], .int .i64 er]) (by simp [results, Tryz.results72, go_sem, z0, z1, z2, z3]) rfl ?_
  have hf : Fr b none w0 w := Fr.of HBEL.out
  refine ⟨by rw [HER.out], HH.out.of hbf.size (hbf.block b (by have := HBD.out; omega)) (fun g hg => hbf.block g (by have := HS0.out g hg; have := HBD.out; omega)), ?_⟩
  exact ⟨hbf.os.trans hf.os, hbf.tape.trans hf.tape, hbf.output.trans hf.output, Nat.le_trans hf.size hbf.size, fun k hk hkb hr => (hbf.block k (by have := HBD.out; omega)).trans (hf.block k hk hkb hr)⟩
end Go.Proofs.YtghggcehloiemabGreatDoor
namespace Go.Proofs.YtghggcehloiemabGreatDoor
open Go.RowKit
set_option linter.unusedVariables false
set_option maxRecDepth 16000
def Qx (b sb : Nat) (cv : Value) (bytes : ByteArray) (t R F : Nat) (w : World) : Prop := w.cell? ⟨b, 6, none⟩ = some cv ∧ w.cell? ⟨b, 7, none⟩ = some (.string bytes) ∧ w.cell? ⟨sb, 0, none⟩ = some (.int .i64 t) ∧ w.cell? ⟨sb, 1, none⟩ = some (.int .i64 R) ∧ w.cell? ⟨sb, 2, none⟩ = some (.int .i64 F) ∧ w.cell? ⟨sb, 3, none⟩ = some (.int .i64 10000)
theorem Qx.of {w : World} {b sb : Nat} {tk tv : P.Ty 4} {sl : Nat} {a3 b3 cv : Value} {bytes : ByteArray} {S : Nat → Prop} {t R F : Nat} (h : Tbl w b tk tv sl a3 b3 cv bytes S) (hs : w.heap[sb]? = some (.cells #[.int .i64 t, .int .i64 R, .int .i64 F, .int .i64 10000] 101 (0, 0))) : Qx b sb cv bytes t R F w := by
  refine ⟨?_, ?_, ?_, ?_, ?_, ?_⟩
  all_goals first | (rw [cell_of_row _ _ _ _ _ _ h.blk]; rfl) | (rw [cell_of_row _ _ _ _ _ _ hs]; rfl)
/-- What 'do' answers. -/
def doV (om : ByteArray) (res st n : Nat) : Value := if st = 0 then .tuple #[.agg #[.string om, .int .i64 res, .int .i64 0, .int .i64 n], .int .i64 0] else .tuple #[.agg #[.string ⟨#[]⟩, .int .i64 0, .int .i64 0, .int .i64 0], .int .i64 (errNo st)]
set_option maxHeartbeats 8000000 in
theorem do_any {w : World} (b : Nat) (tk tv : P.Ty 4) (sl : Nat) (a3 b3 cv : Value) (bytes kb vb om : ByteArray) (S : Nat → Prop) (t res st n : Nat) (h : Tbl w b tk tv sl a3 b3 cv bytes S) (kk : Known tk) (kv : Known tv) (hsl : sl ≤ 16) (hisc : P.IsCode (P.text (P.prog (P.cov (P.parts 4 tk)) (P.cov (P.parts 4 tv)) sl).resolve)) (ht : t ≤ 5)
    (hgo : P.go (P.prog (P.cov (P.parts 4 tk)) (P.cov (P.parts 4 tv)) sl).resolve 10000 0 (P.start (bytes ++ kb ++ vb).data.toList t bytes.size (bytes.size + kb.size)) = ⟨om.data.toList, res, st, n, 0⟩) (hom : om.size = (bytes ++ kb ++ vb).size) (hst : st ≤ 2) (hb1 : bytes.size ≤ 1025) (hk32 : kb.size ≤ 32) (hv32 : vb.size ≤ 32) :
    Calls Tryz.prog 72 #[.pointer (some ⟨b, 0, none⟩), .int .i64 t, .string kb, .string vb] w fun e w' => e = .returned (doV om res st n) ∧ Tbl w' b tk tv sl a3 b3 cv (if st = 0 then om.extract 0 bytes.size else bytes) S ∧ Fr b none w w' := by
  obtain ⟨R, hR⟩ : ∃ R, bytes.size = R := ⟨_, rfl⟩
  obtain ⟨F, hF⟩ : ∃ F, R + kb.size = F := ⟨_, rfl⟩
  obtain ⟨mm, hmm⟩ : ∃ m, bytes ++ kb ++ vb = m := ⟨_, rfl⟩
  have hmsz : mm.size = R + kb.size + vb.size := by rw [← hmm, ByteArray.size_append, ByteArray.size_append, hR]
  rw [hR, hF, hmm] at hgo
  rw [hmm] at hom
  rw [hR]
  have hco : P.codeOf (P.text (P.prog (P.cov (P.parts 4 tk)) (P.cov (P.parts 4 tv)) sl).resolve) = (P.prog (P.cov (P.parts 4 tk)) (P.cov (P.parts 4 tv)) sl).resolve := P.codeOf_text (P.resolve_small kk.cov32 kv.cov32 (by have := kk.covl; have := kk.sz32; omega) (by have := kv.covl; have := kv.sz32; omega) hsl)
  have hlen1 : 1 ≤ (P.codeOf (P.text (P.prog (P.cov (P.parts 4 tk)) (P.cov (P.parts 4 tv)) sl).resolve)).length := by rw [P.codeOf_length]; exact hisc.some
  obtain ⟨cb, hpc⟩ := h.pc
  obtain ⟨cg, ccap, hcv, _, _⟩ := hpc.form hlen1
  obtain ⟨Nc, hNc⟩ : ∃ N, (P.codeOf (P.text (P.prog (P.cov (P.parts 4 tk)) (P.cov (P.parts 4 tv)) sl).resolve)).length = N := ⟨_, rfl⟩
  rw [hNc] at hcv
  have HRN : Hid (∀ w', Below w.heap.size w w' → Calls Tryz.prog 50 #[.agg #[cv], .string mm, .agg #[.int .i64 t, .int .i64 R, .int .i64 F, .int .i64 10000]] w' fun e w'' => e = .returned (.tuple #[.agg #[.string om, .int .i64 res, .int .i64 st, .int .i64 n], .int .i64 0]) ∧ Below w'.heap.size w' w'') := by
    intro w' hb
    have ho := owns_on hpc hb
    rw [hcv] at ho ⊢
    have := mrun_any (P.text (P.prog (P.cov (P.parts 4 tk)) (P.cov (P.parts 4 tv)) sl).resolve) hisc mm t R F 10000 w' cg _ ccap cb (by omega) (by omega) (by omega) (by omega) (by omega) ho
    rw [hco, hgo] at this
    rw [show outV ⟨om.data.toList, res, st, n, 0⟩ = .agg #[.string om, .int .i64 res, .int .i64 st, .int .i64 n] from by unfold outV; rw [← str_of]] at this
    rw [show ((10000 : Nat) : Int) = 10000 by omega, show (((⟨om.data.toList, res, st, n, 0⟩ : P.O).err : Nat) : Int) = 0 from rfl] at this
    exact this
  have HH := hid_m h
  have hcvs : ∃ x N c, cv = .slice x N c := ⟨_, _, _, hcv⟩
  obtain ⟨x1, x2, x3, hcv'⟩ := hcvs
  subst hcv'
  have HTL : Hid (∀ (w' : World) (rb ob : Nat) (c1 c2 c3 c4 c5 c6 c7 c11 c14 c15 c16 c17 c18 c19 c20 c21 c22 c23 c24 c25 c26 c27 c28 c29 c30 c31 c32 c33 c34 c35 c36 c37 c38 c39 c40 c41 c42 c43 c44 c45 c46 c47 c48 c49 c50 c51 c52 c53 c54 c55 c56 c57 c58 c59 c60 c61 : Value), Below w.heap.size w w' → w'.heap[rb]? = some (.cells #[.string ⟨#[]⟩, .int .i64 0, .int .i64 0, .int .i64 0] 56 (0, 0)) → w'.heap[ob]? = some (.cells #[.string om, .int .i64 res, .int .i64 st, .int .i64 n] 56 (0, 0)) → w.heap.size ≤ rb → rb ≠ ob → w.heap.size ≤ ob →
      Code.wp Tryz.prog (dropT 4 (Tryz.f72.body.getD .skip)) (bodyPost Tryz.prog Tryz.f72 fun e w' => e = .returned (doV om res st n) ∧ Tbl w' b tk tv sl a3 b3 (.slice x1 x2 x3) (if st = 0 then om.extract 0 R else bytes) S ∧ Fr b none w w') ⟨#[.pointer (some ⟨b, 0, none⟩), c1, c2, c3, c4, c5, c6, c7, .pointer (some ⟨rb, 0, none⟩), .int .i64 0, .int .i64 R, c11, .pointer (some ⟨ob, 0, none⟩), .int .i64 0, c14, c15, c16, c17, c18, c19, c20, c21, c22, c23, c24, c25, c26, c27, c28, c29, c30, c31, c32, c33, c34, c35, c36, c37, c38, c39, c40, c41, c42, c43, c44, c45, c46, c47, c48, c49, c50, c51, c52, c53, c54, c55, c56, c57, c58, c59, c60, c61], []⟩ w') := by
    intro w' rb ob c1 c2 c3 c4 c5 c6 c7 c11 c14 c15 c16 c17 c18 c19 c20 c21 c22 c23 c24 c25 c26 c27 c28 c29 c30 c31 c32 c33 c34 c35 c36 c37 c38 c39 c40 c41 c42 c43 c44 c45 c46 c47 c48 c49 c50 c51 c52 c53 c54 c55 c56 c57 c58 c59 c60 c61 hb hr ho h1 h2 h3
    by_cases h0 : st = 0
    · subst h0
      exact do_ok b rb ob R tk tv sl a3 b3 (.slice x1 x2 x3) bytes om S res 0 n (h.on hb) hr ho h.lt h1 h2 h3 hb (fun g hg => (h.own g hg).2) (by omega) (by omega) rfl c1 c2 c3 c4 c5 c6 c7 c11 c14 c15 c16 c17 c18 c19 c20 c21 c22 c23 c24 c25 c26 c27 c28 c29 c30 c31 c32 c33 c34 c35 c36 c37 c38 c39 c40 c41 c42 c43 c44 c45 c46 c47 c48 c49 c50 c51 c52 c53 c54 c55 c56 c57 c58 c59 c60 c61
    · have := do_no b rb ob R tk tv sl a3 b3 (.slice x1 x2 x3) bytes om S res st n (h.on hb) hr ho h.lt h1 h2 h3 hb (fun g hg => (h.own g hg).2) (by omega) (by omega) (by omega) c1 c2 c3 c4 c5 c6 c7 c11 c14 c15 c16 c17 c18 c19 c20 c21 c22 c23 c24 c25 c26 c27 c28 c29 c30 c31 c32 c33 c34 c35 c36 c37 c38 c39 c40 c41 c42 c43 c44 c45 c46 c47 c48 c49 c50 c51 c52 c53 c54 c55 c56 c57 c58 c59 c60 c61
      unfold doV
      rw [if_neg h0, if_neg h0]
      exact this
  have HW1 : Hid (IntKind.i64.wrap ((R : Int) + (kb.size : Int)) = (F : Int)) := by unfold Hid; rw [wrap_id _ (by omega) (by omega)]; omega
  have HSZ := hid_m (And.intro hR (And.intro hmm (And.intro hb1 (And.intro hk32 hv32))))
  have hsz : ((bytes.size : Nat) : Int) = (R : Int) := by rw [hR]
  have hs1 : ¬ 9223372036854775807 < bytes.size + kb.size := by omega
  have hs2 : ¬ 9223372036854775807 < bytes.size + kb.size + vb.size := by omega
  have HS12 := hid_m (And.intro hs1 hs2)
  have HSI := hid_m hsz
  have hbA : Below w.heap.size w (w.alloc (Obj.cells #[.string ⟨#[]⟩, .int .i64 0, .int .i64 0, .int .i64 0] 56)) := (Below.refl _ _).alloc (Nat.le_refl _) _
  have hT0 := h.on hbA
  obtain ⟨n0, n1, n2, n3, n4, n5, n6, n7, nf⟩ := hT0.cells
  have hrA : (w.alloc (Obj.cells #[.string ⟨#[]⟩, .int .i64 0, .int .i64 0, .int .i64 0] 56)).heap[w.heap.size]? = some (.cells #[.string ⟨#[]⟩, .int .i64 0, .int .i64 0, .int .i64 0] 56 (0, 0)) := heap_alloc_new _ _
  have B0 := hid_m hbA
  have HT0 := hid_m hT0
  have HR0 := hid_m hrA
  have HLT := hid_m h.lt
  clear h kk kv hsl hisc ht hgo hom hst hb1 hk32 hv32 hR hF hmm hmsz hco hlen1 hpc hcv hsz hs1 hs2 hbA hT0 hrA n0 n1 n2 n3 n4 n5 n6 nf
  go_enter Tryz.func72, Tryz.ntmps72
  have hsz := HSI.out
  have hw1 := HW1.out
  go_wp2_with fail
  clear hsz hw1 n7
  have B2 : Hid (Below w.heap.size w ((w.alloc (Obj.cells #[.string ⟨#[]⟩, .int .i64 0, .int .i64 0, .int .i64 0] 56)).alloc (Obj.cells #[.int .i64 t, .int .i64 R, .int .i64 F, .int .i64 10000] 101))) := B0.out.alloc (by simp) _
  have hbb : Below (w.alloc (Obj.cells #[.string ⟨#[]⟩, .int .i64 0, .int .i64 0, .int .i64 0] 56)).heap.size (w.alloc (Obj.cells #[.string ⟨#[]⟩, .int .i64 0, .int .i64 0, .int .i64 0] 56)) ((w.alloc (Obj.cells #[.string ⟨#[]⟩, .int .i64 0, .int .i64 0, .int .i64 0] 56)).alloc (Obj.cells #[.int .i64 t, .int .i64 R, .int .i64 F, .int .i64 10000] 101)) := (Below.refl _ _).alloc (Nat.le_refl _) _
  have HR2 := hid_m (t_blk_on hbb HR0.out)
  have HT2 := hid_m (HT0.out.on hbb)
  have hsA : ((w.alloc (Obj.cells #[.string ⟨#[]⟩, .int .i64 0, .int .i64 0, .int .i64 0] 56)).alloc (Obj.cells #[.int .i64 t, .int .i64 R, .int .i64 F, .int .i64 10000] 101)).heap[w.heap.size + 1]? = some (.cells #[.int .i64 t, .int .i64 R, .int .i64 F, .int .i64 10000] 101 (0, 0)) := by
    have := heap_alloc_new (w.alloc (Obj.cells #[.string ⟨#[]⟩, .int .i64 0, .int .i64 0, .int .i64 0] 56)) (Obj.cells #[.int .i64 t, .int .i64 R, .int .i64 F, .int .i64 10000] 101)
    simpa using this
  have HS2 := hid_m hsA
  obtain ⟨w2, hw2⟩ : ∃ W, ((w.alloc (Obj.cells #[.string ⟨#[]⟩, .int .i64 0, .int .i64 0, .int .i64 0] 56)).alloc (Obj.cells #[.int .i64 t, .int .i64 R, .int .i64 F, .int .i64 10000] 101)) = W := ⟨_, rfl⟩
  obtain ⟨rb, hrb⟩ : ∃ x, w.heap.size = x := ⟨_, rfl⟩
  obtain ⟨sb, hsb⟩ : ∃ x, w.heap.size + 1 = x := ⟨_, rfl⟩
  have hs2 : ((w.alloc (Obj.cells #[.string ⟨#[]⟩, .int .i64 0, .int .i64 0, .int .i64 0] 56)).alloc (Obj.cells #[.int .i64 t, .int .i64 R, .int .i64 F, .int .i64 10000] 101)).heap.size = w.heap.size + 2 := by simp
  rw [hw2] at B2 HR2 HT2 HS2 hs2 ⊢
  rw [hsb] at HS2 ⊢
  rw [hrb] at HR2 ⊢
  have HRB := hid_m (And.intro hrb (And.intro hsb hs2))
  clear hw2 hrb hsb hbb hsA hs2
  have HX2 := hid_m (Qx.of HT2.out HS2.out)
  rename_i K3 hK3
  have HK3 := hid_m hK3
  clear hK3
  refine wp_region_held_drew (S := Qx b sb (.slice x1 x2 x3) bytes t R F) (by kernel_rfl) HX2.out (fun hHeld => ?_)
  refine wpAnyH_take (i := 0) (v := ?_) rfl (by kernel_rfl) (by kernel_rfl) (by kernel_rfl) (fun _ _ _ h => h) (Or.inl ⟨by rfl, ?_⟩) (by assumption) ?_
  rotate_left
  · intro w hSw
    obtain ⟨y0, y1, y2, y3, y4, y5⟩ := hSw
    go_simp
    all_goals with_reducible rfl
  try simp only [Act.put]
  refine wpAnyH_take (i := 1) (v := ?_) rfl (by kernel_rfl) (by kernel_rfl) (by kernel_rfl) (fun _ _ _ h => h) (Or.inl ⟨by rfl, ?_⟩) (by assumption) ?_
  rotate_left
  · intro w hSw
    obtain ⟨y0, y1, y2, y3, y4, y5⟩ := hSw
    go_simp
    all_goals with_reducible rfl
  try simp only [Act.put]
  refine wpAnyH_take (i := 2) (v := ?_) rfl (by kernel_rfl) (by kernel_rfl) (by kernel_rfl) (fun _ _ _ h => h) (Or.inl ⟨by rfl, ?_⟩) (by assumption) ?_
  rotate_left
  · intro w hSw
    obtain ⟨y0, y1, y2, y3, y4, y5⟩ := hSw
    go_simp
    all_goals with_reducible rfl
  try simp only [Act.put]
  refine wpAnyH_take (i := 3) (v := ?_) rfl (by kernel_rfl) (by kernel_rfl) (by kernel_rfl) (fun _ _ _ h => h) (Or.inl ⟨by rfl, ?_⟩) (by assumption) ?_
  rotate_left
  · intro w hSw
    obtain ⟨y0, y1, y2, y3, y4, y5⟩ := hSw
    go_simp
    all_goals with_reducible rfl
  try simp only [Act.put]
  refine wpAnyH_take (i := 4) (v := ?_) rfl (by kernel_rfl) (by kernel_rfl) (by kernel_rfl) (fun _ _ _ h => h) (Or.inl ⟨by rfl, ?_⟩) (by assumption) ?_
  rotate_left
  · intro w hSw
    obtain ⟨y0, y1, y2, y3, y4, y5⟩ := hSw
    go_simp
    all_goals with_reducible rfl
  try simp only [Act.put]
  refine wpAnyH_take (i := 5) (v := ?_) rfl (by kernel_rfl) (by kernel_rfl) (by kernel_rfl) (fun _ _ _ h => h) (Or.inl ⟨by rfl, ?_⟩) (by assumption) ?_
  rotate_left
  · intro w hSw
    obtain ⟨y0, y1, y2, y3, y4, y5⟩ := hSw
    go_simp
    all_goals with_reducible rfl
  try simp only [Act.put]
  refine wpAnyH_take (i := 6) (v := ?_) rfl (by kernel_rfl) (by kernel_rfl) (by kernel_rfl) (fun _ _ _ h => h) (Or.inl ⟨by rfl, ?_⟩) (by assumption) ?_
  rotate_left
  · intro w hSw
    obtain ⟨y0, y1, y2, y3, y4, y5⟩ := hSw
    go_simp
    all_goals with_reducible rfl
  try simp only [Act.put]
  refine wpAnyH_take (i := 7) (v := ?_) rfl (by kernel_rfl) (by kernel_rfl) (by kernel_rfl) (fun _ _ _ h => h) (Or.inl ⟨by rfl, ?_⟩) (by assumption) ?_
  rotate_left
  · intro w hSw
    obtain ⟨y0, y1, y2, y3, y4, y5⟩ := hSw
    go_simp
    all_goals with_reducible rfl
  try simp only [Act.put]
  refine wpAnyH_take (i := 8) (v := ?_) rfl (by kernel_rfl) (by kernel_rfl) (by kernel_rfl) (fun _ _ _ h => h) (Or.inl ⟨by rfl, ?_⟩) (by assumption) ?_
  rotate_left
  · intro w hSw
    obtain ⟨y0, y1, y2, y3, y4, y5⟩ := hSw
    go_simp
    all_goals with_reducible rfl
  try simp only [Act.put]
  have hs1 := HS12.out.1
  have hs3 := HS12.out.2
  refine wpAnyH_take (i := 9) (v := ?_) rfl (by kernel_rfl) (by kernel_rfl) (by kernel_rfl) (fun _ _ _ h => h) (Or.inl ⟨by rfl, ?_⟩) (by assumption) ?_
  rotate_left
  · intro w hSw
    obtain ⟨y0, y1, y2, y3, y4, y5⟩ := hSw
    go_simp
    all_goals with_reducible rfl
  try simp only [Act.put]
  refine wpAnyH_take (i := 10) (v := ?_) rfl (by kernel_rfl) (by kernel_rfl) (by kernel_rfl) (fun _ _ _ h => h) (Or.inl ⟨by rfl, ?_⟩) (by assumption) ?_
  rotate_left
  · intro w hSw
    obtain ⟨y0, y1, y2, y3, y4, y5⟩ := hSw
    go_simp
    all_goals with_reducible rfl
  try simp only [Act.put]
  refine wpAnyH_take (i := 11) (v := ?_) rfl (by kernel_rfl) (by kernel_rfl) (by kernel_rfl) (fun _ _ _ h => h) (Or.inl ⟨by rfl, ?_⟩) (by assumption) ?_
  rotate_left
  · intro w hSw
    obtain ⟨y0, y1, y2, y3, y4, y5⟩ := hSw
    go_simp
    all_goals with_reducible rfl
  try simp only [Act.put]
  clear hs1 hs3
  refine wpAnyH_take (i := 12) (v := ?_) rfl (by kernel_rfl) (by kernel_rfl) (by kernel_rfl) (fun _ _ _ h => h) (Or.inl ⟨by rfl, ?_⟩) (by assumption) ?_
  rotate_left
  · intro w hSw
    obtain ⟨y0, y1, y2, y3, y4, y5⟩ := hSw
    go_simp
    all_goals with_reducible rfl
  try simp only [Act.put]
  rw [← HSZ.out.2.1] at HRN
  refine wpAnyH_ready (rs := [13, 17]) (by kernel_rfl) (by simp) ?_
  refine AllReadyH.cons (o := _) rfl (fun K hK => ?_) (AllReadyH.cons (o := _) rfl (fun K hK => ?_) AllReadyH.nil)
  · go_simp
    refine (HRN.out w2.drew B2.out.drew).mono ?_
    rintro e w3 ⟨rfl, hb3⟩
    have hbb3 : Below w2.heap.size w2 w3 := ⟨hb3.os, hb3.tape, hb3.output, hb3.size, hb3.block⟩
    have B3 := hid_m (B2.out.trans (hbb3.mono B2.out.size))
    have HB23 := hid_m hbb3
    have HX3 := hid_m (Qx.of (HT2.out.on hbb3) (t_blk_on hbb3 HS2.out))
    clear hb3 hbb3
    go_wp2_with fail
    refine hK.out _ _ HX3.out (fun hHeldb => ?_)
    clear hK K
    try simp only [Act.put]
    refine wpAnyH_take (i := 14) (v := ?_) rfl (by kernel_rfl) (by kernel_rfl) (by kernel_rfl) (fun _ _ _ h => h) (Or.inl ⟨by rfl, ?_⟩) (by assumption) ?_
    rotate_left
    · intro w hSw
      obtain ⟨y0, y1, y2, y3, y4, y5⟩ := hSw
      go_simp
      all_goals with_reducible rfl
    try simp only [Act.put]
    refine wpAnyH_take (i := 15) (v := ?_) rfl (by kernel_rfl) (by kernel_rfl) (by kernel_rfl) (fun _ _ _ h => h) (Or.inl ⟨by rfl, ?_⟩) (by assumption) ?_
    rotate_left
    · intro w hSw
      obtain ⟨y0, y1, y2, y3, y4, y5⟩ := hSw
      go_simp
      all_goals with_reducible rfl
    try simp only [Act.put]
    refine wpAnyH_take (i := 16) (v := ?_) rfl (by kernel_rfl) (by kernel_rfl) (by kernel_rfl) (fun _ _ _ h => h) (Or.inl ⟨by rfl, ?_⟩) (by assumption) ?_
    rotate_left
    · intro w hSw
      obtain ⟨y0, y1, y2, y3, y4, y5⟩ := hSw
      go_simp
      all_goals with_reducible rfl
    try simp only [Act.put]
    have hal : Below w3.heap.size w3 (w3.alloc (Obj.cells #[.string ⟨#[]⟩, .int .i64 0, .int .i64 0, .int .i64 0] 56)) := (Below.refl _ _).alloc (Nat.le_refl _) _
    have HB24 : Hid (Below w2.heap.size w2 (w3.alloc (Obj.cells #[.string ⟨#[]⟩, .int .i64 0, .int .i64 0, .int .i64 0] 56))) := HB23.out.trans (hal.mono HB23.out.size)
    have HX4 := hid_m (Qx.of (HT2.out.on HB24.out) (t_blk_on HB24.out HS2.out))
    have HO4 : Hid ((w3.alloc (Obj.cells #[.string ⟨#[]⟩, .int .i64 0, .int .i64 0, .int .i64 0] 56)).heap[w3.heap.size]? = some (.cells #[.string ⟨#[]⟩, .int .i64 0, .int .i64 0, .int .i64 0] 56 (0, 0))) := heap_alloc_new _ _
    clear hal
    refine wpAnyH_ready (rs := [17]) (by kernel_rfl) (by simp) ?_
    refine AllReadyH.cons (o := _) rfl (fun K hK => ?_) AllReadyH.nil
    go_simp
    refine hK.out _ _ HX4.out (fun hHeldc => ?_)
    clear hK K
    try simp only [Act.put]
    obtain ⟨ob, hob⟩ : ∃ ob, w3.heap.size = ob := ⟨_, rfl⟩
    have HOB : w2.heap.size ≤ ob := by have := HB23.out.size; omega
    generalize (w3.alloc (Obj.cells #[.string ⟨#[]⟩, .int .i64 0, .int .i64 0, .int .i64 0] 56)) = w4 at HB24 HX4 HO4 ⊢
    rw [hob] at HO4 ⊢
    clear hob
    obtain ⟨e0, e1, e2, e3, ef⟩ := out_facts HO4.out
    refine wpAnyH_ready (rs := [18]) (by kernel_rfl) (by simp) ?_
    refine AllReadyH.cons (o := _) rfl (fun K hK => ?_) AllReadyH.nil
    go_simp
    obtain ⟨w5, hw5⟩ : ∃ W, ((((w4.setCell ⟨ob, 0, none⟩ (.string om)).setCell ⟨ob, 1, none⟩ (.int .i64 res)).setCell ⟨ob, 2, none⟩ (.int .i64 st)).setCell ⟨ob, 3, none⟩ (.int .i64 n)) = W := ⟨_, rfl⟩
    have HO5 : Hid (w5.heap[ob]? = some (.cells #[.string om, .int .i64 res, .int .i64 st, .int .i64 n] 56 (0, 0))) := by unfold Hid; rw [← hw5]; exact out4 _ _ _ _ HO4.out
    have HB25 : Hid (Below w2.heap.size w2 w5) := by unfold Hid; rw [← hw5]; exact (((HB24.out.setCell HOB _).setCell HOB _).setCell HOB _).setCell HOB _
    have HX5 := hid_m (Qx.of (HT2.out.on HB25.out) (t_blk_on HB25.out HS2.out))
    rw [hw5]
    clear hw5 e0 e1 e2 e3 ef HX4 HO4 HB24
    refine hK.out _ _ HX5.out (fun hHeldd => ?_)
    clear hK K
    try simp only [Act.put]
    refine wpAnyH_ready (rs := [19]) (by kernel_rfl) (by simp) ?_
    refine AllReadyH.cons (o := _) rfl (fun K hK => ?_) AllReadyH.nil
    go_simp
    refine hK.out _ _ HX5.out (fun hHelde => ?_)
    clear hK K
    try simp only [Act.put]
    refine wpAnyH_done (by kernel_rfl) ?_ _
    go_wp2_with fail
    refine HK3.out _ _ ?_
    exact HTL.out w5 rb ob _ _ _ _ _ _ _ _ _ _ _ _ _ _ _ _ _ _ _ _ _ _ _ _ _ _ _ _ _ _ _ _ _ _ _ _ _ _ _ _ _ _ _ _ _ _ _ _ _ _ _ _ _ _ _ _ (B2.out.trans (HB25.out.mono B2.out.size)) (t_blk_on HB25.out HR2.out) HO5.out (Nat.le_of_eq HRB.out.1) (by have := HRB.out; omega) (by have := HRB.out; omega)
  · go_simp
    have HB23 : Hid (Below w2.heap.size w2 (w2.alloc (Obj.cells #[.string ⟨#[]⟩, .int .i64 0, .int .i64 0, .int .i64 0] 56)).drew) := ((Below.refl _ _).alloc (Nat.le_refl _) _).drew
    have HX3 := hid_m (Qx.of (HT2.out.on HB23.out) (t_blk_on HB23.out HS2.out))
    have HO3 : Hid ((w2.alloc (Obj.cells #[.string ⟨#[]⟩, .int .i64 0, .int .i64 0, .int .i64 0] 56)).drew.heap[w2.heap.size]? = some (.cells #[.string ⟨#[]⟩, .int .i64 0, .int .i64 0, .int .i64 0] 56 (0, 0))) := heap_alloc_new w2 _
    refine hK.out _ _ HX3.out (fun hHeldc => ?_)
    clear hK K
    try simp only [Act.put]
    obtain ⟨ob, hob⟩ : ∃ ob, w2.heap.size = ob := ⟨_, rfl⟩
    have HOB : w2.heap.size ≤ ob := Nat.le_of_eq hob
    generalize (w2.alloc (Obj.cells #[.string ⟨#[]⟩, .int .i64 0, .int .i64 0, .int .i64 0] 56)).drew = w3 at HB23 HX3 HO3 ⊢
    rw [hob] at HO3
    try rw [hob]
    clear hob
    refine wpAnyH_ready (rs := [13]) (by kernel_rfl) (by simp) ?_
    refine AllReadyH.cons (o := _) rfl (fun K hK => ?_) AllReadyH.nil
    go_simp
    refine (HRN.out w3 (B2.out.trans (HB23.out.mono B2.out.size))).mono ?_
    rintro e w4 ⟨rfl, hb4⟩
    have HB24 := hid_m (HB23.out.trans (hb4.mono HB23.out.size))
    have HO4 := hid_m (t_blk_on hb4 HO3.out)
    have HX4 := hid_m (Qx.of (HT2.out.on HB24.out) (t_blk_on HB24.out HS2.out))
    clear hb4
    go_wp2_with fail
    refine hK.out _ _ HX4.out (fun hHeldb => ?_)
    clear hK K
    try simp only [Act.put]
    refine wpAnyH_take (i := 14) (v := ?_) rfl (by kernel_rfl) (by kernel_rfl) (by kernel_rfl) (fun _ _ _ h => h) (Or.inl ⟨by rfl, ?_⟩) (by assumption) ?_
    rotate_left
    · intro w hSw
      obtain ⟨y0, y1, y2, y3, y4, y5⟩ := hSw
      go_simp
      all_goals with_reducible rfl
    try simp only [Act.put]
    refine wpAnyH_take (i := 15) (v := ?_) rfl (by kernel_rfl) (by kernel_rfl) (by kernel_rfl) (fun _ _ _ h => h) (Or.inl ⟨by rfl, ?_⟩) (by assumption) ?_
    rotate_left
    · intro w hSw
      obtain ⟨y0, y1, y2, y3, y4, y5⟩ := hSw
      go_simp
      all_goals with_reducible rfl
    try simp only [Act.put]
    refine wpAnyH_take (i := 16) (v := ?_) rfl (by kernel_rfl) (by kernel_rfl) (by kernel_rfl) (fun _ _ _ h => h) (Or.inl ⟨by rfl, ?_⟩) (by assumption) ?_
    rotate_left
    · intro w hSw
      obtain ⟨y0, y1, y2, y3, y4, y5⟩ := hSw
      go_simp
      all_goals with_reducible rfl
    try simp only [Act.put]
    obtain ⟨e0, e1, e2, e3, ef⟩ := out_facts HO4.out
    refine wpAnyH_ready (rs := [18]) (by kernel_rfl) (by simp) ?_
    refine AllReadyH.cons (o := _) rfl (fun K hK => ?_) AllReadyH.nil
    go_simp
    obtain ⟨w5, hw5⟩ : ∃ W, ((((w4.setCell ⟨ob, 0, none⟩ (.string om)).setCell ⟨ob, 1, none⟩ (.int .i64 res)).setCell ⟨ob, 2, none⟩ (.int .i64 st)).setCell ⟨ob, 3, none⟩ (.int .i64 n)) = W := ⟨_, rfl⟩
    have HO5 : Hid (w5.heap[ob]? = some (.cells #[.string om, .int .i64 res, .int .i64 st, .int .i64 n] 56 (0, 0))) := by unfold Hid; rw [← hw5]; exact out4 _ _ _ _ HO4.out
    have HB25 : Hid (Below w2.heap.size w2 w5) := by unfold Hid; rw [← hw5]; exact (((HB24.out.setCell HOB _).setCell HOB _).setCell HOB _).setCell HOB _
    have HX5 := hid_m (Qx.of (HT2.out.on HB25.out) (t_blk_on HB25.out HS2.out))
    rw [hw5]
    clear hw5 e0 e1 e2 e3 ef HX4 HO4 HB24
    refine hK.out _ _ HX5.out (fun hHeldd => ?_)
    clear hK K
    try simp only [Act.put]
    refine wpAnyH_ready (rs := [19]) (by kernel_rfl) (by simp) ?_
    refine AllReadyH.cons (o := _) rfl (fun K hK => ?_) AllReadyH.nil
    go_simp
    refine hK.out _ _ HX5.out (fun hHelde => ?_)
    clear hK K
    try simp only [Act.put]
    refine wpAnyH_done (by kernel_rfl) ?_ _
    go_wp2_with fail
    refine HK3.out _ _ ?_
    exact HTL.out w5 rb ob _ _ _ _ _ _ _ _ _ _ _ _ _ _ _ _ _ _ _ _ _ _ _ _ _ _ _ _ _ _ _ _ _ _ _ _ _ _ _ _ _ _ _ _ _ _ _ _ _ _ _ _ _ _ _ _ (B2.out.trans (HB25.out.mono B2.out.size)) (t_blk_on HB25.out HR2.out) HO5.out (Nat.le_of_eq HRB.out.1) (by have := HRB.out; omega) (by have := HRB.out; omega)
end Go.Proofs.YtghggcehloiemabGreatDoor
namespace Go.Proofs.YtghggcehloiemabGreatDoor
open Go.RowKit
set_option linter.unusedVariables false
set_option maxRecDepth 16000
theorem mapDo_low (sl t : Nat) (k v : ByteArray) (L : List (ByteArray × ByteArray)) (ht : 1 ≤ t ∧ t ≤ 5) : (P.mapDo sl t k v L).1 ≤ 2 ∧ ((P.mapDo sl t k v L).1 ≠ 0 → (P.mapDo sl t k v L).2 = L) := by
  have h : t = 1 ∨ t = 2 ∨ t = 3 ∨ t = 4 ∨ t = 5 := by omega
  unfold P.mapDo
  rcases h with rfl | rfl | rfl | rfl | rfl
  · rw [if_pos rfl]
    refine ⟨?_, fun _ => rfl⟩
    show (if (P.atK L k).isSome = true then 0 else 1) ≤ 2
    split <;> omega
  · rw [if_neg (by decide), if_pos rfl]
    cases P.atK L k with
    | some i => exact ⟨by simp, fun h => absurd rfl h⟩
    | none =>
      simp only
      by_cases hf : sl ≤ L.length
      · rw [if_pos hf]; exact ⟨Nat.le_refl _, fun _ => rfl⟩
      · rw [if_neg hf]; exact ⟨by simp, fun h => absurd rfl h⟩
  · rw [if_neg (by decide), if_neg (by decide), if_pos rfl]
    cases P.atK L k with
    | some i => exact ⟨by simp, fun h => absurd rfl h⟩
    | none => exact ⟨by simp, fun _ => rfl⟩
  · exact ⟨Nat.zero_le 2, fun _ => rfl⟩
  · exact ⟨Nat.zero_le 2, fun h => absurd rfl h⟩
/-- A table that holds a plain map. -/
def TbI (w : World) (b : Nat) (tk tv : P.Ty 4) (sl : Nat) (a3 b3 cv : Value) (S : Nat → Prop) (L : List (ByteArray × ByteArray)) : Prop := ∃ (bytes : ByteArray) (T : List (List UInt8)), Tbl w b tk tv sl a3 b3 cv bytes S ∧ P.TabP tk tv sl bytes.data.toList L T
theorem TbI.on {w w' : World} {b : Nat} {tk tv : P.Ty 4} {sl : Nat} {a3 b3 cv : Value} {S : Nat → Prop} {L : List (ByteArray × ByteArray)} (h : TbI w b tk tv sl a3 b3 cv S L) (hb : Below w.heap.size w w') : TbI w' b tk tv sl a3 b3 cv S L := by
  obtain ⟨bytes, T, h1, h2⟩ := h
  exact ⟨bytes, T, h1.on hb, h2⟩
theorem TbI.of {w w' : World} {b : Nat} {tk tv : P.Ty 4} {sl : Nat} {a3 b3 cv : Value} {S : Nat → Prop} {L : List (ByteArray × ByteArray)} (h : TbI w b tk tv sl a3 b3 cv S L) (hs : w.heap.size ≤ w'.heap.size) (hb : w'.heap[b]? = w.heap[b]?) (hS : ∀ g, S g → w'.heap[g]? = w.heap[g]?) : TbI w' b tk tv sl a3 b3 cv S L := by
  obtain ⟨bytes, T, h1, h2⟩ := h
  exact ⟨bytes, T, h1.of hs hb hS, h2⟩
/-- What a run of a table's answers, and what there is then. -/
structure DoP (w w' : World) (e : Ending) (b : Nat) (tk tv : P.Ty 4) (sl : Nat) (a3 b3 cv : Value) (S : Nat → Prop) (t : Nat) (k v : ByteArray) (L : List (ByteArray × ByteArray)) : Prop where
  ex : ∃ (om : ByteArray) (res n : Nat), e = .returned (doV om res (P.mapDo sl t k v L).1 n) ∧ om.size ≤ 2000 ∧ (t = 4 → res = L.length) ∧ (t = 1 ∧ (P.mapDo sl t k v L).1 = 0 → ∃ i v0, P.atK L k = some i ∧ L[i]? = some (k, v0) ∧ (P.sz 4 tv).1 ≤ om.size ∧ P.tellAll (P.parts 4 tv) (om.extract (om.size - (P.sz 4 tv).1) om.size).data.toList = v0.data.toList)
  tb : TbI w' b tk tv sl a3 b3 cv S (P.mapDo sl t k v L).2
  fr : Fr b none w w'
theorem do_tab {w : World} (b : Nat) (tk tv : P.Ty 4) (sl : Nat) (a3 b3 cv : Value) (kb vb k v : ByteArray) (S : Nat → Prop) (t : Nat) (L : List (ByteArray × ByteArray)) (h : TbI w b tk tv sl a3 b3 cv S L) (ht : 1 ≤ t ∧ t ≤ 5) (hkb : kb.size = (P.sz 4 tk).1) (hvb : vb.size = (P.sz 4 tv).1)
    (hk : t = 1 ∨ t = 2 ∨ t = 3 → P.IsVal tk k.data.toList ∧ P.bytesOf kb.data.toList 0 (P.cov (P.parts 4 tk)) = P.encV tk k.data.toList) (hv : t = 2 → P.IsVal tv v.data.toList ∧ P.bytesOf vb.data.toList 0 (P.cov (P.parts 4 tv)) = P.encV tv v.data.toList) :
    Calls Tryz.prog 72 #[.pointer (some ⟨b, 0, none⟩), .int .i64 t, .string kb, .string vb] w fun e w' => DoP w w' e b tk tv sl a3 b3 cv S t k v L := by
  obtain ⟨bytes, T, hT, hP⟩ := h
  obtain ⟨m', res, n, T', hgo, hml, hP', hcn, hfd, hka, hnf⟩ := P.tab_run hP k v kb.data.toList vb.data.toList t (by rw [P.szd]; exact hkb) (by rw [P.szd]; exact hvb) hk hv
  rw [P.szd bytes, P.szd kb] at hgo hml hfd
  rw [P.szd vb] at hml
  rw [P.szd bytes] at hP'
  have ems : (bytes ++ kb ++ vb).data.toList = bytes.data.toList ++ kb.data.toList ++ vb.data.toList := by rw [ByteArray.data_append, Array.toList_append, ByteArray.data_append, Array.toList_append]
  have hom : (⟨m'.toArray⟩ : ByteArray).data.toList = m' := by simp
  have hosz : (⟨m'.toArray⟩ : ByteArray).size = m'.length := by simp [ByteArray.size]
  have k32 := hP.kk.sz32
  have v32 := hP.kv.sz32
  have kc := hP.kk.covl
  have vc := hP.kv.covl
  have sh := hP.short
  rw [P.szd] at sh
  have hlow := mapDo_low sl t k v L ht
  have hisc := P.resolve_isCode (kp := P.cov (P.parts 4 tk)) (vp := P.cov (P.parts 4 tv)) (sl := sl) hP.kk.cov32 hP.kv.cov32 (by omega) (by omega) hP.sl16
  refine (do_any b tk tv sl a3 b3 cv bytes kb vb ⟨m'.toArray⟩ S t res (P.mapDo sl t k v L).1 n hT hP.kk hP.kv hP.sl16 hisc ht.2 (by rw [ems, hom]; exact hgo) (by rw [hosz, hml, ByteArray.size_append, ByteArray.size_append]) hlow.1 sh (by omega) (by omega)).mono fun e w' hh => ?_
  obtain ⟨he, htb, hfr⟩ := hh
  refine ⟨⟨_, res, n, he, by rw [hosz]; omega, hcn, fun hF => ?_⟩, ?_, hfr⟩
  · obtain ⟨i, v0, q1, q2, q3⟩ := hfd hF
    refine ⟨i, v0, q1, q2, by rw [hosz]; omega, ?_⟩
    have e1 : m'.length - (P.sz 4 tv).1 = bytes.size + kb.size := by omega
    rw [P.cutd, hom, hosz, e1, List.take_of_length_le (by rw [List.length_drop]; omega)]
    exact q3
  · by_cases h0 : (P.mapDo sl t k v L).1 = 0
    · rw [if_pos h0] at htb
      refine ⟨_, T', htb, ?_⟩
      rw [P.cutd, hom, List.drop_zero, Nat.sub_zero]
      exact hP'
    · rw [if_neg h0] at htb
      rw [hlow.2 h0]
      exact ⟨bytes, T, htb, hP⟩
end Go.Proofs.YtghggcehloiemabGreatDoor
namespace Go.Proofs.YtghggcehloiemabGreatDoor
open Go.RowKit
set_option linter.unusedVariables false
set_option maxRecDepth 16000
theorem zero_bytes (n : Nat) : (⟨(List.replicate n (0 : UInt8)).toArray⟩ : ByteArray).size = n := by simp [ByteArray.size]
theorem shSize_b (a c : Int) (x : Option Addr) (n k : Nat) (w : World) : Calls Tryz.prog 70 #[.agg #[.int .i64 a, .int .i64 c, .slice x n k]] w fun e w' => e = .returned (.int .i64 a) ∧ Below w.heap.size w w' :=
  (shSize_any a c x n k w).mono fun e w' hh => ⟨hh.1, by rw [hh.2]; exact (Below.refl _ _).alloc (Nat.le_refl _) _⟩
/-- A run whose status is 0. -/
theorem doV_ok (om : ByteArray) (res n : Nat) : doV om res 0 n = .tuple #[.agg #[.string om, .int .i64 res, .int .i64 0, .int .i64 n], .int .i64 0] := rfl
set_option maxHeartbeats 4000000 in
theorem doAlone_any {w : World} (b : Nat) (tk tv : P.Ty 4) (sl : Nat) (a3 b3 cv : Value) (S : Nat → Prop) (L : List (ByteArray × ByteArray)) (k v : ByteArray) (t : Nat) (h : TbI w b tk tv sl a3 b3 cv S L) (ht : t = 4 ∨ t = 5) :
    Calls Tryz.prog 40 #[.pointer (some ⟨b, 0, none⟩), .int .i64 t] w fun e w' => DoP w w' e b tk tv sl a3 b3 cv S t k v L := by
  obtain ⟨bytes0, T0, hT0, hP0⟩ := id h
  obtain ⟨q1, hq1⟩ := hT0.pk
  obtain ⟨q2, hq2⟩ := hT0.pv
  obtain ⟨xa, na, ca, ha3⟩ := owns_slice hq1
  obtain ⟨xb, nb, cb, hb3⟩ := owns_slice hq2
  obtain ⟨z1, hz1⟩ : ∃ z, (P.sz 4 tk).1 = z := ⟨_, rfl⟩
  obtain ⟨z2, hz2⟩ : ∃ z, (P.sz 4 tk).2 = z := ⟨_, rfl⟩
  obtain ⟨z3, hz3⟩ : ∃ z, (P.sz 4 tv).1 = z := ⟨_, rfl⟩
  obtain ⟨z4, hz4⟩ : ∃ z, (P.sz 4 tv).2 = z := ⟨_, rfl⟩
  have hk32 := hP0.kk.sz32
  have hv32 := hP0.kv.sz32
  have hk1 := hP0.kk.sz1
  have hv1 := hP0.kv.sz1
  rw [hz1] at hk32 hk1
  rw [hz3] at hv32 hv1
  have HBK := hid_m (fun w => blank_any z1 w (by omega) hk1)
  have HBV := hid_m (fun w => blank_any z3 w (by omega) hv1)
  have hst : (P.mapDo sl t k v L).1 = 0 := by rcases ht with rfl | rfl <;> rfl
  have HDO : Hid (∀ w', Below w.heap.size w w' → Calls Tryz.prog 72 #[.pointer (some ⟨b, 0, none⟩), .int .i64 t, .string ⟨(List.replicate z1 (0 : UInt8)).toArray⟩, .string ⟨(List.replicate z3 (0 : UInt8)).toArray⟩] w' fun e w'' => DoP w' w'' e b tk tv sl a3 b3 cv S t k v L) := fun w' hb =>
    do_tab b tk tv sl a3 b3 cv _ _ k v S t L (h.on hb) (by omega) (by rw [zero_bytes, hz1]) (by rw [zero_bytes, hz3]) (fun hh => by omega) (fun hh => by omega)
  have hbA : Below w.heap.size w (w.alloc (Obj.cells #[.string ⟨#[]⟩, .int .i64 0, .int .i64 0, .int .i64 0] 56)) := (Below.refl _ _).alloc (Nat.le_refl _) _
  have hrA : (w.alloc (Obj.cells #[.string ⟨#[]⟩, .int .i64 0, .int .i64 0, .int .i64 0] 56)).heap[w.heap.size]? = some (.cells #[.string ⟨#[]⟩, .int .i64 0, .int .i64 0, .int .i64 0] 56 (0, 0)) := heap_alloc_new _ _
  have HT0 := hid_m hT0
  have HST := hid_m hst
  have HLT := hid_m hT0.lt
  have HS0 : Hid (∀ g, S g → g < w.heap.size) := fun g hg => (hT0.own g hg).2
  have B0 := hid_m hbA
  have HR0 := hid_m hrA
  obtain ⟨n0, n1, n2, n3, n4, n5, n6, n7, nf⟩ := (hT0.on hbA).cells
  rw [hz1] at n0
  rw [hz2] at n1
  rw [hz3] at n3
  rw [hz4] at n4
  rw [ha3] at n2
  rw [hb3] at n5
  have HZ := hid_m (And.intro hz1 (And.intro hz2 (And.intro hz3 (And.intro hz4 (And.intro ha3 hb3)))))
  clear hT0 hP0 hq1 hq2 ha3 hb3 hz1 hz2 hz3 hz4 hk32 hv32 hk1 hv1 ht hst hbA hrA h n6 n7 nf
  go_enter Tryz.func40, Tryz.ntmps40
  go_wp2_with fail
  refine (shSize_b _ _ _ _ _ _).mono ?_
  rintro e w1 ⟨rfl, hb1⟩
  have B1 := hid_m (B0.out.trans (hb1.mono B0.out.size))
  have HR1 := hid_m (t_blk_on hb1 HR0.out)
  clear hb1 n0 n1 n2 n3 n4 n5
  go_wp2_with fail
  refine (HBK.out _).mono ?_
  rintro e w2 ⟨rfl, hb2⟩
  have B2 := hid_m (B1.out.trans (hb2.mono B1.out.size))
  have HR2 := hid_m (t_blk_on hb2 HR1.out)
  clear hb2
  obtain ⟨n0, n1, n2, n3, n4, n5, n6, n7, nf⟩ := (HT0.out.on B2.out).cells
  rw [HZ.out.2.2.1] at n3
  rw [HZ.out.2.2.2.1] at n4
  rw [HZ.out.2.2.2.2.2] at n5
  clear n0 n1 n2 n6 n7 nf
  go_wp2_with fail
  refine (shSize_b _ _ _ _ _ _).mono ?_
  rintro e w3 ⟨rfl, hb3⟩
  have B3 := hid_m (B2.out.trans (hb3.mono B2.out.size))
  have HR3 := hid_m (t_blk_on hb3 HR2.out)
  clear hb3 n3 n4 n5
  go_wp2_with fail
  refine (HBV.out _).mono ?_
  rintro e w4 ⟨rfl, hb4⟩
  have B4 := hid_m (B3.out.trans (hb4.mono B3.out.size))
  have HR4 := hid_m (t_blk_on hb4 HR3.out)
  clear hb4
  go_wp2_with fail
  refine (HDO.out w4 B4.out).mono ?_
  rintro e w5 ⟨⟨om, res, n, rfl, hsz, hcn, hfd⟩, htb, hfr⟩
  have HDP := hid_m (And.intro hsz (And.intro hcn hfd))
  have HTB := hid_m htb
  have HFR := hid_m hfr
  have HR5 : Hid (w5.heap[w.heap.size]? = some (.cells #[.string ⟨#[]⟩, .int .i64 0, .int .i64 0, .int .i64 0] 56 (0, 0))) := by unfold Hid; rw [hfr.block w.heap.size (m_blk_lt HR4.out) (by have := HLT.out; omega) (fun e => by cases e)]; exact HR4.out
  obtain ⟨r0, r1, r2, r3, rf⟩ := out_facts HR5.out
  rw [HST.out, doV_ok]
  clear hsz hcn hfd htb hfr
  go_wp2_with fail
  obtain ⟨W4, hW4, y0, y1, y2, y3, hbf⟩ := out_end (.string om) (.int .i64 res) (.int .i64 0) (.int .i64 n) HR5.out (Below.refl w.heap.size w5) (Nat.le_refl _)
  rw [hW4]
  refine bodyPost_ret (v := .tuple #[.agg #[.string om, .int .i64 res, .int .i64 0, .int .i64 n], .int .i64 0]) (by simp [results, Tryz.results40, go_sem, y0, y1, y2, y3]) rfl ?_
  have hS0 := HS0.out
  refine ⟨⟨om, res, n, by rw [HST.out, doV_ok], HDP.out.1, HDP.out.2.1, HDP.out.2.2⟩, HTB.out.of hbf.size (hbf.block b HLT.out) (fun g hg => hbf.block g (hS0 g hg)), ?_⟩
  have h1 : Fr b none w w5 := (Fr.of (b := b) (r := none) B4.out).trans HFR.out (fun g hg => by cases hg)
  exact ⟨hbf.os.trans h1.os, hbf.tape.trans h1.tape, hbf.output.trans h1.output, Nat.le_trans h1.size hbf.size, fun k hk hkb hr => (hbf.block k hk).trans (h1.block k hk hkb hr)⟩
end Go.Proofs.YtghggcehloiemabGreatDoor
namespace Go.Proofs.YtghggcehloiemabGreatDoor
open Go.RowKit
set_option linter.unusedVariables false
set_option maxRecDepth 16000
theorem Fr.al {b : Nat} {r : Option Nat} {w w1 : World} (h : Fr b r w w1) (o : Obj) : Fr b r w (w1.alloc o) := h.trans (Fr.of (b := b) (r := r) ((Below.refl _ _).alloc (Nat.le_refl _) _)) (fun g hg => Or.inl hg)
theorem TbI.al {w : World} {b : Nat} {tk tv : P.Ty 4} {sl : Nat} {a3 b3 cv : Value} {S : Nat → Prop} {L : List (ByteArray × ByteArray)} (h : TbI w b tk tv sl a3 b3 cv S L) (o : Obj) : TbI (w.alloc o) b tk tv sl a3 b3 cv S L := h.on ((Below.refl _ _).alloc (Nat.le_refl _) _)
set_option maxHeartbeats 4000000 in
theorem len_any {w : World} (b : Nat) (tk tv : P.Ty 4) (sl : Nat) (a3 b3 cv : Value) (S : Nat → Prop) (L : List (ByteArray × ByteArray)) (h : TbI w b tk tv sl a3 b3 cv S L) : Calls Tryz.prog 19 #[.pointer (some ⟨b, 0, none⟩)] w fun e w' => e = .returned (.int .i64 L.length) ∧ TbI w' b tk tv sl a3 b3 cv S L ∧ Fr b none w w' := by
  have HD := hid_m (doAlone_any b tk tv sl a3 b3 cv S L ⟨#[]⟩ ⟨#[]⟩ 4 h (Or.inl rfl))
  clear h
  go_enter Tryz.func19, Tryz.ntmps19
  go_wp2_with fail
  refine HD.out.mono ?_
  rintro e w1 ⟨⟨om, res, n, rfl, hsz, hcn, hfd⟩, htb, hfr⟩
  have HR := hid_m (hcn rfl)
  have HTB : Hid (TbI w1 b tk tv sl a3 b3 cv S L) := htb
  have HFR := hid_m hfr
  rw [show (P.mapDo sl 4 ⟨#[]⟩ ⟨#[]⟩ L).1 = 0 from rfl, doV_ok]
  clear hsz hcn hfd htb hfr
  go_wp2_with fail
  go_ret
  exact ⟨by rw [HR.out]; rfl, HTB.out.al _, HFR.out.al _⟩
set_option maxHeartbeats 4000000 in
theorem clear_any {w : World} (b : Nat) (tk tv : P.Ty 4) (sl : Nat) (a3 b3 cv : Value) (S : Nat → Prop) (L : List (ByteArray × ByteArray)) (h : TbI w b tk tv sl a3 b3 cv S L) : Calls Tryz.prog 39 #[.pointer (some ⟨b, 0, none⟩)] w fun e w' => e = .returned (.tuple #[]) ∧ TbI w' b tk tv sl a3 b3 cv S [] ∧ Fr b none w w' := by
  have HD := hid_m (doAlone_any b tk tv sl a3 b3 cv S L ⟨#[]⟩ ⟨#[]⟩ 5 h (Or.inr rfl))
  clear h
  go_enter Tryz.func39, Tryz.ntmps39
  go_wp2_with fail
  refine HD.out.mono ?_
  rintro e w1 ⟨⟨om, res, n, rfl, hsz, hcn, hfd⟩, htb, hfr⟩
  have HTB : Hid (TbI w1 b tk tv sl a3 b3 cv S []) := htb
  have HFR := hid_m hfr
  rw [show (P.mapDo sl 5 ⟨#[]⟩ ⟨#[]⟩ L).1 = 0 from rfl, doV_ok]
  clear hsz hcn hfd htb hfr
  go_wp2_with fail
  refine bodyPost_end (results_none rfl _ _ _) rfl ?_
  exact ⟨rfl, HTB.out, HFR.out⟩
/-- What laying a text of a type answers. -/
theorem lay_tab {w : World} (t : P.Ty 4) (kk : Known t) (a3 : Value) (key : ByteArray) (hs : key.size ≤ maxLen) (hp : ∃ base, w.ownsRow base 145 4 a3 (P.parts 4 t).length (cellsOf (P.parts 4 t))) :
    Calls Tryz.prog 47 #[.agg #[.int .i64 (P.sz 4 t).1, .int .i64 (P.sz 4 t).2, a3], .string key, .int .u8 0] w fun e w' => (¬ P.IsVal t key.data.toList ∧ e = .returned (.tuple #[.string ⟨#[]⟩, .bool false]) ∨ P.IsVal t key.data.toList ∧ ∃ kb : ByteArray, e = .returned (.tuple #[.string kb, .bool true]) ∧ kb.size = (P.sz 4 t).1 ∧ P.bytesOf kb.data.toList 0 (P.cov (P.parts 4 t)) = P.encV t key.data.toList) ∧ Below w.heap.size w w' := by
  obtain ⟨base, ho⟩ := hp
  have := Lay_any key w (P.sz 4 t).1 (P.sz 4 t).2 base a3 (P.parts 4 t) 0 ho kk.sz1 kk.sz32 kk.few kk.ok hs
  refine this.mono fun e w' hh => ?_
  obtain ⟨h1, h2⟩ := hh
  refine ⟨?_, h2⟩
  by_cases hv : P.IsVal t key.data.toList
  · right
    obtain ⟨bs, q1, q2, q3⟩ := kk.fill hv 0
    rw [q1] at h1
    exact ⟨hv, ⟨bs.toArray⟩, h1, by simp [ByteArray.size, q2], by simpa using q3⟩
  · left
    refine ⟨hv, ?_⟩
    cases hq : P.layAll (P.parts 4 t) key.data.toList (List.replicate (P.sz 4 t).1 0) with
    | none => rw [hq] at h1; exact h1
    | some y =>
      obtain ⟨l', bs⟩ := y
      cases l' with
      | nil => exact absurd ⟨bs, hq⟩ hv
      | cons c r => rw [hq] at h1; exact h1
def PutE (tk tv : P.Ty 4) (sl : Nat) (k v : ByteArray) (L : List (ByteArray × ByteArray)) (er : Nat) (L' : List (ByteArray × ByteArray)) : Prop :=
  (¬ (P.IsVal tk k.data.toList ∧ P.IsVal tv v.data.toList) ∧ er = 2 ∧ L' = L) ∨ ((P.IsVal tk k.data.toList ∧ P.IsVal tv v.data.toList) ∧ er = errNo (P.mapDo sl 2 k v L).1 ∧ L' = (P.mapDo sl 2 k v L).2)
set_option maxHeartbeats 4000000 in
theorem put_any {w : World} (b : Nat) (tk tv : P.Ty 4) (sl : Nat) (a3 b3 cv : Value) (S : Nat → Prop) (L : List (ByteArray × ByteArray)) (k v : ByteArray) (h : TbI w b tk tv sl a3 b3 cv S L) (hk : k.size ≤ maxLen) (hv : v.size ≤ maxLen) :
    Calls Tryz.prog 37 #[.pointer (some ⟨b, 0, none⟩), .string k, .string v] w fun e w' => ∃ er L', e = .returned (.int .i64 (er : Nat)) ∧ PutE tk tv sl k v L er L' ∧ TbI w' b tk tv sl a3 b3 cv S L' ∧ Fr b none w w' := by
  obtain ⟨bytes0, T0, hT0, hP0⟩ := id h
  obtain ⟨q1, hq1⟩ := hT0.pk
  obtain ⟨q2, hq2⟩ := hT0.pv
  obtain ⟨xa, na, ca, ha3⟩ := owns_slice hq1
  obtain ⟨xb, nb, cb, hb3⟩ := owns_slice hq2
  have HLK : Hid (∀ w', Below w.heap.size w w' → _) := fun w' hb => lay_tab (w := w') tk hP0.kk a3 k hk (hT0.on hb).pk
  have HLV : Hid (∀ w', Below w.heap.size w w' → _) := fun w' hb => lay_tab (w := w') tv hP0.kv b3 v hv (hT0.on hb).pv
  have HDO : Hid (∀ w' (kb vb : ByteArray), Below w.heap.size w w' → kb.size = (P.sz 4 tk).1 → vb.size = (P.sz 4 tv).1 → P.IsVal tk k.data.toList ∧ P.bytesOf kb.data.toList 0 (P.cov (P.parts 4 tk)) = P.encV tk k.data.toList → P.IsVal tv v.data.toList ∧ P.bytesOf vb.data.toList 0 (P.cov (P.parts 4 tv)) = P.encV tv v.data.toList → Calls Tryz.prog 72 #[.pointer (some ⟨b, 0, none⟩), .int .i64 (2 : Nat), .string kb, .string vb] w' fun e w'' => DoP w' w'' e b tk tv sl a3 b3 cv S 2 k v L) := fun w' kb vb hb h1 h2 h3 h4 =>
    do_tab b tk tv sl a3 b3 cv kb vb k v S 2 L (h.on hb) (by decide) h1 h2 (fun _ => h3) (fun _ => h4)
  have hlow := mapDo_low sl 2 k v L (by decide)
  obtain ⟨n0, n1, n2, n3, n4, n5, n6, n7, nf⟩ := hT0.cells
  have HH := hid_m h
  have HT0 := hid_m hT0
  obtain ⟨z1, hz1⟩ : ∃ z, (P.sz 4 tk).1 = z := ⟨_, rfl⟩
  obtain ⟨z2, hz2⟩ : ∃ z, (P.sz 4 tk).2 = z := ⟨_, rfl⟩
  obtain ⟨z3, hz3⟩ : ∃ z, (P.sz 4 tv).1 = z := ⟨_, rfl⟩
  obtain ⟨z4, hz4⟩ : ∃ z, (P.sz 4 tv).2 = z := ⟨_, rfl⟩
  rw [hz1, hz2] at HLK
  rw [hz3, hz4] at HLV
  rw [hz1, hz3] at HDO
  rw [hz1] at n0
  rw [hz2] at n1
  rw [hz3] at n3
  rw [hz4] at n4
  have HZ := hid_m (And.intro hz3 hz4)
  subst ha3
  subst hb3
  have HLOW := hid_m hlow
  clear h hT0 hP0 hq1 hq2 hz1 hz2 hz3 hz4 hlow n6 n7 nf hk hv
  go_enter Tryz.func37, Tryz.ntmps37
  go_wp2_with fail
  refine (HLK.out w (Below.refl _ _)).mono ?_
  rintro e w1 ⟨hres, hb1⟩
  have B1 := hid_m hb1
  clear hb1 n0 n1 n2 n3 n4 n5
  rcases hres with ⟨hno, rfl⟩ | ⟨hyes, kb, rfl, hks, hkb⟩
  · have HNO := hid_m hno
    clear hno
    go_wp2_with fail
    go_ret
    exact ⟨2, L, rfl, Or.inl ⟨fun hh => HNO.out hh.1, rfl, rfl⟩, HH.out.on B1.out, Fr.of B1.out⟩
  · have HK := hid_m (And.intro hyes (And.intro hks hkb))
    clear hyes hks hkb
    obtain ⟨n0, n1, n2, n3, n4, n5, n6, n7, nf⟩ := (HT0.out.on B1.out).cells
    rw [HZ.out.1] at n3
    rw [HZ.out.2] at n4
    clear n0 n1 n2 n6 n7 nf
    go_wp2_with fail
    refine (HLV.out w1 B1.out).mono ?_
    rintro e w2 ⟨hres, hb2⟩
    have B2 := hid_m (B1.out.trans (hb2.mono B1.out.size))
    clear hb2 n3 n4 n5
    rcases hres with ⟨hno, rfl⟩ | ⟨hyes, vb, rfl, hvs, hvb⟩
    · have HNO := hid_m hno
      clear hno
      go_wp2_with fail
      go_ret
      exact ⟨2, L, rfl, Or.inl ⟨fun hh => HNO.out hh.2, rfl, rfl⟩, HH.out.on B2.out, Fr.of B2.out⟩
    · have HV := hid_m (And.intro hyes (And.intro hvs hvb))
      clear hyes hvs hvb
      go_wp2_with fail
      refine (HDO.out w2 kb vb B2.out HK.out.2.1 HV.out.2.1 ⟨HK.out.1, HK.out.2.2⟩ ⟨HV.out.1, HV.out.2.2⟩).mono ?_
      rintro e w3 ⟨⟨om, res, n, rfl, hsz, hcn, hfd⟩, htb, hfr⟩
      have HTB := hid_m htb
      have HFR := hid_m hfr
      clear hsz hcn hfd htb hfr
      obtain ⟨st, hst⟩ : ∃ st, (P.mapDo sl 2 k v L).1 = st := ⟨_, rfl⟩
      have HST := hid_m hst
      have hle : st ≤ 2 := by rw [← hst]; exact HLOW.out.1
      rw [hst]
      clear hst
      have hc : st = 0 ∨ st = 1 ∨ st = 2 := by omega
      have hfin : ∀ wz, Below w3.heap.size w3 wz → TbI wz b tk tv sl (.slice xa na ca) (.slice xb nb cb) cv S (P.mapDo sl 2 k v L).2 ∧ Fr b none w wz := fun wz hz => ⟨HTB.out.on hz, ((Fr.of (b := b) (r := none) B2.out).trans HFR.out (fun g hg => by cases hg)).trans (Fr.of (b := b) (r := none) hz) (fun g hg => by cases hg)⟩
      have HFIN := hid_m hfin
      clear hfin hle
      unfold doV
      rcases hc with rfl | rfl | rfl
      · rw [if_pos rfl]
        go_wp2_with fail
        go_ret
        exact ⟨0, _, rfl, Or.inr ⟨⟨HK.out.1, HV.out.1⟩, by rw [HST.out]; rfl, rfl⟩, HFIN.out _ ((Below.refl _ _).alloc (Nat.le_refl _) _)⟩
      · rw [if_neg (by decide)]
        go_wp2_with fail
        go_ret
        exact ⟨10, _, rfl, Or.inr ⟨⟨HK.out.1, HV.out.1⟩, by rw [HST.out]; rfl, rfl⟩, HFIN.out _ ((Below.refl _ _).alloc (Nat.le_refl _) _)⟩
      · rw [if_neg (by decide)]
        go_wp2_with fail
        go_ret
        exact ⟨9, _, rfl, Or.inr ⟨⟨HK.out.1, HV.out.1⟩, by rw [HST.out]; rfl, rfl⟩, HFIN.out _ ((Below.refl _ _).alloc (Nat.le_refl _) _)⟩
end Go.Proofs.YtghggcehloiemabGreatDoor
namespace Go.Proofs.YtghggcehloiemabGreatDoor
open Go.RowKit
set_option linter.unusedVariables false
set_option maxRecDepth 16000
/-- What a run with a key answers. -/
def KeyP (w w' : World) (e : Ending) (b : Nat) (tk tv : P.Ty 4) (sl : Nat) (a3 b3 cv : Value) (S : Nat → Prop) (t : Nat) (k : ByteArray) (L : List (ByteArray × ByteArray)) : Prop :=
  (¬ P.IsVal tk k.data.toList ∧ e = .returned (.tuple #[.agg #[.string ⟨#[]⟩, .int .i64 0, .int .i64 0, .int .i64 0], .int .i64 2]) ∧ TbI w' b tk tv sl a3 b3 cv S L ∧ Fr b none w w') ∨ (P.IsVal tk k.data.toList ∧ DoP w w' e b tk tv sl a3 b3 cv S t k ⟨#[]⟩ L)
set_option maxHeartbeats 4000000 in
theorem withKey_any {w : World} (b : Nat) (tk tv : P.Ty 4) (sl : Nat) (a3 b3 cv : Value) (S : Nat → Prop) (L : List (ByteArray × ByteArray)) (k : ByteArray) (t : Nat) (h : TbI w b tk tv sl a3 b3 cv S L) (ht : t = 1 ∨ t = 3) (hk : k.size ≤ maxLen) :
    Calls Tryz.prog 69 #[.pointer (some ⟨b, 0, none⟩), .int .i64 t, .string k] w fun e w' => KeyP w w' e b tk tv sl a3 b3 cv S t k L := by
  obtain ⟨bytes0, T0, hT0, hP0⟩ := id h
  obtain ⟨q1, hq1⟩ := hT0.pk
  obtain ⟨q2, hq2⟩ := hT0.pv
  obtain ⟨xa, na, ca, ha3⟩ := owns_slice hq1
  obtain ⟨xb, nb, cb, hb3⟩ := owns_slice hq2
  have HLK : Hid (∀ w', Below w.heap.size w w' → _) := fun w' hb => lay_tab (w := w') tk hP0.kk a3 k hk (hT0.on hb).pk
  obtain ⟨z1, hz1⟩ : ∃ z, (P.sz 4 tk).1 = z := ⟨_, rfl⟩
  obtain ⟨z2, hz2⟩ : ∃ z, (P.sz 4 tk).2 = z := ⟨_, rfl⟩
  obtain ⟨z3, hz3⟩ : ∃ z, (P.sz 4 tv).1 = z := ⟨_, rfl⟩
  obtain ⟨z4, hz4⟩ : ∃ z, (P.sz 4 tv).2 = z := ⟨_, rfl⟩
  have hv32 := hP0.kv.sz32
  have hv1 := hP0.kv.sz1
  rw [hz3] at hv32 hv1
  have HBV := hid_m (fun w => blank_any z3 w (by omega) hv1)
  have HDO : Hid (∀ w' (kb : ByteArray), Below w.heap.size w w' → kb.size = z1 → P.IsVal tk k.data.toList ∧ P.bytesOf kb.data.toList 0 (P.cov (P.parts 4 tk)) = P.encV tk k.data.toList → Calls Tryz.prog 72 #[.pointer (some ⟨b, 0, none⟩), .int .i64 t, .string kb, .string ⟨(List.replicate z3 (0 : UInt8)).toArray⟩] w' fun e w'' => DoP w' w'' e b tk tv sl a3 b3 cv S t k ⟨#[]⟩ L) := fun w' kb hb h1 h3 =>
    do_tab b tk tv sl a3 b3 cv kb _ k _ S t L (h.on hb) (by omega) (by rw [h1, hz1]) (by rw [zero_bytes, hz3]) (fun _ => h3) (fun hh => by omega)
  have hlow := mapDo_low sl t k ⟨#[]⟩ L (by omega)
  have hbA : Below w.heap.size w (w.alloc (Obj.cells #[.string ⟨#[]⟩, .int .i64 0, .int .i64 0, .int .i64 0] 56)) := (Below.refl _ _).alloc (Nat.le_refl _) _
  have hrA : (w.alloc (Obj.cells #[.string ⟨#[]⟩, .int .i64 0, .int .i64 0, .int .i64 0] 56)).heap[w.heap.size]? = some (.cells #[.string ⟨#[]⟩, .int .i64 0, .int .i64 0, .int .i64 0] 56 (0, 0)) := heap_alloc_new _ _
  obtain ⟨n0, n1, n2, n3, n4, n5, n6, n7, nf⟩ := (hT0.on hbA).cells
  have HH := hid_m h
  have HT0 := hid_m hT0
  have HS0 : Hid (∀ g, S g → g < w.heap.size) := fun g hg => (hT0.own g hg).2
  have HLT := hid_m hT0.lt
  have B0 := hid_m hbA
  have HR0 := hid_m hrA
  rw [hz1, hz2] at HLK
  rw [hz1] at n0
  rw [hz2] at n1
  have HZ := hid_m (And.intro hz3 hz4)
  subst ha3
  subst hb3
  have HLOW := hid_m hlow
  clear h hT0 hP0 hq1 hq2 hz1 hz2 hz3 hz4 hlow n3 n4 n5 n6 n7 nf hk hv32 hv1 hbA hrA
  go_enter Tryz.func69, Tryz.ntmps69
  go_wp2_with fail
  refine (HLK.out _ B0.out).mono ?_
  rintro e w1 ⟨hres, hb1⟩
  have B1 := hid_m (B0.out.trans (hb1.mono B0.out.size))
  have HR1 := hid_m (t_blk_on hb1 HR0.out)
  clear hb1 n0 n1 n2
  rcases hres with ⟨hno, rfl⟩ | ⟨hyes, kb, rfl, hks, hkb⟩
  · have HNO := hid_m hno
    clear hno
    obtain ⟨r0, r1, r2, r3, rf⟩ := out_facts HR1.out
    go_wp2_with fail
    obtain ⟨W4, hW4, y0, y1, y2, y3, hbf⟩ := out_end (.string ⟨#[]⟩) (.int .i64 0) (.int .i64 0) (.int .i64 0) HR1.out (Below.refl w.heap.size w1) (Nat.le_refl _)
    rw [hW4]
    refine bodyPost_ret (v := .tuple #[.agg #[.string ⟨#[]⟩, .int .i64 0, .int .i64 0, .int .i64 0], .int .i64 2]) (by simp [results, Tryz.results69, go_sem, y0, y1, y2, y3]) rfl ?_
    have hb : Below w.heap.size w W4 := B1.out.trans hbf
    exact Or.inl ⟨HNO.out, rfl, HH.out.on hb, Fr.of hb⟩
  · have HK := hid_m (And.intro hyes (And.intro hks hkb))
    clear hyes hks hkb
    obtain ⟨n0, n1, n2, n3, n4, n5, n6, n7, nf⟩ := (HT0.out.on B1.out).cells
    rw [HZ.out.1] at n3
    rw [HZ.out.2] at n4
    clear n0 n1 n2 n6 n7 nf
    go_wp2_with fail
    refine (shSize_b _ _ _ _ _ _).mono ?_
    rintro e w3 ⟨rfl, hb3⟩
    have B3 := hid_m (B1.out.trans (hb3.mono B1.out.size))
    have HR3 := hid_m (t_blk_on hb3 HR1.out)
    clear hb3 n3 n4 n5
    go_wp2_with fail
    refine (HBV.out _).mono ?_
    rintro e w4 ⟨rfl, hb4⟩
    have B4 := hid_m (B3.out.trans (hb4.mono B3.out.size))
    have HR4 := hid_m (t_blk_on hb4 HR3.out)
    clear hb4
    go_wp2_with fail
    refine (HDO.out w4 kb B4.out HK.out.2.1 ⟨HK.out.1, HK.out.2.2⟩).mono ?_
    rintro e w5 ⟨⟨om, res, n, rfl, hsz, hcn, hfd⟩, htb, hfr⟩
    have HDP := hid_m (And.intro hsz (And.intro hcn hfd))
    have HTB := hid_m htb
    have HFR := hid_m hfr
    have HR5 : Hid (w5.heap[w.heap.size]? = some (.cells #[.string ⟨#[]⟩, .int .i64 0, .int .i64 0, .int .i64 0] 56 (0, 0))) := by unfold Hid; rw [hfr.block w.heap.size (m_blk_lt HR4.out) (by have := HLT.out; omega) (fun e => by cases e)]; exact HR4.out
    obtain ⟨r0, r1, r2, r3, rf⟩ := out_facts HR5.out
    clear hsz hcn hfd htb hfr
    have HFIN : Hid (∀ (v : Value) wz, v = doV om res (P.mapDo sl t k ⟨#[]⟩ L).1 n → Below w.heap.size w5 wz → DoP w wz (.returned v) b tk tv sl (.slice xa na ca) (.slice xb nb cb) cv S t k ⟨#[]⟩ L) := by
      intro v wz hv hbf
      have h1 : Fr b none w w5 := (Fr.of (b := b) (r := none) B4.out).trans HFR.out (fun g hg => by cases hg)
      exact ⟨⟨om, res, n, by rw [hv], HDP.out.1, HDP.out.2.1, HDP.out.2.2⟩, HTB.out.of hbf.size (hbf.block b HLT.out) (fun g hg => hbf.block g (HS0.out g hg)), ⟨hbf.os.trans h1.os, hbf.tape.trans h1.tape, hbf.output.trans h1.output, Nat.le_trans h1.size hbf.size, fun k hk hkb hr => (hbf.block k hk).trans (h1.block k hk hkb hr)⟩⟩
    obtain ⟨st, hst⟩ : ∃ st, (P.mapDo sl t k ⟨#[]⟩ L).1 = st := ⟨_, rfl⟩
    have hle : st ≤ 2 := by rw [← hst]; exact HLOW.out.1
    rw [hst] at HFIN ⊢
    clear hst
    have hc : st = 0 ∨ st = 1 ∨ st = 2 := by omega
    clear hle
    unfold doV
    rcases hc with rfl | rfl | rfl
    · rw [if_pos rfl]
      go_wp2_with fail
      obtain ⟨W4, hW4, y0, y1, y2, y3, hbf⟩ := out_end (.string om) (.int .i64 res) (.int .i64 0) (.int .i64 n) HR5.out (Below.refl w.heap.size w5) (Nat.le_refl _)
      rw [hW4]
      refine bodyPost_ret (v := .tuple #[.agg #[.string om, .int .i64 res, .int .i64 0, .int .i64 n], .int .i64 0]) (by simp [results, Tryz.results69, go_sem, y0, y1, y2, y3]) rfl ?_
      exact Or.inr ⟨HK.out.1, HFIN.out _ W4 rfl hbf⟩
    · rw [if_neg (by decide)]
      go_wp2_with fail
      obtain ⟨W4, hW4, y0, y1, y2, y3, hbf⟩ := out_end (.string ⟨#[]⟩) (.int .i64 0) (.int .i64 0) (.int .i64 0) HR5.out (Below.refl w.heap.size w5) (Nat.le_refl _)
      rw [hW4]
      refine bodyPost_ret (v := .tuple #[.agg #[.string ⟨#[]⟩, .int .i64 0, .int .i64 0, .int .i64 0], .int .i64 (errNo 1 : Nat)]) (by simp [results, Tryz.results69, go_sem, y0, y1, y2, y3]) rfl ?_
      exact Or.inr ⟨HK.out.1, HFIN.out _ W4 rfl hbf⟩
    · rw [if_neg (by decide)]
      go_wp2_with fail
      obtain ⟨W4, hW4, y0, y1, y2, y3, hbf⟩ := out_end (.string ⟨#[]⟩) (.int .i64 0) (.int .i64 0) (.int .i64 0) HR5.out (Below.refl w.heap.size w5) (Nat.le_refl _)
      rw [hW4]
      refine bodyPost_ret (v := .tuple #[.agg #[.string ⟨#[]⟩, .int .i64 0, .int .i64 0, .int .i64 0], .int .i64 (errNo 2 : Nat)]) (by simp [results, Tryz.results69, go_sem, y0, y1, y2, y3]) rfl ?_
      exact Or.inr ⟨HK.out.1, HFIN.out _ W4 rfl hbf⟩
def KeyE (tk : P.Ty 4) (sl t : Nat) (k : ByteArray) (L : List (ByteArray × ByteArray)) (er : Nat) (L' : List (ByteArray × ByteArray)) : Prop :=
  (¬ P.IsVal tk k.data.toList ∧ er = 2 ∧ L' = L) ∨ (P.IsVal tk k.data.toList ∧ er = errNo (P.mapDo sl t k ⟨#[]⟩ L).1 ∧ L' = (P.mapDo sl t k ⟨#[]⟩ L).2)
set_option maxHeartbeats 4000000 in
theorem drop_any {w : World} (b : Nat) (tk tv : P.Ty 4) (sl : Nat) (a3 b3 cv : Value) (S : Nat → Prop) (L : List (ByteArray × ByteArray)) (k : ByteArray) (h : TbI w b tk tv sl a3 b3 cv S L) (hk : k.size ≤ maxLen) :
    Calls Tryz.prog 38 #[.pointer (some ⟨b, 0, none⟩), .string k] w fun e w' => ∃ er L', e = .returned (.int .i64 (er : Nat)) ∧ KeyE tk sl 3 k L er L' ∧ TbI w' b tk tv sl a3 b3 cv S L' ∧ Fr b none w w' := by
  have HD := hid_m (withKey_any b tk tv sl a3 b3 cv S L k 3 h (Or.inr rfl) hk)
  have HLOW := hid_m (mapDo_low sl 3 k ⟨#[]⟩ L (by decide))
  clear h hk
  go_enter Tryz.func38, Tryz.ntmps38
  go_wp2_with fail
  refine HD.out.mono ?_
  rintro e w1 hres
  rcases hres with ⟨hno, rfl, htb, hfr⟩ | ⟨hyes, ⟨om, res, n, rfl, hsz, hcn, hfd⟩, htb, hfr⟩
  · have HX := hid_m (And.intro hno (And.intro htb hfr))
    clear hno htb hfr
    go_wp2_with fail
    go_ret
    exact ⟨2, L, rfl, Or.inl ⟨HX.out.1, rfl, rfl⟩, HX.out.2.1.al _, HX.out.2.2.al _⟩
  · have HX := hid_m (And.intro hyes (And.intro htb hfr))
    clear hyes hsz hcn hfd htb hfr
    obtain ⟨st, hst⟩ : ∃ st, (P.mapDo sl 3 k ⟨#[]⟩ L).1 = st := ⟨_, rfl⟩
    have HST := hid_m hst
    have hle : st ≤ 2 := by rw [← hst]; exact HLOW.out.1
    rw [hst]
    clear hst
    have hc : st = 0 ∨ st = 1 ∨ st = 2 := by omega
    clear hle
    unfold doV
    rcases hc with rfl | rfl | rfl
    · rw [if_pos rfl]
      go_wp2_with fail
      go_ret
      exact ⟨0, _, rfl, Or.inr ⟨HX.out.1, by rw [HST.out]; rfl, rfl⟩, HX.out.2.1.al _, HX.out.2.2.al _⟩
    · rw [if_neg (by decide)]
      go_wp2_with fail
      go_ret
      exact ⟨10, _, rfl, Or.inr ⟨HX.out.1, by rw [HST.out]; rfl, rfl⟩, HX.out.2.1.al _, HX.out.2.2.al _⟩
    · rw [if_neg (by decide)]
      go_wp2_with fail
      go_ret
      exact ⟨9, _, rfl, Or.inr ⟨HX.out.1, by rw [HST.out]; rfl, rfl⟩, HX.out.2.1.al _, HX.out.2.2.al _⟩
end Go.Proofs.YtghggcehloiemabGreatDoor
namespace Go.Proofs.YtghggcehloiemabGreatDoor
open Go.RowKit
set_option linter.unusedVariables false
set_option maxRecDepth 16000
def Gx (b ob z3 z4 : Nat) (x : Option Addr) (nn cc : Nat) (om : ByteArray) (w : World) : Prop := w.cell? ⟨ob, 0, none⟩ = some (.string om) ∧ w.cell? ⟨b, 3, none⟩ = some (.int .i64 z3) ∧ w.cell? ⟨b, 4, none⟩ = some (.int .i64 z4) ∧ w.cell? ⟨b, 5, none⟩ = some (.slice x nn cc)
theorem Gx.of {w : World} {b ob z3 z4 : Nat} {tk tv : P.Ty 4} {sl : Nat} {a3 cv : Value} {x : Option Addr} {nn cc : Nat} {bytes om : ByteArray} {S : Nat → Prop} {u1 u2 u3 : Value} (h : Tbl w b tk tv sl a3 (.slice x nn cc) cv bytes S) (h3 : (P.sz 4 tv).1 = z3) (h4 : (P.sz 4 tv).2 = z4) (ho : w.heap[ob]? = some (.cells #[.string om, u1, u2, u3] 56 (0, 0))) : Gx b ob z3 z4 x nn cc om w := by
  subst h3
  subst h4
  refine ⟨?_, ?_, ?_, ?_⟩
  all_goals first | (rw [cell_of_row _ _ _ _ _ _ h.blk]; rfl) | (rw [cell_of_row _ _ _ _ _ _ ho]; rfl)
/-- What Get answers. -/
def GetE (tk : P.Ty 4) (k : ByteArray) (L : List (ByteArray × ByteArray)) (v0 : ByteArray) (er : Nat) : Prop :=
  (¬ P.IsVal tk k.data.toList ∧ er = 2 ∧ v0 = ⟨#[]⟩) ∨ (P.IsVal tk k.data.toList ∧ P.atK L k = none ∧ er = 10 ∧ v0 = ⟨#[]⟩) ∨ (P.IsVal tk k.data.toList ∧ er = 0 ∧ ∃ i, P.atK L k = some i ∧ L[i]? = some (k, v0))
set_option maxHeartbeats 8000000 in
theorem get_any {w : World} (b : Nat) (tk tv : P.Ty 4) (sl : Nat) (a3 b3 cv : Value) (S : Nat → Prop) (L : List (ByteArray × ByteArray)) (k : ByteArray) (h : TbI w b tk tv sl a3 b3 cv S L) (hk : k.size ≤ maxLen) (htab : ∀ w', Fr b none w w' → Lib.TabIs Tryz.prog w' "internal/strconv.uint64pow10" .u64 Lib.pow10Tab) :
    Calls Tryz.prog 36 #[.pointer (some ⟨b, 0, none⟩), .string k] w fun e w' => ∃ v0 er, e = .returned (.tuple #[.string v0, .int .i64 (er : Nat)]) ∧ GetE tk k L v0 er ∧ TbI w' b tk tv sl a3 b3 cv S L ∧ Fr b none w w' := by
  obtain ⟨bytes0, T0, hT0, hP0⟩ := id h
  have HKV := hid_m hP0.kv
  have HLT := hid_m hT0.lt
  have HD := hid_m (withKey_any b tk tv sl a3 b3 cv S L k 1 h (Or.inl rfl) hk)
  have HTAB := hid_m htab
  have h2 : (P.mapDo sl 1 k ⟨#[]⟩ L).2 = L := by unfold P.mapDo; rw [if_pos rfl]
  have h1 : (P.mapDo sl 1 k ⟨#[]⟩ L).1 = if (P.atK L k).isSome then 0 else 1 := by unfold P.mapDo; rw [if_pos rfl]
  have HM := hid_m (And.intro h1 h2)
  clear h hk htab hT0 hP0 h1 h2
  go_enter Tryz.func36, Tryz.ntmps36
  go_wp2_with fail
  refine HD.out.mono ?_
  rintro e w1 hres
  rcases hres with ⟨hno, rfl, htb, hfr⟩ | ⟨hyes, ⟨om, res, n, rfl, hsz, hcn, hfd⟩, htb, hfr⟩
  · have HX := hid_m (And.intro hno (And.intro htb hfr))
    clear hno htb hfr
    go_wp2_with fail
    go_ret2
    exact ⟨⟨#[]⟩, 2, rfl, Or.inl ⟨HX.out.1, rfl, rfl⟩, HX.out.2.1.al _, HX.out.2.2.al _⟩
  · rw [HM.out.2] at htb
    rw [HM.out.1] at hfd ⊢
    cases hat : P.atK L k with
    | none =>
      have HX := hid_m (And.intro hyes (And.intro htb (And.intro hfr hat)))
      clear hyes hsz hcn hfd htb hfr hat
      rw [show (if (none : Option Nat).isSome = true then 0 else 1) = 1 from rfl]
      unfold doV
      rw [if_neg (by decide)]
      go_wp2_with fail
      go_ret2
      exact ⟨⟨#[]⟩, 10, rfl, Or.inr (Or.inl ⟨HX.out.1, HX.out.2.2.2, rfl, rfl⟩), HX.out.2.1.al _, HX.out.2.2.1.al _⟩
    | some i =>
      rw [hat] at hfd
      obtain ⟨i', v0, q1, q2, q3, q4⟩ := hfd ⟨rfl, rfl⟩
      cases q1
      obtain ⟨bytes1, T1, hT1, hP1⟩ := id htb
      obtain ⟨p2, hp2⟩ := hT1.pv
      obtain ⟨xb, nb, cb, hb3⟩ := owns_slice hp2
      subst hb3
      have HX := hid_m (And.intro hyes (And.intro htb (And.intro hfr (And.intro hat q2))))
      obtain ⟨z3, hz3⟩ : ∃ z, (P.sz 4 tv).1 = z := ⟨_, rfl⟩
      obtain ⟨z4, hz4⟩ : ∃ z, (P.sz 4 tv).2 = z := ⟨_, rfl⟩
      rw [hz3] at q3 q4
      have HZ := hid_m (And.intro hz3 hz4)
      have HT1 := hid_m hT1
      obtain ⟨pl, hpl⟩ : ∃ p, om.size - z3 = p := ⟨_, rfl⟩
      rw [hpl] at q4
      have HQ := hid_m (And.intro q3 (And.intro q4 (And.intro hsz hpl)))
      clear hyes hsz hcn hfd htb hfr hat q2 q3 q4 hz3 hz4 hT1 hP1 hp2 hpl
      rw [show (if (some i : Option Nat).isSome = true then 0 else 1) = 0 from rfl, doV_ok]
      have hbA : Below w1.heap.size w1 (w1.alloc (.cells #[.string om, .int .i64 res, .int .i64 0, .int .i64 n] 56)) := (Below.refl _ _).alloc (Nat.le_refl _) _
      have hoA : (w1.alloc (.cells #[.string om, .int .i64 res, .int .i64 0, .int .i64 n] 56)).heap[w1.heap.size]? = some (.cells #[.string om, .int .i64 res, .int .i64 0, .int .i64 n] 56 (0, 0)) := heap_alloc_new _ _
      have B2 := hid_m hbA
      have HO2 := hid_m hoA
      clear hbA hoA
      go_wp2_with fail
      obtain ⟨w2, hw2⟩ : ∃ W, (w1.alloc (.cells #[.string om, .int .i64 res, .int .i64 0, .int .i64 n] 56)) = W := ⟨_, rfl⟩
      obtain ⟨ob, hob⟩ : ∃ x, w1.heap.size = x := ⟨_, rfl⟩
      rw [hw2] at B2 HO2 ⊢
      rw [hob] at HO2 ⊢
      clear hw2 hob
      have HX2 := hid_m (Gx.of (HT1.out.on B2.out) HZ.out.1 HZ.out.2 HO2.out)
      have HW1 : Hid (IntKind.i64.wrap ((om.size : Int) - (z3 : Int)) = (pl : Int)) := by unfold Hid; have := HQ.out; rw [wrap_id _ (by omega) (by omega)]; omega
      refine wp_region_held_drew (S := Gx b ob z3 z4 xb nb cb om) (by kernel_rfl) HX2.out (fun hHeld => ?_)
      refine wpAnyH_take (i := 0) (v := ?_) rfl (by kernel_rfl) (by kernel_rfl) (by kernel_rfl) (fun _ _ _ h => h) (Or.inl ⟨by rfl, ?_⟩) (by assumption) ?_
      rotate_left
      · intro w hSw
        obtain ⟨y0, y1, y2, y3⟩ := hSw
        go_simp
        all_goals with_reducible rfl
      try simp only [Act.put]
      refine wpAnyH_take (i := 1) (v := ?_) rfl (by kernel_rfl) (by kernel_rfl) (by kernel_rfl) (fun _ _ _ h => h) (Or.inl ⟨by rfl, ?_⟩) (by assumption) ?_
      rotate_left
      · intro w hSw
        obtain ⟨y0, y1, y2, y3⟩ := hSw
        go_simp
        all_goals with_reducible rfl
      try simp only [Act.put]
      refine wpAnyH_take (i := 2) (v := ?_) rfl (by kernel_rfl) (by kernel_rfl) (by kernel_rfl) (fun _ _ _ h => h) (Or.inl ⟨by rfl, ?_⟩) (by assumption) ?_
      rotate_left
      · intro w hSw
        obtain ⟨y0, y1, y2, y3⟩ := hSw
        go_simp
        all_goals with_reducible rfl
      try simp only [Act.put]
      refine wpAnyH_take (i := 3) (v := ?_) rfl (by kernel_rfl) (by kernel_rfl) (by kernel_rfl) (fun _ _ _ h => h) (Or.inl ⟨by rfl, ?_⟩) (by assumption) ?_
      rotate_left
      · intro w hSw
        obtain ⟨y0, y1, y2, y3⟩ := hSw
        go_simp
        all_goals with_reducible rfl
      try simp only [Act.put]
      refine wpAnyH_take (i := 4) (v := ?_) rfl (by kernel_rfl) (by kernel_rfl) (by kernel_rfl) (fun _ _ _ h => h) (Or.inl ⟨by rfl, ?_⟩) (by assumption) ?_
      rotate_left
      · intro w hSw
        obtain ⟨y0, y1, y2, y3⟩ := hSw
        go_simp
        all_goals with_reducible rfl
      try simp only [Act.put]
      refine wpAnyH_take (i := 5) (v := ?_) rfl (by kernel_rfl) (by kernel_rfl) (by kernel_rfl) (fun _ _ _ h => h) (Or.inl ⟨by rfl, ?_⟩) (by assumption) ?_
      rotate_left
      · intro w hSw
        obtain ⟨y0, y1, y2, y3⟩ := hSw
        go_simp
        all_goals with_reducible rfl
      try simp only [Act.put]
      refine wpAnyH_take (i := 6) (v := ?_) rfl (by kernel_rfl) (by kernel_rfl) (by kernel_rfl) (fun _ _ _ h => h) (Or.inl ⟨by rfl, ?_⟩) (by assumption) ?_
      rotate_left
      · intro w hSw
        obtain ⟨y0, y1, y2, y3⟩ := hSw
        go_simp
        all_goals with_reducible rfl
      try simp only [Act.put]
      refine wpAnyH_ready (rs := [7]) (by kernel_rfl) (by simp) ?_
      refine AllReadyH.cons (o := _) rfl (fun K hK => ?_) AllReadyH.nil
      go_simp
      refine (shSize_b _ _ _ _ _ _).mono ?_
      rintro e w3 ⟨rfl, hb3⟩
      have hbb3 : Below w2.heap.size w2 w3 := ⟨hb3.os, hb3.tape, hb3.output, hb3.size, hb3.block⟩
      have B3 := hid_m (B2.out.trans (hbb3.mono B2.out.size))
      have HO3 := hid_m (t_blk_on hbb3 HO2.out)
      have HX3 := hid_m (Gx.of (HT1.out.on B3.out) HZ.out.1 HZ.out.2 HO3.out)
      clear hb3 hbb3
      go_wp2_with fail
      refine hK.out _ _ HX3.out (fun hHelda => ?_)
      clear hK K
      try simp only [Act.put]
      have hw1 := HW1.out
      refine wpAnyH_take (i := 8) (v := ?_) rfl (by kernel_rfl) (by kernel_rfl) (by kernel_rfl) (fun _ _ _ h => h) (Or.inl ⟨by rfl, ?_⟩) (by assumption) ?_
      rotate_left
      · intro w hSw
        obtain ⟨y0, y1, y2, y3⟩ := hSw
        go_simp
        all_goals with_reducible rfl
      try simp only [Act.put]
      clear hw1
      refine wpAnyH_ready (rs := [9]) (by kernel_rfl) (by simp) ?_
      refine AllReadyH.cons (o := _) rfl (fun K hK => ?_) AllReadyH.nil
      go_simp
      refine hK.out _ _ HX3.out (fun hHeldb => ?_)
      clear hK K
      try simp only [Act.put]
      refine wpAnyH_done (by kernel_rfl) ?_ _
      go_wp2_with fail
      have HBH := hid_m (fun w => behind_any om pl w (by have := HQ.out; omega) (by have := HQ.out; omega))
      refine wp_region_held_drew (S := Gx b ob z3 z4 xb nb cb om) (by kernel_rfl) HX3.out (fun hHeld => ?_)
      refine wpAnyH_take (i := 0) (v := ?_) rfl (by kernel_rfl) (by kernel_rfl) (by kernel_rfl) (fun _ _ _ h => h) (Or.inl ⟨by rfl, ?_⟩) (by assumption) ?_
      rotate_left
      · intro w hSw
        obtain ⟨y0, y1, y2, y3⟩ := hSw
        go_simp
        all_goals with_reducible rfl
      try simp only [Act.put]
      refine wpAnyH_take (i := 1) (v := ?_) rfl (by kernel_rfl) (by kernel_rfl) (by kernel_rfl) (fun _ _ _ h => h) (Or.inl ⟨by rfl, ?_⟩) (by assumption) ?_
      rotate_left
      · intro w hSw
        obtain ⟨y0, y1, y2, y3⟩ := hSw
        go_simp
        all_goals with_reducible rfl
      try simp only [Act.put]
      refine wpAnyH_take (i := 2) (v := ?_) rfl (by kernel_rfl) (by kernel_rfl) (by kernel_rfl) (fun _ _ _ h => h) (Or.inl ⟨by rfl, ?_⟩) (by assumption) ?_
      rotate_left
      · intro w hSw
        obtain ⟨y0, y1, y2, y3⟩ := hSw
        go_simp
        all_goals with_reducible rfl
      try simp only [Act.put]
      refine wpAnyH_take (i := 3) (v := ?_) rfl (by kernel_rfl) (by kernel_rfl) (by kernel_rfl) (fun _ _ _ h => h) (Or.inl ⟨by rfl, ?_⟩) (by assumption) ?_
      rotate_left
      · intro w hSw
        obtain ⟨y0, y1, y2, y3⟩ := hSw
        go_simp
        all_goals with_reducible rfl
      try simp only [Act.put]
      refine wpAnyH_take (i := 4) (v := ?_) rfl (by kernel_rfl) (by kernel_rfl) (by kernel_rfl) (fun _ _ _ h => h) (Or.inl ⟨by rfl, ?_⟩) (by assumption) ?_
      rotate_left
      · intro w hSw
        obtain ⟨y0, y1, y2, y3⟩ := hSw
        go_simp
        all_goals with_reducible rfl
      try simp only [Act.put]
      refine wpAnyH_take (i := 5) (v := ?_) rfl (by kernel_rfl) (by kernel_rfl) (by kernel_rfl) (fun _ _ _ h => h) (Or.inl ⟨by rfl, ?_⟩) (by assumption) ?_
      rotate_left
      · intro w hSw
        obtain ⟨y0, y1, y2, y3⟩ := hSw
        go_simp
        all_goals with_reducible rfl
      try simp only [Act.put]
      refine wpAnyH_take (i := 6) (v := ?_) rfl (by kernel_rfl) (by kernel_rfl) (by kernel_rfl) (fun _ _ _ h => h) (Or.inl ⟨by rfl, ?_⟩) (by assumption) ?_
      rotate_left
      · intro w hSw
        obtain ⟨y0, y1, y2, y3⟩ := hSw
        go_simp
        all_goals with_reducible rfl
      try simp only [Act.put]
      refine wpAnyH_ready (rs := [7]) (by kernel_rfl) (by simp) ?_
      refine AllReadyH.cons (o := _) rfl (fun K hK => ?_) AllReadyH.nil
      go_simp
      refine (HBH.out _).mono ?_
      rintro e wz ⟨rfl, hwz⟩
      subst wz
      go_wp2_with fail
      refine hK.out _ _ HX3.out (fun hHeldc => ?_)
      clear hK K
      try simp only [Act.put]
      refine wpAnyH_ready (rs := [8]) (by kernel_rfl) (by simp) ?_
      refine AllReadyH.cons (o := _) rfl (fun K hK => ?_) AllReadyH.nil
      go_simp
      have hF3 : Fr b none w w3.drew := (HX.out.2.2.1.trans (Fr.of (b := b) (r := none) B3.out) (fun g hg => by cases hg)).trans (Fr.of (b := b) (r := none) ((Below.refl _ _).drew)) (fun g hg => by cases hg)
      have hT3 := (HT1.out.on B3.out)
      obtain ⟨bb, hov⟩ := hT3.pv
      have hex : (om.extract pl om.size).size = z3 := by rw [ByteArray.size_extract]; have := HQ.out; omega
      have HTL := Tell_any (om.extract pl om.size) w3.drew (P.sz 4 tv).1 (P.sz 4 tv).2 bb _ (P.parts 4 tv) (m_owns_of hov (fun _ _ => rfl)) HKV.out.sz1 HKV.out.sz32 HKV.out.few HKV.out.ok (Lib.tabBelow_of_tabIs (HTAB.out _ hF3))
      rw [HZ.out.1, HZ.out.2, if_pos hex, HQ.out.2.1] at HTL
      clear hF3 hT3 hov hex
      refine HTL.mono ?_
      rintro e w4 ⟨he, hb4⟩
      have he' : e = .returned (.tuple #[.string v0, .bool true]) := by rw [he, ← str_of]
      subst he'
      have hbb4 : Below w3.heap.size w3 w4 := ⟨hb4.os, hb4.tape, hb4.output, hb4.size, hb4.block⟩
      have B4 := hid_m (B3.out.trans (hbb4.mono B3.out.size))
      have HX4 := hid_m (Gx.of (HT1.out.on B4.out) HZ.out.1 HZ.out.2 (t_blk_on hbb4 HO3.out))
      clear hb4 hbb4 he HTL
      go_wp2_with fail
      refine hK.out _ _ HX4.out (fun hHeldd => ?_)
      clear hK K
      try simp only [Act.put]
      refine wpAnyH_take (i := 9) (v := ?_) rfl (by kernel_rfl) (by kernel_rfl) (by kernel_rfl) (fun _ _ _ h => h) (Or.inl ⟨by rfl, ?_⟩) (by assumption) ?_
      rotate_left
      · intro w hSw
        obtain ⟨y0, y1, y2, y3⟩ := hSw
        go_simp
        all_goals with_reducible rfl
      try simp only [Act.put]
      refine wpAnyH_take (i := 10) (v := ?_) rfl (by kernel_rfl) (by kernel_rfl) (by kernel_rfl) (fun _ _ _ h => h) (Or.inl ⟨by rfl, ?_⟩) (by assumption) ?_
      rotate_left
      · intro w hSw
        obtain ⟨y0, y1, y2, y3⟩ := hSw
        go_simp
        all_goals with_reducible rfl
      try simp only [Act.put]
      refine wpAnyH_take (i := 11) (v := ?_) rfl (by kernel_rfl) (by kernel_rfl) (by kernel_rfl) (fun _ _ _ h => h) (Or.inl ⟨by rfl, ?_⟩) (by assumption) ?_
      rotate_left
      · intro w hSw
        obtain ⟨y0, y1, y2, y3⟩ := hSw
        go_simp
        all_goals with_reducible rfl
      try simp only [Act.put]
      refine wpAnyH_ready (rs := [12]) (by kernel_rfl) (by simp) ?_
      refine AllReadyH.cons (o := _) rfl (fun K hK => ?_) AllReadyH.nil
      go_simp
      refine hK.out _ _ HX4.out (fun hHelde => ?_)
      clear hK K
      try simp only [Act.put]
      refine wpAnyH_ready (rs := [13]) (by kernel_rfl) (by simp) ?_
      refine AllReadyH.cons (o := _) rfl (fun K hK => ?_) AllReadyH.nil
      go_simp
      refine hK.out _ _ HX4.out (fun hHeldf => ?_)
      clear hK K
      try simp only [Act.put]
      refine wpAnyH_done (by kernel_rfl) ?_ _
      go_wp2_with fail
      go_ret2
      exact ⟨v0, 0, rfl, Or.inr (Or.inr ⟨HX.out.1, rfl, i, HX.out.2.2.2.1, HX.out.2.2.2.2⟩), HX.out.2.1.on B4.out, HX.out.2.2.1.trans (Fr.of (b := b) (r := none) B4.out) (fun g hg => by cases hg)⟩
end Go.Proofs.YtghggcehloiemabGreatDoor
namespace Go.Proofs.YtghggcehloiemabGreatDoor
open Go.RowKit
set_option linter.unusedVariables false
set_option maxRecDepth 16000
def NewP (w : World) (e : Ending) (w' : World) (tk tv : P.Ty 4) (sl : Nat) : Prop := (∃ (b : Nat) (a3 b3 cv : Value) (S : Nat → Prop), e = .returned (.tuple #[.pointer (some ⟨b, 0, none⟩), .int .i64 0]) ∧ w.heap.size ≤ b ∧ b < w'.heap.size ∧ TbI w' b tk tv sl a3 b3 cv S []) ∧ Below w.heap.size w w'
/-- What New reads. -/
def Nx9 (mb cb0 : Nat) (a1 a2 a3 a4 a5 a6 a7 a8 a9 c0 : Value) (w : World) : Prop := w.cell? ⟨mb, 0, none⟩ = some a1 ∧ w.cell? ⟨mb, 1, none⟩ = some a2 ∧ w.cell? ⟨mb, 2, none⟩ = some a3 ∧ w.cell? ⟨mb, 3, none⟩ = some a4 ∧ w.cell? ⟨mb, 4, none⟩ = some a5 ∧ w.cell? ⟨mb, 5, none⟩ = some a6 ∧ w.cell? ⟨mb, 6, none⟩ = some a7 ∧ w.cell? ⟨mb, 7, none⟩ = some a8 ∧ w.cell? ⟨mb, 8, none⟩ = some a9 ∧ w.cell? ⟨cb0, 0, none⟩ = some c0
theorem Nx9.of {w : World} {mb cb0 : Nat} {a1 a2 a3 a4 a5 a6 a7 a8 a9 c0 : Value} (h : w.heap[mb]? = some (.cells #[a1, a2, a3, a4, a5, a6, a7, a8, a9] 67 (0, 0))) (hc : w.heap[cb0]? = some (.cells #[c0] 75 (0, 0))) : Nx9 mb cb0 a1 a2 a3 a4 a5 a6 a7 a8 a9 c0 w := by
  refine ⟨?_, ?_, ?_, ?_, ?_, ?_, ?_, ?_, ?_, ?_⟩
  all_goals first | (rw [cell_of_row _ _ _ _ _ _ h]; rfl) | (rw [cell_of_row _ _ _ _ _ _ hc]; rfl)
set_option maxHeartbeats 8000000 in
theorem new_any (sk sv : ByteArray) (sl : Nat) (w : World) (hk : sk.size ≤ maxLen) (hv : sv.size ≤ maxLen) (tk tv : P.Ty 4) (htk0 : P.tyOf sk.data.toList = some tk) (htv0 : P.tyOf sv.data.toList = some tv) (hsl0 : 1 ≤ sl ∧ sl ≤ 16) :
    Calls Tryz.prog 14 #[.string sk, .string sv, .int .i64 sl] w fun e w' => NewP w e w' tk tv sl := by
  go_enter Tryz.func14, Tryz.ntmps14
  go_wp2_with fail
  refine (measure_any sk sv sl w hk hv).mono ?_
  rintro e w1 hpost
  have hbe := hpost.1
  rcases hpost.cases with ⟨er, her, HT, rfl⟩ | ⟨tk', tv', vk, vv, kv', vv', htk, htv, hsl, rfl, shk, shv, kpk, kpv⟩
  · exfalso
    have := HT.1
    unfold P.errOf at this
    rw [htk0, htv0] at this
    simp only at this
    rw [if_pos (by omega)] at this
    omega
  · rw [htk0] at htk
    cases htk
    rw [htv0] at htv
    cases htv
    have kk := known_of htk0
    have kv := known_of htv0
    obtain ⟨_, hok⟩ := kpk.own
    obtain ⟨_, hov⟩ := kpv.own
    obtain ⟨gk, ck, hkv, _, _⟩ := hok.form kk.pos
    obtain ⟨gv, cv, hvv, _, _⟩ := hov.form kv.pos
    obtain ⟨_, osk⟩ := shk.own
    obtain ⟨_, osv⟩ := shv.own
    obtain ⟨ak, Nk, c1, rfl⟩ := owns_slice osk
    obtain ⟨av, Nv, c2, rfl⟩ := owns_slice osv
    have lk := kk.covl
    have lv := kv.covl
    have l1 := kk.sz32
    have l2 := kv.sz32
    have hisc := P.resolve_isCode (kp := P.cov (P.parts 4 tk)) (vp := P.cov (P.parts 4 tv)) (sl := sl) kk.cov32 kv.cov32 (by omega) (by omega) hsl0.2
    have HC : Hid (∀ w2, Below w1.heap.size w1 w2 → Calls Tryz.prog 31 #[.agg #[kv', vv', .int .i64 sl]] w2 fun e w' => e = .returned (.string ⟨(P.text (P.prog (P.cov (P.parts 4 tk)) (P.cov (P.parts 4 tv)) sl).resolve).toArray⟩) ∧ Below w2.heap.size w2 w') := fun w2 hb2 =>
      pcode_any _ _ (kpk.next hb2) (kpv.next hb2) kk.pos kv.pos (by omega) (by omega) (by rw [P.prog_len]; omega) (by rw [P.prog_len]; omega) (P.prog_labels kk.cov32 kv.cov32 (by omega) (by omega) (by omega)) (P.resolve_small kk.cov32 kv.cov32 (by omega) (by omega) (by omega))
    obtain ⟨tx, htx⟩ : ∃ tx : ByteArray, (⟨(P.text (P.prog (P.cov (P.parts 4 tk)) (P.cov (P.parts 4 tv)) sl).resolve).toArray⟩ : ByteArray) = tx := ⟨_, rfl⟩
    have htxl : tx.data.toList = (P.text (P.prog (P.cov (P.parts 4 tk)) (P.cov (P.parts 4 tv)) sl).resolve) := by rw [← htx]
    rw [htx] at HC
    have HPA : Hid (∀ w2, Calls Tryz.prog 32 #[.string tx] w2 fun e w' => ∃ v, e = .returned (.tuple #[.agg #[v], .bool true]) ∧ w'.ownsRow w2.heap.size 112 4 v (P.codeOf (P.text (P.prog (P.cov (P.parts 4 tk)) (P.cov (P.parts 4 tv)) sl).resolve)).length (codeCells (P.codeOf (P.text (P.prog (P.cov (P.parts 4 tk)) (P.cov (P.parts 4 tv)) sl).resolve))) ∧ Below w2.heap.size w2 w') := by
      intro w2
      have hsz : tx.size ≤ maxLen := by
        have h1 : tx.size = (P.text (P.prog (P.cov (P.parts 4 tk)) (P.cov (P.parts 4 tv)) sl).resolve).length := by rw [← htx]; simp [ByteArray.size]
        have h2 := hisc.five; have h3 := hisc.few
        unfold maxLen; omega
      refine (mparse_any tx w2 hsz).mono fun e w' hh => ?_
      obtain ⟨h1, h2⟩ := hh
      rw [htxl] at h1
      rw [if_pos hisc] at h1
      obtain ⟨v, h3, h4⟩ := h1
      exact ⟨v, h3, h4, h2⟩
    obtain ⟨nk, hnk⟩ : ∃ n, (P.cov (P.parts 4 tk)).length = n := ⟨_, rfl⟩
    obtain ⟨nv, hnv⟩ : ∃ n, (P.cov (P.parts 4 tv)).length = n := ⟨_, rfl⟩
    rw [hnk] at hkv lk
    rw [hnv] at hvv lv
    subst hkv
    subst hvv
    have HRM := hid_m (fun w => plRoom_any gk ck gv cv nk nv sl w (by omega) (by omega) hsl0.2)
    obtain ⟨rm, hrm⟩ : ∃ r, 1 + sl * (nk + nv) = r := ⟨_, rfl⟩
    have hrm2 : rm ≤ 1025 := by
      have := Nat.mul_le_mul hsl0.2 (show nk + nv ≤ 64 by omega)
      omega
    rw [hrm] at HRM
    have HBL := hid_m (fun w => blank_any rm w (by omega) (by omega))
    obtain ⟨z1, hz1⟩ : ∃ z, (P.sz 4 tk).1 = z := ⟨_, rfl⟩
    obtain ⟨z2, hz2⟩ : ∃ z, (P.sz 4 tk).2 = z := ⟨_, rfl⟩
    obtain ⟨z3, hz3⟩ : ∃ z, (P.sz 4 tv).1 = z := ⟨_, rfl⟩
    obtain ⟨z4, hz4⟩ : ∃ z, (P.sz 4 tv).2 = z := ⟨_, rfl⟩
    rw [hz1, hz2, hz3, hz4]
    have HZ := hid_m (And.intro hz1 (And.intro hz2 (And.intro hz3 (And.intro hz4 (And.intro hnk (And.intro hnv hrm))))))
    have HSH := hid_m (And.intro shk shv)
    have HKN := hid_m (And.intro kk (And.intro kv hsl0))
    have B1 := hid_m hbe
    clear hk hv htk0 htv0 hsl hok hov osk osv lk lv l1 l2 hisc htx htxl hnk hnv hrm hrm2 hz1 hz2 hz3 hz4 shk shv kpk kpv kk kv hbe hpost hsl0
    have hbA : Below w1.heap.size w1 (w1.alloc (.cells #[.int .i64 z1, .int .i64 z2, .slice ak Nk c1, .int .i64 z3, .int .i64 z4, .slice av Nv c2, .slice (some ⟨gk, 0, none⟩) nk ck, .slice (some ⟨gv, 0, none⟩) nv cv, .int .i64 sl] 67)) := (Below.refl _ _).alloc (Nat.le_refl _) _
    have hmA : (w1.alloc (.cells #[.int .i64 z1, .int .i64 z2, .slice ak Nk c1, .int .i64 z3, .int .i64 z4, .slice av Nv c2, .slice (some ⟨gk, 0, none⟩) nk ck, .slice (some ⟨gv, 0, none⟩) nv cv, .int .i64 sl] 67)).heap[w1.heap.size]? = some (.cells #[.int .i64 z1, .int .i64 z2, .slice ak Nk c1, .int .i64 z3, .int .i64 z4, .slice av Nv c2, .slice (some ⟨gk, 0, none⟩) nk ck, .slice (some ⟨gv, 0, none⟩) nv cv, .int .i64 sl] 67 (0, 0)) := heap_alloc_new _ _
    have B2 := hid_m hbA
    have HM2 := hid_m hmA
    clear hbA hmA
    go_wp2_with fail
    obtain ⟨w2, hw2⟩ : ∃ W, (w1.alloc (.cells #[.int .i64 z1, .int .i64 z2, .slice ak Nk c1, .int .i64 z3, .int .i64 z4, .slice av Nv c2, .slice (some ⟨gk, 0, none⟩) nk ck, .slice (some ⟨gv, 0, none⟩) nv cv, .int .i64 sl] 67)) = W := ⟨_, rfl⟩
    obtain ⟨mb, hmb⟩ : ∃ x, w1.heap.size = x := ⟨_, rfl⟩
    rw [hw2] at B2 HM2 ⊢
    rw [hmb] at HM2 ⊢
    have HMB := hid_m hmb
    clear hw2 hmb
    refine (HC.out w2 B2.out).mono ?_
    rintro e w3 ⟨rfl, hb3⟩
    have B3 := hid_m (B2.out.trans (hb3.mono B2.out.size))
    have HM3 := hid_m (t_blk_on hb3 HM2.out)
    clear hb3
    go_wp2_with fail
    refine (HPA.out w3).mono ?_
    rintro e w4 ⟨vc, rfl, hown, hb4⟩
    obtain ⟨xc, nc, cc, rfl⟩ := owns_slice hown
    have B4 := hid_m (B3.out.trans (hb4.mono B3.out.size))
    have HM4 := hid_m (t_blk_on hb4 HM3.out)
    have HOW := hid_m hown
    have HS34 := hid_m hb4.size
    clear hb4 hown
    have hbA : Below w4.heap.size w4 (w4.alloc (.cells #[.slice xc nc cc] 75)) := (Below.refl _ _).alloc (Nat.le_refl _) _
    have hcA : (w4.alloc (.cells #[.slice xc nc cc] 75)).heap[w4.heap.size]? = some (.cells #[.slice xc nc cc] 75 (0, 0)) := heap_alloc_new _ _
    have HB45 := hid_m hbA
    have HC5 := hid_m hcA
    clear hbA hcA
    rename_i K4 hK4 Kc hKc
    have HK4 := hid_m hK4
    clear hK4
    go_wp2_with fail
    refine HK4.out _ _ ?_
    obtain ⟨w5, hw5⟩ : ∃ W, (w4.alloc (.cells #[.slice xc nc cc] 75)) = W := ⟨_, rfl⟩
    obtain ⟨kb5, hkb5⟩ : ∃ x, w4.heap.size = x := ⟨_, rfl⟩
    rw [hw5] at HB45 HC5 ⊢
    rw [hkb5] at HC5 ⊢
    have B5 := hid_m (B4.out.trans (HB45.out.mono B4.out.size))
    have HM5 := hid_m (t_blk_on HB45.out HM4.out)
    clear hw5 hkb5 HK4
    have HX5 := hid_m (Nx9.of HM5.out HC5.out)
    go_wp2_with fail
    refine wp_region_held_drew (S := Nx9 mb kb5 (.int .i64 z1) (.int .i64 z2) (.slice ak Nk c1) (.int .i64 z3) (.int .i64 z4) (.slice av Nv c2) (.slice (some ⟨gk, 0, none⟩) nk ck) (.slice (some ⟨gv, 0, none⟩) nv cv) (.int .i64 sl) (.slice xc nc cc)) (by kernel_rfl) HX5.out (fun hHeld => ?_)
    refine wpAnyH_take (i := 0) (v := ?_) rfl (by kernel_rfl) (by kernel_rfl) (by kernel_rfl) (fun _ _ _ h => h) (Or.inl ⟨by rfl, ?_⟩) (by assumption) ?_
    rotate_left
    · intro w hSw
      obtain ⟨y0, y1, y2, y3, y4, y5, y6, y7, y8, y9⟩ := hSw
      go_simp
      all_goals with_reducible rfl
    try simp only [Act.put]
    refine wpAnyH_take (i := 1) (v := ?_) rfl (by kernel_rfl) (by kernel_rfl) (by kernel_rfl) (fun _ _ _ h => h) (Or.inl ⟨by rfl, ?_⟩) (by assumption) ?_
    rotate_left
    · intro w hSw
      obtain ⟨y0, y1, y2, y3, y4, y5, y6, y7, y8, y9⟩ := hSw
      go_simp
      all_goals with_reducible rfl
    try simp only [Act.put]
    refine wpAnyH_take (i := 2) (v := ?_) rfl (by kernel_rfl) (by kernel_rfl) (by kernel_rfl) (fun _ _ _ h => h) (Or.inl ⟨by rfl, ?_⟩) (by assumption) ?_
    rotate_left
    · intro w hSw
      obtain ⟨y0, y1, y2, y3, y4, y5, y6, y7, y8, y9⟩ := hSw
      go_simp
      all_goals with_reducible rfl
    try simp only [Act.put]
    refine wpAnyH_take (i := 3) (v := ?_) rfl (by kernel_rfl) (by kernel_rfl) (by kernel_rfl) (fun _ _ _ h => h) (Or.inl ⟨by rfl, ?_⟩) (by assumption) ?_
    rotate_left
    · intro w hSw
      obtain ⟨y0, y1, y2, y3, y4, y5, y6, y7, y8, y9⟩ := hSw
      go_simp
      all_goals with_reducible rfl
    try simp only [Act.put]
    refine wpAnyH_take (i := 4) (v := ?_) rfl (by kernel_rfl) (by kernel_rfl) (by kernel_rfl) (fun _ _ _ h => h) (Or.inl ⟨by rfl, ?_⟩) (by assumption) ?_
    rotate_left
    · intro w hSw
      obtain ⟨y0, y1, y2, y3, y4, y5, y6, y7, y8, y9⟩ := hSw
      go_simp
      all_goals with_reducible rfl
    try simp only [Act.put]
    refine wpAnyH_take (i := 5) (v := ?_) rfl (by kernel_rfl) (by kernel_rfl) (by kernel_rfl) (fun _ _ _ h => h) (Or.inl ⟨by rfl, ?_⟩) (by assumption) ?_
    rotate_left
    · intro w hSw
      obtain ⟨y0, y1, y2, y3, y4, y5, y6, y7, y8, y9⟩ := hSw
      go_simp
      all_goals with_reducible rfl
    try simp only [Act.put]
    refine wpAnyH_take (i := 6) (v := ?_) rfl (by kernel_rfl) (by kernel_rfl) (by kernel_rfl) (fun _ _ _ h => h) (Or.inl ⟨by rfl, ?_⟩) (by assumption) ?_
    rotate_left
    · intro w hSw
      obtain ⟨y0, y1, y2, y3, y4, y5, y6, y7, y8, y9⟩ := hSw
      go_simp
      all_goals with_reducible rfl
    try simp only [Act.put]
    refine wpAnyH_ready (rs := [7]) (by kernel_rfl) (by simp) ?_
    refine AllReadyH.cons (o := _) rfl (fun K hK => ?_) AllReadyH.nil
    go_simp
    refine (HRM.out w5.drew).mono ?_
    rintro e w6 ⟨rfl, hb6⟩
    have hbb6 : Below w5.heap.size w5 w6 := ⟨hb6.os, hb6.tape, hb6.output, hb6.size, hb6.block⟩
    have HB56 := hid_m hbb6
    have HX6 := hid_m (Nx9.of (t_blk_on hbb6 HM5.out) (t_blk_on hbb6 HC5.out))
    clear hb6 hbb6
    go_wp2_with fail
    refine hK.out _ _ HX6.out (fun hHelda => ?_)
    clear hK K
    try simp only [Act.put]
    refine wpAnyH_ready (rs := [8]) (by kernel_rfl) (by simp) ?_
    refine AllReadyH.cons (o := _) rfl (fun K hK => ?_) AllReadyH.nil
    go_simp
    refine (HBL.out w6).mono ?_
    rintro e w7 ⟨rfl, hb7⟩
    have HB57 := hid_m (HB56.out.trans (hb7.mono HB56.out.size))
    have HX7 := hid_m (Nx9.of (t_blk_on HB57.out HM5.out) (t_blk_on HB57.out HC5.out))
    clear hb7
    go_wp2_with fail
    refine hK.out _ _ HX7.out (fun hHeldb => ?_)
    clear hK K
    try simp only [Act.put]
    refine wpAnyH_take (i := 9) (v := ?_) rfl (by kernel_rfl) (by kernel_rfl) (by kernel_rfl) (fun _ _ _ h => h) (Or.inl ⟨by rfl, ?_⟩) (by assumption) ?_
    rotate_left
    · intro w hSw
      obtain ⟨y0, y1, y2, y3, y4, y5, y6, y7, y8, y9⟩ := hSw
      go_simp
      all_goals with_reducible rfl
    try simp only [Act.put]
    refine wpAnyH_ready (rs := [10]) (by kernel_rfl) (by simp) ?_
    refine AllReadyH.cons (o := _) rfl (fun K hK => ?_) AllReadyH.nil
    go_simp
    have hbA : Below w7.heap.size w7 (w7.alloc (.cells #[.int .i64 z1, .int .i64 z2, .slice ak Nk c1, .int .i64 z3, .int .i64 z4, .slice av Nv c2, .slice xc nc cc, .string ⟨Array.replicate rm 0⟩] 79)) := (Below.refl _ _).alloc (Nat.le_refl _) _
    have hnA : (w7.alloc (.cells #[.int .i64 z1, .int .i64 z2, .slice ak Nk c1, .int .i64 z3, .int .i64 z4, .slice av Nv c2, .slice xc nc cc, .string ⟨Array.replicate rm 0⟩] 79)).heap[w7.heap.size]? = some (.cells #[.int .i64 z1, .int .i64 z2, .slice ak Nk c1, .int .i64 z3, .int .i64 z4, .slice av Nv c2, .slice xc nc cc, .string ⟨Array.replicate rm 0⟩] 79 (0, 0)) := heap_alloc_new _ _
    have hsA : (w7.alloc (.cells #[.int .i64 z1, .int .i64 z2, .slice ak Nk c1, .int .i64 z3, .int .i64 z4, .slice av Nv c2, .slice xc nc cc, .string ⟨Array.replicate rm 0⟩] 79)).heap.size = w7.heap.size + 1 := by simp
    have HB58 := hid_m (HB57.out.trans (hbA.mono HB57.out.size))
    have HN8 := hid_m hnA
    have HX8 := hid_m (Nx9.of (t_blk_on HB58.out HM5.out) (t_blk_on HB58.out HC5.out))
    obtain ⟨w8, hw8⟩ : ∃ W, (w7.alloc (.cells #[.int .i64 z1, .int .i64 z2, .slice ak Nk c1, .int .i64 z3, .int .i64 z4, .slice av Nv c2, .slice xc nc cc, .string ⟨Array.replicate rm 0⟩] 79)) = W := ⟨_, rfl⟩
    obtain ⟨b, hb⟩ : ∃ x, w7.heap.size = x := ⟨_, rfl⟩
    have hsb : w5.heap.size ≤ w7.heap.size := HB57.out.size
    rw [hw8] at HB58 HN8 HX8 hsA
    try rw [hw8]
    rw [hb] at HN8 hsA hsb
    try rw [hb]
    have HSA := hid_m (And.intro hsA hsb)
    clear hbA hnA hsA hw8 hb hsb
    refine hK.out _ _ HX8.out (fun hHeldc => ?_)
    clear hK K
    try simp only [Act.put]
    refine wpAnyH_ready (rs := [11]) (by kernel_rfl) (by simp) ?_
    refine AllReadyH.cons (o := _) rfl (fun K hK => ?_) AllReadyH.nil
    go_simp
    refine hK.out _ _ HX8.out (fun hHeldd => ?_)
    clear hK K
    try simp only [Act.put]
    refine wpAnyH_ready (rs := [12]) (by kernel_rfl) (by simp) ?_
    refine AllReadyH.cons (o := _) rfl (fun K hK => ?_) AllReadyH.nil
    go_simp
    refine hK.out _ _ HX8.out (fun hHelde => ?_)
    clear hK K
    try simp only [Act.put]
    refine wpAnyH_done (by kernel_rfl) ?_ _
    go_wp2_with fail
    go_ret2
    have h12 := B2.out.size
    have h25 := B5.out.size
    have hB8 : Below w1.heap.size w1 w8 := B5.out.trans (HB58.out.mono B5.out.size)
    have hB48 : Below w4.heap.size w4 w8 := HB45.out.trans (HB58.out.mono HB45.out.size)
    have hs45 := HB45.out.size
    obtain ⟨⟨q1, o1⟩, lo1⟩ := HSH.out.1
    obtain ⟨⟨q2, o2⟩, lo2⟩ := HSH.out.2
    have hlow : ∀ g, (Value.slice ak Nk c1).ownBlock = some g ∨ (Value.slice av Nv c2).ownBlock = some g ∨ (Value.slice xc nc cc).ownBlock = some g → g < w5.heap.size := by
      intro g hg
      rcases hg with hg | hg | hg
      · have := lo1 g hg; omega
      · have := lo2 g hg; omega
      · have := (HOW.out.lt g hg).2; omega
    have hsa := HSA.out
    refine ⟨⟨b, .slice ak Nk c1, .slice av Nv c2, .slice xc nc cc, fun g => (Value.slice ak Nk c1).ownBlock = some g ∨ (Value.slice av Nv c2).ownBlock = some g ∨ (Value.slice xc nc cc).ownBlock = some g, rfl, by have := B1.out.size; omega, by omega, ⟨Array.replicate rm 0⟩, [], ⟨?_, ⟨q1, m_owns_of o1 (fun g hg => hB8.block g (lo1 g hg))⟩, ⟨q2, m_owns_of o2 (fun g hg => hB8.block g (lo2 g hg))⟩, ⟨w3.heap.size, m_owns_of HOW.out (fun g hg => hB48.block g (HOW.out.lt g hg).2)⟩, fun g hg => hg, fun g hg => ⟨by have := hlow g hg; omega, by have := hlow g hg; omega⟩⟩, ?_⟩, B1.out.trans (hB8.mono B1.out.size)⟩
    · have hz := HZ.out
      rw [hz.1, hz.2.1, hz.2.2.1, hz.2.2.2.1]; exact HN8.out
    · have hz := HZ.out.2.2.2.2
      have h1 : 0 < rm := by omega
      refine P.tabP_empty HKN.out.1 HKN.out.2.1 HKN.out.2.2.2 ?_ ?_
      · simp [h1]
      · rw [hz.1, hz.2.1, hz.2.2]; simp
end Go.Proofs.YtghggcehloiemabGreatDoor
namespace Go.Proofs.YtghggcehloiemabGreatDoor
open Go.RowKit
set_option linter.unusedVariables false
set_option maxRecDepth 16000
theorem TbI.perm {w : World} {b : Nat} {tk tv : P.Ty 4} {sl : Nat} {a3 b3 cv : Value} {S : Nat → Prop} {L L' : List (ByteArray × ByteArray)} (h : TbI w b tk tv sl a3 b3 cv S L) (hp : L.Perm L') : TbI w b tk tv sl a3 b3 cv S L' := by
  obtain ⟨bytes, T, h1, h2⟩ := h
  exact ⟨bytes, T, h1, h2.perm hp⟩
theorem TbI.lens {w : World} {b : Nat} {tk tv : P.Ty 4} {sl : Nat} {a3 b3 cv : Value} {S : Nat → Prop} {L : List (ByteArray × ByteArray)} (h : TbI w b tk tv sl a3 b3 cv S L) : L.length ≤ sl := by
  obtain ⟨bytes, T, h1, h2⟩ := h
  exact h2.lens
theorem must_low (sl : Nat) (k v : ByteArray) (L : List (ByteArray × ByteArray)) : ((P.mustDo sl 2 k v L).1 = 0 ∨ (P.mustDo sl 2 k v L).1 = 2) ∧ ((P.mustDo sl 3 k v L).1 = 0 ∨ (P.mustDo sl 3 k v L).1 = 1) := by
  unfold P.mustDo
  constructor
  · rw [if_neg (by decide), if_pos rfl]
    cases P.atK L k with
    | some i => exact Or.inl rfl
    | none =>
      simp only
      by_cases hf : L.length = sl
      · rw [if_pos hf]; exact Or.inr rfl
      · rw [if_neg hf]; exact Or.inl rfl
  · rw [if_neg (by decide), if_neg (by decide), if_pos rfl]
    cases P.atK L k with
    | some i => exact Or.inl rfl
    | none => exact Or.inr rfl
theorem map3_any (sl : Nat) (k v v' : ByteArray) (L : List (ByteArray × ByteArray)) : P.mapDo sl 3 k v L = P.mapDo sl 3 k v' L := by
  unfold P.mapDo
  rfl
set_option maxHeartbeats 4000000 in
theorem asked_any {w : World} (b : Nat) (tk tv : P.Ty 4) (sl : Nat) (a3 b3 cv : Value) (S : Nat → Prop) (L : List (ByteArray × ByteArray)) (t : Nat) (k v was : ByteArray) (st : Nat) (L' : List (ByteArray × ByteArray)) (h : TbI w b tk tv sl a3 b3 cv S L) (hk : k.size ≤ maxLen) (hv : v.size ≤ maxLen) (hkv : P.IsVal tk k.data.toList) (hvv : P.IsVal tv v.data.toList) (ht : 1 ≤ t ∧ t ≤ 5)
    (hst : (P.mustDo sl t k v L).1 = st) (hL' : (P.mustDo sl t k v L).2 = L') (hwas : ∀ i v0, P.atK L k = some i → L[i]? = some (k, v0) → was = v0) (htab : ∀ w', Fr b none w w' → Lib.TabIs Tryz.prog w' "internal/strconv.uint64pow10" .u64 Lib.pow10Tab) :
    Calls Tryz.prog 18 #[.pointer (some ⟨b, 0, none⟩), .int .i64 t, .string k, .string v, .string was, .int .i64 st] w fun e w' => e = .returned (.bool true) ∧ TbI w' b tk tv sl a3 b3 cv S L' ∧ Fr b none w w' := by
  have hmm := P.must_map sl t k v L h.lens
  have hlow := must_low sl k v L
  have hc : t = 1 ∨ t = 2 ∨ t = 3 ∨ t = 4 ∨ t = 5 := by omega
  rcases hc with rfl | rfl | rfl | rfl | rfl
  · have HG := hid_m (get_any b tk tv sl a3 b3 cv S L k h hk htab)
    have hL : L' = L := by rw [← hL']; exact P.mustDo_one
    have hs : st = if (P.atK L k).isSome then 0 else 1 := by rw [← hst]; unfold P.mustDo; rw [if_pos rfl]
    subst hL
    have HS := hid_m hs
    have HW := hid_m hwas
    have HKV := hid_m hkv
    clear h hk hv hkv hvv ht hst hL' hwas htab hmm hlow hs
    go_enter Tryz.func18, Tryz.ntmps18
    go_wp2_with fail
    refine HG.out.mono ?_
    rintro e w1 ⟨v0, er, rfl, hg, htb, hfr⟩
    have HX := hid_m (And.intro htb hfr)
    clear htb hfr
    rcases hg with ⟨hno, _⟩ | ⟨_, hat, rfl, rfl⟩ | ⟨_, rfl, i, hat, hi⟩
    · exact absurd HKV.out hno
    · have h1 : st = 1 := by rw [HS.out, hat]; rfl
      subst h1
      clear hat
      go_wp2_with fail
      go_ret
      exact ⟨rfl, HX.out⟩
    · have h1 : st = 0 := by rw [HS.out, hat]; rfl
      subst h1
      have h2 : was = v0 := HW.out i v0 hat hi
      subst h2
      clear hat hi
      go_wp2_with fail
      go_ret
      exact ⟨rfl, HX.out⟩
  · have HG := hid_m (put_any b tk tv sl a3 b3 cv S L k v h hk hv)
    have HM := hid_m (And.intro hmm (And.intro hkv hvv))
    rw [hst, hL'] at HM
    have hs : st = 0 ∨ st = 2 := by rw [← hst]; exact hlow.1
    clear h hk hv hkv hvv ht hst hL' hwas htab hmm hlow
    go_enter Tryz.func18, Tryz.ntmps18
    go_wp2_with fail
    refine HG.out.mono ?_
    rintro e w1 ⟨er, L2, rfl, hg, htb, hfr⟩
    rcases hg with ⟨hno, _⟩ | ⟨_, her, rfl⟩
    · exact absurd HM.out.2 hno
    · rw [HM.out.1.1] at her
      have HX := hid_m (And.intro (htb.perm HM.out.1.2) hfr)
      clear htb hfr
      rcases hs with rfl | rfl
      · have : er = 0 := her
        subst this
        clear her
        go_wp2_with fail
        go_ret
        exact ⟨rfl, HX.out⟩
      · have : er = 9 := her
        subst this
        clear her
        go_wp2_with fail
        go_ret
        exact ⟨rfl, HX.out⟩
  · have HG := hid_m (drop_any b tk tv sl a3 b3 cv S L k h hk)
    rw [map3_any sl k v ⟨#[]⟩ L] at hmm
    have HM := hid_m (And.intro hmm hkv)
    rw [hst, hL'] at HM
    have hs : st = 0 ∨ st = 1 := by rw [← hst]; exact hlow.2
    clear h hk hv hkv hvv ht hst hL' hwas htab hmm hlow
    go_enter Tryz.func18, Tryz.ntmps18
    go_wp2_with fail
    refine HG.out.mono ?_
    rintro e w1 ⟨er, L2, rfl, hg, htb, hfr⟩
    rcases hg with ⟨hno, _⟩ | ⟨_, her, rfl⟩
    · exact absurd HM.out.2 hno
    · rw [HM.out.1.1] at her
      have HX := hid_m (And.intro (htb.perm HM.out.1.2) hfr)
      clear htb hfr
      rcases hs with rfl | rfl
      · have : er = 0 := her
        subst this
        clear her
        go_wp2_with fail
        go_ret
        exact ⟨rfl, HX.out⟩
      · have : er = 10 := her
        subst this
        clear her
        go_wp2_with fail
        go_ret
        exact ⟨rfl, HX.out⟩
  · have hL : L' = L := by rw [← hL']; exact P.mustDo_four
    subst hL
    have HX := hid_m h
    clear h hk hv hkv hvv ht hst hL' hwas htab hmm hlow
    go_enter Tryz.func18, Tryz.ntmps18
    go_wp2_with fail
    go_ret
    exact ⟨rfl, HX.out, Fr.refl _ _ _⟩
  · have HG := hid_m (clear_any b tk tv sl a3 b3 cv S L h)
    have hL : L' = [] := by rw [← hL']; rfl
    subst hL
    clear h hk hv hkv hvv ht hst hL' hwas htab hmm hlow
    go_enter Tryz.func18, Tryz.ntmps18
    go_wp2_with fail
    refine HG.out.mono ?_
    rintro e w1 ⟨rfl, htb, hfr⟩
    have HX := hid_m (And.intro htb hfr)
    clear htb hfr
    go_wp2_with fail
    go_ret
    exact ⟨rfl, HX.out⟩
end Go.Proofs.YtghggcehloiemabGreatDoor
namespace Go.Proofs.YtghggcehloiemabGreatDoor
open Go.RowKit
set_option linter.unusedVariables false
set_option maxRecDepth 16000
/-- The shapes and one step, as a round reads them. -/
def Ox (kb vb bb o : Nat) (h0 l0 l1 l2 l3 g0 m0 m1 m2 m3 c0 c1 c2 c3 d0 d1 d2 d3 : Int) (w : World) : Prop :=
  w.cell? ⟨kb, 0, none⟩ = some (.int .i64 h0) ∧ w.cell? ⟨kb, 1, none⟩ = some (.int .i64 l0) ∧ w.cell? ⟨kb, 2, none⟩ = some (.int .i64 l1) ∧ w.cell? ⟨kb, 3, none⟩ = some (.int .i64 l2) ∧ w.cell? ⟨kb, 4, none⟩ = some (.int .i64 l3) ∧
  w.cell? ⟨vb, 0, none⟩ = some (.int .i64 g0) ∧ w.cell? ⟨vb, 1, none⟩ = some (.int .i64 m0) ∧ w.cell? ⟨vb, 2, none⟩ = some (.int .i64 m1) ∧ w.cell? ⟨vb, 3, none⟩ = some (.int .i64 m2) ∧ w.cell? ⟨vb, 4, none⟩ = some (.int .i64 m3) ∧
  w.cell? ⟨bb, o + 1, none⟩ = some (.int .i64 c0) ∧ w.cell? ⟨bb, o + 2, none⟩ = some (.int .i64 c1) ∧ w.cell? ⟨bb, o + 3, none⟩ = some (.int .i64 c2) ∧ w.cell? ⟨bb, o + 4, none⟩ = some (.int .i64 c3) ∧ w.cell? ⟨bb, o + 5, none⟩ = some (.int .i64 d0) ∧ w.cell? ⟨bb, o + 6, none⟩ = some (.int .i64 d1) ∧ w.cell? ⟨bb, o + 7, none⟩ = some (.int .i64 d2) ∧ w.cell? ⟨bb, o + 8, none⟩ = some (.int .i64 d3)
def C14 (b : Nat) (v : Value) (w : World) : Prop := w.cell? ⟨b, 14, none⟩ = some v ∧ True
theorem Wd.fr {w w' : World} {b M sl c : Nat} {x0 x1 x2 x3 x4 x5 x6 x7 x8 x9 x10 x11 x12 kv vv : Value} {L : List (ByteArray × ByteArray)} (h : Wd w b M sl x0 x1 x2 x3 x4 x5 x6 x7 x8 x9 x10 x11 x12 kv vv L) (hf : Fr c none w w') (hc : c < b) : Wd w' b M sl x0 x1 x2 x3 x4 x5 x6 x7 x8 x9 x10 x11 x12 kv vv L :=
  ⟨by rw [hf.block b h.lt2 (by omega) (fun e => by cases e)]; exact h.blk, m_owns_of h.ok (fun g hg => hf.block g (h.ok.lt g hg).2 (by have := (h.ok.lt g hg).1; have := h.lt; omega) (fun e => by cases e)), m_owns_of h.ov (fun g hg => hf.block g (h.ov.lt g hg).2 (by have := (h.ov.lt g hg).1; have := h.lt; omega) (fun e => by cases e)), h.ne, h.lt, Nat.le_trans h.here hf.size, h.few, h.sl16⟩
set_option maxHeartbeats 8000000 in
theorem same_any (h0 l0 l1 l2 l3 g0 m0 m1 m2 m3 slots : Int) (x : Option Addr) (N cap : Nat) (w : World) (hh : I64 h0) (hl : ∀ x ∈ [l0, l1, l2, l3], I64 x) (hg : I64 g0) (hm : ∀ x ∈ [m0, m1, m2, m3], I64 x) (hsl : I64 slots) (hN : N ≤ maxLen) (hts : StepsAt w x N) (htab : Lib.TabIs Tryz.prog w "internal/strconv.uint64pow10" .u64 Lib.pow10Tab) :
    Calls Tryz.prog 4 #[.agg #[.int .i64 h0, .int .i64 l0, .int .i64 l1, .int .i64 l2, .int .i64 l3], .agg #[.int .i64 g0, .int .i64 m0, .int .i64 m1, .int .i64 m2, .int .i64 m3], .int .i64 slots, .slice x N cap] w fun e w' => e = .returned (.bool true) ∧ Below w.heap.size w w' := by
  obtain ⟨p, hp⟩ : ∃ p, P.pickP slots 16 = p := ⟨_, rfl⟩
  have hp15 : p ≤ 15 := by rw [← hp]; have := pick_lt slots 16 (by decide); omega
  obtain ⟨n, hn⟩ : ∃ t, 1 + p = t := ⟨_, rfl⟩
  have HPT : Hid (∀ w, Calls Tryz.prog 9 #[.int .i64 slots, .int .i64 16] w fun e w' => e = .returned (.int .i64 p) ∧ w' = w) := fun w => by rw [← hp]; exact pick_any slots 16 w (by decide) (by decide) hsl.1 hsl.2
  have HW1 : Hid (IntKind.i64.wrap (1 + (p : Int)) = (n : Int)) := by unfold Hid; rw [wrap_id _ (by omega) (by omega)]; omega
  obtain ⟨tk, etk, hek⟩ := P.shape_ty (P.pickP h0 6) (P.pickP l0 6) (P.pickP l1 6) (P.pickP l2 6) (P.pickP l3 6) (pick6 _) (pick6 _) (pick6 _) (pick6 _) (pick6 _)
  obtain ⟨tv, etv, hev⟩ := P.shape_ty (P.pickP g0 6) (P.pickP m0 6) (P.pickP m1 6) (P.pickP m2 6) (P.pickP m3 6) (pick6 _) (pick6 _) (pick6 _) (pick6 _) (pick6 _)
  have kk := known_of etk
  have kv := known_of etv
  have TYK := hid_m (fun w => typ_any h0 l0 l1 l2 l3 w hh hl)
  have TYV := hid_m (fun w => typ_any g0 m0 m1 m2 m3 w hg hm)
  have HKV : Hid (∀ c0 c1 c2 c3 : Int, (I64 c0 ∧ I64 c1 ∧ I64 c2 ∧ I64 c3) → ∃ k : ByteArray, k.size ≤ maxLen ∧ P.IsVal tk k.data.toList ∧ ∀ w, Lib.TabIs Tryz.prog w "internal/strconv.uint64pow10" .u64 Lib.pow10Tab → Calls Tryz.prog 15 #[.agg #[.int .i64 h0, .int .i64 l0, .int .i64 l1, .int .i64 l2, .int .i64 l3], .agg #[.int .i64 c0, .int .i64 c1, .int .i64 c2, .int .i64 c3]] w fun e w' => e = .returned (.string k) ∧ Below w.heap.size w w') := by
    intro c0 c1 c2 c3 hc
    obtain ⟨a, _, la⟩ := hek c0 c1 c2 c3 0 (by omega)
    refine ⟨_, ?_, ?_, fun w ht => value_any h0 l0 l1 l2 l3 c0 c1 c2 c3 w hh hl hc ht⟩
    · rw [bytes_len]
      have := joinP_len (P.pickP h0 6) (P.oneP (P.pickP l0 6) c0) (P.oneP (P.pickP l1 6) c1) (P.oneP (P.pickP l2 6) c2) (P.oneP (P.pickP l3 6) c3) (oneP_len _ _ (pick6 _)) (oneP_len _ _ (pick6 _)) (oneP_len _ _ (pick6 _)) (oneP_len _ _ (pick6 _))
      unfold maxLen; omega
    · exact P.isVal_of kk la
  have HVV : Hid (∀ c0 c1 c2 c3 : Int, (I64 c0 ∧ I64 c1 ∧ I64 c2 ∧ I64 c3) → ∃ k : ByteArray, k.size ≤ maxLen ∧ P.IsVal tv k.data.toList ∧ ∀ w, Lib.TabIs Tryz.prog w "internal/strconv.uint64pow10" .u64 Lib.pow10Tab → Calls Tryz.prog 15 #[.agg #[.int .i64 g0, .int .i64 m0, .int .i64 m1, .int .i64 m2, .int .i64 m3], .agg #[.int .i64 c0, .int .i64 c1, .int .i64 c2, .int .i64 c3]] w fun e w' => e = .returned (.string k) ∧ Below w.heap.size w w') := by
    intro c0 c1 c2 c3 hc
    obtain ⟨a, _, la⟩ := hev c0 c1 c2 c3 0 (by omega)
    refine ⟨_, ?_, ?_, fun w ht => value_any g0 m0 m1 m2 m3 c0 c1 c2 c3 w hg hm hc ht⟩
    · rw [bytes_len]
      have := joinP_len (P.pickP g0 6) (P.oneP (P.pickP m0 6) c0) (P.oneP (P.pickP m1 6) c1) (P.oneP (P.pickP m2 6) c2) (P.oneP (P.pickP m3 6) c3) (oneP_len _ _ (pick6 _)) (oneP_len _ _ (pick6 _)) (oneP_len _ _ (pick6 _)) (oneP_len _ _ (pick6 _))
      unfold maxLen; omega
    · exact P.isVal_of kv la
  have hTk : (P.joinP (P.pickP h0 6) (P.leafT (P.pickP l0 6)) (P.leafT (P.pickP l1 6)) (P.leafT (P.pickP l2 6)) (P.leafT (P.pickP l3 6))).length ≤ 1000 := joinP_len _ _ _ _ _ (by rw [leafT_len]; decide) (by rw [leafT_len]; decide) (by rw [leafT_len]; decide) (by rw [leafT_len]; decide)
  have hTv : (P.joinP (P.pickP g0 6) (P.leafT (P.pickP m0 6)) (P.leafT (P.pickP m1 6)) (P.leafT (P.pickP m2 6)) (P.leafT (P.pickP m3 6))).length ≤ 1000 := joinP_len _ _ _ _ _ (by rw [leafT_len]; decide) (by rw [leafT_len]; decide) (by rw [leafT_len]; decide) (by rw [leafT_len]; decide)
  clear hek hev
  generalize (P.joinP (P.pickP h0 6) (P.leafT (P.pickP l0 6)) (P.leafT (P.pickP l1 6)) (P.leafT (P.pickP l2 6)) (P.leafT (P.pickP l3 6))) = ltk at etk hTk TYK
  generalize (P.joinP (P.pickP g0 6) (P.leafT (P.pickP m0 6)) (P.leafT (P.pickP m1 6)) (P.leafT (P.pickP m2 6)) (P.leafT (P.pickP m3 6))) = ltv at etv hTv TYV
  have hn16 : 1 ≤ n ∧ n ≤ 16 := by omega
  have hTks : (bytesOf ltk).size ≤ maxLen := by rw [bytes_len]; unfold maxLen; omega
  have hTvs : (bytesOf ltv).size ≤ maxLen := by rw [bytes_len]; unfold maxLen; omega
  have HNEW : Hid (∀ w, Calls Tryz.prog 14 #[.string (bytesOf ltk), .string (bytesOf ltv), .int .i64 n] w fun e w' => NewP w e w' tk tv n) := fun w => new_any (bytesOf ltk) (bytesOf ltv) n w hTks hTvs tk tv etk etv hn16
  have HTS := hid_m hts
  have HTAB : Hid (∀ w', Below w.heap.size w w' → Lib.TabIs Tryz.prog w' "internal/strconv.uint64pow10" .u64 Lib.pow10Tab) := fun w' hb => ((Lib.tabBelow_of_tabIs htab).on hb).here
  have HN16 := hid_m hn16
  unfold maxLen at hN
  clear hh hl hg hm hsl hts htab hp hp15 hn etk etv kk kv hTk hTv hTks hTvs hn16
  have hbA : Below w.heap.size w ((w.alloc (.cells #[.int .i64 h0, .int .i64 l0, .int .i64 l1, .int .i64 l2, .int .i64 l3] 24)).alloc (.cells #[.int .i64 g0, .int .i64 m0, .int .i64 m1, .int .i64 m2, .int .i64 m3] 24)) := ((Below.refl _ _).alloc (Nat.le_refl _) _).alloc (by simp) _
  have hkA : ((w.alloc (.cells #[.int .i64 h0, .int .i64 l0, .int .i64 l1, .int .i64 l2, .int .i64 l3] 24)).alloc (.cells #[.int .i64 g0, .int .i64 m0, .int .i64 m1, .int .i64 m2, .int .i64 m3] 24)).heap[w.heap.size]? = some (.cells #[.int .i64 h0, .int .i64 l0, .int .i64 l1, .int .i64 l2, .int .i64 l3] 24 (0, 0)) := by rw [Below.heap_alloc _ _ _ (by simp)]; exact heap_alloc_new w _
  have hvA : ((w.alloc (.cells #[.int .i64 h0, .int .i64 l0, .int .i64 l1, .int .i64 l2, .int .i64 l3] 24)).alloc (.cells #[.int .i64 g0, .int .i64 m0, .int .i64 m1, .int .i64 m2, .int .i64 m3] 24)).heap[w.heap.size + 1]? = some (.cells #[.int .i64 g0, .int .i64 m0, .int .i64 m1, .int .i64 m2, .int .i64 m3] 24 (0, 0)) := by
    have := heap_alloc_new (w.alloc (.cells #[.int .i64 h0, .int .i64 l0, .int .i64 l1, .int .i64 l2, .int .i64 l3] 24)) (.cells #[.int .i64 g0, .int .i64 m0, .int .i64 m1, .int .i64 m2, .int .i64 m3] 24)
    simpa using this
  have B0 := hid_m hbA
  have HK0 := hid_m hkA
  have HV0 := hid_m hvA
  clear hbA hkA hvA
  go_enter Tryz.func4, Tryz.ntmps4
  go_wp2_with fail
  obtain ⟨w0, hw0⟩ : ∃ W, ((w.alloc (.cells #[.int .i64 h0, .int .i64 l0, .int .i64 l1, .int .i64 l2, .int .i64 l3] 24)).alloc (.cells #[.int .i64 g0, .int .i64 m0, .int .i64 m1, .int .i64 m2, .int .i64 m3] 24)) = W := ⟨_, rfl⟩
  obtain ⟨kb, hkb⟩ : ∃ x, w.heap.size = x := ⟨_, rfl⟩
  obtain ⟨vb, hvb⟩ : ∃ x, w.heap.size + 1 = x := ⟨_, rfl⟩
  rw [hw0] at B0 HK0 HV0 ⊢
  rw [hvb] at HV0 ⊢
  rw [hkb] at HK0 ⊢
  have HKB := hid_m (And.intro hkb hvb)
  clear hw0 hkb hvb
  refine (HPT.out _).mono ?_
  rintro e wz ⟨rfl, hwz⟩
  subst wz
  have HX0 := hid_m (Tx.of HK0.out HV0.out)
  have hw1 := HW1.out
  go_wp2_with fail
  clear hw1
  rename_i K2 hK2
  have HK2' := hid_m hK2
  clear hK2
  refine wp_region_held_drew (S := Tx kb vb h0 l0 l1 l2 l3 g0 m0 m1 m2 m3) (by kernel_rfl) HX0.out (fun hHeld => ?_)
  refine wpAnyH_take (i := 0) (v := ?_) rfl (by kernel_rfl) (by kernel_rfl) (by kernel_rfl) (fun _ _ _ h => h) (Or.inl ⟨by rfl, ?_⟩) (by assumption) ?_
  rotate_left
  · intro w hSw
    obtain ⟨y0, y1, y2, y3, y4, y5, y6, y7, y8, y9⟩ := hSw
    go_simp
    all_goals with_reducible rfl
  try simp only [Act.put]
  refine wpAnyH_take (i := 2) (v := ?_) rfl (by kernel_rfl) (by kernel_rfl) (by kernel_rfl) (fun _ _ _ h => h) (Or.inl ⟨by rfl, ?_⟩) (by assumption) ?_
  rotate_left
  · intro w hSw
    obtain ⟨y0, y1, y2, y3, y4, y5, y6, y7, y8, y9⟩ := hSw
    go_simp
    all_goals with_reducible rfl
  try simp only [Act.put]
  refine wpAnyH_take (i := 4) (v := ?_) rfl (by kernel_rfl) (by kernel_rfl) (by kernel_rfl) (fun _ _ _ h => h) (Or.inl ⟨by rfl, ?_⟩) (by assumption) ?_
  rotate_left
  · intro w hSw
    obtain ⟨y0, y1, y2, y3, y4, y5, y6, y7, y8, y9⟩ := hSw
    go_simp
    all_goals with_reducible rfl
  try simp only [Act.put]
  refine wpAnyH_ready (rs := [1]) (by kernel_rfl) (by simp) ?_
  refine AllReadyH.cons (o := _) rfl (fun K hK => ?_) AllReadyH.nil
  go_simp
  refine (TYK.out w0.drew).mono ?_
  rintro e w1 ⟨rfl, hb1⟩
  have hbb1 : Below w0.heap.size w0 w1 := ⟨hb1.os, hb1.tape, hb1.output, hb1.size, hb1.block⟩
  have B1 := hid_m (B0.out.trans (hbb1.mono B0.out.size))
  have HK1 := hid_m (k_blk_on hbb1 HK0.out)
  have HV1 := hid_m (k_blk_on hbb1 HV0.out)
  have HX1 := hid_m (Tx.of HK1.out HV1.out)
  clear hb1 hbb1
  go_wp2_with fail
  refine hK.out _ _ HX1.out (fun hHelda => ?_)
  clear hK K
  try simp only [Act.put]
  refine wpAnyH_ready (rs := [3]) (by kernel_rfl) (by simp) ?_
  refine AllReadyH.cons (o := _) rfl (fun K hK => ?_) AllReadyH.nil
  go_simp
  refine (TYV.out w1).mono ?_
  rintro e w2 ⟨rfl, hb2⟩
  have hbb2 : Below w1.heap.size w1 w2 := ⟨hb2.os, hb2.tape, hb2.output, hb2.size, hb2.block⟩
  have B2 := hid_m (B1.out.trans (hbb2.mono B1.out.size))
  have HK2 := hid_m (k_blk_on hbb2 HK1.out)
  have HV2 := hid_m (k_blk_on hbb2 HV1.out)
  have HX2 := hid_m (Tx.of HK2.out HV2.out)
  clear hb2 hbb2
  go_wp2_with fail
  refine hK.out _ _ HX2.out (fun hHeldb => ?_)
  clear hK K
  try simp only [Act.put]
  refine wpAnyH_ready (rs := [5]) (by kernel_rfl) (by simp) ?_
  refine AllReadyH.cons (o := _) rfl (fun K hK => ?_) AllReadyH.nil
  go_simp
  refine (HNEW.out w2).mono ?_
  rintro e w3 ⟨⟨b, a3, b3, cv, S, rfl, hbl, hblt, htb⟩, hb3⟩
  have B3 := hid_m (B2.out.trans (hb3.mono B2.out.size))
  have HK3 := hid_m (k_blk_on hb3 HK2.out)
  have HV3 := hid_m (k_blk_on hb3 HV2.out)
  have HX3 := hid_m (Tx.of HK3.out HV3.out)
  have HTB3 := hid_m htb
  have HBL : Hid (w.heap.size ≤ b ∧ b < w3.heap.size ∧ vb < b) := ⟨by have := B2.out.size; omega, hblt, by have h1 := m_blk_lt HV2.out; omega⟩
  have HSS : Hid (∀ g, S g → g < w3.heap.size) := by
    obtain ⟨by1, T1, h1, h2⟩ := htb
    exact fun g hg => (h1.own g hg).2
  clear hb3 hbl hblt htb
  go_wp2_with fail
  refine hK.out _ _ HX3.out (fun hHeldc => ?_)
  clear hK K
  try simp only [Act.put]
  refine wpAnyH_take (i := 6) (v := ?_) rfl (by kernel_rfl) (by kernel_rfl) (by kernel_rfl) (fun _ _ _ h => h) (Or.inl ⟨by rfl, ?_⟩) (by assumption) ?_
  rotate_left
  · intro w hSw
    obtain ⟨y0, y1, y2, y3, y4, y5, y6, y7, y8, y9⟩ := hSw
    go_simp
    all_goals with_reducible rfl
  try simp only [Act.put]
  refine wpAnyH_take (i := 7) (v := ?_) rfl (by kernel_rfl) (by kernel_rfl) (by kernel_rfl) (fun _ _ _ h => h) (Or.inl ⟨by rfl, ?_⟩) (by assumption) ?_
  rotate_left
  · intro w hSw
    obtain ⟨y0, y1, y2, y3, y4, y5, y6, y7, y8, y9⟩ := hSw
    go_simp
    all_goals with_reducible rfl
  try simp only [Act.put]
  refine wpAnyH_take (i := 8) (v := ?_) rfl (by kernel_rfl) (by kernel_rfl) (by kernel_rfl) (fun _ _ _ h => h) (Or.inl ⟨by rfl, ?_⟩) (by assumption) ?_
  rotate_left
  · intro w hSw
    obtain ⟨y0, y1, y2, y3, y4, y5, y6, y7, y8, y9⟩ := hSw
    go_simp
    all_goals with_reducible rfl
  try simp only [Act.put]
  refine wpAnyH_ready (rs := [9]) (by kernel_rfl) (by simp) ?_
  refine AllReadyH.cons (o := _) rfl (fun K hK => ?_) AllReadyH.nil
  go_simp
  refine hK.out _ _ HX3.out (fun hHeldd => ?_)
  clear hK K
  try simp only [Act.put]
  refine wpAnyH_ready (rs := [10]) (by kernel_rfl) (by simp) ?_
  refine AllReadyH.cons (o := _) rfl (fun K hK => ?_) AllReadyH.nil
  go_simp
  refine hK.out _ _ HX3.out (fun hHelde => ?_)
  clear hK K
  try simp only [Act.put]
  refine wpAnyH_done (by kernel_rfl) ?_ _
  go_wp2_with fail
  refine HK2'.out _ _ ?_
  clear HK2'
  refine wp_seq_k (fun K3 hK3 => ?_)
  have HK3' := hid_m hK3
  clear hK3
  go_wp2_with fail
  refine HK3'.out _ _ ?_
  refine wp_seq_k (fun K5 hK5 => ?_)
  have HK5' := hid_m hK5
  clear hK5 HK3'
  obtain ⟨y0, y1, y2, y3, y4, y5, y6, y7, y8, y9⟩ := HX3.out
  go_wp2_with fail
  have hbb : (w3.alloc (.cells (wdC (.int .i64 h0) (.int .i64 l0) (.int .i64 l1) (.int .i64 l2) (.int .i64 l3) (.int .i64 g0) (.int .i64 m0) (.int .i64 m1) (.int .i64 m2) (.int .i64 m3) (.string ⟨#[]⟩) (.string ⟨#[]⟩) (.int .i64 0) (.int .i64 n) (.slice none 0 0) (.slice none 0 0)) 37)).heap[w3.heap.size]? = some (.cells (wdC (.int .i64 h0) (.int .i64 l0) (.int .i64 l1) (.int .i64 l2) (.int .i64 l3) (.int .i64 g0) (.int .i64 m0) (.int .i64 m1) (.int .i64 m2) (.int .i64 m3) (.string ⟨#[]⟩) (.string ⟨#[]⟩) (.int .i64 0) (.int .i64 n) (.slice none 0 0) (.slice none 0 0)) 37 (0, 0)) := heap_alloc_new _ _
  have hb9 : Below w.heap.size w (w3.alloc (.cells (wdC (.int .i64 h0) (.int .i64 l0) (.int .i64 l1) (.int .i64 l2) (.int .i64 l3) (.int .i64 g0) (.int .i64 m0) (.int .i64 m1) (.int .i64 m2) (.int .i64 m3) (.string ⟨#[]⟩) (.string ⟨#[]⟩) (.int .i64 0) (.int .i64 n) (.slice none 0 0) (.slice none 0 0)) 37)) := B3.out.alloc B3.out.size _
  have hb3 : Below w3.heap.size w3 (w3.alloc (.cells (wdC (.int .i64 h0) (.int .i64 l0) (.int .i64 l1) (.int .i64 l2) (.int .i64 l3) (.int .i64 g0) (.int .i64 m0) (.int .i64 m1) (.int .i64 m2) (.int .i64 m3) (.string ⟨#[]⟩) (.string ⟨#[]⟩) (.int .i64 0) (.int .i64 n) (.slice none 0 0) (.slice none 0 0)) 37)) := (Below.refl _ _).alloc (Nat.le_refl _) _
  have hs9 : w3.heap.size + 1 = (w3.alloc (.cells (wdC (.int .i64 h0) (.int .i64 l0) (.int .i64 l1) (.int .i64 l2) (.int .i64 l3) (.int .i64 g0) (.int .i64 m0) (.int .i64 m1) (.int .i64 m2) (.int .i64 m3) (.string ⟨#[]⟩) (.string ⟨#[]⟩) (.int .i64 0) (.int .i64 n) (.slice none 0 0) (.slice none 0 0)) 37)).heap.size := by simp
  have hbs : w.heap.size ≤ w3.heap.size := B3.out.size
  unfold wdC at hbb hb9 hb3 hs9
  obtain ⟨wb, hbe⟩ : ∃ b, w3.heap.size = b := ⟨_, rfl⟩
  generalize (w3.alloc (.cells #[.int .i64 h0, .int .i64 l0, .int .i64 l1, .int .i64 l2, .int .i64 l3, .int .i64 g0, .int .i64 m0, .int .i64 m1, .int .i64 m2, .int .i64 m3, .string ⟨#[]⟩, .string ⟨#[]⟩, .int .i64 0, .int .i64 n, .slice none 0 0, .slice none 0 0] 37)) = w4 at hbb hb9 hb3 hs9 ⊢
  have HTB4 := hid_m (HTB3.out.on hb3)
  have HK4 := hid_m (k_blk_on hb3 HK3.out)
  have HV4 := hid_m (k_blk_on hb3 HV3.out)
  have HC : Hid (w.heap.size ≤ b ∧ vb < b ∧ b < wb ∧ (∀ g, S g → g < wb) ∧ w.heap.size ≤ wb ∧ wb < w4.heap.size) := ⟨HBL.out.1, HBL.out.2.2, by have := HBL.out.2.1; omega, fun g hg => by have := HSS.out g hg; omega, by omega, by omega⟩
  have HWD : Hid (Wd w4 wb w4.heap.size n (.int .i64 h0) (.int .i64 l0) (.int .i64 l1) (.int .i64 l2) (.int .i64 l3) (.int .i64 g0) (.int .i64 m0) (.int .i64 m1) (.int .i64 m2) (.int .i64 m3) (.string ⟨#[]⟩) (.string ⟨#[]⟩) (.int .i64 0) (.slice none 0 0) (.slice none 0 0) []) :=
    ⟨by rw [← hbe]; exact hbb, World.ownsRow_nil _ _ _ _, World.ownsRow_nil _ _ _ _, (fun g hg => by simp [Value.ownBlock] at hg), by omega, Nat.le_refl _, Nat.zero_le _, HN16.out.2⟩
  have B4 := hid_m hb9
  rw [hbe]
  clear hbb hb9 hb3 hs9 hbs hbe y0 y1 y2 y3 y4 y5 y6 y7 y8 y9 HTB3 HK3 HV3 HX3 HBL HSS B3
  obtain ⟨M, hM⟩ : ∃ M, w4.heap.size = M := ⟨_, rfl⟩
  rw [hM] at HWD HC
  clear hM
  refine HK5'.out _ _ ?_
  clear HK5'
  go_wp2_with fail
  go_loopw [13] (fun i wr => ∃ (t : Nat), t ≤ N ∧ i = .int .i64 t ∧ Hid (Below w.heap.size w wr) ∧ Hid (wr.heap[kb]? = some (.cells #[.int .i64 h0, .int .i64 l0, .int .i64 l1, .int .i64 l2, .int .i64 l3] 24 (0, 0)) ∧ wr.heap[vb]? = some (.cells #[.int .i64 g0, .int .i64 m0, .int .i64 m1, .int .i64 m2, .int .i64 m3] 24 (0, 0))) ∧ Hid (∃ (kvv vvv : Value) (L : List (ByteArray × ByteArray)), Wd wr wb M n (.int .i64 h0) (.int .i64 l0) (.int .i64 l1) (.int .i64 l2) (.int .i64 l3) (.int .i64 g0) (.int .i64 m0) (.int .i64 m1) (.int .i64 m2) (.int .i64 m3) (.string ⟨#[]⟩) (.string ⟨#[]⟩) (.int .i64 0) kvv vvv L ∧ TbI wr b tk tv n a3 b3 cv S L)) (fun i _ => N - (intOf i).toNat)
  case atStart => exact ⟨0, Nat.zero_le _, rfl, B4, ⟨HK4.out, HV4.out⟩, _, _, _, HWD.out, HTB4.out⟩
  case round =>
    clear HK4 HV4 HWD HTB4 B4
    obtain ⟨t, ht, rfl, hb, hkv, hsh⟩ := hrel
    by_cases hlt : t < N
    · obtain ⟨bb, oo, tt, c0, c1, c2, c3, d0, d1, d2, d3, f, hx, hbl, hc, i1, i2, i3, i4⟩ := HTS.out t hlt
      subst hx
      obtain ⟨e0, e1, e2, e3, e4, e5, e6, e7, e8, e9⟩ := hc
      have HOW : Hid (∀ w', Below w.heap.size w w' → (w'.heap[kb]? = some (.cells #[.int .i64 h0, .int .i64 l0, .int .i64 l1, .int .i64 l2, .int .i64 l3] 24 (0, 0)) ∧ w'.heap[vb]? = some (.cells #[.int .i64 g0, .int .i64 m0, .int .i64 m1, .int .i64 m2, .int .i64 m3] 24 (0, 0))) → Ox kb vb bb (oo + t * 10) h0 l0 l1 l2 l3 g0 m0 m1 m2 m3 c0 c1 c2 c3 d0 d1 d2 d3 w') := by
        intro w' hb' hk'
        obtain ⟨y0, y1, y2, y3, y4, y5, y6, y7, y8, y9⟩ := Tx.of hk'.1 hk'.2
        rw [← hb'.cell (p := ⟨bb, _, none⟩) hbl] at e1 e2 e3 e4 e5 e6 e7 e8
        exact ⟨y0, y1, y2, y3, y4, y5, y6, y7, y8, y9, e1, e2, e3, e4, e5, e6, e7, e8⟩
      rw [← hb.out.cell (p := ⟨bb, _, none⟩) hbl] at e0
      have j0 : (0 : Int) ≤ (t : Int) := Int.natCast_nonneg t
      have j1 : (t : Int) < (N : Int) := by omega
      have HTN : Hid (t + 1 ≤ N) := hlt
      have HTW : Hid (wrap64 ((t : Int) + 1) = (t : Int) + 1) := w64_id _ (by omega) (by omega)
      obtain ⟨q, hq⟩ : ∃ q, P.pickP tt 5 = q := ⟨_, rfl⟩
      have hq5 : q < 5 := by rw [← hq]; exact pick_lt tt 5 (by decide)
      obtain ⟨ta, hta⟩ : ∃ t, 1 + q = t := ⟨_, rfl⟩
      have HP5 : Hid (∀ w, Calls Tryz.prog 9 #[.int .i64 tt, .int .i64 5] w fun e w' => e = .returned (.int .i64 q) ∧ w' = w) := fun w => by rw [← hq]; exact pick_any tt 5 w (by decide) (by decide) i1.1 i1.2
      have HW5 : Hid (IntKind.i64.wrap (1 + (q : Int)) = (ta : Int)) := by unfold Hid; rw [wrap_id _ (by omega) (by omega)]; omega
      have HTA : Hid (1 ≤ ta ∧ ta ≤ 5) := by unfold Hid; omega
      obtain ⟨k, hks, hkV, hkc⟩ := HKV.out c0 c1 c2 c3 i2
      obtain ⟨v, hvs, hvV, hvc⟩ := HVV.out d0 d1 d2 d3 i3
      have HK := hid_m (And.intro hks hkV)
      have HV := hid_m (And.intro hvs hvV)
      have HKC := hid_m hkc
      have HVC := hid_m hvc
      obtain ⟨kvv, vvv, L, hwd, htb⟩ := hsh.out
      have HWD' := hid_m hwd
      have HTB' := hid_m htb
      clear ht hlt hbl i1 i2 i3 i4 hwd htb hsh hq hq5 hta hks hkV hkc hvs hvV hvc e1 e2 e3 e4 e5 e6 e7 e8 e9
      go_wp2_with fail
      refine (HP5.out _).mono ?_
      rintro e wz ⟨rfl, hwz⟩
      subst wz
      have hw5 := HW5.out
      go_wp2_with fail
      clear hw5 e0
      rename_i K10 hK10
      have HK10 := hid_m hK10
      clear hK10
      have HO0 := hid_m (HOW.out _ hb.out hkv.out)
      refine wp_region_held_drew (S := Ox kb vb bb (oo + t * 10) h0 l0 l1 l2 l3 g0 m0 m1 m2 m3 c0 c1 c2 c3 d0 d1 d2 d3) (by kernel_rfl) HO0.out (fun hHeld => ?_)
      refine wpAnyH_take (i := 0) (v := ?_) rfl (by kernel_rfl) (by kernel_rfl) (by kernel_rfl) (fun _ _ _ h => h) (Or.inl ⟨by rfl, ?_⟩) (by assumption) ?_
      rotate_left
      · intro w hSw
        obtain ⟨z0, z1, z2, z3, z4, z5, z6, z7, z8, z9, z10, z11, z12, z13, z14, z15, z16, z17⟩ := hSw
        go_simp
        all_goals with_reducible rfl
      try simp only [Act.put]
      refine wpAnyH_take (i := 1) (v := ?_) rfl (by kernel_rfl) (by kernel_rfl) (by kernel_rfl) (fun _ _ _ h => h) (Or.inl ⟨by rfl, ?_⟩) (by assumption) ?_
      rotate_left
      · intro w hSw
        obtain ⟨z0, z1, z2, z3, z4, z5, z6, z7, z8, z9, z10, z11, z12, z13, z14, z15, z16, z17⟩ := hSw
        go_simp
        all_goals with_reducible rfl
      try simp only [Act.put]
      refine wpAnyH_take (i := 2) (v := ?_) rfl (by kernel_rfl) (by kernel_rfl) (by kernel_rfl) (fun _ _ _ h => h) (Or.inl ⟨by rfl, ?_⟩) (by assumption) ?_
      rotate_left
      · intro w hSw
        obtain ⟨z0, z1, z2, z3, z4, z5, z6, z7, z8, z9, z10, z11, z12, z13, z14, z15, z16, z17⟩ := hSw
        go_simp
        all_goals with_reducible rfl
      try simp only [Act.put]
      refine wpAnyH_take (i := 3) (v := ?_) rfl (by kernel_rfl) (by kernel_rfl) (by kernel_rfl) (fun _ _ _ h => h) (Or.inl ⟨by rfl, ?_⟩) (by assumption) ?_
      rotate_left
      · intro w hSw
        obtain ⟨z0, z1, z2, z3, z4, z5, z6, z7, z8, z9, z10, z11, z12, z13, z14, z15, z16, z17⟩ := hSw
        go_simp
        all_goals with_reducible rfl
      try simp only [Act.put]
      refine wpAnyH_take (i := 4) (v := ?_) rfl (by kernel_rfl) (by kernel_rfl) (by kernel_rfl) (fun _ _ _ h => h) (Or.inl ⟨by rfl, ?_⟩) (by assumption) ?_
      rotate_left
      · intro w hSw
        obtain ⟨z0, z1, z2, z3, z4, z5, z6, z7, z8, z9, z10, z11, z12, z13, z14, z15, z16, z17⟩ := hSw
        go_simp
        all_goals with_reducible rfl
      try simp only [Act.put]
      refine wpAnyH_take (i := 5) (v := ?_) rfl (by kernel_rfl) (by kernel_rfl) (by kernel_rfl) (fun _ _ _ h => h) (Or.inl ⟨by rfl, ?_⟩) (by assumption) ?_
      rotate_left
      · intro w hSw
        obtain ⟨z0, z1, z2, z3, z4, z5, z6, z7, z8, z9, z10, z11, z12, z13, z14, z15, z16, z17⟩ := hSw
        go_simp
        all_goals with_reducible rfl
      try simp only [Act.put]
      refine wpAnyH_ready (rs := [6]) (by kernel_rfl) (by simp) ?_
      refine AllReadyH.cons (o := _) rfl (fun K hK => ?_) AllReadyH.nil
      go_simp
      refine (HKC.out wr.drew (HTAB.out _ (⟨hb.out.os, hb.out.tape, hb.out.output, hb.out.size, hb.out.block⟩ : Below w.heap.size w wr.drew))).mono ?_
      rintro e w5 ⟨rfl, hx5⟩
      have hy5 : Below wr.heap.size wr w5 := ⟨hx5.os, hx5.tape, hx5.output, hx5.size, hx5.block⟩
      have hb5 := hid_m (hb.out.trans (hy5.mono hb.out.size))
      have hkv5 : Hid (w5.heap[kb]? = some (.cells #[.int .i64 h0, .int .i64 l0, .int .i64 l1, .int .i64 l2, .int .i64 l3] 24 (0, 0)) ∧ w5.heap[vb]? = some (.cells #[.int .i64 g0, .int .i64 m0, .int .i64 m1, .int .i64 m2, .int .i64 m3] 24 (0, 0))) := ⟨k_blk_on hy5 hkv.out.1, k_blk_on hy5 hkv.out.2⟩
      have HWD5 := hid_m (HWD'.out.on hy5)
      have HTB5 := hid_m (HTB'.out.on hy5)
      have HO5 := hid_m (HOW.out _ hb5.out hkv5.out)
      clear hx5 hy5
      go_wp2_with fail
      refine hK.out _ _ HO5.out (fun hHelda => ?_)
      clear hK K
      try simp only [Act.put]
      refine wpAnyH_ready (rs := [7]) (by kernel_rfl) (by simp) ?_
      refine AllReadyH.cons (o := _) rfl (fun K hK => ?_) AllReadyH.nil
      go_simp
      refine hK.out _ _ HO5.out (fun hHeldb => ?_)
      clear hK K
      try simp only [Act.put]
      refine wpAnyH_done (by kernel_rfl) ?_ _
      go_wp2_with fail
      refine HK10.out _ _ ?_
      clear HK10
      refine wp_seq_k (fun K11 hK11 => ?_)
      have HK11 := hid_m hK11
      clear hK11
      refine wp_region_held_drew (S := Ox kb vb bb (oo + t * 10) h0 l0 l1 l2 l3 g0 m0 m1 m2 m3 c0 c1 c2 c3 d0 d1 d2 d3) (by kernel_rfl) HO5.out (fun hHeld => ?_)
      refine wpAnyH_take (i := 0) (v := ?_) rfl (by kernel_rfl) (by kernel_rfl) (by kernel_rfl) (fun _ _ _ h => h) (Or.inl ⟨by rfl, ?_⟩) (by assumption) ?_
      rotate_left
      · intro w hSw
        obtain ⟨z0, z1, z2, z3, z4, z5, z6, z7, z8, z9, z10, z11, z12, z13, z14, z15, z16, z17⟩ := hSw
        go_simp
        all_goals with_reducible rfl
      try simp only [Act.put]
      refine wpAnyH_take (i := 1) (v := ?_) rfl (by kernel_rfl) (by kernel_rfl) (by kernel_rfl) (fun _ _ _ h => h) (Or.inl ⟨by rfl, ?_⟩) (by assumption) ?_
      rotate_left
      · intro w hSw
        obtain ⟨z0, z1, z2, z3, z4, z5, z6, z7, z8, z9, z10, z11, z12, z13, z14, z15, z16, z17⟩ := hSw
        go_simp
        all_goals with_reducible rfl
      try simp only [Act.put]
      refine wpAnyH_take (i := 2) (v := ?_) rfl (by kernel_rfl) (by kernel_rfl) (by kernel_rfl) (fun _ _ _ h => h) (Or.inl ⟨by rfl, ?_⟩) (by assumption) ?_
      rotate_left
      · intro w hSw
        obtain ⟨z0, z1, z2, z3, z4, z5, z6, z7, z8, z9, z10, z11, z12, z13, z14, z15, z16, z17⟩ := hSw
        go_simp
        all_goals with_reducible rfl
      try simp only [Act.put]
      refine wpAnyH_take (i := 3) (v := ?_) rfl (by kernel_rfl) (by kernel_rfl) (by kernel_rfl) (fun _ _ _ h => h) (Or.inl ⟨by rfl, ?_⟩) (by assumption) ?_
      rotate_left
      · intro w hSw
        obtain ⟨z0, z1, z2, z3, z4, z5, z6, z7, z8, z9, z10, z11, z12, z13, z14, z15, z16, z17⟩ := hSw
        go_simp
        all_goals with_reducible rfl
      try simp only [Act.put]
      refine wpAnyH_take (i := 4) (v := ?_) rfl (by kernel_rfl) (by kernel_rfl) (by kernel_rfl) (fun _ _ _ h => h) (Or.inl ⟨by rfl, ?_⟩) (by assumption) ?_
      rotate_left
      · intro w hSw
        obtain ⟨z0, z1, z2, z3, z4, z5, z6, z7, z8, z9, z10, z11, z12, z13, z14, z15, z16, z17⟩ := hSw
        go_simp
        all_goals with_reducible rfl
      try simp only [Act.put]
      refine wpAnyH_take (i := 5) (v := ?_) rfl (by kernel_rfl) (by kernel_rfl) (by kernel_rfl) (fun _ _ _ h => h) (Or.inl ⟨by rfl, ?_⟩) (by assumption) ?_
      rotate_left
      · intro w hSw
        obtain ⟨z0, z1, z2, z3, z4, z5, z6, z7, z8, z9, z10, z11, z12, z13, z14, z15, z16, z17⟩ := hSw
        go_simp
        all_goals with_reducible rfl
      try simp only [Act.put]
      refine wpAnyH_ready (rs := [6]) (by kernel_rfl) (by simp) ?_
      refine AllReadyH.cons (o := _) rfl (fun K hK => ?_) AllReadyH.nil
      go_simp
      refine (HVC.out w5.drew (HTAB.out _ (⟨hb5.out.os, hb5.out.tape, hb5.out.output, hb5.out.size, hb5.out.block⟩ : Below w.heap.size w w5.drew))).mono ?_
      rintro e w6 ⟨rfl, hx6⟩
      have hy6 : Below w5.heap.size w5 w6 := ⟨hx6.os, hx6.tape, hx6.output, hx6.size, hx6.block⟩
      have hb6 := hid_m (hb5.out.trans (hy6.mono hb5.out.size))
      have hkv6 : Hid (w6.heap[kb]? = some (.cells #[.int .i64 h0, .int .i64 l0, .int .i64 l1, .int .i64 l2, .int .i64 l3] 24 (0, 0)) ∧ w6.heap[vb]? = some (.cells #[.int .i64 g0, .int .i64 m0, .int .i64 m1, .int .i64 m2, .int .i64 m3] 24 (0, 0))) := ⟨k_blk_on hy6 hkv5.out.1, k_blk_on hy6 hkv5.out.2⟩
      have HWD6 := hid_m (HWD5.out.on hy6)
      have HTB6 := hid_m (HTB5.out.on hy6)
      have HO6 := hid_m (HOW.out _ hb6.out hkv6.out)
      clear hx6 hy6
      go_wp2_with fail
      refine hK.out _ _ HO6.out (fun hHelda => ?_)
      clear hK K
      try simp only [Act.put]
      refine wpAnyH_ready (rs := [7]) (by kernel_rfl) (by simp) ?_
      refine AllReadyH.cons (o := _) rfl (fun K hK => ?_) AllReadyH.nil
      go_simp
      refine hK.out _ _ HO6.out (fun hHeldb => ?_)
      clear hK K
      try simp only [Act.put]
      refine wpAnyH_done (by kernel_rfl) ?_ _
      go_wp2_with fail
      refine HK11.out _ _ ?_
      clear HK11
      refine wp_seq_k (fun K12 hK12 => ?_)
      have HK12 := hid_m hK12
      clear hK12
      rcases hat : P.atK L k with _ | i
      · skip
        have HAT : Hid (Calls Tryz.prog 16 #[.pointer (some ⟨wb, 0, none⟩), .string k] w6 fun e w' => e = .returned (.int .i64 (-1)) ∧ w' = w6) := by
          have := wat_any wb M n _ _ _ _ _ _ _ _ _ _ _ _ _ _ _ L k HWD6.out
          rw [hat] at this
          exact this
        have HHA := hid_m hat
        clear hat
        go_wp2_with fail
        refine HAT.out.mono ?_
        rintro e wz ⟨rfl, hwz⟩
        subst wz
        clear HAT
        go_wp2_with fail
        refine HK12.out _ _ ?_
        clear HK12
        refine wp_seq_k (fun K13 hK13 => ?_)
        have HK13 := hid_m hK13
        clear hK13
        go_wp2_with fail
        refine HK13.out _ _ ?_
        clear HK13
        refine wp_seq_k (fun K14 hK14 => ?_)
        have HK14 := hid_m hK14
        clear hK14
        go_wp2_with fail
        refine HK14.out _ _ ?_
        clear HK14
        obtain ⟨st, hst⟩ : ∃ s, (P.mustDo n ta k v L).1 = s := ⟨_, rfl⟩
        obtain ⟨L', hL'⟩ : ∃ s, (P.mustDo n ta k v L).2 = s := ⟨_, rfl⟩
        have HM := hid_m (wmust_any wb M n _ _ _ _ _ _ _ _ _ _ _ _ _ _ _ L ta k v HWD6.out (by have := HTA.out; omega))
        rw [hst, hL'] at HM
        have HSL := hid_m (And.intro hst hL')
        clear hst hL'
        refine wp_seq_k (fun K16 hK16 => ?_)
        have HK16 := hid_m hK16
        clear hK16
        go_wp2_with fail
        refine HM.out.mono ?_
        clear HM
        rintro e w7 ⟨rfl, ⟨kv', vv', hd, hn1, hn2⟩, hf⟩
        have HWD7 := hid_m hd
        have HKL : Hid (∀ g, g < wb → w7.heap[g]? = w6.heap[g]?) := fun g hg => hf.block g (Nat.lt_trans hg HWD6.out.lt2) (by omega) (fun e => by have h1 := (HWD6.out.ok.lt g e).1; have h2 := HC.out.2.2.2.2.2; omega) (fun e => by have h1 := (HWD6.out.ov.lt g e).1; have h2 := HC.out.2.2.2.2.2; omega)
        have HTB7 := hid_m (HTB6.out.of hf.size (HKL.out b HC.out.2.2.1) (fun g hg => HKL.out g (HC.out.2.2.2.1 g hg)))
        have hb7 := hid_m (hb6.out.trans (hf.below HC.out.2.2.2.2.1 (fun g e => by have h1 := (HWD6.out.ok.lt g e).1; have h2 := HC.out.2.2.2.2; omega) (fun g e => by have h1 := (HWD6.out.ov.lt g e).1; have h2 := HC.out.2.2.2.2; omega) hb6.out.size))
        have hkv7 : Hid (w7.heap[kb]? = some (.cells #[.int .i64 h0, .int .i64 l0, .int .i64 l1, .int .i64 l2, .int .i64 l3] 24 (0, 0)) ∧ w7.heap[vb]? = some (.cells #[.int .i64 g0, .int .i64 m0, .int .i64 m1, .int .i64 m2, .int .i64 m3] 24 (0, 0))) := by
          have h1 := HC.out.2.1; have h2 := HC.out.2.2.1; have h3 := HKB.out
          exact ⟨by rw [HKL.out kb (by omega)]; exact hkv6.out.1, by rw [HKL.out vb (by omega)]; exact hkv6.out.2⟩
        clear hd hn1 hn2 hf
        go_wp2_with fail
        refine HK16.out _ _ ?_
        clear HK16
        refine wp_seq_k (fun K17 hK17 => ?_)
        have HK17 := hid_m hK17
        clear hK17
        go_wp2_with fail
        refine (asked_any b tk tv n a3 b3 cv S L ta k v ⟨#[]⟩ st L' HTB7.out HK.out.1 HV.out.1 HK.out.2 HV.out.2 HTA.out HSL.out.1 HSL.out.2 (fun i v0 h _ => by rw [HHA.out] at h; cases h) (fun w' hw' => HTAB.out w' (hb7.out.trans (hw'.below HC.out.1 (fun g e => by cases e) hb7.out.size)))).mono ?_
        rintro e w8 ⟨rfl, htb8, hfr8⟩
        have HEX : Hid (∃ (kvv vvv : Value) (L : List (ByteArray × ByteArray)), Wd w8 wb M n (.int .i64 h0) (.int .i64 l0) (.int .i64 l1) (.int .i64 l2) (.int .i64 l3) (.int .i64 g0) (.int .i64 m0) (.int .i64 m1) (.int .i64 m2) (.int .i64 m3) (.string ⟨#[]⟩) (.string ⟨#[]⟩) (.int .i64 0) kvv vvv L ∧ TbI w8 b tk tv n a3 b3 cv S L) := ⟨kv', vv', L', HWD7.out.fr hfr8 HC.out.2.2.1, htb8⟩
        have hb8 := hid_m (hb7.out.trans (hfr8.below HC.out.1 (fun g e => by cases e) hb7.out.size))
        have hkv8 : Hid (w8.heap[kb]? = some (.cells #[.int .i64 h0, .int .i64 l0, .int .i64 l1, .int .i64 l2, .int .i64 l3] 24 (0, 0)) ∧ w8.heap[vb]? = some (.cells #[.int .i64 g0, .int .i64 m0, .int .i64 m1, .int .i64 m2, .int .i64 m3] 24 (0, 0))) := by
          have h1 := HC.out.2.1; have h2 := HC.out.2.2.1; have h3 := HKB.out; have h4 := HWD7.out.lt2
          exact ⟨by rw [hfr8.block kb (by omega) (by omega) (fun e => by cases e)]; exact hkv7.out.1, by rw [hfr8.block vb (by omega) (by omega) (fun e => by cases e)]; exact hkv7.out.2⟩
        clear htb8 hfr8
        go_wp2_with fail
        refine HK17.out _ _ ?_
        clear HK17
        go_wp2_with fail
        exact ⟨⟨t + 1, HTN.out, by first | (rw [HTW.out]; exact next_t) | exact next_t, hb8, hkv8, HEX⟩, by first | (rw [HTW.out]; exact less_t HTN.out) | exact less_t HTN.out⟩
      · obtain ⟨v0, hv0⟩ := P.atK_some hat
        have HV0' := hid_m hv0
        have HVAL : Hid (i < L.length) := (List.getElem?_eq_some_iff.1 hv0).1
        clear hv0
        have HAT : Hid (Calls Tryz.prog 16 #[.pointer (some ⟨wb, 0, none⟩), .string k] w6 fun e w' => e = .returned (.int .i64 (i : Nat)) ∧ w' = w6) := by
          have := wat_any wb M n _ _ _ _ _ _ _ _ _ _ _ _ _ _ _ L k HWD6.out
          rw [hat] at this
          exact this
        have HHA := hid_m hat
        clear hat
        go_wp2_with fail
        refine HAT.out.mono ?_
        rintro e wz ⟨rfl, hwz⟩
        subst wz
        clear HAT
        go_wp2_with fail
        refine HK12.out _ _ ?_
        clear HK12
        refine wp_seq_k (fun K13 hK13 => ?_)
        have HK13 := hid_m hK13
        clear hK13
        go_wp2_with fail
        refine HK13.out _ _ ?_
        clear HK13
        obtain ⟨gg, cc, hvf, _, hgl⟩ := HWD6.out.ov.form (by have := HVAL.out; omega)
        subst hvf
        obtain ⟨hvc, hcc⟩ := val_cell HWD6.out.ov HV0'.out
        have i0 : (0 : Int) ≤ (i : Int) := Int.natCast_nonneg _
        have i1 : (i : Int) < (L.length : Int) := by have := HVAL.out; omega
        have d15 := HWD6.out.c15
        clear hgl
        refine wp_seq_k (fun K14 hK14 => ?_)
        have HK14 := hid_m hK14
        clear hK14
        go_wp2_with fail
        refine HK14.out _ _ ?_
        clear HK14
        clear hvc hcc i0 i1 d15
        obtain ⟨st, hst⟩ : ∃ s, (P.mustDo n ta k v L).1 = s := ⟨_, rfl⟩
        obtain ⟨L', hL'⟩ : ∃ s, (P.mustDo n ta k v L).2 = s := ⟨_, rfl⟩
        have HM := hid_m (wmust_any wb M n _ _ _ _ _ _ _ _ _ _ _ _ _ _ _ L ta k v HWD6.out (by have := HTA.out; omega))
        rw [hst, hL'] at HM
        have HSL := hid_m (And.intro hst hL')
        clear hst hL'
        refine wp_seq_k (fun K16 hK16 => ?_)
        have HK16 := hid_m hK16
        clear hK16
        go_wp2_with fail
        refine HM.out.mono ?_
        clear HM
        rintro e w7 ⟨rfl, ⟨kv', vv', hd, hn1, hn2⟩, hf⟩
        have HWD7 := hid_m hd
        have HKL : Hid (∀ g, g < wb → w7.heap[g]? = w6.heap[g]?) := fun g hg => hf.block g (Nat.lt_trans hg HWD6.out.lt2) (by omega) (fun e => by have h1 := (HWD6.out.ok.lt g e).1; have h2 := HC.out.2.2.2.2.2; omega) (fun e => by have h1 := (HWD6.out.ov.lt g e).1; have h2 := HC.out.2.2.2.2.2; omega)
        have HTB7 := hid_m (HTB6.out.of hf.size (HKL.out b HC.out.2.2.1) (fun g hg => HKL.out g (HC.out.2.2.2.1 g hg)))
        have hb7 := hid_m (hb6.out.trans (hf.below HC.out.2.2.2.2.1 (fun g e => by have h1 := (HWD6.out.ok.lt g e).1; have h2 := HC.out.2.2.2.2; omega) (fun g e => by have h1 := (HWD6.out.ov.lt g e).1; have h2 := HC.out.2.2.2.2; omega) hb6.out.size))
        have hkv7 : Hid (w7.heap[kb]? = some (.cells #[.int .i64 h0, .int .i64 l0, .int .i64 l1, .int .i64 l2, .int .i64 l3] 24 (0, 0)) ∧ w7.heap[vb]? = some (.cells #[.int .i64 g0, .int .i64 m0, .int .i64 m1, .int .i64 m2, .int .i64 m3] 24 (0, 0))) := by
          have h1 := HC.out.2.1; have h2 := HC.out.2.2.1; have h3 := HKB.out
          exact ⟨by rw [HKL.out kb (by omega)]; exact hkv6.out.1, by rw [HKL.out vb (by omega)]; exact hkv6.out.2⟩
        clear hd hn1 hn2 hf
        go_wp2_with fail
        refine HK16.out _ _ ?_
        clear HK16
        refine wp_seq_k (fun K17 hK17 => ?_)
        have HK17 := hid_m hK17
        clear hK17
        go_wp2_with fail
        refine (asked_any b tk tv n a3 b3 cv S L ta k v v0 st L' HTB7.out HK.out.1 HV.out.1 HK.out.2 HV.out.2 HTA.out HSL.out.1 HSL.out.2 (fun j u h hu => by rw [HHA.out] at h; cases h; rw [HV0'.out] at hu; cases hu; rfl) (fun w' hw' => HTAB.out w' (hb7.out.trans (hw'.below HC.out.1 (fun g e => by cases e) hb7.out.size)))).mono ?_
        rintro e w8 ⟨rfl, htb8, hfr8⟩
        have HEX : Hid (∃ (kvv vvv : Value) (L : List (ByteArray × ByteArray)), Wd w8 wb M n (.int .i64 h0) (.int .i64 l0) (.int .i64 l1) (.int .i64 l2) (.int .i64 l3) (.int .i64 g0) (.int .i64 m0) (.int .i64 m1) (.int .i64 m2) (.int .i64 m3) (.string ⟨#[]⟩) (.string ⟨#[]⟩) (.int .i64 0) kvv vvv L ∧ TbI w8 b tk tv n a3 b3 cv S L) := ⟨kv', vv', L', HWD7.out.fr hfr8 HC.out.2.2.1, htb8⟩
        have hb8 := hid_m (hb7.out.trans (hfr8.below HC.out.1 (fun g e => by cases e) hb7.out.size))
        have hkv8 : Hid (w8.heap[kb]? = some (.cells #[.int .i64 h0, .int .i64 l0, .int .i64 l1, .int .i64 l2, .int .i64 l3] 24 (0, 0)) ∧ w8.heap[vb]? = some (.cells #[.int .i64 g0, .int .i64 m0, .int .i64 m1, .int .i64 m2, .int .i64 m3] 24 (0, 0))) := by
          have h1 := HC.out.2.1; have h2 := HC.out.2.2.1; have h3 := HKB.out; have h4 := HWD7.out.lt2
          exact ⟨by rw [hfr8.block kb (by omega) (by omega) (fun e => by cases e)]; exact hkv7.out.1, by rw [hfr8.block vb (by omega) (by omega) (fun e => by cases e)]; exact hkv7.out.2⟩
        clear htb8 hfr8
        go_wp2_with fail
        refine HK17.out _ _ ?_
        clear HK17
        go_wp2_with fail
        exact ⟨⟨t + 1, HTN.out, by first | (rw [HTW.out]; exact next_t) | exact next_t, hb8, hkv8, HEX⟩, by first | (rw [HTW.out]; exact less_t HTN.out) | exact less_t HTN.out⟩
    · have hte : t = N := by omega
      subst hte
      clear ht hlt
      obtain ⟨kvv, vvv, L, hwd, htb⟩ := hsh.out
      obtain ⟨a, N', cap', rfl⟩ := owns_slice hwd.ok
      have hNl := hwd.len rfl
      subst hNl
      have HDW : Hid (Below wr.heap.size wr wr.drew) := ⟨rfl, rfl, rfl, Nat.le_refl _, fun _ _ => rfl⟩
      have HLN := hid_m (len_any (w := wr.drew) b tk tv n a3 b3 cv S L (htb.on HDW.out))
      have HC14 : Hid (C14 wb (.slice a L.length cap') wr) := ⟨hwd.c14, trivial⟩
      have HWF : Hid (∀ w', Fr b none wr.drew w' → C14 wb (.slice a L.length cap') w') := fun w' hf => ⟨((hwd.on HDW.out).fr hf HC.out.2.2.1).c14, trivial⟩
      have HBD : Hid (∀ w', Fr b none wr.drew w' → Below w.heap.size w w') := fun w' hf => (hb.out.trans (HDW.out.mono hb.out.size)).trans (hf.below HC.out.1 (fun g e => by cases e) hb.out.size)
      clear hwd htb hsh hkv
      go_wp2_with fail
      refine wp_region_held_drew (S := C14 wb (.slice a L.length cap')) (by kernel_rfl) HC14.out (fun hHeld => ?_)
      refine wpAnyH_take (i := 0) (v := ?_) rfl (by kernel_rfl) (by kernel_rfl) (by kernel_rfl) (fun _ _ _ h => h) (Or.inl ⟨by rfl, ?_⟩) (by assumption) ?_
      rotate_left
      · intro w hSw
        obtain ⟨z0, z1⟩ := hSw
        go_simp
        all_goals with_reducible rfl
      try simp only [Act.put]
      refine wpAnyH_take (i := 2) (v := ?_) rfl (by kernel_rfl) (by kernel_rfl) (by kernel_rfl) (fun _ _ _ h => h) (Or.inl ⟨by rfl, ?_⟩) (by assumption) ?_
      rotate_left
      · intro w hSw
        obtain ⟨z0, z1⟩ := hSw
        go_simp
        all_goals with_reducible rfl
      try simp only [Act.put]
      refine wpAnyH_take (i := 3) (v := ?_) rfl (by kernel_rfl) (by kernel_rfl) (by kernel_rfl) (fun _ _ _ h => h) (Or.inl ⟨by rfl, ?_⟩) (by assumption) ?_
      rotate_left
      · intro w hSw
        obtain ⟨z0, z1⟩ := hSw
        go_simp
        all_goals with_reducible rfl
      try simp only [Act.put]
      refine wpAnyH_take (i := 4) (v := ?_) rfl (by kernel_rfl) (by kernel_rfl) (by kernel_rfl) (fun _ _ _ h => h) (Or.inl ⟨by rfl, ?_⟩) (by assumption) ?_
      rotate_left
      · intro w hSw
        obtain ⟨z0, z1⟩ := hSw
        go_simp
        all_goals with_reducible rfl
      try simp only [Act.put]
      refine wpAnyH_take (i := 5) (v := ?_) rfl (by kernel_rfl) (by kernel_rfl) (by kernel_rfl) (fun _ _ _ h => h) (Or.inl ⟨by rfl, ?_⟩) (by assumption) ?_
      rotate_left
      · intro w hSw
        obtain ⟨z0, z1⟩ := hSw
        go_simp
        all_goals with_reducible rfl
      try simp only [Act.put]
      refine wpAnyH_take (i := 6) (v := ?_) rfl (by kernel_rfl) (by kernel_rfl) (by kernel_rfl) (fun _ _ _ h => h) (Or.inl ⟨by rfl, ?_⟩) (by assumption) ?_
      rotate_left
      · intro w hSw
        obtain ⟨z0, z1⟩ := hSw
        go_simp
        all_goals with_reducible rfl
      try simp only [Act.put]
      refine wpAnyH_ready (rs := [1]) (by kernel_rfl) (by simp) ?_
      refine AllReadyH.cons (o := _) rfl (fun K hK => ?_) AllReadyH.nil
      go_simp
      refine HLN.out.mono ?_
      rintro e w9 ⟨rfl, htb9, hfr9⟩
      have HS9 := hid_m (HWF.out _ hfr9)
      have HB9 := hid_m (HBD.out _ hfr9)
      clear htb9 hfr9
      go_wp2_with fail
      refine hK.out _ _ HS9.out (fun hHelda => ?_)
      clear hK K
      try simp only [Act.put]
      refine wpAnyH_take (i := 7) (v := ?_) rfl (by kernel_rfl) (by kernel_rfl) (by kernel_rfl) (fun _ _ _ h => h) (Or.inl ⟨by rfl, ?_⟩) (by assumption) ?_
      rotate_left
      · intro w hSw
        obtain ⟨z0, z1⟩ := hSw
        go_simp
        all_goals with_reducible rfl
      try simp only [Act.put]
      refine wpAnyH_ready (rs := [8]) (by kernel_rfl) (by simp) ?_
      refine AllReadyH.cons (o := _) rfl (fun K hK => ?_) AllReadyH.nil
      go_simp
      refine hK.out _ _ HS9.out (fun hHeldb => ?_)
      clear hK K
      try simp only [Act.put]
      refine wpAnyH_done (by kernel_rfl) ?_ _
      go_wp2_with fail
      go_ret
      exact ⟨by simp, HB9.out⟩
end Go.Proofs.YtghggcehloiemabGreatDoor
