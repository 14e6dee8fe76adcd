import Derived.Test.YtghggcehloiemabGreatDoorRefEncAll
import Derived.Test.YtghggcehloiemabGreatDoorTbHAll
import Derived.Test.YtghggcehloiemabGreatDoorLayEqAll
namespace Go.Proofs.YtghggcehloiemabGreatDoor
open Go.RowKit
set_option linter.unusedVariables false
set_option maxRecDepth 16000
/-- What may differ of what there was: blocks of O alone. -/
structure FrO (O : Nat → Prop) (w w' : World) : Prop where
  os : w'.os = w.os
  tape : w'.tape = w.tape
  output : w'.output = w.output
  size : w.heap.size ≤ w'.heap.size
  block : ∀ k, k < w.heap.size → ¬ O k → w'.heap[k]? = w.heap[k]?
theorem FrO.of_fr {O : Nat → Prop} {b : Nat} {r : Option Nat} {w w' : World} (h : Fr b r w w') (hb : O b) (hr : ∀ g, r = some g → O g) : FrO O w w' :=
  ⟨h.os, h.tape, h.output, h.size, fun k hk hn => h.block k hk (fun e => hn (e ▸ hb)) (fun e => hn (hr k e))⟩
theorem FrO.refl (O : Nat → Prop) (w : World) : FrO O w w := ⟨rfl, rfl, rfl, Nat.le_refl _, fun _ _ _ => rfl⟩
theorem FrO.of_below {O : Nat → Prop} {w w' : World} (h : Below w.heap.size w w') : FrO O w w' := ⟨h.os, h.tape, h.output, h.size, fun k hk _ => h.block k hk⟩
theorem FrO.trans {O O' : Nat → Prop} {w w1 w2 : World} (h : FrO O w w1) (k : FrO O' w1 w2) (hO : ∀ g, O' g → O g ∨ w.heap.size ≤ g) : FrO O w w2 :=
  ⟨k.os.trans h.os, k.tape.trans h.tape, k.output.trans h.output, Nat.le_trans h.size k.size, fun i hi hn => (k.block i (by have := h.size; omega) (fun e => (hO i e).elim hn (fun h => by omega))).trans (h.block i hi hn)⟩
theorem FrO.drewn {O : Nat → Prop} {w w' : World} (h : FrO O w w') (n : Nat) : FrO O w (w'.drewN n) := ⟨h.os, h.tape, h.output, h.size, h.block⟩
theorem FrO.below {O : Nat → Prop} {B : Nat} {w w' : World} (h : FrO O w w') (hO : ∀ g, O g → B ≤ g) (hw : B ≤ w.heap.size) : Below B w w' :=
  ⟨h.os, h.tape, h.output, h.size, fun k hk => h.block k (by omega) (fun e => by have := hO k e; omega)⟩
/-- A table of the program and the document's, one beside the other; O: the blocks that are theirs alone. -/
structure TwP (w : World) (x r : Nat) (tk tv : P.Ty 4) (sl M : Nat) (a3 b3 cv : Value) (S ST : Nat → Prop) (k0 k1 k2 k3 k4 v0 v1 v2 v3 v4 lv : Value) (LP LR : List (ByteArray × ByteArray)) (O : Nat → Prop) : Prop where
  tb : TbI w x tk tv sl a3 b3 cv S LP
  rt : Rt w r M sl k0 k1 k2 k3 k4 v0 v1 v2 v3 v4 lv LR
  tyk : TypAt w 4 tk (.agg #[k0, k1, k2, k3, k4]) ST
  tyv : TypAt w 4 tv (.agg #[v0, v1, v2, v3, v4]) ST
  smk : P.Sm 4 tk
  nmk : P.Nm 4 tk
  smv : P.Sm 4 tv
  nmv : P.Nm 4 tv
  sb : ∀ g, S g → g < w.heap.size ∧ g ≠ x ∧ g ≠ r
  tsb : ∀ g, ST g → g < w.heap.size ∧ g ≠ x ∧ g ≠ r
  xr : x ≠ r
  lb : ∀ g, lv.ownBlock = some g → g < w.heap.size ∧ g ≠ x ∧ ¬ S g ∧ ¬ ST g
  oo : ∀ g, g = x ∨ S g ∨ g = r ∨ ST g ∨ lv.ownBlock = some g → O g
  ob : ∀ g, O g → g < w.heap.size
section
variable {w w' : World} {x r : Nat} {tk tv : P.Ty 4} {sl M : Nat} {a3 b3 cv : Value} {S ST : Nat → Prop} {k0 k1 k2 k3 k4 v0 v1 v2 v3 v4 lv lv' : Value} {LP LR LP' LR' : List (ByteArray × ByteArray)} {O : Nat → Prop}
theorem TwP.xlt (h : TwP w x r tk tv sl M a3 b3 cv S ST k0 k1 k2 k3 k4 v0 v1 v2 v3 v4 lv LP LR O) : x < w.heap.size := h.ob x (h.oo x (Or.inl rfl))
theorem TwP.rlt (h : TwP w x r tk tv sl M a3 b3 cv S ST k0 k1 k2 k3 k4 v0 v1 v2 v3 v4 lv LP LR O) : r < w.heap.size := h.ob r (h.oo r (Or.inr (Or.inr (Or.inl rfl))))
/-- A map in memory, by its blocks. -/
theorem Mp.of {b o : Nat} {cs : Array Value} {T : TypeId} {L : List (ByteArray × ByteArray)} (h : Mp w b o M sl cs T lv L) (hs : w.heap.size ≤ w'.heap.size) (hb : w'.heap[b]? = w.heap[b]?) (hr : ∀ g, lv.ownBlock = some g → w'.heap[g]? = w.heap[g]?) : Mp w' b o M sl cs T lv L :=
  ⟨by rw [hb]; exact h.blk, h.a0, h.a1, m_owns_of h.own hr, h.lt, Nat.le_trans h.here hs, h.few, h.sl16⟩
theorem TwP.step1 (h : TwP w x r tk tv sl M a3 b3 cv S ST k0 k1 k2 k3 k4 v0 v1 v2 v3 v4 lv LP LR O) (htb : TbI w' x tk tv sl a3 b3 cv S LP') (hf : Fr x none w w') : TwP w' x r tk tv sl M a3 b3 cv S ST k0 k1 k2 k3 k4 v0 v1 v2 v3 v4 lv LP' LR O := by
  have keep : ∀ g, g < w.heap.size → g ≠ x → w'.heap[g]? = w.heap[g]? := fun g hg hn => hf.block g hg hn (fun e => by cases e)
  have hs := hf.size
  refine ⟨htb, Mp.of h.rt hs (keep r h.rlt (fun e => h.xr e.symm)) (fun g hg => keep g (h.lb g hg).1 (h.lb g hg).2.1), h.tyk.of (fun g hg => keep g (h.tsb g hg).1 (h.tsb g hg).2.1) (fun _ hg => hg), h.tyv.of (fun g hg => keep g (h.tsb g hg).1 (h.tsb g hg).2.1) (fun _ hg => hg), h.smk, h.nmk, h.smv, h.nmv, fun g hg => ?_, fun g hg => ?_, h.xr, fun g hg => ?_, h.oo, fun g hg => ?_⟩
  · have := h.sb g hg; exact ⟨by omega, this.2⟩
  · have := h.tsb g hg; exact ⟨by omega, this.2⟩
  · have := h.lb g hg; exact ⟨by omega, this.2⟩
  · have := h.ob g hg; omega
theorem TwP.step2 (h : TwP w x r tk tv sl M a3 b3 cv S ST k0 k1 k2 k3 k4 v0 v1 v2 v3 v4 lv LP LR O) (hrt : Rt w' r M sl k0 k1 k2 k3 k4 v0 v1 v2 v3 v4 lv' LR') (hn : Nx w lv lv') (hf : Fr r lv.ownBlock w w') : TwP w' x r tk tv sl M a3 b3 cv S ST k0 k1 k2 k3 k4 v0 v1 v2 v3 v4 lv' LP LR' (fun g => O g ∨ lv'.ownBlock = some g) := by
  have keep : ∀ g, g < w.heap.size → g ≠ r → lv.ownBlock ≠ some g → w'.heap[g]? = w.heap[g]? := fun g hg hn hl => hf.block g hg hn hl
  have hs := hf.size
  have ks : ∀ g, S g → w'.heap[g]? = w.heap[g]? := fun g hg => keep g (h.sb g hg).1 (h.sb g hg).2.2 (fun e => (h.lb g e).2.2.1 hg)
  have kt : ∀ g, ST g → w'.heap[g]? = w.heap[g]? := fun g hg => keep g (h.tsb g hg).1 (h.tsb g hg).2.2 (fun e => (h.lb g e).2.2.2 hg)
  have kx : w'.heap[x]? = w.heap[x]? := keep x h.xlt h.xr (fun e => (h.lb x e).2.1 rfl)
  have hl' : ∀ g, lv'.ownBlock = some g → g < w'.heap.size := fun g hg => (hrt.own.lt g hg).2
  refine ⟨h.tb.of hs kx ks, hrt, h.tyk.of kt (fun _ hg => hg), h.tyv.of kt (fun _ hg => hg), h.smk, h.nmk, h.smv, h.nmv, fun g hg => ?_, fun g hg => ?_, h.xr, fun g hg => ?_, fun g hg => ?_, fun g hg => ?_⟩
  · have := h.sb g hg; exact ⟨by omega, this.2⟩
  · have := h.tsb g hg; exact ⟨by omega, this.2⟩
  · rcases hn g hg with e | e
    · have := h.lb g e; exact ⟨by omega, this.2⟩
    · refine ⟨hl' g hg, fun e' => ?_, fun e' => ?_, fun e' => ?_⟩
      · have := h.xlt; omega
      · have := (h.sb g e').1; omega
      · have := (h.tsb g e').1; omega
  · rcases hg with hg | hg | hg | hg | hg
    · exact Or.inl (h.oo g (Or.inl hg))
    · exact Or.inl (h.oo g (Or.inr (Or.inl hg)))
    · exact Or.inl (h.oo g (Or.inr (Or.inr (Or.inl hg))))
    · exact Or.inl (h.oo g (Or.inr (Or.inr (Or.inr (Or.inl hg)))))
    · exact Or.inr hg
  · rcases hg with hg | hg
    · have := h.ob g hg; omega
    · exact hl' g hg
theorem TwP.of (h : TwP w x r tk tv sl M a3 b3 cv S ST k0 k1 k2 k3 k4 v0 v1 v2 v3 v4 lv LP LR O) (hs : w.heap.size ≤ w'.heap.size) (hO : ∀ g, O g → w'.heap[g]? = w.heap[g]?) : TwP w' x r tk tv sl M a3 b3 cv S ST k0 k1 k2 k3 k4 v0 v1 v2 v3 v4 lv LP LR O := by
  have hx := hO x (h.oo x (Or.inl rfl))
  have hr := hO r (h.oo r (Or.inr (Or.inr (Or.inl rfl))))
  have hS : ∀ g, S g → w'.heap[g]? = w.heap[g]? := fun g hg => hO g (h.oo g (Or.inr (Or.inl hg)))
  have hT : ∀ g, ST g → w'.heap[g]? = w.heap[g]? := fun g hg => hO g (h.oo g (Or.inr (Or.inr (Or.inr (Or.inl hg)))))
  have hl : ∀ g, lv.ownBlock = some g → w'.heap[g]? = w.heap[g]? := fun g hg => hO g (h.oo g (Or.inr (Or.inr (Or.inr (Or.inr hg)))))
  refine ⟨h.tb.of hs hx hS, Mp.of h.rt hs hr hl, h.tyk.of hT (fun _ hg => hg), h.tyv.of hT (fun _ hg => hg), h.smk, h.nmk, h.smv, h.nmv, fun g hg => ?_, fun g hg => ?_, h.xr, fun g hg => ?_, h.oo, fun g hg => ?_⟩
  · have := h.sb g hg; exact ⟨by omega, this.2⟩
  · have := h.tsb g hg; exact ⟨by omega, this.2⟩
  · have := h.lb g hg; exact ⟨by omega, this.2⟩
  · have := h.ob g hg; omega
end
/-- A twin. -/
def Tw (w : World) (x r : Nat) (O : Nat → Prop) : Prop := ∃ (tk tv : P.Ty 4) (sl M : Nat) (a3 b3 cv : Value) (S ST : Nat → Prop) (k0 k1 k2 k3 k4 v0 v1 v2 v3 v4 lv : Value) (L : List (ByteArray × ByteArray)), TwP w x r tk tv sl M a3 b3 cv S ST k0 k1 k2 k3 k4 v0 v1 v2 v3 v4 lv L L O
theorem Tw.of {w w' : World} {x r : Nat} {O : Nat → Prop} (h : Tw w x r O) (hs : w.heap.size ≤ w'.heap.size) (hO : ∀ g, O g → w'.heap[g]? = w.heap[g]?) : Tw w' x r O := by
  obtain ⟨tk, tv, sl, M, a3, b3, cv, S, ST, k0, k1, k2, k3, k4, v0, v1, v2, v3, v4, lv, L, h⟩ := h
  exact ⟨tk, tv, sl, M, a3, b3, cv, S, ST, k0, k1, k2, k3, k4, v0, v1, v2, v3, v4, lv, L, h.of hs hO⟩
theorem Tw.lt {w : World} {x r : Nat} {O : Nat → Prop} (h : Tw w x r O) : ∀ g, O g → g < w.heap.size := by
  obtain ⟨tk, tv, sl, M, a3, b3, cv, S, ST, k0, k1, k2, k3, k4, v0, v1, v2, v3, v4, lv, L, h⟩ := h
  exact h.ob
/-- What a call of a twin answers, and what there is then. -/
structure HeldP (w w' : World) (e : Ending) (x r : Nat) (O : Nat → Prop) : Prop where
  ret : e = .returned (.bool true)
  tw : ∃ O' : Nat → Prop, Tw w' x r O' ∧ ∀ g, O' g → O g ∨ w.heap.size ≤ g
  fr : FrO O w w'
theorem Nx.refl (w : World) (v : Value) : Nx w v v := fun g hg => Or.inl hg
/-- Both calls of a twin. -/
theorem held_of {w w1 w2 : World} {x r : Nat} {tk tv : P.Ty 4} {sl M : Nat} {a3 b3 cv : Value} {S ST : Nat → Prop} {k0 k1 k2 k3 k4 v0 v1 v2 v3 v4 lv lv' : Value} {L L' : List (ByteArray × ByteArray)} {O : Nat → Prop}
    (h : TwP w x r tk tv sl M a3 b3 cv S ST k0 k1 k2 k3 k4 v0 v1 v2 v3 v4 lv L L O) (htb : TbI w1 x tk tv sl a3 b3 cv S L') (hf : Fr x none w w1) (hrt : Rt w2 r M sl k0 k1 k2 k3 k4 v0 v1 v2 v3 v4 lv' L') (hn : Nx w1 lv lv') (hf2 : Fr r lv.ownBlock w1 w2) : HeldP w w2 (.returned (.bool true)) x r O := by
  have h1 := h.step1 htb hf
  have h2 := h1.step2 hrt hn hf2
  have s1 := hf.size
  refine ⟨rfl, ⟨_, ⟨tk, tv, sl, M, a3, b3, cv, S, ST, k0, k1, k2, k3, k4, v0, v1, v2, v3, v4, lv', L', h2⟩, fun g hg => ?_⟩, ?_⟩
  · rcases hg with hg | hg
    · exact Or.inl hg
    · rcases hn g hg with e | e
      · exact Or.inl (h.oo g (Or.inr (Or.inr (Or.inr (Or.inr e)))))
      · exact Or.inr (by omega)
  · exact (FrO.of_fr hf (h.oo x (Or.inl rfl)) (fun g e => by cases e)).trans (FrO.of_fr (O := O) hf2 (h.oo r (Or.inr (Or.inr (Or.inl rfl)))) (fun g e => h.oo g (Or.inr (Or.inr (Or.inr (Or.inr e)))))) (fun g hg => Or.inl hg)
end Go.Proofs.YtghggcehloiemabGreatDoor
namespace Go.Proofs.YtghggcehloiemabGreatDoor
open Go.RowKit
set_option linter.unusedVariables false
set_option maxRecDepth 16000
theorem map2_st (sl : Nat) (k v : ByteArray) (L : List (ByteArray × ByteArray)) : (P.mapDo sl 2 k v L).1 = 0 ∨ (P.mapDo sl 2 k v L).1 = 2 := by
  unfold P.mapDo
  rw [if_neg (by decide), if_pos rfl]
  cases P.atK L k with
  | some i => exact Or.inl rfl
  | none =>
    simp only
    by_cases hf : sl ≤ L.length
    · rw [if_pos hf]; exact Or.inr rfl
    · rw [if_neg hf]; exact Or.inl rfl
theorem map3_st (sl : Nat) (k v : ByteArray) (L : List (ByteArray × ByteArray)) : (P.mapDo sl 3 k v L).1 = 0 ∨ (P.mapDo sl 3 k v L).1 = 1 := by
  unfold P.mapDo
  rw [if_neg (by decide), if_neg (by decide), if_pos rfl]
  cases P.atK L k with
  | some i => exact Or.inl rfl
  | none => exact Or.inr rfl
section
variable {w w' : World} {e : Ending} {r M sl : Nat} {k0 k1 k2 k3 k4 v0 v1 v2 v3 v4 lv : Value} {L L' : List (ByteArray × ByteArray)} {k v : ByteArray} {tk tv : P.Ty 4} {er : Nat}
theorem put_same (hsk : P.Sm 4 tk) (hnk : P.Nm 4 tk) (hsv : P.Sm 4 tv) (hnv : P.Nm 4 tv) (hp : PutE tk tv sl k v L er L') (hr : PutP w w' e r M sl k0 k1 k2 k3 k4 v0 v1 v2 v3 v4 lv L k v tk tv) :
    e = .returned (.int .i64 (er : Nat)) ∧ ∃ lv', Rt w' r M sl k0 k1 k2 k3 k4 v0 v1 v2 v3 v4 lv' L' ∧ Nx w lv lv' ∧ Fr r lv.ownBlock w w' := by
  have ik := tw_lie_val hsk hnk k.data.toList
  have iv := tw_lie_val hsv hnv v.data.toList
  rcases hp with ⟨hn, rfl, rfl⟩ | ⟨⟨hy1, hy2⟩, her, rfl⟩
  · rcases hr with ⟨h1, h2, h3, h4⟩ | ⟨h1, _⟩
    · exact ⟨h2, lv, h3, Nx.refl _ _, h4⟩
    · rw [Bool.and_eq_true] at h1
      exact absurd ⟨ik.1 h1.1, iv.1 h1.2⟩ hn
  · rcases hr with ⟨h1, _⟩ | ⟨h1, h2, ⟨lv', h3, h4⟩, h5⟩
    · rw [ik.2 hy1, iv.2 hy2] at h1; cases h1
    · refine ⟨?_, lv', h3, h4, h5⟩
      rw [h2, her]
      rcases map2_st sl k v L with q | q
      · rw [q]; rfl
      · rw [q]; rfl
theorem drop_same (hsk : P.Sm 4 tk) (hnk : P.Nm 4 tk) (hp : KeyE tk sl 3 k L er L') (hr : DropP w w' e r M sl k0 k1 k2 k3 k4 v0 v1 v2 v3 v4 lv L k ⟨#[]⟩ tk) :
    e = .returned (.int .i64 (er : Nat)) ∧ ∃ lv', Rt w' r M sl k0 k1 k2 k3 k4 v0 v1 v2 v3 v4 lv' L' ∧ Nx w lv lv' ∧ Fr r lv.ownBlock w w' := by
  have ik := tw_lie_val hsk hnk k.data.toList
  rcases hp with ⟨hn, rfl, rfl⟩ | ⟨hy1, her, rfl⟩
  · rcases hr with ⟨h1, h2, h3, h4⟩ | ⟨h1, _⟩
    · exact ⟨h2, lv, h3, Nx.refl _ _, h4⟩
    · exact absurd (ik.1 h1) hn
  · rcases hr with ⟨h1, _⟩ | ⟨h1, h2, ⟨lv', h3, h4⟩, h5⟩
    · rw [ik.2 hy1] at h1; cases h1
    · refine ⟨?_, lv', h3, h4, h5⟩
      rw [h2, her]
      rcases map3_st sl k ⟨#[]⟩ L with q | q
      · rw [q]; rfl
      · rw [q]; rfl
theorem get_same {u : ByteArray} (hsk : P.Sm 4 tk) (hnk : P.Nm 4 tk) (hp : GetE tk k L u er) (hr : GetP w w' e r M sl k0 k1 k2 k3 k4 v0 v1 v2 v3 v4 lv L k tk) :
    e = .returned (.tuple #[.string u, .int .i64 (er : Nat)]) ∧ Rt w' r M sl k0 k1 k2 k3 k4 v0 v1 v2 v3 v4 lv L ∧ Below w.heap.size w w' := by
  have ik := tw_lie_val hsk hnk k.data.toList
  obtain ⟨hr, h8, h9⟩ := hr
  refine ⟨?_, h8, h9⟩
  rcases hp with ⟨hn, rfl, rfl⟩ | ⟨hy, ha, rfl, rfl⟩ | ⟨hy, rfl, i, ha, hi⟩
  · rcases hr with ⟨h1, h2⟩ | ⟨h1, _⟩ | ⟨h1, _⟩
    · exact h2
    · exact absurd (ik.1 h1) hn
    · exact absurd (ik.1 h1) hn
  · rcases hr with ⟨h1, h2⟩ | ⟨h1, h2, h3⟩ | ⟨h1, j, y, h2, _⟩
    · rw [ik.2 hy] at h1; cases h1
    · exact h3
    · rw [ha] at h2; cases h2
  · rcases hr with ⟨h1, h2⟩ | ⟨h1, h2, h3⟩ | ⟨h1, j, y, h2, h3, h4⟩
    · rw [ik.2 hy] at h1; cases h1
    · rw [ha] at h2; cases h2
    · rw [ha] at h2
      cases h2
      rw [hi] at h3
      cases h3
      exact h4
end
end Go.Proofs.YtghggcehloiemabGreatDoor
namespace Go.Proofs.YtghggcehloiemabGreatDoor
open Go.RowKit
set_option linter.unusedVariables false
set_option maxRecDepth 16000
/-- Where 'held' keeps its twin and its step. -/
def HB (w : World) (ta oa x r : Nat) (kd on a b c d : Int) (s t : ByteArray) : Prop := w.heap[ta]? = some (.cells #[.pointer (some ⟨x, 0, none⟩), .pointer (some ⟨r, 0, none⟩)] 93 (0, 0)) ∧ w.heap[oa]? = some (.cells #[.int .i64 kd, .int .i64 on, .int .i64 a, .int .i64 b, .int .i64 c, .int .i64 d, .string s, .string t] 86 (0, 0))
section
variable {w w' : World} {ta oa x r : Nat} {kd on a b c d : Int} {s t : ByteArray}
theorem HB.cells (h : HB w ta oa x r kd on a b c d s t) : w.cell? ⟨ta, 0, none⟩ = some (.pointer (some ⟨x, 0, none⟩)) ∧ w.cell? ⟨ta, 1, none⟩ = some (.pointer (some ⟨r, 0, none⟩)) ∧ w.cell? ⟨oa, 0, none⟩ = some (.int .i64 kd) ∧ w.cell? ⟨oa, 6, none⟩ = some (.string s) ∧ w.cell? ⟨oa, 7, none⟩ = some (.string t) := by
  refine ⟨?_, ?_, ?_, ?_, ?_⟩
  · rw [cell_of_row _ _ _ _ _ _ h.1]; rfl
  · rw [cell_of_row _ _ _ _ _ _ h.1]; rfl
  · rw [cell_of_row _ _ _ _ _ _ h.2]; rfl
  · rw [cell_of_row _ _ _ _ _ _ h.2]; rfl
  · rw [cell_of_row _ _ _ _ _ _ h.2]; rfl
theorem HB.fr (h : HB w ta oa x r kd on a b c d s t) (hf : Fr x none w w') (h1 : x ≠ ta) (h2 : x ≠ oa) : HB w' ta oa x r kd on a b c d s t :=
  ⟨by rw [hf.block ta (m_blk_lt h.1) (fun e => h1 e.symm) (fun e => by cases e)]; exact h.1, by rw [hf.block oa (m_blk_lt h.2) (fun e => h2 e.symm) (fun e => by cases e)]; exact h.2⟩
end
theorem HB.new (w : World) (x r : Nat) (kd on a b c d : Int) (s t : ByteArray) : HB ((w.alloc (.cells #[.pointer (some ⟨x, 0, none⟩), .pointer (some ⟨r, 0, none⟩)] 93)).alloc (.cells #[.int .i64 kd, .int .i64 on, .int .i64 a, .int .i64 b, .int .i64 c, .int .i64 d, .string s, .string t] 86)) w.heap.size (w.heap.size + 1) x r kd on a b c d s t := by
  refine ⟨?_, ?_⟩
  · rw [Below.heap_alloc _ _ _ (by simp)]; exact heap_alloc_new w _
  · have := heap_alloc_new (w.alloc (.cells #[.pointer (some ⟨x, 0, none⟩), .pointer (some ⟨r, 0, none⟩)] 93)) (.cells #[.int .i64 kd, .int .i64 on, .int .i64 a, .int .i64 b, .int .i64 c, .int .i64 d, .string s, .string t] 86)
    simpa using this
theorem HeldP.up {w w0 w' : World} {e : Ending} {x r : Nat} {O : Nat → Prop} (h : HeldP w0 w' e x r O) (hb : Below w.heap.size w w0) : HeldP w w' e x r O := by
  obtain ⟨O', h1, h2⟩ := h.tw
  have hs := hb.size
  exact ⟨h.ret, ⟨O', h1, fun g hg => (h2 g hg).imp_right (fun x => by omega)⟩, (FrO.of_below hb).trans h.fr (fun g hg => Or.inl hg)⟩
set_option maxHeartbeats 4000000 in
theorem held_len {w : World} (x r : Nat) (O : Nat → Prop) (on a b c d : Int) (s t : ByteArray) (h : Tw w x r O) :
    Calls Tryz.prog 45 #[.agg #[.pointer (some ⟨x, 0, none⟩), .pointer (some ⟨r, 0, none⟩)], .agg #[.int .i64 12, .int .i64 on, .int .i64 a, .int .i64 b, .int .i64 c, .int .i64 d, .string s, .string t]] w fun e w' => HeldP w w' e x r O := by
  obtain ⟨tk, tv, sl, M, a3, b3, cv, S, ST, k0, k1, k2, k3, k4, v0, v1, v2, v3, v4, lv, L, h⟩ := h
  have hA : Below w.heap.size w ((w.alloc (.cells #[.pointer (some ⟨x, 0, none⟩), .pointer (some ⟨r, 0, none⟩)] 93)).alloc (.cells #[.int .i64 12, .int .i64 on, .int .i64 a, .int .i64 b, .int .i64 c, .int .i64 d, .string s, .string t] 86)) := ((Below.refl _ _).alloc (Nat.le_refl _) _).alloc (by simp) _
  have H0 := hid_m (h.of hA.size (fun g hg => hA.block g (h.ob g hg)))
  have B0 := hid_m hA
  have HB0 := hid_m (HB.new w x r 12 on a b c d s t)
  have HXL := hid_m (And.intro (Nat.ne_of_lt h.xlt) (Nat.ne_of_lt (Nat.lt_succ_of_lt h.xlt)))
  clear h hA
  go_enter Tryz.func45, Tryz.ntmps45
  go_wp2_with fail
  obtain ⟨w0, hw0⟩ : ∃ W, ((w.alloc (.cells #[.pointer (some ⟨x, 0, none⟩), .pointer (some ⟨r, 0, none⟩)] 93)).alloc (.cells #[.int .i64 12, .int .i64 on, .int .i64 a, .int .i64 b, .int .i64 c, .int .i64 d, .string s, .string t] 86)) = W := ⟨_, rfl⟩
  obtain ⟨ta, hta⟩ : ∃ x, w.heap.size = x := ⟨_, rfl⟩
  obtain ⟨oa, hoa⟩ : ∃ x, w.heap.size + 1 = x := ⟨_, rfl⟩
  rw [hw0] at H0 B0 HB0
  try rw [hw0]
  rw [hoa] at HB0
  rw [hta] at HB0
  have HNE : Hid (x ≠ ta ∧ x ≠ oa) := ⟨by rw [← hta]; exact HXL.out.1, by rw [← hoa]; exact HXL.out.2⟩
  try rw [hoa]
  try rw [hta]
  clear hw0 hta hoa HXL
  refine (len_any x tk tv sl a3 b3 cv S L H0.out.tb).mono ?_
  rintro e w1 ⟨rfl, htb, hfr⟩
  have H1 := hid_m (H0.out.step1 htb hfr)
  have HF := hid_m (And.intro htb hfr)
  have HB1 := hid_m (HB0.out.fr hfr HNE.out.1 HNE.out.2)
  obtain ⟨y0, y1, y2, y3, y4⟩ := HB1.out.cells
  clear htb hfr
  go_wp2_with fail
  refine (rtLen_any r M sl _ lv L H1.out.rt).mono ?_
  rintro e w2 ⟨rfl, hw2⟩
  subst w2
  go_wp2_with fail
  go_ret
  have hfin := (held_of H0.out HF.out.1 HF.out.2 H1.out.rt (Nx.refl _ _) (Fr.refl _ _ _)).up B0.out
  simpa using hfin
set_option maxHeartbeats 4000000 in
theorem held_clear {w : World} (x r : Nat) (O : Nat → Prop) (on a b c d : Int) (s t : ByteArray) (h : Tw w x r O) :
    Calls Tryz.prog 45 #[.agg #[.pointer (some ⟨x, 0, none⟩), .pointer (some ⟨r, 0, none⟩)], .agg #[.int .i64 13, .int .i64 on, .int .i64 a, .int .i64 b, .int .i64 c, .int .i64 d, .string s, .string t]] w fun e w' => HeldP w w' e x r O := by
  obtain ⟨tk, tv, sl, M, a3, b3, cv, S, ST, k0, k1, k2, k3, k4, v0, v1, v2, v3, v4, lv, L, h⟩ := h
  have hA : Below w.heap.size w ((w.alloc (.cells #[.pointer (some ⟨x, 0, none⟩), .pointer (some ⟨r, 0, none⟩)] 93)).alloc (.cells #[.int .i64 13, .int .i64 on, .int .i64 a, .int .i64 b, .int .i64 c, .int .i64 d, .string s, .string t] 86)) := ((Below.refl _ _).alloc (Nat.le_refl _) _).alloc (by simp) _
  have H0 := hid_m (h.of hA.size (fun g hg => hA.block g (h.ob g hg)))
  have B0 := hid_m hA
  have HB0 := hid_m (HB.new w x r 13 on a b c d s t)
  have HXL := hid_m (And.intro (Nat.ne_of_lt h.xlt) (Nat.ne_of_lt (Nat.lt_succ_of_lt h.xlt)))
  clear h hA
  go_enter Tryz.func45, Tryz.ntmps45
  go_wp2_with fail
  obtain ⟨w0, hw0⟩ : ∃ W, ((w.alloc (.cells #[.pointer (some ⟨x, 0, none⟩), .pointer (some ⟨r, 0, none⟩)] 93)).alloc (.cells #[.int .i64 13, .int .i64 on, .int .i64 a, .int .i64 b, .int .i64 c, .int .i64 d, .string s, .string t] 86)) = W := ⟨_, rfl⟩
  obtain ⟨ta, hta⟩ : ∃ x, w.heap.size = x := ⟨_, rfl⟩
  obtain ⟨oa, hoa⟩ : ∃ x, w.heap.size + 1 = x := ⟨_, rfl⟩
  rw [hw0] at H0 B0 HB0
  try rw [hw0]
  rw [hoa] at HB0
  rw [hta] at HB0
  have HNE : Hid (x ≠ ta ∧ x ≠ oa) := ⟨by rw [← hta]; exact HXL.out.1, by rw [← hoa]; exact HXL.out.2⟩
  try rw [hoa]
  try rw [hta]
  clear hw0 hta hoa HXL
  refine (clear_any x tk tv sl a3 b3 cv S L H0.out.tb).mono ?_
  rintro e w1 ⟨rfl, htb, hfr⟩
  have H1 := hid_m (H0.out.step1 htb hfr)
  have HF := hid_m (And.intro htb hfr)
  have HB1 := hid_m (HB0.out.fr hfr HNE.out.1 HNE.out.2)
  obtain ⟨y0, y1, y2, y3, y4⟩ := HB1.out.cells
  clear htb hfr
  go_wp2_with fail
  refine (rtClear_any r M sl _ lv L H1.out.rt).mono ?_
  rintro e w2 ⟨rfl, hrt, hfr2⟩
  have HR : Hid (Rt w2 r M sl k0 k1 k2 k3 k4 v0 v1 v2 v3 v4 (.slice none 0 0) [] ∧ Fr r lv.ownBlock w1 w2) := ⟨hrt, hfr2⟩
  clear hrt hfr2 y0 y1 y2 y3 y4
  go_wp2_with fail
  go_ret
  exact (held_of H0.out HF.out.1 HF.out.2 HR.out.1 (fun g hg => by simp [Value.ownBlock] at hg) HR.out.2).up B0.out
set_option maxHeartbeats 4000000 in
theorem held_put {w : World} (x r : Nat) (O : Nat → Prop) (on a b c d : Int) (s t : ByteArray) (h : Tw w x r O) (hs : s.size ≤ 1048576) (ht : t.size ≤ 1048576) :
    Calls Tryz.prog 45 #[.agg #[.pointer (some ⟨x, 0, none⟩), .pointer (some ⟨r, 0, none⟩)], .agg #[.int .i64 9, .int .i64 on, .int .i64 a, .int .i64 b, .int .i64 c, .int .i64 d, .string s, .string t]] w fun e w' => HeldP w w' e x r O := by
  obtain ⟨tk, tv, sl, M, a3, b3, cv, S, ST, k0, k1, k2, k3, k4, v0, v1, v2, v3, v4, lv, L, h⟩ := h
  have hA : Below w.heap.size w ((w.alloc (.cells #[.pointer (some ⟨x, 0, none⟩), .pointer (some ⟨r, 0, none⟩)] 93)).alloc (.cells #[.int .i64 9, .int .i64 on, .int .i64 a, .int .i64 b, .int .i64 c, .int .i64 d, .string s, .string t] 86)) := ((Below.refl _ _).alloc (Nat.le_refl _) _).alloc (by simp) _
  have H0 := hid_m (h.of hA.size (fun g hg => hA.block g (h.ob g hg)))
  have B0 := hid_m hA
  have HB0 := hid_m (HB.new w x r 9 on a b c d s t)
  have HXL := hid_m (And.intro (Nat.ne_of_lt h.xlt) (Nat.ne_of_lt (Nat.lt_succ_of_lt h.xlt)))
  clear h hA
  have HSZ := hid_m (And.intro hs ht)
  have HML : Hid (s.size ≤ maxLen ∧ t.size ≤ maxLen) := by unfold Hid maxLen; omega
  clear hs ht
  go_enter Tryz.func45, Tryz.ntmps45
  go_wp2_with fail
  obtain ⟨w0, hw0⟩ : ∃ W, ((w.alloc (.cells #[.pointer (some ⟨x, 0, none⟩), .pointer (some ⟨r, 0, none⟩)] 93)).alloc (.cells #[.int .i64 9, .int .i64 on, .int .i64 a, .int .i64 b, .int .i64 c, .int .i64 d, .string s, .string t] 86)) = W := ⟨_, rfl⟩
  obtain ⟨ta, hta⟩ : ∃ x, w.heap.size = x := ⟨_, rfl⟩
  obtain ⟨oa, hoa⟩ : ∃ x, w.heap.size + 1 = x := ⟨_, rfl⟩
  rw [hw0] at H0 B0 HB0
  try rw [hw0]
  rw [hoa] at HB0
  rw [hta] at HB0
  have HNE : Hid (x ≠ ta ∧ x ≠ oa) := ⟨by rw [← hta]; exact HXL.out.1, by rw [← hoa]; exact HXL.out.2⟩
  try rw [hoa]
  try rw [hta]
  clear hw0 hta hoa HXL
  refine (put_any x tk tv sl a3 b3 cv S L s t H0.out.tb HML.out.1 HML.out.2).mono ?_
  rintro e w1 ⟨er, L', rfl, hpe, htb, hfr⟩
  have H1 := hid_m (H0.out.step1 htb hfr)
  have HF := hid_m (And.intro htb hfr)
  have HPE := hid_m hpe
  have HB1 := hid_m (HB0.out.fr hfr HNE.out.1 HNE.out.2)
  obtain ⟨y0, y1, y2, y3, y4⟩ := HB1.out.cells
  clear htb hfr hpe
  go_wp2_with fail
  refine (rtPut_any r M sl k0 k1 k2 k3 k4 v0 v1 v2 v3 v4 lv L s t tk tv ST H1.out.rt H1.out.smk H1.out.smv H1.out.tyk (fun w' hb => H1.out.tyv.of (fun g hg => hb.block g (H1.out.tsb g hg).1) (fun g hg => hg)) (fun g hg => (H1.out.tsb g hg).1) (by have := HSZ.out; omega) (by have := HSZ.out; omega)).mono ?_
  rintro e w2 hpp
  obtain ⟨rfl, lv', hrt, hnx, hfr2⟩ := put_same H1.out.smk H1.out.nmk H1.out.smv H1.out.nmv HPE.out hpp
  have HR := hid_m (And.intro hrt (And.intro hnx hfr2))
  clear hrt hnx hfr2 hpp y0 y1 y2 y3 y4
  go_wp2_with fail
  refine (p_num_any _ _).mono ?_
  rintro e w3 ⟨rfl, hw3⟩
  subst w3
  go_wp2_with fail
  go_ret
  have hfin := (held_of H0.out HF.out.1 HF.out.2 HR.out.1 HR.out.2.1 HR.out.2.2).up B0.out
  simpa using hfin
set_option maxHeartbeats 4000000 in
theorem held_drop {w : World} (x r : Nat) (O : Nat → Prop) (on a b c d : Int) (s t : ByteArray) (h : Tw w x r O) (hs : s.size ≤ 1048576) (ht : t.size ≤ 1048576) :
    Calls Tryz.prog 45 #[.agg #[.pointer (some ⟨x, 0, none⟩), .pointer (some ⟨r, 0, none⟩)], .agg #[.int .i64 11, .int .i64 on, .int .i64 a, .int .i64 b, .int .i64 c, .int .i64 d, .string s, .string t]] w fun e w' => HeldP w w' e x r O := by
  obtain ⟨tk, tv, sl, M, a3, b3, cv, S, ST, k0, k1, k2, k3, k4, v0, v1, v2, v3, v4, lv, L, h⟩ := h
  have hA : Below w.heap.size w ((w.alloc (.cells #[.pointer (some ⟨x, 0, none⟩), .pointer (some ⟨r, 0, none⟩)] 93)).alloc (.cells #[.int .i64 11, .int .i64 on, .int .i64 a, .int .i64 b, .int .i64 c, .int .i64 d, .string s, .string t] 86)) := ((Below.refl _ _).alloc (Nat.le_refl _) _).alloc (by simp) _
  have H0 := hid_m (h.of hA.size (fun g hg => hA.block g (h.ob g hg)))
  have B0 := hid_m hA
  have HB0 := hid_m (HB.new w x r 11 on a b c d s t)
  have HXL := hid_m (And.intro (Nat.ne_of_lt h.xlt) (Nat.ne_of_lt (Nat.lt_succ_of_lt h.xlt)))
  clear h hA
  have HSZ := hid_m (And.intro hs ht)
  have HML : Hid (s.size ≤ maxLen ∧ t.size ≤ maxLen) := by unfold Hid maxLen; omega
  clear hs ht
  go_enter Tryz.func45, Tryz.ntmps45
  go_wp2_with fail
  obtain ⟨w0, hw0⟩ : ∃ W, ((w.alloc (.cells #[.pointer (some ⟨x, 0, none⟩), .pointer (some ⟨r, 0, none⟩)] 93)).alloc (.cells #[.int .i64 11, .int .i64 on, .int .i64 a, .int .i64 b, .int .i64 c, .int .i64 d, .string s, .string t] 86)) = W := ⟨_, rfl⟩
  obtain ⟨ta, hta⟩ : ∃ x, w.heap.size = x := ⟨_, rfl⟩
  obtain ⟨oa, hoa⟩ : ∃ x, w.heap.size + 1 = x := ⟨_, rfl⟩
  rw [hw0] at H0 B0 HB0
  try rw [hw0]
  rw [hoa] at HB0
  rw [hta] at HB0
  have HNE : Hid (x ≠ ta ∧ x ≠ oa) := ⟨by rw [← hta]; exact HXL.out.1, by rw [← hoa]; exact HXL.out.2⟩
  try rw [hoa]
  try rw [hta]
  clear hw0 hta hoa HXL
  refine (drop_any x tk tv sl a3 b3 cv S L s H0.out.tb HML.out.1).mono ?_
  rintro e w1 ⟨er, L', rfl, hpe, htb, hfr⟩
  have H1 := hid_m (H0.out.step1 htb hfr)
  have HF := hid_m (And.intro htb hfr)
  have HPE := hid_m hpe
  have HB1 := hid_m (HB0.out.fr hfr HNE.out.1 HNE.out.2)
  obtain ⟨y0, y1, y2, y3, y4⟩ := HB1.out.cells
  clear htb hfr hpe
  go_wp2_with fail
  refine (rtDrop_any r M sl k0 k1 k2 k3 k4 v0 v1 v2 v3 v4 lv L s ⟨#[]⟩ tk ST H1.out.rt H1.out.smk H1.out.tyk (fun g hg => (H1.out.tsb g hg).1) (by have := HSZ.out; omega)).mono ?_
  rintro e w2 hpp
  obtain ⟨rfl, lv', hrt, hnx, hfr2⟩ := drop_same H1.out.smk H1.out.nmk HPE.out hpp
  have HR := hid_m (And.intro hrt (And.intro hnx hfr2))
  clear hrt hnx hfr2 hpp y0 y1 y2 y3 y4
  go_wp2_with fail
  refine (p_num_any _ _).mono ?_
  rintro e w3 ⟨rfl, hw3⟩
  subst w3
  go_wp2_with fail
  go_ret
  have hfin := (held_of H0.out HF.out.1 HF.out.2 HR.out.1 HR.out.2.1 HR.out.2.2).up B0.out
  simpa using hfin
set_option maxHeartbeats 4000000 in
theorem held_get {w : World} (x r : Nat) (O : Nat → Prop) (on a b c d : Int) (s t : ByteArray) (h : Tw w x r O) (hs : s.size ≤ 1048576) (ht : t.size ≤ 1048576) (htab : ∀ w', FrO O w w' → Lib.TabIs Tryz.prog w' "internal/strconv.uint64pow10" .u64 Lib.pow10Tab) :
    Calls Tryz.prog 45 #[.agg #[.pointer (some ⟨x, 0, none⟩), .pointer (some ⟨r, 0, none⟩)], .agg #[.int .i64 10, .int .i64 on, .int .i64 a, .int .i64 b, .int .i64 c, .int .i64 d, .string s, .string t]] w fun e w' => HeldP w w' e x r O := by
  obtain ⟨tk, tv, sl, M, a3, b3, cv, S, ST, k0, k1, k2, k3, k4, v0, v1, v2, v3, v4, lv, L, h⟩ := h
  have hA : Below w.heap.size w ((w.alloc (.cells #[.pointer (some ⟨x, 0, none⟩), .pointer (some ⟨r, 0, none⟩)] 93)).alloc (.cells #[.int .i64 10, .int .i64 on, .int .i64 a, .int .i64 b, .int .i64 c, .int .i64 d, .string s, .string t] 86)) := ((Below.refl _ _).alloc (Nat.le_refl _) _).alloc (by simp) _
  have H0 := hid_m (h.of hA.size (fun g hg => hA.block g (h.ob g hg)))
  have B0 := hid_m hA
  have HB0 := hid_m (HB.new w x r 10 on a b c d s t)
  have HXL := hid_m (And.intro (Nat.ne_of_lt h.xlt) (Nat.ne_of_lt (Nat.lt_succ_of_lt h.xlt)))
  clear h hA
  have HSZ := hid_m (And.intro hs ht)
  have HML : Hid (s.size ≤ maxLen ∧ t.size ≤ maxLen) := by unfold Hid maxLen; omega
  clear hs ht
  have HTAB := hid_m htab
  clear htab
  go_enter Tryz.func45, Tryz.ntmps45
  go_wp2_with fail
  obtain ⟨w0, hw0⟩ : ∃ W, ((w.alloc (.cells #[.pointer (some ⟨x, 0, none⟩), .pointer (some ⟨r, 0, none⟩)] 93)).alloc (.cells #[.int .i64 10, .int .i64 on, .int .i64 a, .int .i64 b, .int .i64 c, .int .i64 d, .string s, .string t] 86)) = W := ⟨_, rfl⟩
  obtain ⟨ta, hta⟩ : ∃ x, w.heap.size = x := ⟨_, rfl⟩
  obtain ⟨oa, hoa⟩ : ∃ x, w.heap.size + 1 = x := ⟨_, rfl⟩
  rw [hw0] at H0 B0 HB0
  try rw [hw0]
  rw [hoa] at HB0
  rw [hta] at HB0
  have HNE : Hid (x ≠ ta ∧ x ≠ oa) := ⟨by rw [← hta]; exact HXL.out.1, by rw [← hoa]; exact HXL.out.2⟩
  try rw [hoa]
  try rw [hta]
  clear hw0 hta hoa HXL
  refine (get_any x tk tv sl a3 b3 cv S L s H0.out.tb HML.out.1 (fun w' hf => HTAB.out w' ((FrO.of_below B0.out).trans (FrO.of_fr hf (H0.out.oo x (Or.inl rfl)) (fun g e => by cases e)) (fun g hg => Or.inl hg)))).mono ?_
  rintro e w1 ⟨u, er, rfl, hpe, htb, hfr⟩
  have H1 := hid_m (H0.out.step1 htb hfr)
  have HF := hid_m (And.intro htb hfr)
  have HPE := hid_m hpe
  have HB1 := hid_m (HB0.out.fr hfr HNE.out.1 HNE.out.2)
  obtain ⟨y0, y1, y2, y3, y4⟩ := HB1.out.cells
  clear htb hfr hpe
  go_wp2_with fail
  refine (rtGet_any r M sl k0 k1 k2 k3 k4 v0 v1 v2 v3 v4 lv L s tk ST H1.out.rt H1.out.smk H1.out.tyk (fun g hg => (H1.out.tsb g hg).1) (by have := HSZ.out; omega)).mono ?_
  rintro e w2 hpp
  obtain ⟨rfl, hrt, hbe⟩ := get_same H1.out.smk H1.out.nmk HPE.out hpp
  have HR : Hid (Rt w2 r M sl k0 k1 k2 k3 k4 v0 v1 v2 v3 v4 lv L ∧ Fr r lv.ownBlock w1 w2) := ⟨hrt, Fr.of hbe⟩
  clear hrt hbe hpp y0 y1 y2 y3 y4
  go_wp2_with fail
  refine (p_num_any _ _).mono ?_
  rintro e w3 ⟨rfl, hw3⟩
  subst w3
  go_wp2_with fail
  go_ret
  have hfin := (held_of H0.out HF.out.1 HF.out.2 HR.out.1 (Nx.refl _ _) HR.out.2).up B0.out
  simpa using hfin
set_option maxHeartbeats 4000000 in
theorem held_none {w : World} (x r : Nat) (O : Nat → Prop) (kd on a b c d : Int) (s t : ByteArray) (h : Tw w x r O) (hk : kd ≠ 9 ∧ kd ≠ 10 ∧ kd ≠ 11 ∧ kd ≠ 12 ∧ kd ≠ 13) :
    Calls Tryz.prog 45 #[.agg #[.pointer (some ⟨x, 0, none⟩), .pointer (some ⟨r, 0, none⟩)], .agg #[.int .i64 kd, .int .i64 on, .int .i64 a, .int .i64 b, .int .i64 c, .int .i64 d, .string s, .string t]] w fun e w' => HeldP w w' e x r O := by
  obtain ⟨tk, tv, sl, M, a3, b3, cv, S, ST, k0, k1, k2, k3, k4, v0, v1, v2, v3, v4, lv, L, h⟩ := h
  have hA : Below w.heap.size w ((w.alloc (.cells #[.pointer (some ⟨x, 0, none⟩), .pointer (some ⟨r, 0, none⟩)] 93)).alloc (.cells #[.int .i64 kd, .int .i64 on, .int .i64 a, .int .i64 b, .int .i64 c, .int .i64 d, .string s, .string t] 86)) := ((Below.refl _ _).alloc (Nat.le_refl _) _).alloc (by simp) _
  have H0 := hid_m (h.of hA.size (fun g hg => hA.block g (h.ob g hg)))
  have B0 := hid_m hA
  have HB0 := hid_m (HB.new w x r kd on a b c d s t)
  have HXL := hid_m (And.intro (Nat.ne_of_lt h.xlt) (Nat.ne_of_lt (Nat.lt_succ_of_lt h.xlt)))
  clear h hA
  have z9 : (kd == 9) = false := by rw [beq_eq_false_iff_ne]; exact hk.1
  have z10 : (kd == 10) = false := by rw [beq_eq_false_iff_ne]; exact hk.2.1
  have z11 : (kd == 11) = false := by rw [beq_eq_false_iff_ne]; exact hk.2.2.1
  have z12 : (kd == 12) = false := by rw [beq_eq_false_iff_ne]; exact hk.2.2.2.1
  have z13 : (kd == 13) = false := by rw [beq_eq_false_iff_ne]; exact hk.2.2.2.2
  clear hk
  go_enter Tryz.func45, Tryz.ntmps45
  go_wp2_with fail
  go_ret
  exact (held_of H0.out H0.out.tb (Fr.refl _ _ _) H0.out.rt (Nx.refl _ _) (Fr.refl _ _ _)).up B0.out
/-- Any call of a twin. -/
theorem held_any {w : World} (x r : Nat) (O : Nat → Prop) (kd on a b c d : Int) (s t : ByteArray) (h : Tw w x r O) (hs : s.size ≤ 1048576) (ht : t.size ≤ 1048576) (htab : ∀ w', FrO O w w' → Lib.TabIs Tryz.prog w' "internal/strconv.uint64pow10" .u64 Lib.pow10Tab) :
    Calls Tryz.prog 45 #[.agg #[.pointer (some ⟨x, 0, none⟩), .pointer (some ⟨r, 0, none⟩)], .agg #[.int .i64 kd, .int .i64 on, .int .i64 a, .int .i64 b, .int .i64 c, .int .i64 d, .string s, .string t]] w fun e w' => HeldP w w' e x r O := by
  by_cases h9 : kd = 9
  · subst h9; exact held_put x r O on a b c d s t h hs ht
  by_cases h10 : kd = 10
  · subst h10; exact held_get x r O on a b c d s t h hs ht htab
  by_cases h11 : kd = 11
  · subst h11; exact held_drop x r O on a b c d s t h hs ht
  by_cases h12 : kd = 12
  · subst h12; exact held_len x r O on a b c d s t h
  by_cases h13 : kd = 13
  · subst h13; exact held_clear x r O on a b c d s t h
  exact held_none x r O kd on a b c d s t h ⟨h9, h10, h11, h12, h13⟩
end Go.Proofs.YtghggcehloiemabGreatDoor
