import Derived.Test.YtghggcehloiemabGreatDoorReaderAll
namespace Go.Proofs.YtghggcehloiemabGreatDoor
open Go.RowKit
set_option linter.unusedVariables false
set_option maxRecDepth 16000

/-- What a reading of a type answers. -/
def RdPost (n : Nat) (o : Option (P.Ty n × List UInt8)) (s : ByteArray) (i b : Nat) (ps : List P.Pt) (w : World) (e : Ending) (w' : World) : Prop :=
  (match o with
    | some (t, r) => e = .returned (.tuple #[.int .i64 (P.sz n t).1, .int .i64 (P.sz n t).2, .bool true]) ∧ ∃ j v', i ≤ j ∧ s.data.toList.drop j = r ∧ Rd w' b s j v' (ps ++ P.parts n t)
    | none => e = .returned (.tuple #[.int .i64 0, .int .i64 0, .bool false])) ∧ Below b w w'
theorem RdPost.no {n : Nat} {o : Option (P.Ty n × List UInt8)} {s : ByteArray} {i b : Nat} {ps : List P.Pt} {w w' : World} {e : Ending} (ho : o = none) (he : e = .returned (.tuple #[.int .i64 0, .int .i64 0, .bool false])) (hb : Below b w w') : RdPost n o s i b ps w e w' := by
  subst ho; exact ⟨he, hb⟩
theorem RdPost.yes {n : Nat} {o : Option (P.Ty n × List UInt8)} {s : ByteArray} {i b : Nat} {ps : List P.Pt} {w w' : World} {e : Ending} {t : P.Ty n} {r : List UInt8} {j : Nat} {v' : Value} (ho : o = some (t, r)) (he : e = .returned (.tuple #[.int .i64 (P.sz n t).1, .int .i64 (P.sz n t).2, .bool true])) (hj : i ≤ j) (hr : s.data.toList.drop j = r) (hrd : Rd w' b s j v' (ps ++ P.parts n t)) (hb : Below b w w') : RdPost n o s i b ps w e w' := by
  subst ho; exact ⟨⟨he, j, v', hj, hr, hrd⟩, hb⟩
theorem RdPost.trans {n : Nat} {o : Option (P.Ty n × List UInt8)} {s : ByteArray} {i i' b : Nat} {ps : List P.Pt} {w w1 w' : World} {e : Ending} (h : RdPost n o s i' b ps w1 e w') (hb : Below b w w1) (hi : i ≤ i') : RdPost n o s i b ps w e w' := by
  obtain ⟨h1, h2⟩ := h
  refine ⟨?_, hb.trans h2⟩
  cases o with
  | none => exact h1
  | some x => obtain ⟨t, r⟩ := x; obtain ⟨he, j, v', hj, hr⟩ := h1; exact ⟨he, j, v', by omega, hr⟩

theorem hit_yes {s : ByteArray} {i : Nat} {m : UInt8} (h : hit s i m = true) : s.data.toList.drop i = m :: s.data.toList.drop (i + 1) := by
  have h' : s.data.toList[i]? = some m := by simpa [hit] using h
  obtain ⟨hl, he⟩ := List.getElem?_eq_some_iff.1 h'
  rw [List.drop_eq_getElem_cons hl, he]
theorem hit_no {s : ByteArray} {i : Nat} {m : UInt8} (h : hit s i m = false) : (s.data.toList.drop i).head? ≠ some m := by
  intro hh
  rw [List.head?_drop] at hh
  simp [hit, hh] at h

theorem leaf_to_rd {n : Nat} {num : Bool} {s : ByteArray} {i b : Nat} {ps : List P.Pt} {w w1 w' : World} {e : Ending} (h : LeafPost num s (i + 1) b ps w1 e w') (hb : Below b w w1) (hh : hit s i (if num then 117 else 98) = true) : RdPost n (P.rd n (s.data.toList.drop i)) s i b ps w e w' := by
  obtain ⟨h1, h2⟩ := h
  have hd := hit_yes hh
  have hl : P.leafy (s.data.toList.drop i) = true := by rw [hd]; cases num <;> simp [P.leafy]
  rw [P.rd_leafy _ _ hl, hd]
  cases hn : P.rdnum (if num then 4 else 16) (s.data.toList.drop (i + 1)) with
  | none =>
    rw [hn] at h1
    refine RdPost.no ?_ h1 (hb.trans h2)
    cases num <;> simp_all [P.rdLeaf]
  | some x =>
    obtain ⟨k, m⟩ := x
    rw [hn] at h1
    simp only at h1
    split at h1
    · rename_i hbad
      refine RdPost.no ?_ h1 (hb.trans h2)
      cases num <;> simp_all [P.rdLeaf]
    · rename_i hok
      obtain ⟨he, hik, v', hrd⟩ := h1
      refine RdPost.yes (t := P.lf n (num, k)) (r := (s.data.toList.drop (i + 1)).drop m) (j := i + 1 + m) (v' := v') ?_ (by rw [P.sz_lf]; exact he) (by omega) (by rw [List.drop_drop]) (by rw [P.parts_lf]; exact hrd) (hb.trans h2)
      cases num <;> simp_all [P.rdLeaf]

def RS (n : Nat) : Prop := ∀ (b i d : Nat) (s : ByteArray) (w : World) (v : Value) (ps : List P.Pt), d + n = 5 → Rd w b s i v ps →
  Calls Tryz.prog 134 #[.pointer (some ⟨b, 0, none⟩), .int .i64 d] w fun e w' => RdPost n (P.rdS n (s.data.toList.drop i)) s i b ps w e w'
def RT (n : Nat) : Prop := ∀ (b i d : Nat) (s : ByteArray) (w : World) (v : Value) (ps : List P.Pt), d + n = 4 → Rd w b s i v ps →
  Calls Tryz.prog 87 #[.pointer (some ⟨b, 0, none⟩), .int .i64 d] w fun e w' => RdPost n (P.rd n (s.data.toList.drop i)) s i b ps w e w'

theorem Rd.move {w w1 : World} {b i : Nat} {s : ByteArray} {v : Value} {ps : List P.Pt} (h : Rd w b s i v ps) (hc : Cur w1 b s (i + 1) v 139) (ho : Only b w w1) (hi : i < s.size) : Rd w1 b s (i + 1) v ps :=
  ⟨hc, ho.own h.own, hi, h.short, by have := h.few; omega⟩
theorem Rd.stay {w w1 : World} {b i : Nat} {s : ByteArray} {v : Value} {ps : List P.Pt} (h : Rd w b s i v ps) (hc : Cur w1 b s i v 139) (ho : Only b w w1) : Rd w1 b s i v ps :=
  ⟨hc, ho.own h.own, h.here, h.short, h.few⟩

theorem triple (b : Nat) {e : Ending} {w' : World} {n : Nat} {o : Option (P.Ty n × List UInt8)} {s : ByteArray} {i : Nat} {ps : List P.Pt} {w : World} (h : RdPost n o s i b ps w e w') :
    ∃ (x y : Int) (z : Bool), e = .returned (.tuple #[.int .i64 x, .int .i64 y, .bool z]) := by
  obtain ⟨h1, _⟩ := h
  cases o with
  | none => exact ⟨_, _, _, h1⟩
  | some x => exact ⟨_, _, _, h1.1⟩

set_option maxHeartbeats 1000000 in
theorem readType_of {n : Nat} (hS : RS n) : RT n := by
  intro b i d s w v ps hd h
  have hs := h.short
  have hdb : d ≤ 4 := by omega
  by_cases h117 : hit s i 117 = true
  · have HH : Hid (hit s i 117 = true) := h117
    clear h117
    go_enter Tryz.func87, Tryz.ntmps87
    go_wp2_with fail
    refine (skip_yes (m := 117) h.cur (by unfold maxLen; omega) HH.out).mono ?_
    rintro e w1 ⟨rfl, hi, hc, ho⟩
    go_wp2_with fail
    refine (readNumber_any (h.move hc ho hi) (by omega) (by have := h.few; omega)).mono ?_
    intro e w2 hp
    have hp2 := leaf_to_rd (n := n) hp (ho.below (Nat.le_refl _)) HH.out
    obtain ⟨x, y, z, rfl⟩ := triple b hp2
    have HP := hp2
    clear hp2 hp
    go_wp2_with fail
    go_ret3
    exact HP
  · have hno : hit s i 117 = false := by simpa using h117
    by_cases h98 : hit s i 98 = true
    · have HH : Hid (hit s i 98 = true) := h98
      have HN : Hid (hit s i 117 = false) := hno
      clear h98 hno h117
      go_enter Tryz.func87, Tryz.ntmps87
      go_wp2_with fail
      refine (skip_no (m := 117) h.cur HN.out).mono ?_
      rintro e w1 ⟨rfl, hc, ho⟩
      have h1 := h.stay hc ho
      have hbe := ho.below (Nat.le_refl b)
      clear hc ho
      go_wp2_with fail
      refine (skip_yes (m := 98) h1.cur (by unfold maxLen; omega) HH.out).mono ?_
      rintro e w2 ⟨rfl, hi, hc, ho⟩
      go_wp2_with fail
      refine (readBytes_any (h1.move hc ho hi) (by omega) (by have := h.few; omega)).mono ?_
      intro e w3 hp
      have hp2 := leaf_to_rd (n := n) hp (hbe.trans (ho.below (Nat.le_refl _))) HH.out
      obtain ⟨x, y, z, rfl⟩ := triple b hp2
      have HP := hp2
      clear hp2 hp
      go_wp2_with fail
      go_ret3
      exact HP
    · have HH : Hid (hit s i 98 = false) := by simpa [Hid] using h98
      have HN : Hid (hit s i 117 = false) := hno
      clear h98 hno h117
      go_enter Tryz.func87, Tryz.ntmps87
      go_wp2_with fail
      refine (skip_no (m := 117) h.cur HN.out).mono ?_
      rintro e w1 ⟨rfl, hc, ho⟩
      have h1 := h.stay hc ho
      have hbe := ho.below (Nat.le_refl b)
      clear hc ho
      go_wp2_with fail
      refine (skip_no (m := 98) h1.cur HH.out).mono ?_
      rintro e w2 ⟨rfl, hc, ho⟩
      have h2 := h1.stay hc ho
      have hbe2 := hbe.trans (ho.below (Nat.le_refl b))
      clear hc ho
      go_wp2_with fail
      refine (hS b i (d + 1) s _ v ps (by omega) h2).mono ?_
      intro e w3 hp
      have hl : P.leafy (s.data.toList.drop i) = false := by
        simp only [P.leafy, Bool.or_eq_false_iff, beq_eq_false_iff_ne]
        exact ⟨hit_no HN.out, hit_no HH.out⟩
      have hp2 : RdPost n (P.rd n (s.data.toList.drop i)) s i b ps w e w3 := by rw [P.rd_else _ _ hl]; exact hp.trans hbe2 (Nat.le_refl _)
      obtain ⟨x, y, z, rfl⟩ := triple b hp2
      have HP := hp2
      clear hp2 hp hl
      go_wp2_with fail
      go_ret3
      exact HP
end Go.Proofs.YtghggcehloiemabGreatDoor
namespace Go.Proofs.YtghggcehloiemabGreatDoor
open Go.RowKit
set_option linter.unusedVariables false
set_option maxRecDepth 16000

set_option maxHeartbeats 400000 in
theorem readStruct_zero : RS 0 := by
  intro b i d s w v ps hd h
  have hd5 : (4 : Int) < (d : Int) := by omega
  clear h
  go_enter Tryz.func134, Tryz.ntmps134
  go_wp2_with fail
  go_ret3
  exact RdPost.no rfl rfl (Below.refl _ _)

theorem rdF_no {α : Type} {f : List UInt8 → Option (α × List UInt8)} {k : Nat} {acc : List α} {l : List UInt8} (h : f l = none) : P.rdF f (k + 1) acc l = none := by simp [P.rdF, h]
theorem rdF_close {α : Type} {f : List UInt8 → Option (α × List UInt8)} {k : Nat} {acc : List α} {l r : List UInt8} {t : α} (h : f l = some (t, 125 :: r)) : P.rdF f (k + 1) acc l = some (acc ++ [t], r) := by simp [P.rdF, h]
theorem rdF_comma {α : Type} {f : List UInt8 → Option (α × List UInt8)} {k : Nat} {acc : List α} {l r : List UInt8} {t : α} (h : f l = some (t, 44 :: r)) : P.rdF f (k + 1) acc l = P.rdF f k (acc ++ [t]) r := by simp [P.rdF, h]
theorem rdF_bad {α : Type} {f : List UInt8 → Option (α × List UInt8)} {k : Nat} {acc : List α} {l r : List UInt8} {t : α} (h : f l = some (t, r)) (h1 : r.head? ≠ some 125) (h2 : r.head? ≠ some 44) : P.rdF f (k + 1) acc l = none := by
  rw [P.rdF, h]
  cases r with
  | nil => rfl
  | cons c r => simp at h1 h2; simp [h1, h2]

/-- What holds at the head of each round of 'readStruct'. -/
structure Inv (m : Nat) (b i : Nat) (s : ByteArray) (ps : List P.Pt) (w : World) (ts : List (P.Ty m)) (p e1 e2 : Nat) (v' : Value) (wr : World) : Prop where
  rd : Rd wr b s p v' (ps ++ P.markP 123 :: P.body (0, 1) (ts.map fun t => (P.parts m t, P.sz m t)))
  below : Below b w wr
  go : P.rdF (P.rd m) (8 - ts.length) ts (s.data.toList.drop p) = P.rdF (P.rd m) 8 [] (s.data.toList.drop (i + 1))
  le : i + 1 ≤ p
  fold : P.fold (ts.map (P.sz m)) = (e1, e2)
  few : ts.length ≤ 8
  b1 : e1 + 16 * (s.size - p) ≤ 1280
  b2 : 1 ≤ e2
  b3 : e2 ≤ 4

theorem rdS_eq {m : Nat} {s : ByteArray} {i : Nat} (hh : hit s i 123 = true) : P.rdS (m + 1) (s.data.toList.drop i) = (P.rdF (P.rd m) 8 [] (s.data.toList.drop (i + 1))).map (fun x => (.inr x.1, x.2)) := by
  rw [hit_yes hh]; simp [P.rdS]
theorem rdS_no {m : Nat} {s : ByteArray} {i : Nat} (hh : hit s i 123 = false) : P.rdS (m + 1) (s.data.toList.drop i) = none := by
  have h := hit_no hh
  cases hl : s.data.toList.drop i with
  | nil => rfl
  | cons c r => rw [hl] at h; simp at h; simp [P.rdS, h]

theorem shift_at {b j first : Nat} {s : ByteArray} {w : World} {v : Value} {ps qs : List P.Pt} {p : Nat} (h : Rd w b s j v (ps ++ qs)) (hf : first = ps.length) (hp : p ≤ 100000) (hq : ∀ x ∈ qs, x.place ≤ 100000) :
    Calls Tryz.prog 162 #[.pointer (some ⟨b, 0, none⟩), .int .i64 first, .int .i64 p] w fun e w' => e = .returned (.tuple #[]) ∧ Rd w' b s j v (ps ++ qs.map (P.Pt.sh p)) ∧ Below b w w' := by
  subst hf; exact shift_any h hp hq

set_option maxHeartbeats 2000000 in
theorem readStruct_of {m : Nat} (hT : RT m) : RS (m + 1) := by
  intro b i d s w v ps hd h
  have hs := h.short
  have hd5 : ¬ (4 : Int) < (d : Int) := by omega
  by_cases h123 : hit s i 123 = true
  · have HH : Hid (hit s i 123 = true) := h123
    clear h123
    go_enter Tryz.func134, Tryz.ntmps134
    go_wp2_with fail
    refine (readMark_yes (m := 123) h HH.out).mono ?_
    rintro e w1 ⟨rfl, hi, ⟨v1, h1⟩, hbe⟩
    clear h
    go_wp2_with fail
    go_loopw [7, 8, 9] (fun x y z wr => ∃ (ts : List (P.Ty m)) (p e1 e2 : Nat) (v' : Value), x = .int .i64 e1 ∧ y = .int .i64 e2 ∧ z = .int .i64 ts.length ∧ Inv m b i s ps w ts p e1 e2 v' wr) (fun _ _ z _ => 8 - (intOf z).toNat)
    case atStart => exact ⟨[], i + 1, 0, 1, v1, rfl, rfl, rfl, ⟨by simpa [P.body] using h1, hbe, rfl, Nat.le_refl _, rfl, by simp, by omega, by omega, by omega⟩⟩
    case round =>
      obtain ⟨ts, p, e1, e2, v', rfl, rfl, rfl, hinv⟩ := hrel
      clear h1 hbe
      obtain ⟨K, hK⟩ : ∃ K, K = ts.length := ⟨_, rfl⟩
      rw [← hK]
      have HK : Hid (K = ts.length) := hK
      clear hK
      have he1 := hinv.b1
      have he2 := hinv.b2
      have he3 := hinv.b3
      have hfew := hinv.few
      by_cases hlt : K < 8
      · obtain ⟨g, cap, hv, _, _⟩ := hinv.rd.own.form (by simp; omega)
        obtain ⟨N, hN⟩ : ∃ N, N = (ps ++ P.markP 123 :: P.body (0, 1) (ts.map fun t => (P.parts m t, P.sz m t))).length := ⟨_, rfl⟩
        rw [← hN] at hv
        subst hv
        have HNN : Hid (N = _) := hN
        clear hN
        have c2 := hinv.rd.cur.c2
        go_wp2_with fail
        refine (hT b p d s _ _ _ (by omega) hinv.rd).mono ?_
        rintro e w2 ⟨hpost, hbe2⟩
        clear c2
        cases hrd : P.rd m (s.data.toList.drop p) with
        | none =>
          rw [hrd] at hpost
          simp only at hpost
          subst hpost
          have hgo : P.rdS (m + 1) (s.data.toList.drop i) = none := by
            rw [rdS_eq HH.out, ← hinv.go, ← HK.out, show 8 - K = (8 - K - 1) + 1 by omega, rdF_no hrd]; rfl
          have HG : Hid (P.rdS (m + 1) (s.data.toList.drop i) = none) := hgo
          have HB : Below b w w2 := hinv.below.trans hbe2
          clear hrd hgo
          go_wp2_with fail
          go_ret3
          exact RdPost.no HG.out rfl HB
        | some x =>
          obtain ⟨t, r⟩ := x
          have hgood := P.rd_good m _ t r hrd
          rw [hrd] at hpost
          simp only at hpost
          obtain ⟨rfl, j, v2, hpj, hjr, hrd2⟩ := hpost
          have hj := hrd2.here
          have hfold := hinv.fold
          have hle := hinv.le
          obtain ⟨⟨hg1, hg2, hg3⟩, hg4⟩ := hgood
          obtain ⟨fs, hfs⟩ : ∃ fs, fs = (P.sz m t).1 := ⟨_, rfl⟩
          obtain ⟨fp, hfp⟩ : ∃ fp, fp = (P.sz m t).2 := ⟨_, rfl⟩
          have hsz : P.sz m t = (fs, fp) := by rw [hfs, hfp]
          rw [← hfs] at hg3 hg4
          rw [← hfp] at hg1 hg2
          rw [← hjr] at hg4
          simp only [List.length_drop, Array.length_toList, ByteArray.size_data] at hg4
          have hgp : Hid (∀ x ∈ P.parts m t, x.place ≤ fs) := hg3
          obtain ⟨U, hU⟩ : ∃ U, P.up e1 fp = U := ⟨_, rfl⟩
          have hU1 : e1 ≤ U := by rw [← hU]; exact P.le_up _ _ hg1
          have hU2 : U ≤ e1 + 3 := by have := P.up_le e1 fp hg1; omega
          have HU : Hid (P.up e1 fp = U) := hU
          have Hrd : Hid (P.rd m (s.data.toList.drop p) = some (t, r)) := hrd
          have Hr : Hid (s.data.toList.drop j = r) := hjr
          have HFS : Hid (P.sz m t = (fs, fp)) := hsz
          have HF : Hid (P.fold (ts.map (P.sz m)) = (e1, e2)) := hfold
          have HMM : Hid ((((ts.map fun t => (P.parts m t, P.sz m t)).map (·.2)).foldl P.lay1 (0, 1)) = (e1, e2)) := by
            have e : (ts.map (fun t => (P.parts m t, P.sz m t))).map (·.2) = ts.map (P.sz m) := by simp [Function.comp_def]
            unfold Hid; rw [e]; exact hfold
          have HB : Below b w w2 := hinv.below.trans hbe2
          rw [← hfs, ← hfp]
          clear hg3 hU hrd hjr hsz hfold hfs hfp hbe2
          have hbig : fs ≤ 1280 := by omega
          by_cases hmax : (e2 : Int) < (fp : Int)
          · have HFOLD : Hid (P.fold ((ts ++ [t]).map (P.sz m)) = (U + fs, fp)) := by
              unfold Hid; rw [List.map_append, List.map_cons, List.map_nil, P.fold_snoc, HF.out, HFS.out]; simp only [P.lay1, HU.out]; congr 1; omega
            have HSZ : Hid (P.sz (m + 1) (.inr (ts ++ [t])) = (P.up (U + fs) fp, fp)) := by
              unfold Hid; simp only [P.sz, P.closed, HFOLD.out]
            go_wp2_with fail
            refine (roundUp_any e1 fp _ (by omega) (by omega) (by omega)).mono ?_
            rintro e w3 ⟨rfl, rfl⟩
            rw [HU.out]
            go_wp2_with fail
            refine (shift_at hrd2 HNN.out (by omega) (fun x hx => Nat.le_trans (hgp.out x hx) (by omega))).mono ?_
            rintro e w4 ⟨rfl, hrd4, hbe4⟩
            by_cases h125 : hit s j 125 = true
            · have H5 : Hid (hit s j 125 = true) := h125
              clear h125
              go_wp2_with fail
              refine (readMark_yes (m := 125) hrd4 H5.out).mono ?_
              rintro e w5 ⟨rfl, hj5, ⟨v5, hrd5⟩, hbe5⟩
              go_wp2_with fail
              refine (roundUp_any (U + fs) fp _ (by omega) (by omega) (by omega)).mono ?_
              rintro e w6 ⟨rfl, rfl⟩
              go_wp2_with fail
              go_ret3
              refine RdPost.yes (t := .inr (ts ++ [t])) (r := s.data.toList.drop (j + 1)) (j := j + 1) (v' := v5) ?_ ?_ (by omega) rfl ?_ (HB.trans (hbe4.trans hbe5))
              · rw [rdS_eq HH.out, ← hinv.go, ← HK.out, show 8 - K = (8 - K - 1) + 1 by omega, rdF_close (by rw [Hrd.out, ← Hr.out, hit_yes H5.out])]; rfl
              · rw [HSZ.out]; rfl
              · rw [P.parts_struct, HF.out, HFS.out]
                simpa [HU.out] using hrd5
            · have H5 : Hid (hit s j 125 = false) := by simpa [Hid] using h125
              clear h125
              by_cases h44 : hit s j 44 = true
              · have H4 : Hid (hit s j 44 = true) := h44
                clear h44
                go_wp2_with fail
                refine (readMark_no (m := 125) hrd4 H5.out).mono ?_
                rintro e w5 ⟨rfl, hrd5, hbe5⟩
                go_wp2_with fail
                refine (readMark_yes (m := 44) hrd5 H4.out).mono ?_
                rintro e w6 ⟨rfl, hj6, ⟨v6, hrd6⟩, hbe6⟩
                go_wp2_with fail
                refine ⟨⟨ts ++ [t], j + 1, U + fs, fp, v6, by go_num, rfl, by have := HK.out; simp; omega, ⟨?_, HB.trans (hbe4.trans (hbe5.trans hbe6)), ?_, by omega, HFOLD.out, by have := HK.out; simp; omega, by omega, by omega, by omega⟩⟩, by simp [intOf]; omega⟩
                · rw [List.map_append, List.map_cons, List.map_nil, P.body_snoc, HMM.out, HFS.out]
                  simpa [HU.out] using hrd6
                · rw [← hinv.go]
                  have e8 : 8 - ts.length = (8 - (ts ++ [t]).length) + 1 := by have := HK.out; simp; omega
                  rw [e8, rdF_comma (by rw [Hrd.out, ← Hr.out, hit_yes H4.out])]
              · have H4 : Hid (hit s j 44 = false) := by simpa [Hid] using h44
                clear h44
                go_wp2_with fail
                refine (readMark_no (m := 125) hrd4 H5.out).mono ?_
                rintro e w5 ⟨rfl, hrd5, hbe5⟩
                go_wp2_with fail
                refine (readMark_no (m := 44) hrd5 H4.out).mono ?_
                rintro e w6 ⟨rfl, hrd6, hbe6⟩
                go_wp2_with fail
                go_ret3
                refine RdPost.no ?_ rfl (HB.trans (hbe4.trans (hbe5.trans hbe6)))
                rw [rdS_eq HH.out, ← hinv.go, ← HK.out, show 8 - K = (8 - K - 1) + 1 by omega, rdF_bad Hrd.out (by rw [← Hr.out]; exact hit_no H5.out) (by rw [← Hr.out]; exact hit_no H4.out)]; rfl
          · have HFOLD : Hid (P.fold ((ts ++ [t]).map (P.sz m)) = (U + fs, e2)) := by
              unfold Hid; rw [List.map_append, List.map_cons, List.map_nil, P.fold_snoc, HF.out, HFS.out]; simp only [P.lay1, HU.out]; congr 1; omega
            have HSZ : Hid (P.sz (m + 1) (.inr (ts ++ [t])) = (P.up (U + fs) e2, e2)) := by
              unfold Hid; simp only [P.sz, P.closed, HFOLD.out]
            go_wp2_with fail
            refine (roundUp_any e1 fp _ (by omega) (by omega) (by omega)).mono ?_
            rintro e w3 ⟨rfl, rfl⟩
            rw [HU.out]
            go_wp2_with fail
            refine (shift_at hrd2 HNN.out (by omega) (fun x hx => Nat.le_trans (hgp.out x hx) (by omega))).mono ?_
            rintro e w4 ⟨rfl, hrd4, hbe4⟩
            by_cases h125 : hit s j 125 = true
            · have H5 : Hid (hit s j 125 = true) := h125
              clear h125
              go_wp2_with fail
              refine (readMark_yes (m := 125) hrd4 H5.out).mono ?_
              rintro e w5 ⟨rfl, hj5, ⟨v5, hrd5⟩, hbe5⟩
              go_wp2_with fail
              refine (roundUp_any (U + fs) e2 _ (by omega) (by omega) (by omega)).mono ?_
              rintro e w6 ⟨rfl, rfl⟩
              go_wp2_with fail
              go_ret3
              refine RdPost.yes (t := .inr (ts ++ [t])) (r := s.data.toList.drop (j + 1)) (j := j + 1) (v' := v5) ?_ ?_ (by omega) rfl ?_ (HB.trans (hbe4.trans hbe5))
              · rw [rdS_eq HH.out, ← hinv.go, ← HK.out, show 8 - K = (8 - K - 1) + 1 by omega, rdF_close (by rw [Hrd.out, ← Hr.out, hit_yes H5.out])]; rfl
              · rw [HSZ.out]; rfl
              · rw [P.parts_struct, HF.out, HFS.out]
                simpa [HU.out] using hrd5
            · have H5 : Hid (hit s j 125 = false) := by simpa [Hid] using h125
              clear h125
              by_cases h44 : hit s j 44 = true
              · have H4 : Hid (hit s j 44 = true) := h44
                clear h44
                go_wp2_with fail
                refine (readMark_no (m := 125) hrd4 H5.out).mono ?_
                rintro e w5 ⟨rfl, hrd5, hbe5⟩
                go_wp2_with fail
                refine (readMark_yes (m := 44) hrd5 H4.out).mono ?_
                rintro e w6 ⟨rfl, hj6, ⟨v6, hrd6⟩, hbe6⟩
                go_wp2_with fail
                refine ⟨⟨ts ++ [t], j + 1, U + fs, e2, v6, by go_num, rfl, by have := HK.out; simp; omega, ⟨?_, HB.trans (hbe4.trans (hbe5.trans hbe6)), ?_, by omega, HFOLD.out, by have := HK.out; simp; omega, by omega, by omega, by omega⟩⟩, by simp [intOf]; omega⟩
                · rw [List.map_append, List.map_cons, List.map_nil, P.body_snoc, HMM.out, HFS.out]
                  simpa [HU.out] using hrd6
                · rw [← hinv.go]
                  have e8 : 8 - ts.length = (8 - (ts ++ [t]).length) + 1 := by have := HK.out; simp; omega
                  rw [e8, rdF_comma (by rw [Hrd.out, ← Hr.out, hit_yes H4.out])]
              · have H4 : Hid (hit s j 44 = false) := by simpa [Hid] using h44
                clear h44
                go_wp2_with fail
                refine (readMark_no (m := 125) hrd4 H5.out).mono ?_
                rintro e w5 ⟨rfl, hrd5, hbe5⟩
                go_wp2_with fail
                refine (readMark_no (m := 44) hrd5 H4.out).mono ?_
                rintro e w6 ⟨rfl, hrd6, hbe6⟩
                go_wp2_with fail
                go_ret3
                refine RdPost.no ?_ rfl (HB.trans (hbe4.trans (hbe5.trans hbe6)))
                rw [rdS_eq HH.out, ← hinv.go, ← HK.out, show 8 - K = (8 - K - 1) + 1 by omega, rdF_bad Hrd.out (by rw [← Hr.out]; exact hit_no H5.out) (by rw [← Hr.out]; exact hit_no H4.out)]; rfl
      · have HZ : Hid (8 - ts.length = 0) := by have := HK.out; unfold Hid; omega
        go_wp2_with fail
        go_ret3
        refine RdPost.no ?_ rfl hinv.below
        rw [rdS_eq HH.out, ← hinv.go, HZ.out]; rfl
  · have hno : hit s i 123 = false := by simpa using h123
    have HN : Hid (hit s i 123 = false) := hno
    clear h123 hno
    go_enter Tryz.func134, Tryz.ntmps134
    go_wp2_with fail
    refine (readMark_no (m := 123) h HN.out).mono ?_
    rintro e w1 ⟨rfl, _, hbe⟩
    go_wp2_with fail
    go_ret3
    exact RdPost.no (rdS_no HN.out) rfl hbe

theorem reads (n : Nat) : RS n ∧ RT n := by
  induction n with
  | zero => exact ⟨readStruct_zero, readType_of readStruct_zero⟩
  | succ n ih => exact ⟨readStruct_of ih.2, readType_of (readStruct_of ih.2)⟩
end Go.Proofs.YtghggcehloiemabGreatDoor
