import Derived.Test.YtghggcehloiemaaDoorShift
namespace Go.Proofs.YtghggcehloiemaaDoor
open Go.RowKit
set_option linter.unusedVariables false
set_option maxRecDepth 16000

/-- What a reading of a type answers. -/
def RdPost (n : Nat) (o : Option (P.Ty n × List UInt8)) (s : ByteArray) (i b : Nat) (ps : List P.Pt) (w : World) (e : Ending) (w' : World) : Prop :=
  (match o with
    | some (t, r) => e = .returned (.tuple #[.int .i64 (P.sz n t).1, .int .i64 (P.sz n t).2, .bool true]) ∧ ∃ j v', i ≤ j ∧ s.data.toList.drop j = r ∧ Rd w' b s j v' (ps ++ P.parts n t)
    | none => e = .returned (.tuple #[.int .i64 0, .int .i64 0, .bool false])) ∧ Below b w w'
theorem RdPost.no {n : Nat} {o : Option (P.Ty n × List UInt8)} {s : ByteArray} {i b : Nat} {ps : List P.Pt} {w w' : World} {e : Ending} (ho : o = none) (he : e = .returned (.tuple #[.int .i64 0, .int .i64 0, .bool false])) (hb : Below b w w') : RdPost n o s i b ps w e w' := by
  subst ho; exact ⟨he, hb⟩
theorem RdPost.yes {n : Nat} {o : Option (P.Ty n × List UInt8)} {s : ByteArray} {i b : Nat} {ps : List P.Pt} {w w' : World} {e : Ending} {t : P.Ty n} {r : List UInt8} {j : Nat} {v' : Value} (ho : o = some (t, r)) (he : e = .returned (.tuple #[.int .i64 (P.sz n t).1, .int .i64 (P.sz n t).2, .bool true])) (hj : i ≤ j) (hr : s.data.toList.drop j = r) (hrd : Rd w' b s j v' (ps ++ P.parts n t)) (hb : Below b w w') : RdPost n o s i b ps w e w' := by
  subst ho; exact ⟨⟨he, j, v', hj, hr, hrd⟩, hb⟩
theorem RdPost.trans {n : Nat} {o : Option (P.Ty n × List UInt8)} {s : ByteArray} {i i' b : Nat} {ps : List P.Pt} {w w1 w' : World} {e : Ending} (h : RdPost n o s i' b ps w1 e w') (hb : Below b w w1) (hi : i ≤ i') : RdPost n o s i b ps w e w' := by
  obtain ⟨h1, h2⟩ := h
  refine ⟨?_, hb.trans h2⟩
  cases o with
  | none => exact h1
  | some x => obtain ⟨t, r⟩ := x; obtain ⟨he, j, v', hj, hr⟩ := h1; exact ⟨he, j, v', by omega, hr⟩

theorem hit_yes {s : ByteArray} {i : Nat} {m : UInt8} (h : hit s i m = true) : s.data.toList.drop i = m :: s.data.toList.drop (i + 1) := by
  have h' : s.data.toList[i]? = some m := by simpa [hit] using h
  obtain ⟨hl, he⟩ := List.getElem?_eq_some_iff.1 h'
  rw [List.drop_eq_getElem_cons hl, he]
theorem hit_no {s : ByteArray} {i : Nat} {m : UInt8} (h : hit s i m = false) : (s.data.toList.drop i).head? ≠ some m := by
  intro hh
  rw [List.head?_drop] at hh
  simp [hit, hh] at h

theorem leaf_to_rd {n : Nat} {num : Bool} {s : ByteArray} {i b : Nat} {ps : List P.Pt} {w w1 w' : World} {e : Ending} (h : LeafPost num s (i + 1) b ps w1 e w') (hb : Below b w w1) (hh : hit s i (if num then 117 else 98) = true) : RdPost n (P.rd n (s.data.toList.drop i)) s i b ps w e w' := by
  obtain ⟨h1, h2⟩ := h
  have hd := hit_yes hh
  have hl : P.leafy (s.data.toList.drop i) = true := by rw [hd]; cases num <;> simp [P.leafy]
  rw [P.rd_leafy _ _ hl, hd]
  cases hn : P.rdnum (if num then 4 else 16) (s.data.toList.drop (i + 1)) with
  | none =>
    rw [hn] at h1
    refine RdPost.no ?_ h1 (hb.trans h2)
    cases num <;> simp_all [P.rdLeaf]
  | some x =>
    obtain ⟨k, m⟩ := x
    rw [hn] at h1
    simp only at h1
    split at h1
    · rename_i hbad
      refine RdPost.no ?_ h1 (hb.trans h2)
      cases num <;> simp_all [P.rdLeaf]
    · rename_i hok
      obtain ⟨he, hik, v', hrd⟩ := h1
      refine RdPost.yes (t := P.lf n (num, k)) (r := (s.data.toList.drop (i + 1)).drop m) (j := i + 1 + m) (v' := v') ?_ (by rw [P.sz_lf]; exact he) (by omega) (by rw [List.drop_drop]) (by rw [P.parts_lf]; exact hrd) (hb.trans h2)
      cases num <;> simp_all [P.rdLeaf]

def RS (n : Nat) : Prop := ∀ (b i d : Nat) (s : ByteArray) (w : World) (v : Value) (ps : List P.Pt), d + n = 5 → Rd w b s i v ps →
  Calls Tryd.prog 37 #[.pointer (some ⟨b, 0, none⟩), .int .i64 d] w fun e w' => RdPost n (P.rdS n (s.data.toList.drop i)) s i b ps w e w'
def RT (n : Nat) : Prop := ∀ (b i d : Nat) (s : ByteArray) (w : World) (v : Value) (ps : List P.Pt), d + n = 4 → Rd w b s i v ps →
  Calls Tryd.prog 26 #[.pointer (some ⟨b, 0, none⟩), .int .i64 d] w fun e w' => RdPost n (P.rd n (s.data.toList.drop i)) s i b ps w e w'

theorem Rd.move {w w1 : World} {b i : Nat} {s : ByteArray} {v : Value} {ps : List P.Pt} (h : Rd w b s i v ps) (hc : Cur w1 b s (i + 1) v 64) (ho : Only b w w1) (hi : i < s.size) : Rd w1 b s (i + 1) v ps :=
  ⟨hc, ho.own h.own, hi, h.short, by have := h.few; omega⟩
theorem Rd.stay {w w1 : World} {b i : Nat} {s : ByteArray} {v : Value} {ps : List P.Pt} (h : Rd w b s i v ps) (hc : Cur w1 b s i v 64) (ho : Only b w w1) : Rd w1 b s i v ps :=
  ⟨hc, ho.own h.own, h.here, h.short, h.few⟩

theorem triple (b : Nat) {e : Ending} {w' : World} {n : Nat} {o : Option (P.Ty n × List UInt8)} {s : ByteArray} {i : Nat} {ps : List P.Pt} {w : World} (h : RdPost n o s i b ps w e w') :
    ∃ (x y : Int) (z : Bool), e = .returned (.tuple #[.int .i64 x, .int .i64 y, .bool z]) := by
  obtain ⟨h1, _⟩ := h
  cases o with
  | none => exact ⟨_, _, _, h1⟩
  | some x => exact ⟨_, _, _, h1.1⟩

set_option maxHeartbeats 1000000 in
theorem readType_of {n : Nat} (hS : RS n) : RT n := by
  intro b i d s w v ps hd h
  have hs := h.short
  have hdb : d ≤ 4 := by omega
  by_cases h117 : hit s i 117 = true
  · have HH : Hid (hit s i 117 = true) := h117
    clear h117
    go_enter Tryd.func26, Tryd.ntmps26
    go_wp2_with fail
    refine (skip_yes (m := 117) h.cur (by unfold maxLen; omega) HH.out).mono ?_
    rintro e w1 ⟨rfl, hi, hc, ho⟩
    go_wp2_with fail
    refine (readNumber_any (h.move hc ho hi) (by omega) (by have := h.few; omega)).mono ?_
    intro e w2 hp
    have hp2 := leaf_to_rd (n := n) hp (ho.below (Nat.le_refl _)) HH.out
    obtain ⟨x, y, z, rfl⟩ := triple b hp2
    have HP := hp2
    clear hp2 hp
    go_wp2_with fail
    go_ret3
    exact HP
  · have hno : hit s i 117 = false := by simpa using h117
    by_cases h98 : hit s i 98 = true
    · have HH : Hid (hit s i 98 = true) := h98
      have HN : Hid (hit s i 117 = false) := hno
      clear h98 hno h117
      go_enter Tryd.func26, Tryd.ntmps26
      go_wp2_with fail
      refine (skip_no (m := 117) h.cur HN.out).mono ?_
      rintro e w1 ⟨rfl, hc, ho⟩
      have h1 := h.stay hc ho
      have hbe := ho.below (Nat.le_refl b)
      clear hc ho
      go_wp2_with fail
      refine (skip_yes (m := 98) h1.cur (by unfold maxLen; omega) HH.out).mono ?_
      rintro e w2 ⟨rfl, hi, hc, ho⟩
      go_wp2_with fail
      refine (readBytes_any (h1.move hc ho hi) (by omega) (by have := h.few; omega)).mono ?_
      intro e w3 hp
      have hp2 := leaf_to_rd (n := n) hp (hbe.trans (ho.below (Nat.le_refl _))) HH.out
      obtain ⟨x, y, z, rfl⟩ := triple b hp2
      have HP := hp2
      clear hp2 hp
      go_wp2_with fail
      go_ret3
      exact HP
    · have HH : Hid (hit s i 98 = false) := by simpa [Hid] using h98
      have HN : Hid (hit s i 117 = false) := hno
      clear h98 hno h117
      go_enter Tryd.func26, Tryd.ntmps26
      go_wp2_with fail
      refine (skip_no (m := 117) h.cur HN.out).mono ?_
      rintro e w1 ⟨rfl, hc, ho⟩
      have h1 := h.stay hc ho
      have hbe := ho.below (Nat.le_refl b)
      clear hc ho
      go_wp2_with fail
      refine (skip_no (m := 98) h1.cur HH.out).mono ?_
      rintro e w2 ⟨rfl, hc, ho⟩
      have h2 := h1.stay hc ho
      have hbe2 := hbe.trans (ho.below (Nat.le_refl b))
      clear hc ho
      go_wp2_with fail
      refine (hS b i (d + 1) s _ v ps (by omega) h2).mono ?_
      intro e w3 hp
      have hl : P.leafy (s.data.toList.drop i) = false := by
        simp only [P.leafy, Bool.or_eq_false_iff, beq_eq_false_iff_ne]
        exact ⟨hit_no HN.out, hit_no HH.out⟩
      have hp2 : RdPost n (P.rd n (s.data.toList.drop i)) s i b ps w e w3 := by rw [P.rd_else _ _ hl]; exact hp.trans hbe2 (Nat.le_refl _)
      obtain ⟨x, y, z, rfl⟩ := triple b hp2
      have HP := hp2
      clear hp2 hp hl
      go_wp2_with fail
      go_ret3
      exact HP
end Go.Proofs.YtghggcehloiemaaDoor
