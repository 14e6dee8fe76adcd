import Derived.Test.YtghggcehloiemabGreatDoorPrOAll
namespace Go.Proofs.YtghggcehloiemabGreatDoor.P

def Good (n : Nat) (t : Ty n) : Prop := 1 ≤ (sz n t).2 ∧ (sz n t).2 ≤ 4 ∧ ∀ x ∈ parts n t, x.place ≤ (sz n t).1

theorem rdnum_some {most : Nat} {l : List UInt8} {n k : Nat} (h : rdnum most l = some (n, k)) : n ≤ most ∧ 1 ≤ k ∧ k ≤ l.length := by
  unfold rdnum at h
  split at h
  · cases h
  · rename_i hn
    have hl : (digs l).length ≤ l.length := by
      unfold digs
      exact (List.takeWhile_sublist _).length_le
    simp at h
    have h1 : digs l ≠ [] := fun e => hn (Or.inl e)
    have h2 : 0 < (digs l).length := List.length_pos_iff.2 h1
    refine ⟨?_, by omega, by omega⟩
    rcases Nat.lt_or_ge most (val (digs l)) with h3 | h3
    · exact absurd (Or.inr (Or.inr h3)) hn
    · omega

theorem rdLeaf_good {l : List UInt8} {x : (Bool × Nat) × List UInt8} (h : rdLeaf l = some x) : 1 ≤ (lsz x.1).2 ∧ (lsz x.1).2 ≤ 4 ∧ (lsz x.1).1 ≤ 16 ∧ 1 ≤ (lsz x.1).1 ∧ x.2.length + 2 ≤ l.length := by
  unfold rdLeaf at h
  cases l with
  | nil => cases h
  | cons c r =>
    simp only at h
    split at h
    · cases hn : rdnum 4 r with
      | none => rw [hn] at h; cases h
      | some y =>
        obtain ⟨k, m⟩ := y
        obtain ⟨h1, h2, h3⟩ := rdnum_some hn
        rw [hn] at h
        simp only at h
        split at h
        · cases h
        · cases h; simp [lsz]; omega
    · cases hn : rdnum 16 r with
      | none => rw [hn] at h; cases h
      | some y =>
        obtain ⟨k, m⟩ := y
        obtain ⟨h1, h2, h3⟩ := rdnum_some hn
        rw [hn] at h
        simp only at h
        split at h
        · cases h
        · cases h; simp [lsz]; omega

theorem lay1_le {a b : Nat × Nat} (hb1 : 1 ≤ b.2) (hb4 : b.2 ≤ 4) : a.1 + b.1 ≤ (lay1 a b).1 ∧ (lay1 a b).1 ≤ a.1 + 3 + b.1 ∧ up a.1 b.2 + b.1 = (lay1 a b).1 := by
  have h1 := up_le a.1 b.2 hb1
  have h2 := le_up a.1 b.2 hb1
  simp only [lay1]; refine ⟨?_, ?_, trivial⟩ <;> omega

theorem fold_step {l : List (Nat × Nat)} : (∀ x ∈ l, 1 ≤ x.2 ∧ x.2 ≤ 4) → ∀ a : Nat × Nat, 1 ≤ a.2 → a.2 ≤ 4 → 1 ≤ (l.foldl lay1 a).2 ∧ (l.foldl lay1 a).2 ≤ 4 ∧ a.1 ≤ (l.foldl lay1 a).1 := by
  induction l with
  | nil => intro _ a h1 h2; exact ⟨h1, h2, Nat.le_refl _⟩
  | cons x l ih =>
    intro h a h1 h2
    have hx := h x (by simp)
    have hl := lay1_le (a := a) hx.1 hx.2
    have := ih (fun y hy => h y (by simp [hy])) (lay1 a x) (by simp [lay1]; omega) (by simp [lay1]; omega)
    rw [List.foldl_cons]
    omega

theorem body_le (xs : List (List Pt × (Nat × Nat))) : (∀ y ∈ xs, 1 ≤ y.2.2 ∧ y.2.2 ≤ 4 ∧ ∀ z ∈ y.1, z.place ≤ y.2.1) → ∀ a : Nat × Nat, 1 ≤ a.2 → a.2 ≤ 4 → ∀ z ∈ body a xs, z.place ≤ ((xs.map (·.2)).foldl lay1 a).1 := by
  induction xs with
  | nil => intro _ a _ _ z hz; simp [body] at hz
  | cons x xs ih =>
    intro h a h1 h2 z hz
    have hx := h x (by simp)
    have hl := lay1_le (a := a) hx.1 hx.2.1
    have hm2 : 1 ≤ (lay1 a x.2).2 ∧ (lay1 a x.2).2 ≤ 4 := by simp only [lay1]; omega
    have hmono := fold_step (l := xs.map (·.2)) (by
      intro y hy
      obtain ⟨q, hq, rfl⟩ := List.mem_map.1 hy
      have := h q (by simp [hq]); exact ⟨this.1, this.2.1⟩) (lay1 a x.2) hm2.1 hm2.2
    simp only [List.map_cons, List.foldl_cons]
    rw [body, List.mem_append, List.mem_cons] at hz
    rcases hz with hz | rfl | hz
    · obtain ⟨q, hq, rfl⟩ := List.mem_map.1 hz
      have := hx.2.2 q hq
      simp only [Pt.sh]
      omega
    · simp [markP]
    · exact ih (fun y hy => h y (by simp [hy])) _ hm2.1 hm2.2 z hz

theorem good_struct {n : Nat} {ts : List (Ty n)} (h : ∀ t ∈ ts, Good n t) : Good (n + 1) (.inr ts) := by
  have hs : ∀ x ∈ ts.map (sz n), 1 ≤ x.2 ∧ x.2 ≤ 4 := by
    intro x hx
    obtain ⟨t, ht, rfl⟩ := List.mem_map.1 hx
    exact ⟨(h t ht).1, (h t ht).2.1⟩
  obtain ⟨h1, h2, _⟩ := fold_step hs (0, 1) (by simp) (by simp)
  have e : (ts.map (fun t => (parts n t, sz n t))).map (·.2) = ts.map (sz n) := by simp [Function.comp_def]
  have hup := le_up (fold (ts.map (sz n))).1 (fold (ts.map (sz n))).2 h1
  refine ⟨h1, h2, ?_⟩
  intro x hx
  have hb : ∀ z ∈ body (0, 1) (ts.map fun t => (parts n t, sz n t)), z.place ≤ (fold (ts.map (sz n))).1 := by
    have := body_le (ts.map fun t => (parts n t, sz n t)) (by
      intro y hy
      obtain ⟨t, ht, rfl⟩ := List.mem_map.1 hy
      exact h t ht) (0, 1) (by simp) (by simp)
    rw [e] at this; exact this
  simp only [parts, List.mem_cons, List.mem_append] at hx
  simp only [sz, closed]
  rcases hx with rfl | hx | hx
  · simp [markP]
  · have := hb x (List.dropLast_subset _ hx); omega
  · simp at hx; subst hx; simp [markP]

theorem rdF_good {n : Nat} (ih : ∀ l t r, rd n l = some (t, r) → Good n t ∧ (sz n t).1 + 16 * r.length ≤ 16 * l.length) :
    ∀ (k : Nat) (acc : List (Ty n)) (s : List UInt8) (ts : List (Ty n)) (r : List UInt8) (M : Nat), rdF (rd n) k acc s = some (ts, r) → (∀ t ∈ acc, Good n t) → (fold (acc.map (sz n))).1 + 16 * s.length ≤ M →
    (∀ t ∈ ts, Good n t) ∧ (fold (ts.map (sz n))).1 + 3 + 16 * r.length ≤ M := by
  intro k
  induction k with
  | zero => intro acc s ts r M h; simp [rdF] at h
  | succ k ihk =>
    intro acc s ts r M h hacc hM
    rw [rdF] at h
    split at h
    · cases h
    · cases h
    · rename_i t c r' hf
      obtain ⟨hg, hle⟩ := ih _ _ _ hf
      have hgs : ∀ x ∈ acc ++ [t], Good n x := by
        intro x hx
        rcases List.mem_append.1 hx with hx | hx
        · exact hacc x hx
        · simp at hx; subst hx; exact hg
      have hl := lay1_le (a := fold (acc.map (sz n))) hg.1 hg.2.1
      have hfd : fold ((acc ++ [t]).map (sz n)) = lay1 (fold (acc.map (sz n))) (sz n t) := by rw [List.map_append, List.map_cons, List.map_nil, fold_snoc]
      simp only [List.length_cons] at hle
      split at h
      · cases h
        refine ⟨hgs, ?_⟩
        rw [hfd]; omega
      · split at h
        · exact ihk _ _ _ _ M h hgs (by rw [hfd]; omega)
        · cases h

theorem rd_good : ∀ (n : Nat) (l : List UInt8) (t : Ty n) (r : List UInt8), rd n l = some (t, r) → Good n t ∧ (sz n t).1 + 16 * r.length ≤ 16 * l.length := by
  intro n
  have leafcase : ∀ (n : Nat) (l : List UInt8) (t : Ty n) (r : List UInt8), (rdLeaf l).map (fun x => (lf n x.1, x.2)) = some (t, r) → Good n t ∧ (sz n t).1 + 16 * r.length ≤ 16 * l.length := by
    intro n l t r h
    cases hx : rdLeaf l with
    | none => rw [hx] at h; cases h
    | some x =>
      rw [hx] at h
      simp at h
      obtain ⟨rfl, rfl⟩ := h
      have hg := rdLeaf_good hx
      refine ⟨⟨by rw [sz_lf]; exact hg.1, by rw [sz_lf]; exact hg.2.1, ?_⟩, by rw [sz_lf]; omega⟩
      rw [parts_lf]
      intro y hy
      simp at hy; subst hy; simp [lpart]
  induction n with
  | zero =>
    intro l t r h
    by_cases hl : leafy l = true
    · rw [rd_leafy _ _ hl] at h; exact leafcase 0 l t r h
    · simp [rd, hl] at h
  | succ n ih =>
    intro l t r h
    by_cases hl : leafy l = true
    · rw [rd_leafy _ _ hl] at h; exact leafcase _ l t r h
    · rw [rd_else _ _ (by simpa using hl)] at h
      cases l with
      | nil => simp [rdS] at h
      | cons c s =>
        simp only [rdS] at h
        split at h
        · cases hx : rdF (rd n) 8 [] s with
          | none => rw [hx] at h; cases h
          | some x =>
            obtain ⟨ts, r'⟩ := x
            rw [hx] at h
            simp at h
            obtain ⟨rfl, rfl⟩ := h
            obtain ⟨hg, hle⟩ := rdF_good ih 8 [] s ts _ (16 * s.length) hx (by simp) (by simp [fold])
            have hgd := good_struct hg
            refine ⟨hgd, ?_⟩
            have h1 := hgd.1
            have h2 := hgd.2.1
            simp only [sz, closed] at h1 h2 ⊢
            have := up_le (fold (ts.map (sz n))).1 (fold (ts.map (sz n))).2 h1
            simp only [List.length_cons]
            omega
        · cases h

end Go.Proofs.YtghggcehloiemabGreatDoor.P
namespace Go.Proofs.YtghggcehloiemabGreatDoor
open Go.RowKit
set_option linter.unusedVariables false
set_option maxRecDepth 16000

theorem cellsOf_get (ps : List P.Pt) : ∀ (i k : Nat) (x : P.Pt), ps[i]? = some x → k < 4 → (cellsOf ps)[i * 4 + k]? = (ptCells x)[k]? := by
  induction ps with
  | nil => intro i k x h; simp at h
  | cons y ps ih =>
    intro i k x h hk
    have e : cellsOf (y :: ps) = ptCells y ++ cellsOf ps := by simp [cellsOf]
    have hl : (ptCells y).length = 4 := rfl
    rw [e]
    cases i with
    | zero =>
      simp at h; subst h
      rw [List.getElem?_append_left (by omega)]; simp
    | succ i =>
      simp at h
      rw [List.getElem?_append_right (by omega), hl, show (i + 1) * 4 + k - 4 = i * 4 + k by omega]
      exact ih i k x h hk
theorem cellsOf_set (A B : List P.Pt) (x : P.Pt) (q : Nat) : (cellsOf (A ++ x :: B)).set (A.length * 4 + 2) (.int .i64 q) = cellsOf (A ++ { x with place := q } :: B) := by
  have hl := cellsOf_length A
  have e1 : cellsOf (A ++ x :: B) = cellsOf A ++ (ptCells x ++ cellsOf B) := by simp [cellsOf]
  have e2 : cellsOf (A ++ { x with place := q } :: B) = cellsOf A ++ (ptCells { x with place := q } ++ cellsOf B) := by simp [cellsOf]
  rw [e1, e2, List.set_append_right _ _ (by omega)]
  congr 1
  rw [show A.length * 4 + 2 - (cellsOf A).length = 2 by omega]
  simp [ptCells]

/-- Where the parts lie. -/
theorem rd_cell {w : World} {b j g n cap : Nat} {s : ByteArray} {A B : List P.Pt} {x : P.Pt} (h : Rd w b s j (.slice (some ⟨g, 0, none⟩) n cap) (A ++ x :: B)) : w.cell? ⟨g, A.length * 4 + 2, none⟩ = some (.int .i64 x.place) ∧ w.frozen? ⟨g, A.length * 4 + 2, none⟩ = false ∧ n = A.length + 1 + B.length ∧ n ≤ cap ∧ cap ≤ maxLen := by
  have hx := h.own
  obtain ⟨h1, h2⟩ := hx
  rcases h2 with ⟨h2, _⟩ | ⟨g', cap', cur, hv, hb, hg, hn, hm, hsz, htk⟩
  · cases h2
  · cases hv
    refine ⟨?_, by simp [World.frozen?, hg], by simp; omega, hn, hm⟩
    rw [cell_of_row w g _ _ _ _ hg]
    have hget := cellsOf_get (A ++ x :: B) A.length 2 x (by simp) (by omega)
    rw [← htk] at hget
    rw [List.getElem?_take_of_lt (by simp; omega)] at hget
    simpa [ptCells] using hget
theorem rd_set {w : World} {b j g n cap : Nat} {s : ByteArray} {A B : List P.Pt} {x : P.Pt} (h : Rd w b s j (.slice (some ⟨g, 0, none⟩) n cap) (A ++ x :: B)) (q : Nat) :
    Rd (w.setCell ⟨g, A.length * 4 + 2, none⟩ (.int .i64 q)) b s j (.slice (some ⟨g, 0, none⟩) n cap) (A ++ { x with place := q } :: B) ∧ Below b w (w.setCell ⟨g, A.length * 4 + 2, none⟩ (.int .i64 q)) := by
  have hx := h.own
  obtain ⟨h1, h2⟩ := hx
  rcases h2 with ⟨h2, _⟩ | ⟨g', cap', cur, hv, hb, hg, hn, hm, hsz, htk⟩
  · cases h2
  · cases hv
    refine ⟨⟨?_, ⟨?_, .inr ⟨g, cap, cur.setIfInBounds (A.length * 4 + 2) (.int .i64 q), by simp, hb, ?_, by simpa using hn, hm, by simpa using hsz, ?_⟩⟩, h.here, h.short, by simpa using h.few⟩, (Below.refl _ _).setCell (by simp; omega) _⟩
    · have := h.cur
      unfold Cur at *
      rw [Below.heap_setCell _ _ _ _ (by simp; omega)]; exact this
    · rw [cellsOf_length]
    · simp [World.setCell, Array.getElem?_modify, hg]
    · rw [← cellsOf_set, ← htk]
      simp [List.take_set]

set_option maxHeartbeats 1000000 in
theorem shift_any {b j : Nat} {s : ByteArray} {w : World} {v : Value} {ps qs : List P.Pt} {p : Nat} (h : Rd w b s j v (ps ++ qs)) (hp : p ≤ 100000) (hq : ∀ x ∈ qs, x.place ≤ 100000) :
    Calls Tryz.prog 162 #[.pointer (some ⟨b, 0, none⟩), .int .i64 ps.length, .int .i64 p] w fun e w' => e = .returned (.tuple #[]) ∧ Rd w' b s j v (ps ++ qs.map (P.Pt.sh p)) ∧ Below b w w' := by
  have hs := h.short
  have hfew := h.few
  have hj := h.here
  simp only [List.length_append] at hfew
  go_enter Tryz.func162, Tryz.ntmps162
  go_wp2_with fail
  go_loopw [6] (fun i wr => ∃ (don tod : List P.Pt) (K : Nat), qs = don ++ tod ∧ K = ps.length + don.length ∧ i = .int .i64 K ∧ Rd wr b s j v (ps ++ don.map (P.Pt.sh p) ++ tod) ∧ Below b w wr) (fun i _ => ps.length + qs.length - (intOf i).toNat)
  case atStart => exact ⟨[], qs, ps.length, rfl, rfl, rfl, by simpa using h, Below.refl _ _⟩
  case round =>
    obtain ⟨don, tod, K, hqs, hK, rfl, hrd, hbw⟩ := hrel
    have HQ : Hid (qs = don ++ tod) := hqs
    have HK : Hid (K = ps.length + don.length) := hK
    have hlen : K + tod.length ≤ j := by rw [hqs, List.length_append] at hfew; omega
    have hlen2 : K + tod.length ≤ qs.length + ps.length := by rw [hqs, List.length_append]; omega
    have c2 := hrd.cur.c2
    have hlt := hrd.cur.lt
    clear hqs
    cases tod with
    | nil =>
      rw [List.append_nil] at hrd
      have hl : (ps ++ don.map (P.Pt.sh p)).length = K := by simp; omega
      have hfin : don = qs := by have := HQ.out; simpa using this.symm
      have how := hrd.own
      rw [hl] at how
      have HF : Hid (Rd wr b s j v (ps ++ don.map (P.Pt.sh p))) := hrd
      have HD : Hid (don = qs) := hfin
      clear hfin hrd hl hK
      rcases how.2 with ⟨rfl, h0⟩ | ⟨g, cap, cur, rfl, _⟩
      · clear how
        have HZ : Hid (K = 0) := h0
        have h00 : ¬ ((K : Int) < 0) := by omega
        clear h0
        go_wp2_with fail
        go_end0
        exact ⟨rfl, by rw [← HD.out]; exact HF.out, hbw⟩
      · clear how
        go_wp2_with fail
        go_end0
        exact ⟨rfl, by rw [← HD.out]; exact HF.out, hbw⟩
    | cons x tod =>
      simp only [List.length_cons] at hlen hlen2
      obtain ⟨g, cap, hv, _, _⟩ := hrd.own.form (by simp; omega)
      obtain ⟨N, hN⟩ : ∃ N, N = (ps ++ don.map (P.Pt.sh p) ++ x :: tod).length := ⟨_, rfl⟩
      rw [← hN] at hv
      subst hv
      obtain ⟨cc, cf, hn, hn2, hn3⟩ := rd_cell hrd
      have hset := rd_set hrd (x.place + p)
      have hA : (ps ++ don.map (P.Pt.sh p)).length = K := by simp; omega
      rw [hA] at cc cf hn hset
      have hxp : x.place ≤ 100000 := hq x (by rw [HQ.out]; simp)
      have HS : Hid _ := hset
      have hKN : (K : Int) < (N : Int) := by omega
      unfold maxLen at hn3
      have hNb : N ≤ 80 := by have := hrd.few; omega
      have h0K : (0 : Int) ≤ (K : Int) := by omega
      clear hset hN hn hK hA hrd hq
      go_wp2_with fail
      refine ⟨⟨don ++ [x], tod, K + 1, by rw [HQ.out]; simp, by have := HK.out; simp; omega, by go_num, ?_, hbw.trans HS.out.2⟩, by simp [intOf]; omega⟩
      have hfin := HS.out.1
      rw [show ps ++ List.map (P.Pt.sh p) (don ++ [x]) ++ tod = ps ++ don.map (P.Pt.sh p) ++ { x with place := x.place + p } :: tod by simp [P.Pt.sh]]
      exact hfin
end Go.Proofs.YtghggcehloiemabGreatDoor
namespace Go.Proofs.YtghggcehloiemabGreatDoor
open Go.RowKit
set_option linter.unusedVariables false
set_option maxRecDepth 16000

/-- What a reading of a type answers. -/
def RdPost (n : Nat) (o : Option (P.Ty n × List UInt8)) (s : ByteArray) (i b : Nat) (ps : List P.Pt) (w : World) (e : Ending) (w' : World) : Prop :=
  (match o with
    | some (t, r) => e = .returned (.tuple #[.int .i64 (P.sz n t).1, .int .i64 (P.sz n t).2, .bool true]) ∧ ∃ j v', i ≤ j ∧ s.data.toList.drop j = r ∧ Rd w' b s j v' (ps ++ P.parts n t)
    | none => e = .returned (.tuple #[.int .i64 0, .int .i64 0, .bool false])) ∧ Below b w w'
theorem RdPost.no {n : Nat} {o : Option (P.Ty n × List UInt8)} {s : ByteArray} {i b : Nat} {ps : List P.Pt} {w w' : World} {e : Ending} (ho : o = none) (he : e = .returned (.tuple #[.int .i64 0, .int .i64 0, .bool false])) (hb : Below b w w') : RdPost n o s i b ps w e w' := by
  subst ho; exact ⟨he, hb⟩
theorem RdPost.yes {n : Nat} {o : Option (P.Ty n × List UInt8)} {s : ByteArray} {i b : Nat} {ps : List P.Pt} {w w' : World} {e : Ending} {t : P.Ty n} {r : List UInt8} {j : Nat} {v' : Value} (ho : o = some (t, r)) (he : e = .returned (.tuple #[.int .i64 (P.sz n t).1, .int .i64 (P.sz n t).2, .bool true])) (hj : i ≤ j) (hr : s.data.toList.drop j = r) (hrd : Rd w' b s j v' (ps ++ P.parts n t)) (hb : Below b w w') : RdPost n o s i b ps w e w' := by
  subst ho; exact ⟨⟨he, j, v', hj, hr, hrd⟩, hb⟩
theorem RdPost.trans {n : Nat} {o : Option (P.Ty n × List UInt8)} {s : ByteArray} {i i' b : Nat} {ps : List P.Pt} {w w1 w' : World} {e : Ending} (h : RdPost n o s i' b ps w1 e w') (hb : Below b w w1) (hi : i ≤ i') : RdPost n o s i b ps w e w' := by
  obtain ⟨h1, h2⟩ := h
  refine ⟨?_, hb.trans h2⟩
  cases o with
  | none => exact h1
  | some x => obtain ⟨t, r⟩ := x; obtain ⟨he, j, v', hj, hr⟩ := h1; exact ⟨he, j, v', by omega, hr⟩

theorem hit_yes {s : ByteArray} {i : Nat} {m : UInt8} (h : hit s i m = true) : s.data.toList.drop i = m :: s.data.toList.drop (i + 1) := by
  have h' : s.data.toList[i]? = some m := by simpa [hit] using h
  obtain ⟨hl, he⟩ := List.getElem?_eq_some_iff.1 h'
  rw [List.drop_eq_getElem_cons hl, he]
theorem hit_no {s : ByteArray} {i : Nat} {m : UInt8} (h : hit s i m = false) : (s.data.toList.drop i).head? ≠ some m := by
  intro hh
  rw [List.head?_drop] at hh
  simp [hit, hh] at h

theorem leaf_to_rd {n : Nat} {num : Bool} {s : ByteArray} {i b : Nat} {ps : List P.Pt} {w w1 w' : World} {e : Ending} (h : LeafPost num s (i + 1) b ps w1 e w') (hb : Below b w w1) (hh : hit s i (if num then 117 else 98) = true) : RdPost n (P.rd n (s.data.toList.drop i)) s i b ps w e w' := by
  obtain ⟨h1, h2⟩ := h
  have hd := hit_yes hh
  have hl : P.leafy (s.data.toList.drop i) = true := by rw [hd]; cases num <;> simp [P.leafy]
  rw [P.rd_leafy _ _ hl, hd]
  cases hn : P.rdnum (if num then 4 else 16) (s.data.toList.drop (i + 1)) with
  | none =>
    rw [hn] at h1
    refine RdPost.no ?_ h1 (hb.trans h2)
    cases num <;> simp_all [P.rdLeaf]
  | some x =>
    obtain ⟨k, m⟩ := x
    rw [hn] at h1
    simp only at h1
    split at h1
    · rename_i hbad
      refine RdPost.no ?_ h1 (hb.trans h2)
      cases num <;> simp_all [P.rdLeaf]
    · rename_i hok
      obtain ⟨he, hik, v', hrd⟩ := h1
      refine RdPost.yes (t := P.lf n (num, k)) (r := (s.data.toList.drop (i + 1)).drop m) (j := i + 1 + m) (v' := v') ?_ (by rw [P.sz_lf]; exact he) (by omega) (by rw [List.drop_drop]) (by rw [P.parts_lf]; exact hrd) (hb.trans h2)
      cases num <;> simp_all [P.rdLeaf]

def RS (n : Nat) : Prop := ∀ (b i d : Nat) (s : ByteArray) (w : World) (v : Value) (ps : List P.Pt), d + n = 5 → Rd w b s i v ps →
  Calls Tryz.prog 134 #[.pointer (some ⟨b, 0, none⟩), .int .i64 d] w fun e w' => RdPost n (P.rdS n (s.data.toList.drop i)) s i b ps w e w'
def RT (n : Nat) : Prop := ∀ (b i d : Nat) (s : ByteArray) (w : World) (v : Value) (ps : List P.Pt), d + n = 4 → Rd w b s i v ps →
  Calls Tryz.prog 87 #[.pointer (some ⟨b, 0, none⟩), .int .i64 d] w fun e w' => RdPost n (P.rd n (s.data.toList.drop i)) s i b ps w e w'

theorem Rd.move {w w1 : World} {b i : Nat} {s : ByteArray} {v : Value} {ps : List P.Pt} (h : Rd w b s i v ps) (hc : Cur w1 b s (i + 1) v 139) (ho : Only b w w1) (hi : i < s.size) : Rd w1 b s (i + 1) v ps :=
  ⟨hc, ho.own h.own, hi, h.short, by have := h.few; omega⟩
theorem Rd.stay {w w1 : World} {b i : Nat} {s : ByteArray} {v : Value} {ps : List P.Pt} (h : Rd w b s i v ps) (hc : Cur w1 b s i v 139) (ho : Only b w w1) : Rd w1 b s i v ps :=
  ⟨hc, ho.own h.own, h.here, h.short, h.few⟩

theorem triple (b : Nat) {e : Ending} {w' : World} {n : Nat} {o : Option (P.Ty n × List UInt8)} {s : ByteArray} {i : Nat} {ps : List P.Pt} {w : World} (h : RdPost n o s i b ps w e w') :
    ∃ (x y : Int) (z : Bool), e = .returned (.tuple #[.int .i64 x, .int .i64 y, .bool z]) := by
  obtain ⟨h1, _⟩ := h
  cases o with
  | none => exact ⟨_, _, _, h1⟩
  | some x => exact ⟨_, _, _, h1.1⟩

set_option maxHeartbeats 1000000 in
theorem readType_of {n : Nat} (hS : RS n) : RT n := by
  intro b i d s w v ps hd h
  have hs := h.short
  have hdb : d ≤ 4 := by omega
  by_cases h117 : hit s i 117 = true
  · have HH : Hid (hit s i 117 = true) := h117
    clear h117
    go_enter Tryz.func87, Tryz.ntmps87
    go_wp2_with fail
    refine (skip_yes (m := 117) h.cur (by unfold maxLen; omega) HH.out).mono ?_
    rintro e w1 ⟨rfl, hi, hc, ho⟩
    go_wp2_with fail
    refine (readNumber_any (h.move hc ho hi) (by omega) (by have := h.few; omega)).mono ?_
    intro e w2 hp
    have hp2 := leaf_to_rd (n := n) hp (ho.below (Nat.le_refl _)) HH.out
    obtain ⟨x, y, z, rfl⟩ := triple b hp2
    have HP := hp2
    clear hp2 hp
    go_wp2_with fail
    go_ret3
    exact HP
  · have hno : hit s i 117 = false := by simpa using h117
    by_cases h98 : hit s i 98 = true
    · have HH : Hid (hit s i 98 = true) := h98
      have HN : Hid (hit s i 117 = false) := hno
      clear h98 hno h117
      go_enter Tryz.func87, Tryz.ntmps87
      go_wp2_with fail
      refine (skip_no (m := 117) h.cur HN.out).mono ?_
      rintro e w1 ⟨rfl, hc, ho⟩
      have h1 := h.stay hc ho
      have hbe := ho.below (Nat.le_refl b)
      clear hc ho
      go_wp2_with fail
      refine (skip_yes (m := 98) h1.cur (by unfold maxLen; omega) HH.out).mono ?_
      rintro e w2 ⟨rfl, hi, hc, ho⟩
      go_wp2_with fail
      refine (readBytes_any (h1.move hc ho hi) (by omega) (by have := h.few; omega)).mono ?_
      intro e w3 hp
      have hp2 := leaf_to_rd (n := n) hp (hbe.trans (ho.below (Nat.le_refl _))) HH.out
      obtain ⟨x, y, z, rfl⟩ := triple b hp2
      have HP := hp2
      clear hp2 hp
      go_wp2_with fail
      go_ret3
      exact HP
    · have HH : Hid (hit s i 98 = false) := by simpa [Hid] using h98
      have HN : Hid (hit s i 117 = false) := hno
      clear h98 hno h117
      go_enter Tryz.func87, Tryz.ntmps87
      go_wp2_with fail
      refine (skip_no (m := 117) h.cur HN.out).mono ?_
      rintro e w1 ⟨rfl, hc, ho⟩
      have h1 := h.stay hc ho
      have hbe := ho.below (Nat.le_refl b)
      clear hc ho
      go_wp2_with fail
      refine (skip_no (m := 98) h1.cur HH.out).mono ?_
      rintro e w2 ⟨rfl, hc, ho⟩
      have h2 := h1.stay hc ho
      have hbe2 := hbe.trans (ho.below (Nat.le_refl b))
      clear hc ho
      go_wp2_with fail
      refine (hS b i (d + 1) s _ v ps (by omega) h2).mono ?_
      intro e w3 hp
      have hl : P.leafy (s.data.toList.drop i) = false := by
        simp only [P.leafy, Bool.or_eq_false_iff, beq_eq_false_iff_ne]
        exact ⟨hit_no HN.out, hit_no HH.out⟩
      have hp2 : RdPost n (P.rd n (s.data.toList.drop i)) s i b ps w e w3 := by rw [P.rd_else _ _ hl]; exact hp.trans hbe2 (Nat.le_refl _)
      obtain ⟨x, y, z, rfl⟩ := triple b hp2
      have HP := hp2
      clear hp2 hp hl
      go_wp2_with fail
      go_ret3
      exact HP
end Go.Proofs.YtghggcehloiemabGreatDoor
namespace Go.Proofs.YtghggcehloiemabGreatDoor
open Go.RowKit
set_option linter.unusedVariables false
set_option maxRecDepth 16000

set_option maxHeartbeats 400000 in
theorem readStruct_zero : RS 0 := by
  intro b i d s w v ps hd h
  have hd5 : (4 : Int) < (d : Int) := by omega
  clear h
  go_enter Tryz.func134, Tryz.ntmps134
  go_wp2_with fail
  go_ret3
  exact RdPost.no rfl rfl (Below.refl _ _)

theorem rdF_no {α : Type} {f : List UInt8 → Option (α × List UInt8)} {k : Nat} {acc : List α} {l : List UInt8} (h : f l = none) : P.rdF f (k + 1) acc l = none := by simp [P.rdF, h]
theorem rdF_close {α : Type} {f : List UInt8 → Option (α × List UInt8)} {k : Nat} {acc : List α} {l r : List UInt8} {t : α} (h : f l = some (t, 125 :: r)) : P.rdF f (k + 1) acc l = some (acc ++ [t], r) := by simp [P.rdF, h]
theorem rdF_comma {α : Type} {f : List UInt8 → Option (α × List UInt8)} {k : Nat} {acc : List α} {l r : List UInt8} {t : α} (h : f l = some (t, 44 :: r)) : P.rdF f (k + 1) acc l = P.rdF f k (acc ++ [t]) r := by simp [P.rdF, h]
theorem rdF_bad {α : Type} {f : List UInt8 → Option (α × List UInt8)} {k : Nat} {acc : List α} {l r : List UInt8} {t : α} (h : f l = some (t, r)) (h1 : r.head? ≠ some 125) (h2 : r.head? ≠ some 44) : P.rdF f (k + 1) acc l = none := by
  rw [P.rdF, h]
  cases r with
  | nil => rfl
  | cons c r => simp at h1 h2; simp [h1, h2]

/-- What holds at the head of each round of 'readStruct'. -/
structure Inv (m : Nat) (b i : Nat) (s : ByteArray) (ps : List P.Pt) (w : World) (ts : List (P.Ty m)) (p e1 e2 : Nat) (v' : Value) (wr : World) : Prop where
  rd : Rd wr b s p v' (ps ++ P.markP 123 :: P.body (0, 1) (ts.map fun t => (P.parts m t, P.sz m t)))
  below : Below b w wr
  go : P.rdF (P.rd m) (8 - ts.length) ts (s.data.toList.drop p) = P.rdF (P.rd m) 8 [] (s.data.toList.drop (i + 1))
  le : i + 1 ≤ p
  fold : P.fold (ts.map (P.sz m)) = (e1, e2)
  few : ts.length ≤ 8
  b1 : e1 + 16 * (s.size - p) ≤ 1280
  b2 : 1 ≤ e2
  b3 : e2 ≤ 4

theorem rdS_eq {m : Nat} {s : ByteArray} {i : Nat} (hh : hit s i 123 = true) : P.rdS (m + 1) (s.data.toList.drop i) = (P.rdF (P.rd m) 8 [] (s.data.toList.drop (i + 1))).map (fun x => (.inr x.1, x.2)) := by
  rw [hit_yes hh]; simp [P.rdS]
theorem rdS_no {m : Nat} {s : ByteArray} {i : Nat} (hh : hit s i 123 = false) : P.rdS (m + 1) (s.data.toList.drop i) = none := by
  have h := hit_no hh
  cases hl : s.data.toList.drop i with
  | nil => rfl
  | cons c r => rw [hl] at h; simp at h; simp [P.rdS, h]

theorem shift_at {b j first : Nat} {s : ByteArray} {w : World} {v : Value} {ps qs : List P.Pt} {p : Nat} (h : Rd w b s j v (ps ++ qs)) (hf : first = ps.length) (hp : p ≤ 100000) (hq : ∀ x ∈ qs, x.place ≤ 100000) :
    Calls Tryz.prog 162 #[.pointer (some ⟨b, 0, none⟩), .int .i64 first, .int .i64 p] w fun e w' => e = .returned (.tuple #[]) ∧ Rd w' b s j v (ps ++ qs.map (P.Pt.sh p)) ∧ Below b w w' := by
  subst hf; exact shift_any h hp hq

set_option maxHeartbeats 2000000 in
theorem readStruct_of {m : Nat} (hT : RT m) : RS (m + 1) := by
  intro b i d s w v ps hd h
  have hs := h.short
  have hd5 : ¬ (4 : Int) < (d : Int) := by omega
  by_cases h123 : hit s i 123 = true
  · have HH : Hid (hit s i 123 = true) := h123
    clear h123
    go_enter Tryz.func134, Tryz.ntmps134
    go_wp2_with fail
    refine (readMark_yes (m := 123) h HH.out).mono ?_
    rintro e w1 ⟨rfl, hi, ⟨v1, h1⟩, hbe⟩
    clear h
    go_wp2_with fail
    go_loopw [7, 8, 9] (fun x y z wr => ∃ (ts : List (P.Ty m)) (p e1 e2 : Nat) (v' : Value), x = .int .i64 e1 ∧ y = .int .i64 e2 ∧ z = .int .i64 ts.length ∧ Inv m b i s ps w ts p e1 e2 v' wr) (fun _ _ z _ => 8 - (intOf z).toNat)
    case atStart => exact ⟨[], i + 1, 0, 1, v1, rfl, rfl, rfl, ⟨by simpa [P.body] using h1, hbe, rfl, Nat.le_refl _, rfl, by simp, by omega, by omega, by omega⟩⟩
    case round =>
      obtain ⟨ts, p, e1, e2, v', rfl, rfl, rfl, hinv⟩ := hrel
      clear h1 hbe
      obtain ⟨K, hK⟩ : ∃ K, K = ts.length := ⟨_, rfl⟩
      rw [← hK]
      have HK : Hid (K = ts.length) := hK
      clear hK
      have he1 := hinv.b1
      have he2 := hinv.b2
      have he3 := hinv.b3
      have hfew := hinv.few
      by_cases hlt : K < 8
      · obtain ⟨g, cap, hv, _, _⟩ := hinv.rd.own.form (by simp; omega)
        obtain ⟨N, hN⟩ : ∃ N, N = (ps ++ P.markP 123 :: P.body (0, 1) (ts.map fun t => (P.parts m t, P.sz m t))).length := ⟨_, rfl⟩
        rw [← hN] at hv
        subst hv
        have HNN : Hid (N = _) := hN
        clear hN
        have c2 := hinv.rd.cur.c2
        go_wp2_with fail
        refine (hT b p d s _ _ _ (by omega) hinv.rd).mono ?_
        rintro e w2 ⟨hpost, hbe2⟩
        clear c2
        cases hrd : P.rd m (s.data.toList.drop p) with
        | none =>
          rw [hrd] at hpost
          simp only at hpost
          subst hpost
          have hgo : P.rdS (m + 1) (s.data.toList.drop i) = none := by
            rw [rdS_eq HH.out, ← hinv.go, ← HK.out, show 8 - K = (8 - K - 1) + 1 by omega, rdF_no hrd]; rfl
          have HG : Hid (P.rdS (m + 1) (s.data.toList.drop i) = none) := hgo
          have HB : Below b w w2 := hinv.below.trans hbe2
          clear hrd hgo
          go_wp2_with fail
          go_ret3
          exact RdPost.no HG.out rfl HB
        | some x =>
          obtain ⟨t, r⟩ := x
          have hgood := P.rd_good m _ t r hrd
          rw [hrd] at hpost
          simp only at hpost
          obtain ⟨rfl, j, v2, hpj, hjr, hrd2⟩ := hpost
          have hj := hrd2.here
          have hfold := hinv.fold
          have hle := hinv.le
          obtain ⟨⟨hg1, hg2, hg3⟩, hg4⟩ := hgood
          obtain ⟨fs, hfs⟩ : ∃ fs, fs = (P.sz m t).1 := ⟨_, rfl⟩
          obtain ⟨fp, hfp⟩ : ∃ fp, fp = (P.sz m t).2 := ⟨_, rfl⟩
          have hsz : P.sz m t = (fs, fp) := by rw [hfs, hfp]
          rw [← hfs] at hg3 hg4
          rw [← hfp] at hg1 hg2
          rw [← hjr] at hg4
          simp only [List.length_drop, Array.length_toList, ByteArray.size_data] at hg4
          have hgp : Hid (∀ x ∈ P.parts m t, x.place ≤ fs) := hg3
          obtain ⟨U, hU⟩ : ∃ U, P.up e1 fp = U := ⟨_, rfl⟩
          have hU1 : e1 ≤ U := by rw [← hU]; exact P.le_up _ _ hg1
          have hU2 : U ≤ e1 + 3 := by have := P.up_le e1 fp hg1; omega
          have HU : Hid (P.up e1 fp = U) := hU
          have Hrd : Hid (P.rd m (s.data.toList.drop p) = some (t, r)) := hrd
          have Hr : Hid (s.data.toList.drop j = r) := hjr
          have HFS : Hid (P.sz m t = (fs, fp)) := hsz
          have HF : Hid (P.fold (ts.map (P.sz m)) = (e1, e2)) := hfold
          have HMM : Hid ((((ts.map fun t => (P.parts m t, P.sz m t)).map (·.2)).foldl P.lay1 (0, 1)) = (e1, e2)) := by
            have e : (ts.map (fun t => (P.parts m t, P.sz m t))).map (·.2) = ts.map (P.sz m) := by simp [Function.comp_def]
            unfold Hid; rw [e]; exact hfold
          have HB : Below b w w2 := hinv.below.trans hbe2
          rw [← hfs, ← hfp]
          clear hg3 hU hrd hjr hsz hfold hfs hfp hbe2
          have hbig : fs ≤ 1280 := by omega
          by_cases hmax : (e2 : Int) < (fp : Int)
          · have HFOLD : Hid (P.fold ((ts ++ [t]).map (P.sz m)) = (U + fs, fp)) := by
              unfold Hid; rw [List.map_append, List.map_cons, List.map_nil, P.fold_snoc, HF.out, HFS.out]; simp only [P.lay1, HU.out]; congr 1; omega
            have HSZ : Hid (P.sz (m + 1) (.inr (ts ++ [t])) = (P.up (U + fs) fp, fp)) := by
              unfold Hid; simp only [P.sz, P.closed, HFOLD.out]
            go_wp2_with fail
            refine (roundUp_any e1 fp _ (by omega) (by omega) (by omega)).mono ?_
            rintro e w3 ⟨rfl, rfl⟩
            rw [HU.out]
            go_wp2_with fail
            refine (shift_at hrd2 HNN.out (by omega) (fun x hx => Nat.le_trans (hgp.out x hx) (by omega))).mono ?_
            rintro e w4 ⟨rfl, hrd4, hbe4⟩
            by_cases h125 : hit s j 125 = true
            · have H5 : Hid (hit s j 125 = true) := h125
              clear h125
              go_wp2_with fail
              refine (readMark_yes (m := 125) hrd4 H5.out).mono ?_
              rintro e w5 ⟨rfl, hj5, ⟨v5, hrd5⟩, hbe5⟩
              go_wp2_with fail
              refine (roundUp_any (U + fs) fp _ (by omega) (by omega) (by omega)).mono ?_
              rintro e w6 ⟨rfl, rfl⟩
              go_wp2_with fail
              go_ret3
              refine RdPost.yes (t := .inr (ts ++ [t])) (r := s.data.toList.drop (j + 1)) (j := j + 1) (v' := v5) ?_ ?_ (by omega) rfl ?_ (HB.trans (hbe4.trans hbe5))
              · rw [rdS_eq HH.out, ← hinv.go, ← HK.out, show 8 - K = (8 - K - 1) + 1 by omega, rdF_close (by rw [Hrd.out, ← Hr.out, hit_yes H5.out])]; rfl
              · rw [HSZ.out]; rfl
              · rw [P.parts_struct, HF.out, HFS.out]
                simpa [HU.out] using hrd5
            · have H5 : Hid (hit s j 125 = false) := by simpa [Hid] using h125
              clear h125
              by_cases h44 : hit s j 44 = true
              · have H4 : Hid (hit s j 44 = true) := h44
                clear h44
                go_wp2_with fail
                refine (readMark_no (m := 125) hrd4 H5.out).mono ?_
                rintro e w5 ⟨rfl, hrd5, hbe5⟩
                go_wp2_with fail
                refine (readMark_yes (m := 44) hrd5 H4.out).mono ?_
                rintro e w6 ⟨rfl, hj6, ⟨v6, hrd6⟩, hbe6⟩
                go_wp2_with fail
                refine ⟨⟨ts ++ [t], j + 1, U + fs, fp, v6, by go_num, rfl, by have := HK.out; simp; omega, ⟨?_, HB.trans (hbe4.trans (hbe5.trans hbe6)), ?_, by omega, HFOLD.out, by have := HK.out; simp; omega, by omega, by omega, by omega⟩⟩, by simp [intOf]; omega⟩
                · rw [List.map_append, List.map_cons, List.map_nil, P.body_snoc, HMM.out, HFS.out]
                  simpa [HU.out] using hrd6
                · rw [← hinv.go]
                  have e8 : 8 - ts.length = (8 - (ts ++ [t]).length) + 1 := by have := HK.out; simp; omega
                  rw [e8, rdF_comma (by rw [Hrd.out, ← Hr.out, hit_yes H4.out])]
              · have H4 : Hid (hit s j 44 = false) := by simpa [Hid] using h44
                clear h44
                go_wp2_with fail
                refine (readMark_no (m := 125) hrd4 H5.out).mono ?_
                rintro e w5 ⟨rfl, hrd5, hbe5⟩
                go_wp2_with fail
                refine (readMark_no (m := 44) hrd5 H4.out).mono ?_
                rintro e w6 ⟨rfl, hrd6, hbe6⟩
                go_wp2_with fail
                go_ret3
                refine RdPost.no ?_ rfl (HB.trans (hbe4.trans (hbe5.trans hbe6)))
                rw [rdS_eq HH.out, ← hinv.go, ← HK.out, show 8 - K = (8 - K - 1) + 1 by omega, rdF_bad Hrd.out (by rw [← Hr.out]; exact hit_no H5.out) (by rw [← Hr.out]; exact hit_no H4.out)]; rfl
          · have HFOLD : Hid (P.fold ((ts ++ [t]).map (P.sz m)) = (U + fs, e2)) := by
              unfold Hid; rw [List.map_append, List.map_cons, List.map_nil, P.fold_snoc, HF.out, HFS.out]; simp only [P.lay1, HU.out]; congr 1; omega
            have HSZ : Hid (P.sz (m + 1) (.inr (ts ++ [t])) = (P.up (U + fs) e2, e2)) := by
              unfold Hid; simp only [P.sz, P.closed, HFOLD.out]
            go_wp2_with fail
            refine (roundUp_any e1 fp _ (by omega) (by omega) (by omega)).mono ?_
            rintro e w3 ⟨rfl, rfl⟩
            rw [HU.out]
            go_wp2_with fail
            refine (shift_at hrd2 HNN.out (by omega) (fun x hx => Nat.le_trans (hgp.out x hx) (by omega))).mono ?_
            rintro e w4 ⟨rfl, hrd4, hbe4⟩
            by_cases h125 : hit s j 125 = true
            · have H5 : Hid (hit s j 125 = true) := h125
              clear h125
              go_wp2_with fail
              refine (readMark_yes (m := 125) hrd4 H5.out).mono ?_
              rintro e w5 ⟨rfl, hj5, ⟨v5, hrd5⟩, hbe5⟩
              go_wp2_with fail
              refine (roundUp_any (U + fs) e2 _ (by omega) (by omega) (by omega)).mono ?_
              rintro e w6 ⟨rfl, rfl⟩
              go_wp2_with fail
              go_ret3
              refine RdPost.yes (t := .inr (ts ++ [t])) (r := s.data.toList.drop (j + 1)) (j := j + 1) (v' := v5) ?_ ?_ (by omega) rfl ?_ (HB.trans (hbe4.trans hbe5))
              · rw [rdS_eq HH.out, ← hinv.go, ← HK.out, show 8 - K = (8 - K - 1) + 1 by omega, rdF_close (by rw [Hrd.out, ← Hr.out, hit_yes H5.out])]; rfl
              · rw [HSZ.out]; rfl
              · rw [P.parts_struct, HF.out, HFS.out]
                simpa [HU.out] using hrd5
            · have H5 : Hid (hit s j 125 = false) := by simpa [Hid] using h125
              clear h125
              by_cases h44 : hit s j 44 = true
              · have H4 : Hid (hit s j 44 = true) := h44
                clear h44
                go_wp2_with fail
                refine (readMark_no (m := 125) hrd4 H5.out).mono ?_
                rintro e w5 ⟨rfl, hrd5, hbe5⟩
                go_wp2_with fail
                refine (readMark_yes (m := 44) hrd5 H4.out).mono ?_
                rintro e w6 ⟨rfl, hj6, ⟨v6, hrd6⟩, hbe6⟩
                go_wp2_with fail
                refine ⟨⟨ts ++ [t], j + 1, U + fs, e2, v6, by go_num, rfl, by have := HK.out; simp; omega, ⟨?_, HB.trans (hbe4.trans (hbe5.trans hbe6)), ?_, by omega, HFOLD.out, by have := HK.out; simp; omega, by omega, by omega, by omega⟩⟩, by simp [intOf]; omega⟩
                · rw [List.map_append, List.map_cons, List.map_nil, P.body_snoc, HMM.out, HFS.out]
                  simpa [HU.out] using hrd6
                · rw [← hinv.go]
                  have e8 : 8 - ts.length = (8 - (ts ++ [t]).length) + 1 := by have := HK.out; simp; omega
                  rw [e8, rdF_comma (by rw [Hrd.out, ← Hr.out, hit_yes H4.out])]
              · have H4 : Hid (hit s j 44 = false) := by simpa [Hid] using h44
                clear h44
                go_wp2_with fail
                refine (readMark_no (m := 125) hrd4 H5.out).mono ?_
                rintro e w5 ⟨rfl, hrd5, hbe5⟩
                go_wp2_with fail
                refine (readMark_no (m := 44) hrd5 H4.out).mono ?_
                rintro e w6 ⟨rfl, hrd6, hbe6⟩
                go_wp2_with fail
                go_ret3
                refine RdPost.no ?_ rfl (HB.trans (hbe4.trans (hbe5.trans hbe6)))
                rw [rdS_eq HH.out, ← hinv.go, ← HK.out, show 8 - K = (8 - K - 1) + 1 by omega, rdF_bad Hrd.out (by rw [← Hr.out]; exact hit_no H5.out) (by rw [← Hr.out]; exact hit_no H4.out)]; rfl
      · have HZ : Hid (8 - ts.length = 0) := by have := HK.out; unfold Hid; omega
        go_wp2_with fail
        go_ret3
        refine RdPost.no ?_ rfl hinv.below
        rw [rdS_eq HH.out, ← hinv.go, HZ.out]; rfl
  · have hno : hit s i 123 = false := by simpa using h123
    have HN : Hid (hit s i 123 = false) := hno
    clear h123 hno
    go_enter Tryz.func134, Tryz.ntmps134
    go_wp2_with fail
    refine (readMark_no (m := 123) h HN.out).mono ?_
    rintro e w1 ⟨rfl, _, hbe⟩
    go_wp2_with fail
    go_ret3
    exact RdPost.no (rdS_no HN.out) rfl hbe

theorem reads (n : Nat) : RS n ∧ RT n := by
  induction n with
  | zero => exact ⟨readStruct_zero, readType_of readStruct_zero⟩
  | succ n ih => exact ⟨readStruct_of ih.2, readType_of (readStruct_of ih.2)⟩
end Go.Proofs.YtghggcehloiemabGreatDoor
