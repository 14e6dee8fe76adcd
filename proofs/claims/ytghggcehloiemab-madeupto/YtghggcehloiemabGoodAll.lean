import Derived.Test.YtghggcehloiemabTypesAll
namespace Go.Proofs.Ytghggcehloiemab.P

def Good (n : Nat) (t : Ty n) : Prop := 1 ≤ (sz n t).2 ∧ (sz n t).2 ≤ 4 ∧ ∀ x ∈ parts n t, x.place ≤ (sz n t).1

theorem rdnum_some {most : Nat} {l : List UInt8} {n k : Nat} (h : rdnum most l = some (n, k)) : n ≤ most ∧ 1 ≤ k ∧ k ≤ l.length := by
  unfold rdnum at h
  split at h
  · cases h
  · rename_i hn
    have hl : (digs l).length ≤ l.length := by
      unfold digs
      exact (List.takeWhile_sublist _).length_le
    simp at h
    have h1 : digs l ≠ [] := fun e => hn (Or.inl e)
    have h2 : 0 < (digs l).length := List.length_pos_iff.2 h1
    refine ⟨?_, by omega, by omega⟩
    rcases Nat.lt_or_ge most (val (digs l)) with h3 | h3
    · exact absurd (Or.inr (Or.inr h3)) hn
    · omega

theorem rdLeaf_good {l : List UInt8} {x : (Bool × Nat) × List UInt8} (h : rdLeaf l = some x) : 1 ≤ (lsz x.1).2 ∧ (lsz x.1).2 ≤ 4 ∧ (lsz x.1).1 ≤ 16 ∧ 1 ≤ (lsz x.1).1 ∧ x.2.length + 2 ≤ l.length := by
  unfold rdLeaf at h
  cases l with
  | nil => cases h
  | cons c r =>
    simp only at h
    split at h
    · cases hn : rdnum 4 r with
      | none => rw [hn] at h; cases h
      | some y =>
        obtain ⟨k, m⟩ := y
        obtain ⟨h1, h2, h3⟩ := rdnum_some hn
        rw [hn] at h
        simp only at h
        split at h
        · cases h
        · cases h; simp [lsz]; omega
    · cases hn : rdnum 16 r with
      | none => rw [hn] at h; cases h
      | some y =>
        obtain ⟨k, m⟩ := y
        obtain ⟨h1, h2, h3⟩ := rdnum_some hn
        rw [hn] at h
        simp only at h
        split at h
        · cases h
        · cases h; simp [lsz]; omega

theorem lay1_le {a b : Nat × Nat} (hb1 : 1 ≤ b.2) (hb4 : b.2 ≤ 4) : a.1 + b.1 ≤ (lay1 a b).1 ∧ (lay1 a b).1 ≤ a.1 + 3 + b.1 ∧ up a.1 b.2 + b.1 = (lay1 a b).1 := by
  have h1 := up_le a.1 b.2 hb1
  have h2 := le_up a.1 b.2 hb1
  simp only [lay1]; refine ⟨?_, ?_, trivial⟩ <;> omega

theorem fold_step {l : List (Nat × Nat)} : (∀ x ∈ l, 1 ≤ x.2 ∧ x.2 ≤ 4) → ∀ a : Nat × Nat, 1 ≤ a.2 → a.2 ≤ 4 → 1 ≤ (l.foldl lay1 a).2 ∧ (l.foldl lay1 a).2 ≤ 4 ∧ a.1 ≤ (l.foldl lay1 a).1 := by
  induction l with
  | nil => intro _ a h1 h2; exact ⟨h1, h2, Nat.le_refl _⟩
  | cons x l ih =>
    intro h a h1 h2
    have hx := h x (by simp)
    have hl := lay1_le (a := a) hx.1 hx.2
    have := ih (fun y hy => h y (by simp [hy])) (lay1 a x) (by simp [lay1]; omega) (by simp [lay1]; omega)
    rw [List.foldl_cons]
    omega

theorem body_le (xs : List (List Pt × (Nat × Nat))) : (∀ y ∈ xs, 1 ≤ y.2.2 ∧ y.2.2 ≤ 4 ∧ ∀ z ∈ y.1, z.place ≤ y.2.1) → ∀ a : Nat × Nat, 1 ≤ a.2 → a.2 ≤ 4 → ∀ z ∈ body a xs, z.place ≤ ((xs.map (·.2)).foldl lay1 a).1 := by
  induction xs with
  | nil => intro _ a _ _ z hz; simp [body] at hz
  | cons x xs ih =>
    intro h a h1 h2 z hz
    have hx := h x (by simp)
    have hl := lay1_le (a := a) hx.1 hx.2.1
    have hm2 : 1 ≤ (lay1 a x.2).2 ∧ (lay1 a x.2).2 ≤ 4 := by simp only [lay1]; omega
    have hmono := fold_step (l := xs.map (·.2)) (by
      intro y hy
      obtain ⟨q, hq, rfl⟩ := List.mem_map.1 hy
      have := h q (by simp [hq]); exact ⟨this.1, this.2.1⟩) (lay1 a x.2) hm2.1 hm2.2
    simp only [List.map_cons, List.foldl_cons]
    rw [body, List.mem_append, List.mem_cons] at hz
    rcases hz with hz | rfl | hz
    · obtain ⟨q, hq, rfl⟩ := List.mem_map.1 hz
      have := hx.2.2 q hq
      simp only [Pt.sh]
      omega
    · simp [markP]
    · exact ih (fun y hy => h y (by simp [hy])) _ hm2.1 hm2.2 z hz

theorem good_struct {n : Nat} {ts : List (Ty n)} (h : ∀ t ∈ ts, Good n t) : Good (n + 1) (.inr ts) := by
  have hs : ∀ x ∈ ts.map (sz n), 1 ≤ x.2 ∧ x.2 ≤ 4 := by
    intro x hx
    obtain ⟨t, ht, rfl⟩ := List.mem_map.1 hx
    exact ⟨(h t ht).1, (h t ht).2.1⟩
  obtain ⟨h1, h2, _⟩ := fold_step hs (0, 1) (by simp) (by simp)
  have e : (ts.map (fun t => (parts n t, sz n t))).map (·.2) = ts.map (sz n) := by simp [Function.comp_def]
  have hup := le_up (fold (ts.map (sz n))).1 (fold (ts.map (sz n))).2 h1
  refine ⟨h1, h2, ?_⟩
  intro x hx
  have hb : ∀ z ∈ body (0, 1) (ts.map fun t => (parts n t, sz n t)), z.place ≤ (fold (ts.map (sz n))).1 := by
    have := body_le (ts.map fun t => (parts n t, sz n t)) (by
      intro y hy
      obtain ⟨t, ht, rfl⟩ := List.mem_map.1 hy
      exact h t ht) (0, 1) (by simp) (by simp)
    rw [e] at this; exact this
  simp only [parts, List.mem_cons, List.mem_append] at hx
  simp only [sz, closed]
  rcases hx with rfl | hx | hx
  · simp [markP]
  · have := hb x (List.dropLast_subset _ hx); omega
  · simp at hx; subst hx; simp [markP]

theorem rdF_good {n : Nat} (ih : ∀ l t r, rd n l = some (t, r) → Good n t ∧ (sz n t).1 + 16 * r.length ≤ 16 * l.length) :
    ∀ (k : Nat) (acc : List (Ty n)) (s : List UInt8) (ts : List (Ty n)) (r : List UInt8) (M : Nat), rdF (rd n) k acc s = some (ts, r) → (∀ t ∈ acc, Good n t) → (fold (acc.map (sz n))).1 + 16 * s.length ≤ M →
    (∀ t ∈ ts, Good n t) ∧ (fold (ts.map (sz n))).1 + 3 + 16 * r.length ≤ M := by
  intro k
  induction k with
  | zero => intro acc s ts r M h; simp [rdF] at h
  | succ k ihk =>
    intro acc s ts r M h hacc hM
    rw [rdF] at h
    split at h
    · cases h
    · cases h
    · rename_i t c r' hf
      obtain ⟨hg, hle⟩ := ih _ _ _ hf
      have hgs : ∀ x ∈ acc ++ [t], Good n x := by
        intro x hx
        rcases List.mem_append.1 hx with hx | hx
        · exact hacc x hx
        · simp at hx; subst hx; exact hg
      have hl := lay1_le (a := fold (acc.map (sz n))) hg.1 hg.2.1
      have hfd : fold ((acc ++ [t]).map (sz n)) = lay1 (fold (acc.map (sz n))) (sz n t) := by rw [List.map_append, List.map_cons, List.map_nil, fold_snoc]
      simp only [List.length_cons] at hle
      split at h
      · cases h
        refine ⟨hgs, ?_⟩
        rw [hfd]; omega
      · split at h
        · exact ihk _ _ _ _ M h hgs (by rw [hfd]; omega)
        · cases h

theorem rd_good : ∀ (n : Nat) (l : List UInt8) (t : Ty n) (r : List UInt8), rd n l = some (t, r) → Good n t ∧ (sz n t).1 + 16 * r.length ≤ 16 * l.length := by
  intro n
  have leafcase : ∀ (n : Nat) (l : List UInt8) (t : Ty n) (r : List UInt8), (rdLeaf l).map (fun x => (lf n x.1, x.2)) = some (t, r) → Good n t ∧ (sz n t).1 + 16 * r.length ≤ 16 * l.length := by
    intro n l t r h
    cases hx : rdLeaf l with
    | none => rw [hx] at h; cases h
    | some x =>
      rw [hx] at h
      simp at h
      obtain ⟨rfl, rfl⟩ := h
      have hg := rdLeaf_good hx
      refine ⟨⟨by rw [sz_lf]; exact hg.1, by rw [sz_lf]; exact hg.2.1, ?_⟩, by rw [sz_lf]; omega⟩
      rw [parts_lf]
      intro y hy
      simp at hy; subst hy; simp [lpart]
  induction n with
  | zero =>
    intro l t r h
    by_cases hl : leafy l = true
    · rw [rd_leafy _ _ hl] at h; exact leafcase 0 l t r h
    · simp [rd, hl] at h
  | succ n ih =>
    intro l t r h
    by_cases hl : leafy l = true
    · rw [rd_leafy _ _ hl] at h; exact leafcase _ l t r h
    · rw [rd_else _ _ (by simpa using hl)] at h
      cases l with
      | nil => simp [rdS] at h
      | cons c s =>
        simp only [rdS] at h
        split at h
        · cases hx : rdF (rd n) 8 [] s with
          | none => rw [hx] at h; cases h
          | some x =>
            obtain ⟨ts, r'⟩ := x
            rw [hx] at h
            simp at h
            obtain ⟨rfl, rfl⟩ := h
            obtain ⟨hg, hle⟩ := rdF_good ih 8 [] s ts _ (16 * s.length) hx (by simp) (by simp [fold])
            have hgd := good_struct hg
            refine ⟨hgd, ?_⟩
            have h1 := hgd.1
            have h2 := hgd.2.1
            simp only [sz, closed] at h1 h2 ⊢
            have := up_le (fold (ts.map (sz n))).1 (fold (ts.map (sz n))).2 h1
            simp only [List.length_cons]
            omega
        · cases h

end Go.Proofs.Ytghggcehloiemab.P
namespace Go.Proofs.Ytghggcehloiemab
open Go.RowKit
set_option linter.unusedVariables false
set_option maxRecDepth 16000

theorem cellsOf_get (ps : List P.Pt) : ∀ (i k : Nat) (x : P.Pt), ps[i]? = some x → k < 4 → (cellsOf ps)[i * 4 + k]? = (ptCells x)[k]? := by
  induction ps with
  | nil => intro i k x h; simp at h
  | cons y ps ih =>
    intro i k x h hk
    have e : cellsOf (y :: ps) = ptCells y ++ cellsOf ps := by simp [cellsOf]
    have hl : (ptCells y).length = 4 := rfl
    rw [e]
    cases i with
    | zero =>
      simp at h; subst h
      rw [List.getElem?_append_left (by omega)]; simp
    | succ i =>
      simp at h
      rw [List.getElem?_append_right (by omega), hl, show (i + 1) * 4 + k - 4 = i * 4 + k by omega]
      exact ih i k x h hk
theorem cellsOf_set (A B : List P.Pt) (x : P.Pt) (q : Nat) : (cellsOf (A ++ x :: B)).set (A.length * 4 + 2) (.int .i64 q) = cellsOf (A ++ { x with place := q } :: B) := by
  have hl := cellsOf_length A
  have e1 : cellsOf (A ++ x :: B) = cellsOf A ++ (ptCells x ++ cellsOf B) := by simp [cellsOf]
  have e2 : cellsOf (A ++ { x with place := q } :: B) = cellsOf A ++ (ptCells { x with place := q } ++ cellsOf B) := by simp [cellsOf]
  rw [e1, e2, List.set_append_right _ _ (by omega)]
  congr 1
  rw [show A.length * 4 + 2 - (cellsOf A).length = 2 by omega]
  simp [ptCells]

/-- Where the parts lie. -/
theorem rd_cell {w : World} {b j g n cap : Nat} {s : ByteArray} {A B : List P.Pt} {x : P.Pt} (h : Rd w b s j (.slice (some ⟨g, 0, none⟩) n cap) (A ++ x :: B)) : w.cell? ⟨g, A.length * 4 + 2, none⟩ = some (.int .i64 x.place) ∧ w.frozen? ⟨g, A.length * 4 + 2, none⟩ = false ∧ n = A.length + 1 + B.length ∧ n ≤ cap ∧ cap ≤ maxLen := by
  have hx := h.own
  obtain ⟨h1, h2⟩ := hx
  rcases h2 with ⟨h2, _⟩ | ⟨g', cap', cur, hv, hb, hg, hn, hm, hsz, htk⟩
  · cases h2
  · cases hv
    refine ⟨?_, by simp [World.frozen?, hg], by simp; omega, hn, hm⟩
    rw [cell_of_row w g _ _ _ _ hg]
    have hget := cellsOf_get (A ++ x :: B) A.length 2 x (by simp) (by omega)
    rw [← htk] at hget
    rw [List.getElem?_take_of_lt (by simp; omega)] at hget
    simpa [ptCells] using hget
theorem rd_set {w : World} {b j g n cap : Nat} {s : ByteArray} {A B : List P.Pt} {x : P.Pt} (h : Rd w b s j (.slice (some ⟨g, 0, none⟩) n cap) (A ++ x :: B)) (q : Nat) :
    Rd (w.setCell ⟨g, A.length * 4 + 2, none⟩ (.int .i64 q)) b s j (.slice (some ⟨g, 0, none⟩) n cap) (A ++ { x with place := q } :: B) ∧ Below b w (w.setCell ⟨g, A.length * 4 + 2, none⟩ (.int .i64 q)) := by
  have hx := h.own
  obtain ⟨h1, h2⟩ := hx
  rcases h2 with ⟨h2, _⟩ | ⟨g', cap', cur, hv, hb, hg, hn, hm, hsz, htk⟩
  · cases h2
  · cases hv
    refine ⟨⟨?_, ⟨?_, .inr ⟨g, cap, cur.setIfInBounds (A.length * 4 + 2) (.int .i64 q), by simp, hb, ?_, by simpa using hn, hm, by simpa using hsz, ?_⟩⟩, h.here, h.short, by simpa using h.few⟩, (Below.refl _ _).setCell (by simp; omega) _⟩
    · have := h.cur
      unfold Cur at *
      rw [Below.heap_setCell _ _ _ _ (by simp; omega)]; exact this
    · rw [cellsOf_length]
    · simp [World.setCell, Array.getElem?_modify, hg]
    · rw [← cellsOf_set, ← htk]
      simp [List.take_set]

set_option maxHeartbeats 1000000 in
theorem shift_any {b j : Nat} {s : ByteArray} {w : World} {v : Value} {ps qs : List P.Pt} {p : Nat} (h : Rd w b s j v (ps ++ qs)) (hp : p ≤ 100000) (hq : ∀ x ∈ qs, x.place ≤ 100000) :
    Calls Try.prog 86 #[.pointer (some ⟨b, 0, none⟩), .int .i64 ps.length, .int .i64 p] w fun e w' => e = .returned (.tuple #[]) ∧ Rd w' b s j v (ps ++ qs.map (P.Pt.sh p)) ∧ Below b w w' := by
  have hs := h.short
  have hfew := h.few
  have hj := h.here
  simp only [List.length_append] at hfew
  go_enter Try.func86, Try.ntmps86
  go_wp2_with fail
  go_loopw [6] (fun i wr => ∃ (don tod : List P.Pt) (K : Nat), qs = don ++ tod ∧ K = ps.length + don.length ∧ i = .int .i64 K ∧ Rd wr b s j v (ps ++ don.map (P.Pt.sh p) ++ tod) ∧ Below b w wr) (fun i _ => ps.length + qs.length - (intOf i).toNat)
  case atStart => exact ⟨[], qs, ps.length, rfl, rfl, rfl, by simpa using h, Below.refl _ _⟩
  case round =>
    obtain ⟨don, tod, K, hqs, hK, rfl, hrd, hbw⟩ := hrel
    have HQ : Hid (qs = don ++ tod) := hqs
    have HK : Hid (K = ps.length + don.length) := hK
    have hlen : K + tod.length ≤ j := by rw [hqs, List.length_append] at hfew; omega
    have hlen2 : K + tod.length ≤ qs.length + ps.length := by rw [hqs, List.length_append]; omega
    have c2 := hrd.cur.c2
    have hlt := hrd.cur.lt
    clear hqs
    cases tod with
    | nil =>
      rw [List.append_nil] at hrd
      have hl : (ps ++ don.map (P.Pt.sh p)).length = K := by simp; omega
      have hfin : don = qs := by have := HQ.out; simpa using this.symm
      have how := hrd.own
      rw [hl] at how
      have HF : Hid (Rd wr b s j v (ps ++ don.map (P.Pt.sh p))) := hrd
      have HD : Hid (don = qs) := hfin
      clear hfin hrd hl hK
      rcases how.2 with ⟨rfl, h0⟩ | ⟨g, cap, cur, rfl, _⟩
      · clear how
        have HZ : Hid (K = 0) := h0
        have h00 : ¬ ((K : Int) < 0) := by omega
        clear h0
        go_wp2_with fail
        go_end0
        exact ⟨rfl, by rw [← HD.out]; exact HF.out, hbw⟩
      · clear how
        go_wp2_with fail
        go_end0
        exact ⟨rfl, by rw [← HD.out]; exact HF.out, hbw⟩
    | cons x tod =>
      simp only [List.length_cons] at hlen hlen2
      obtain ⟨g, cap, hv, _, _⟩ := hrd.own.form (by simp; omega)
      obtain ⟨N, hN⟩ : ∃ N, N = (ps ++ don.map (P.Pt.sh p) ++ x :: tod).length := ⟨_, rfl⟩
      rw [← hN] at hv
      subst hv
      obtain ⟨cc, cf, hn, hn2, hn3⟩ := rd_cell hrd
      have hset := rd_set hrd (x.place + p)
      have hA : (ps ++ don.map (P.Pt.sh p)).length = K := by simp; omega
      rw [hA] at cc cf hn hset
      have hxp : x.place ≤ 100000 := hq x (by rw [HQ.out]; simp)
      have HS : Hid _ := hset
      have hKN : (K : Int) < (N : Int) := by omega
      unfold maxLen at hn3
      have hNb : N ≤ 80 := by have := hrd.few; omega
      have h0K : (0 : Int) ≤ (K : Int) := by omega
      clear hset hN hn hK hA hrd hq
      go_wp2_with fail
      refine ⟨⟨don ++ [x], tod, K + 1, by rw [HQ.out]; simp, by have := HK.out; simp; omega, by go_num, ?_, hbw.trans HS.out.2⟩, by simp [intOf]; omega⟩
      have hfin := HS.out.1
      rw [show ps ++ List.map (P.Pt.sh p) (don ++ [x]) ++ tod = ps ++ don.map (P.Pt.sh p) ++ { x with place := x.place + p } :: tod by simp [P.Pt.sh]]
      exact hfin
end Go.Proofs.Ytghggcehloiemab
