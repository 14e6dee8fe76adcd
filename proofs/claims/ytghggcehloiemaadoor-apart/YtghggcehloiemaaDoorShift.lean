import Derived.Test.YtghggcehloiemaaDoorReader
import Derived.Test.YtghggcehloiemaaDoorGood
namespace Go.Proofs.YtghggcehloiemaaDoor
open Go.RowKit
set_option linter.unusedVariables false
set_option maxRecDepth 16000

theorem cellsOf_get (ps : List P.Pt) : ∀ (i k : Nat) (x : P.Pt), ps[i]? = some x → k < 4 → (cellsOf ps)[i * 4 + k]? = (ptCells x)[k]? := by
  induction ps with
  | nil => intro i k x h; simp at h
  | cons y ps ih =>
    intro i k x h hk
    have e : cellsOf (y :: ps) = ptCells y ++ cellsOf ps := by simp [cellsOf]
    have hl : (ptCells y).length = 4 := rfl
    rw [e]
    cases i with
    | zero =>
      simp at h; subst h
      rw [List.getElem?_append_left (by omega)]; simp
    | succ i =>
      simp at h
      rw [List.getElem?_append_right (by omega), hl, show (i + 1) * 4 + k - 4 = i * 4 + k by omega]
      exact ih i k x h hk
theorem cellsOf_set (A B : List P.Pt) (x : P.Pt) (q : Nat) : (cellsOf (A ++ x :: B)).set (A.length * 4 + 2) (.int .i64 q) = cellsOf (A ++ { x with place := q } :: B) := by
  have hl := cellsOf_length A
  have e1 : cellsOf (A ++ x :: B) = cellsOf A ++ (ptCells x ++ cellsOf B) := by simp [cellsOf]
  have e2 : cellsOf (A ++ { x with place := q } :: B) = cellsOf A ++ (ptCells { x with place := q } ++ cellsOf B) := by simp [cellsOf]
  rw [e1, e2, List.set_append_right _ _ (by omega)]
  congr 1
  rw [show A.length * 4 + 2 - (cellsOf A).length = 2 by omega]
  simp [ptCells]

/-- Where the parts lie. -/
theorem rd_cell {w : World} {b j g n cap : Nat} {s : ByteArray} {A B : List P.Pt} {x : P.Pt} (h : Rd w b s j (.slice (some ⟨g, 0, none⟩) n cap) (A ++ x :: B)) : w.cell? ⟨g, A.length * 4 + 2, none⟩ = some (.int .i64 x.place) ∧ w.frozen? ⟨g, A.length * 4 + 2, none⟩ = false ∧ n = A.length + 1 + B.length ∧ n ≤ cap ∧ cap ≤ maxLen := by
  have hx := h.own
  obtain ⟨h1, h2⟩ := hx
  rcases h2 with ⟨h2, _⟩ | ⟨g', cap', cur, hv, hb, hg, hn, hm, hsz, htk⟩
  · cases h2
  · cases hv
    refine ⟨?_, by simp [World.frozen?, hg], by simp; omega, hn, hm⟩
    rw [cell_of_row w g _ _ _ _ hg]
    have hget := cellsOf_get (A ++ x :: B) A.length 2 x (by simp) (by omega)
    rw [← htk] at hget
    rw [List.getElem?_take_of_lt (by simp; omega)] at hget
    simpa [ptCells] using hget
theorem rd_set {w : World} {b j g n cap : Nat} {s : ByteArray} {A B : List P.Pt} {x : P.Pt} (h : Rd w b s j (.slice (some ⟨g, 0, none⟩) n cap) (A ++ x :: B)) (q : Nat) :
    Rd (w.setCell ⟨g, A.length * 4 + 2, none⟩ (.int .i64 q)) b s j (.slice (some ⟨g, 0, none⟩) n cap) (A ++ { x with place := q } :: B) ∧ Below b w (w.setCell ⟨g, A.length * 4 + 2, none⟩ (.int .i64 q)) := by
  have hx := h.own
  obtain ⟨h1, h2⟩ := hx
  rcases h2 with ⟨h2, _⟩ | ⟨g', cap', cur, hv, hb, hg, hn, hm, hsz, htk⟩
  · cases h2
  · cases hv
    refine ⟨⟨?_, ⟨?_, .inr ⟨g, cap, cur.setIfInBounds (A.length * 4 + 2) (.int .i64 q), by simp, hb, ?_, by simpa using hn, hm, by simpa using hsz, ?_⟩⟩, h.here, h.short, by simpa using h.few⟩, (Below.refl _ _).setCell (by simp; omega) _⟩
    · have := h.cur
      unfold Cur at *
      rw [Below.heap_setCell _ _ _ _ (by simp; omega)]; exact this
    · rw [cellsOf_length]
    · simp [World.setCell, Array.getElem?_modify, hg]
    · rw [← cellsOf_set, ← htk]
      simp [List.take_set]

set_option maxHeartbeats 1000000 in
theorem shift_any {b j : Nat} {s : ByteArray} {w : World} {v : Value} {ps qs : List P.Pt} {p : Nat} (h : Rd w b s j v (ps ++ qs)) (hp : p ≤ 100000) (hq : ∀ x ∈ qs, x.place ≤ 100000) :
    Calls Tryd.prog 48 #[.pointer (some ⟨b, 0, none⟩), .int .i64 ps.length, .int .i64 p] w fun e w' => e = .returned (.tuple #[]) ∧ Rd w' b s j v (ps ++ qs.map (P.Pt.sh p)) ∧ Below b w w' := by
  have hs := h.short
  have hfew := h.few
  have hj := h.here
  simp only [List.length_append] at hfew
  go_enter Tryd.func48, Tryd.ntmps48
  go_wp2_with fail
  go_loopw [6] (fun i wr => ∃ (don tod : List P.Pt) (K : Nat), qs = don ++ tod ∧ K = ps.length + don.length ∧ i = .int .i64 K ∧ Rd wr b s j v (ps ++ don.map (P.Pt.sh p) ++ tod) ∧ Below b w wr) (fun i _ => ps.length + qs.length - (intOf i).toNat)
  case atStart => exact ⟨[], qs, ps.length, rfl, rfl, rfl, by simpa using h, Below.refl _ _⟩
  case round =>
    obtain ⟨don, tod, K, hqs, hK, rfl, hrd, hbw⟩ := hrel
    have HQ : Hid (qs = don ++ tod) := hqs
    have HK : Hid (K = ps.length + don.length) := hK
    have hlen : K + tod.length ≤ j := by rw [hqs, List.length_append] at hfew; omega
    have hlen2 : K + tod.length ≤ qs.length + ps.length := by rw [hqs, List.length_append]; omega
    have c2 := hrd.cur.c2
    have hlt := hrd.cur.lt
    clear hqs
    cases tod with
    | nil =>
      rw [List.append_nil] at hrd
      have hl : (ps ++ don.map (P.Pt.sh p)).length = K := by simp; omega
      have hfin : don = qs := by have := HQ.out; simpa using this.symm
      have how := hrd.own
      rw [hl] at how
      have HF : Hid (Rd wr b s j v (ps ++ don.map (P.Pt.sh p))) := hrd
      have HD : Hid (don = qs) := hfin
      clear hfin hrd hl hK
      rcases how.2 with ⟨rfl, h0⟩ | ⟨g, cap, cur, rfl, _⟩
      · clear how
        have HZ : Hid (K = 0) := h0
        have h00 : ¬ ((K : Int) < 0) := by omega
        clear h0
        go_wp2_with fail
        go_end0
        exact ⟨rfl, by rw [← HD.out]; exact HF.out, hbw⟩
      · clear how
        go_wp2_with fail
        go_end0
        exact ⟨rfl, by rw [← HD.out]; exact HF.out, hbw⟩
    | cons x tod =>
      simp only [List.length_cons] at hlen hlen2
      obtain ⟨g, cap, hv, _, _⟩ := hrd.own.form (by simp; omega)
      obtain ⟨N, hN⟩ : ∃ N, N = (ps ++ don.map (P.Pt.sh p) ++ x :: tod).length := ⟨_, rfl⟩
      rw [← hN] at hv
      subst hv
      obtain ⟨cc, cf, hn, hn2, hn3⟩ := rd_cell hrd
      have hset := rd_set hrd (x.place + p)
      have hA : (ps ++ don.map (P.Pt.sh p)).length = K := by simp; omega
      rw [hA] at cc cf hn hset
      have hxp : x.place ≤ 100000 := hq x (by rw [HQ.out]; simp)
      have HS : Hid _ := hset
      have hKN : (K : Int) < (N : Int) := by omega
      unfold maxLen at hn3
      have hNb : N ≤ 80 := by have := hrd.few; omega
      have h0K : (0 : Int) ≤ (K : Int) := by omega
      clear hset hN hn hK hA hrd hq
      go_wp2_with fail
      refine ⟨⟨don ++ [x], tod, K + 1, by rw [HQ.out]; simp, by have := HK.out; simp; omega, by go_num, ?_, hbw.trans HS.out.2⟩, by simp [intOf]; omega⟩
      have hfin := HS.out.1
      rw [show ps ++ List.map (P.Pt.sh p) (don ++ [x]) ++ tod = ps ++ don.map (P.Pt.sh p) ++ { x with place := x.place + p } :: tod by simp [P.Pt.sh]]
      exact hfin
end Go.Proofs.YtghggcehloiemaaDoor
