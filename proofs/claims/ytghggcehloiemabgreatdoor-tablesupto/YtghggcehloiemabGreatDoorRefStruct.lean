import Derived.Test.YtghggcehloiemabGreatDoorTypAtAll
import Derived.Deep.RegionHeld3
import Derived.Deep.DrawnRows
namespace Go.Proofs.YtghggcehloiemabGreatDoor
open Go.RowKit
set_option linter.unusedVariables false

namespace P
theorem cutGo_len : ∀ (r : List UInt8) (d : Int) (cur : List UInt8) (ps : List (List UInt8)), cutGo d cur r = some ps → ∀ p ∈ ps, p.length ≤ cur.length + r.length := by
  intro r
  induction r with
  | nil => intro d cur ps h p hp; simp [cutGo] at h; subst h; simp at hp
  | cons c r ih =>
    intro d cur ps h p hp
    rw [cutGo] at h
    split at h
    · cases h
    · split at h
      · split at h
        · cases h; simp at hp; subst hp; simp
        · cases h
      · split at h
        · cases hx : cutGo 0 [] r with
          | none => rw [hx] at h; cases h
          | some qs =>
            rw [hx] at h; simp at h; subst h
            rcases List.mem_cons.1 hp with rfl | hp
            · omega
            · have := ih _ _ _ hx p hp; simp at this ⊢; omega
        · have := ih _ _ _ h p hp; simp at this ⊢; omega
theorem cut_len {l : List UInt8} {ps : List (List UInt8)} (h : cut l = some ps) : ∀ p ∈ ps, p.length ≤ l.length := by
  unfold cut at h
  split at h
  · intro p hp
    have := cutGo_len _ _ _ _ h p hp
    simp at this; omega
  · cases h
end P

namespace P
def rpS (n : Nat) (ps : List (List UInt8)) : Option (Ty (n + 1)) := if 8 < ps.length then none else (match allM (rp n) ps with
        | none => none
        | some ts => if (sz (n + 1) (.inr ts)).1 ≤ 32 then some (.inr ts) else none)
theorem rp_struct {n : Nat} {l : List UInt8} (hh : l.head? = some 123) : rp (n + 1) l = (cut l).bind (rpS n) := by
  rw [rp, if_pos hh]; cases cut l <;> rfl
end P

structure LInv (n : Nat) (w : World) (T : Nat) (vS : Value) (ss : List ByteArray) (ts : List (P.Ty n)) (fs : List (Array Value)) (S : Nat → Prop) (e1 e2 : Nat) (vF vA : Value) (wr : World) : Prop where
  q : Q w T vS ss wr S (.int .i64 e1) (.int .i64 e2) vF vA vF ts.length (fs.flatMap Array.toList) vA ts.length ((P.places (0, 1) (ts.map (P.sz n))).map fun x : Nat => Value.int .i64 (x : Int)) wr
  len : fs.length = ts.length
  kids : ∀ (i : Nat) (t : P.Ty n) (c : Array Value), ts[i]? = some t → fs[i]? = some c → c.size = 5 ∧ TypAt wr n t (.agg c) S
  fold : P.fold (ts.map (P.sz n)) = (e1, e2)
  b1 : e1 ≤ 35 * ts.length
  b2 : 1 ≤ e2
  b3 : e2 ≤ 4
  all : P.AInv (P.rp n) (ss.map fun x => x.data.toList) ts.length ts
  few : ts.length ≤ ss.length

/-- A string of the list, where it lies. -/
theorem str_cell {w : World} {base g N cap i : Nat} {ss : List ByteArray} {x : ByteArray} (h : w.ownsRow base 9 1 (.slice (some ⟨g, 0, none⟩) N cap) ss.length (ss.map Value.string)) (hx : ss[i]? = some x) : w.cell? ⟨g, i, none⟩ = some (.string x) ∧ N = ss.length ∧ N ≤ cap := by
  obtain ⟨h1, h2⟩ := h
  rcases h2 with ⟨h2, _⟩ | ⟨g', cap', cur, hv, hb, hg, hn, hm, hsz, htk⟩
  · cases h2
  · cases hv
    refine ⟨?_, rfl, hn⟩
    rw [cell_of_row w g _ _ _ _ hg]
    have hl : i < ss.length := (List.getElem?_eq_some_iff.1 hx).1
    have hget : (ss.map Value.string)[i]? = some (.string x) := by simp [hx]
    rw [← htk, List.getElem?_take_of_lt (by omega)] at hget
    simpa using hget

theorem Q.self {w : World} {T : Nat} {vS : Value} {ss : List ByteArray} {w0 : World} {S : Nat → Prop} {x1 x2 xF xA vF : Value} {nF : Nat} {XF : List Value} {vA : Value} {nA : Nat} {XA : List Value} {wr : World} (h : Q w T vS ss w0 S x1 x2 xF xA vF nF XF vA nA XA wr) : Q w T vS ss wr S x1 x2 xF xA vF nF XF vA nA XA wr :=
  ⟨h.res, h.lt, h.var, h.strs, h.strsT, h.rowF, h.rowA, h.ne, h.foot, fun _ _ => rfl, h.below⟩

/-- One field more. -/
theorem LInv.step {n : Nat} {w : World} {T : Nat} {vS : Value} {ss : List ByteArray} {ts : List (P.Ty n)} {fs : List (Array Value)} {S Sc : Nat → Prop} {e1 e2 K : Nat} {vF vA vF' vA' : Value} {wr w3 WF : World} {t : P.Ty n} {c : Array Value} {o : Obj} {U fs1 fp M : Nat}
    (hinv : LInv n w T vS ss ts fs S e1 e2 vF vA wr) (hbe3 : Below wr.heap.size wr w3) (hT : TypAt w3 n t (.agg c) Sc) (hc : c.size = 5) (hSc : ∀ g, Sc g → wr.heap.size ≤ g ∧ g < w3.heap.size) (hsz : P.sz n t = (fs1, fp)) (hU : P.up e1 fp = U) (hU2 : U ≤ e1 + 3) (hfs : fs1 ≤ 32) (hM : M = max e2 fp) (hM1 : 1 ≤ M) (hM4 : M ≤ 4)
    (hK : K = ts.length) (hai : P.AInv (P.rp n) (ss.map fun x => x.data.toList) (K + 1) (ts ++ [t])) (hlt : K < ss.length)
    (hq : Q w T vS ss (w3.alloc o) (fun g => S g ∨ Sc g ∨ g = w3.heap.size) (.int .i64 ((U + fs1 : Nat) : Int)) (.int .i64 M) vF' vA' vF' (ts.length + 1) (fs.flatMap Array.toList ++ c.toList) vA' (ts.length + 1) ((P.places (0, 1) (ts.map (P.sz n))).map (fun x : Nat => Value.int .i64 (x : Int)) ++ [.int .i64 U]) WF) :
    LInv n w T vS ss (ts ++ [t]) (fs ++ [c]) (fun g => S g ∨ Sc g ∨ g = w3.heap.size) (U + fs1) M vF' vA' WF := by
  have hfold : P.fold ((ts ++ [t]).map (P.sz n)) = (U + fs1, M) := by
    rw [List.map_append, List.map_cons, List.map_nil, P.fold_snoc, hinv.fold, hsz]; simp only [P.lay1, hU, hM]
  have hpl : P.places (0, 1) ((ts ++ [t]).map (P.sz n)) = P.places (0, 1) (ts.map (P.sz n)) ++ [U] := by
    rw [List.map_append, List.map_cons, List.map_nil, P.places_snoc]
    have : (ts.map (P.sz n)).foldl P.lay1 (0, 1) = (e1, e2) := hinv.fold
    rw [this, hsz, hU]
  have hold : ∀ g, S g → WF.heap[g]? = wr.heap[g]? := fun g hg => by
    have hf := hinv.q.foot g hg
    have := hbe3.size
    rw [hq.keep g (Or.inl hg), Below.heap_alloc _ _ _ (by omega), hbe3.block g hf.2.1]
  have hnew : ∀ g, Sc g → WF.heap[g]? = w3.heap[g]? := fun g hg => by
    have hf := hSc g hg
    rw [hq.keep g (Or.inr (Or.inl hg)), Below.heap_alloc _ _ _ hf.2]
  have hl := hinv.len
  refine ⟨?_, by simp [hl], ?_, hfold, by have := hinv.b1; simp; omega, hM1, hM4, by simpa [hK] using hai, by simp; omega⟩
  · have := hq.self
    rw [hpl]
    simpa using this
  · intro i t' c' ht hc'
    rcases Nat.lt_or_ge i ts.length with hi | hi
    · rw [List.getElem?_append_left hi] at ht
      rw [List.getElem?_append_left (by omega)] at hc'
      have := hinv.kids i t' c' ht hc'
      exact ⟨this.1, this.2.of hold (fun g hg => Or.inl hg)⟩
    · rw [List.getElem?_append_right hi] at ht
      rw [List.getElem?_append_right (by omega)] at hc'
      have h0 : i - ts.length = 0 := by
        have := (List.getElem?_eq_some_iff.1 ht).1; simp at this; omega
      rw [h0] at ht
      rw [show i - fs.length = 0 by omega] at hc'
      simp at ht hc'
      subst ht hc'
      exact ⟨hc, hT.of hnew (fun g hg => Or.inr (Or.inl hg))⟩

theorem set5_heap (W : World) (R : Nat) (a b c d e : Value) : (∀ g, g ≠ R → (((((W.setCell ⟨R, 0, none⟩ a).setCell ⟨R, 1, none⟩ b).setCell ⟨R, 2, none⟩ c).setCell ⟨R, 3, none⟩ d).setCell ⟨R, 4, none⟩ e).heap[g]? = W.heap[g]?) ∧ (((((W.setCell ⟨R, 0, none⟩ a).setCell ⟨R, 1, none⟩ b).setCell ⟨R, 2, none⟩ c).setCell ⟨R, 3, none⟩ d).setCell ⟨R, 4, none⟩ e).heap.size = W.heap.size := by
  refine ⟨fun g hg => ?_, by simp [World.setCell]⟩
  rw [Below.heap_setCell _ _ _ _ hg, Below.heap_setCell _ _ _ _ hg, Below.heap_setCell _ _ _ _ hg, Below.heap_setCell _ _ _ _ hg, Below.heap_setCell _ _ _ _ hg]
theorem owns_less' {w : World} {base : Nat} {e : TypeId} {size n : Nat} {v : Value} {xs : List Value} (h : w.ownsRow base e size v n xs) : w.ownsRow 0 e size v n xs := by
  obtain ⟨h1, h2⟩ := h
  refine ⟨h1, ?_⟩
  rcases h2 with h2 | ⟨g, cap, cur, hv, hb', hr⟩
  · exact .inl h2
  · exact .inr ⟨g, cap, cur, hv, by omega, hr⟩

set_option maxRecDepth 100000 in
set_option maxHeartbeats 4000000 in
theorem rparse_struct {n : Nat} (hP : RP n) (d : Nat) (s : ByteArray) (w : World) (hd : d + (n + 1) = 4) (hs : s.size ≤ 80) (hh : s.data.toList.head? = some 123) :
    Calls Tryz.prog 117 #[.string s, .int .i64 d] w fun e w' => RpPost (n + 1) (P.rp (n + 1) s.data.toList) w e w' := by
  obtain ⟨i0, hi0, hz0, hz1, hz2⟩ := info_parts Tryz.infoTyp
  obtain ⟨i1, hi1, hy0, hy1, hy2⟩ := info_parts Tryz.infoInt
  have hd4 : ((d : Int) == 4) = false := by rw [beq_eq_false_iff_ne]; omega
  have hrp : P.rp (n + 1) s.data.toList = (P.cut s.data.toList).bind (P.rpS n) := P.rp_struct hh
  have HRP : Hid _ := hrp
  clear hrp
  have h0 : 0 < s.size := by
    rcases Nat.lt_or_ge 0 s.size with h | h
    · exact h
    · have e : s.data.toList = [] := List.eq_nil_of_length_eq_zero (by have := tl_len s; omega)
      rw [e] at hh; cases hh
  have hb : ((s.size : Int) == 0) = false := by rw [beq_eq_false_iff_ne]; omega
  have hc : (((s[0]'(by omega)).toNat : Int) != 123) = false := by
    rw [List.head?_eq_getElem?, get_of h0] at hh
    simp at hh
    rw [hh]; rfl
  clear hh
  go_enter Tryz.func117, Tryz.ntmps117
  go_wp2_with fail
  refine (cut_any s _ (by omega)).mono ?_
  rintro e w2 ⟨hpost, hbe⟩
  have hres : w2.heap[w.heap.size]? = some (.cells #[.int .u8 0, .int .i64 0, .int .i64 0, .slice none 0 0, .slice none 0 0] 121 (0, 0)) := by
    rw [hbe.block _ (by simp)]; exact heap_alloc_new _ _
  have hbw : Below w.heap.size w w2 := ((Below.refl _ _).alloc (Nat.le_refl _) _).trans (hbe.mono (by simp))
  have hsz2 := hbe.size
  simp at hsz2
  cases hcut : P.cut s.data.toList with
  | none =>
    rw [hcut] at hpost
    simp only at hpost
    subst hpost
    have HN : Hid (P.rp (n + 1) s.data.toList = none) := by unfold Hid; rw [HRP.out, hcut]; rfl
    obtain ⟨c0, c1, c2, c3, c4⟩ := cells5 hres
    obtain ⟨f0, f1, f2, f3, f4⟩ := froz5 hres
    clear hcut hres
    go_wp2_with fail
    refine bodyPost_ret (v := .tuple #[zeroTyp, .bool false]) (by simp [results, Tryz.results117, go_sem, c0, c1, c2, c3, c4, zeroTyp]) rfl ?_
    exact RpPost.no HN.out rfl isTyp_zero (Below.setCell (Below.setCell (Below.setCell (Below.setCell (Below.setCell hbw (Nat.le_refl _) _) (Nat.le_refl _) _) (Nat.le_refl _) _) (Nat.le_refl _) _) (Nat.le_refl _) _)
  | some ps =>
    rw [hcut] at hpost
    obtain ⟨ss, vS, rfl, hss, hown⟩ := hpost
    have hown' : w2.ownsRow (w.heap.size + 1) 9 1 vS ss.length (ss.map Value.string) := by simpa [Strs] using hown
    have hlen : ps.length = ss.length := by rw [← hss]; simp
    have hsmall : ∀ x ∈ ss, x.size ≤ 80 := by
      intro x hx
      have := P.cut_len hcut x.data.toList (by rw [← hss]; exact List.mem_map_of_mem hx)
      have h1 := tl_len s
      have h2 := tl_len x
      omega
    have HSM : Hid (∀ x ∈ ss, x.size ≤ 80) := hsmall
    have HRP2 : Hid (P.rp (n + 1) s.data.toList = P.rpS n (ss.map fun x => x.data.toList)) := by unfold Hid; rw [HRP.out, hcut, hss]; rfl
    clear hcut hss hown hsmall hbe HRP
    obtain ⟨a, N, cap, rfl⟩ := owns_form hown'
    have hN : N = ss.length := by
      rcases hown'.2 with ⟨h, h'⟩ | ⟨g, cap', cur, h, _⟩
      · cases h; omega
      · cases h; rfl
    have hlt8 : hown'.1 = hown'.1 := rfl
    by_cases h8 : 8 < N
    · have HN : Hid (P.rp (n + 1) s.data.toList = none) := by unfold Hid; rw [HRP2.out, P.rpS, if_pos (by simp; omega)]
      obtain ⟨c0, c1, c2, c3, c4⟩ := cells5 hres
      obtain ⟨f0, f1, f2, f3, f4⟩ := froz5 hres
      clear hres hN hown' hlt8
      go_wp2_with fail
      refine bodyPost_ret (v := .tuple #[zeroTyp, .bool false]) (by simp [results, Tryz.results117, go_sem, c0, c1, c2, c3, c4, zeroTyp]) rfl ?_
      exact RpPost.no HN.out rfl isTyp_zero (Below.setCell (Below.setCell (Below.setCell (Below.setCell (Below.setCell hbw (Nat.le_refl _) _) (Nat.le_refl _) _) (Nat.le_refl _) _) (Nat.le_refl _) _) (Nat.le_refl _) _)
    · have HN : Hid (N = ss.length) := hN
      have hq0 : Q w w2.heap.size (.slice a N cap) ss (w2.alloc (.cells #[.int .u8 123, .int .i64 0, .int .i64 1, .slice none 0 0, .slice none 0 0] 121)) (fun _ => False) (.int .i64 0) (.int .i64 1) (.slice none 0 0) (.slice none 0 0) (.slice none 0 0) 0 [] (.slice none 0 0) 0 [] (w2.alloc (.cells #[.int .u8 123, .int .i64 0, .int .i64 1, .slice none 0 0, .slice none 0 0] 121)) :=
        ⟨blk_alloc hres _, by omega, heap_alloc_new _ _, hown'.alloc _, fun g hg => (hown'.lt _ hg).2, World.ownsRow_nil _ _ _ _, World.ownsRow_nil _ _ _ _, fun g hg => by simp [Value.ownBlock] at hg, fun g hg => hg.elim, fun g hg => hg.elim, hbw.alloc (by omega) _⟩
      clear hN hown' hres hlt8 hlen
      have h8d : decide ((8 : Int) < (N : Int)) = false := by simp; omega
      go_wp2_with fail
      go_loopw [11] (fun i wr => ∃ (ts : List (P.Ty n)) (fs : List (Array Value)) (S : Nat → Prop) (e1 e2 K : Nat) (vF vA : Value), K = ts.length ∧ i = .int .i64 K ∧ LInv n w w2.heap.size (.slice a N cap) ss ts fs S e1 e2 vF vA wr) (fun i _ => N - (intOf i).toNat)
      case atStart => exact ⟨[], [], fun _ => False, 0, 1, 0, .slice none 0 0, .slice none 0 0, rfl, rfl, ⟨hq0, rfl, fun i t c h => by simp at h, rfl, by simp, by omega, by omega, P.ai_start _ _, by simp⟩⟩
      case round =>
        clear hq0
        obtain ⟨ts, fs, S, e1, e2, K, vF, vA, hK, rfl, hinv⟩ := hrel
        have HK : Hid (K = ts.length) := hK
        clear hK
        have hfew := hinv.few
        have hb1 := hinv.b1
        have hb2 := hinv.b2
        have hb3 := hinv.b3
        have hK8 : K ≤ 8 := by have := HN.out; have := HK.out; omega
        by_cases hlt : K < N
        · obtain ⟨g, cap', hv, _, _⟩ := hinv.q.strs.form (by have := HN.out; omega)
          have ha : a = some ⟨g, 0, none⟩ := by injection hv
          subst ha
          clear hv
          obtain ⟨x, hx⟩ : ∃ x, ss[K]? = some x := ⟨_, List.getElem?_eq_getElem (by have := HN.out; omega)⟩
          have hcell := (str_cell hinv.q.strs hx).1
          have hcap := (str_cell hinv.q.strs hx).2.2
          have HX : Hid (ss[K]? = some x) := hx
          have hxs : x.size ≤ 80 := HSM.out x (List.mem_of_getElem? hx)
          clear hx
          have h0K : (0 : Int) ≤ (K : Int) := by omega
          have hKN : (K : Int) < (N : Int) := by omega
          go_wp2_with fail
          refine (hP (d + 1) x _ (by omega) hxs).mono ?_
          rintro e w3 ⟨hpost, hbe3⟩
          cases hrx : P.rp n x.data.toList with
          | none =>
            rw [hrx] at hpost
            obtain ⟨v, rfl, a1, a2, a3, x', n1, k1, y, m1, j1, rfl⟩ := hpost
            have HNN : Hid (P.rp (n + 1) s.data.toList = none) := by
              unfold Hid; rw [HRP2.out, P.rpS, if_neg (by have := HN.out; simp; omega), P.ai_none hinv.all (by rw [← HK.out]; simp [HX.out]) hrx]
            have hq3 := hinv.q.on (S' := S) hbe3 (fun g h => Or.inl h)
            obtain ⟨c0, c1, c2, c3, c4⟩ := cells5a hq3.res
            have cf := froz5a hq3.res
            have hbw3 := hq3.below
            have hsz3 := hbw3.size
            clear hcell hrx hinv hq3
            go_wp2_with fail
            refine bodyPost_ret (v := .tuple #[zeroTyp, .bool false]) (by simp [results, Tryz.results117, go_sem, c0, c1, c2, c3, c4, zeroTyp]) rfl ?_
            exact RpPost.no HNN.out rfl isTyp_zero (Below.setCell (Below.setCell (Below.setCell (Below.setCell (Below.setCell (hbw3.alloc hsz3 _) (Nat.le_refl _) _) (Nat.le_refl _) _) (Nat.le_refl _) _) (Nat.le_refl _) _) (Nat.le_refl _) _)
          | some t =>
            rw [hrx] at hpost
            obtain ⟨v, Sc, rfl, hT, hSc⟩ := hpost
            obtain ⟨a0, x', n1, k1, y, m1, j1, hvv⟩ := hT.is
            obtain ⟨gd1, gd2, gd3⟩ := P.rp_good n _ t hrx
            obtain ⟨fs1, hfs⟩ : ∃ fs1, (P.sz n t).1 = fs1 := ⟨_, rfl⟩
            obtain ⟨fp, hfp⟩ : ∃ fp, (P.sz n t).2 = fp := ⟨_, rfl⟩
            rw [hfs, hfp] at hvv
            rw [hfp] at gd1 gd2
            rw [hfs] at gd3
            subst hvv
            have HSZ : Hid (P.sz n t = (fs1, fp)) := by unfold Hid; rw [← hfs, ← hfp]
            have HAI : Hid (P.AInv (P.rp n) (ss.map fun x => x.data.toList) (K + 1) (ts ++ [t])) := by
              unfold Hid; rw [HK.out]; exact P.ai_some hinv.all (by rw [← HK.out]; simp [HX.out]) hrx
            have hq3 := hinv.q.on (w' := w3.alloc (.cells #[.int .u8 a0, .int .i64 fs1, .int .i64 fp, .slice x' n1 k1, .slice y m1 j1] 121)) (S' := fun g => S g ∨ Sc g ∨ g = w3.heap.size) (hbe3.alloc hbe3.size _) (by
              have := hbe3.size
              rintro g (h | h | rfl)
              · exact Or.inl h
              · have := hSc g h; exact Or.inr ⟨this.1, by simp; omega⟩
              · exact Or.inr ⟨by omega, by simp⟩)
            obtain ⟨c0, c1, c2, c3, c4⟩ := cells5 hq3.var
            obtain ⟨f0, f1, f2, f3, f4⟩ := froz5 hq3.var
            clear hcell hrx hfs hfp
            obtain ⟨U, hU⟩ : ∃ U, P.up e1 fp = U := ⟨_, rfl⟩
            have hU1 : e1 ≤ U := by rw [← hU]; exact P.le_up _ _ gd1
            have hU2 : U ≤ e1 + 3 := by have := P.up_le e1 fp gd1; omega
            have HU : Hid (P.up e1 fp = U) := hU
            clear hU
            have hKt : ts.length ≤ 8 := by have := HK.out; omega
            have hTl := hq3.tlt
            simp at hTl
            go_wp2_with fail
            refine (upTo_any e1 fp _ (by omega) gd1 (by omega)).mono ?_
            rintro e w4 ⟨rfl, rfl⟩
            rw [HU.out]
            have esz : (w3.alloc (.cells #[.int .u8 a0, .int .i64 fs1, .int .i64 fp, .slice x' n1 k1, .slice y m1 j1] 121)).heap.size = w3.heap.size + 1 := by simp
            have hnews : ∀ j u, [Value.int .u8 a0, .int .i64 fs1, .int .i64 fp, .slice x' n1 k1, .slice y m1 j1][j]? = some u → ((w3.alloc (.cells #[.int .u8 a0, .int .i64 fs1, .int .i64 fp, .slice x' n1 k1, .slice y m1 j1] 121)).alloc (.cells #[.int .u8 a0, .int .i64 fs1, .int .i64 fp, .slice x' n1 k1, .slice y m1 j1] 121)).cell? ((⟨w3.heap.size + 1, 0, none⟩ : Addr).add j) = some u :=
              World.news_of_block (by rw [← esz]; exact heap_alloc_new _ _)
            have HNEW : Hid _ := hnews
            clear hnews esz
            go_wp2_with (first
              | (at_builtin; refine wpList_append_lies _ rfl _ _ 119 rfl (w2.heap.size + 1) 121 i0 (.agg #[.int .u8 0, .int .i64 0, .int .i64 0, .slice none 0 0, .slice none 0 0]) 5 72 Tryz.underlying119 hi0 hz0 hz1 hz2 rfl (by decide) vF ts.length (fs.flatMap Array.toList) rfl (hq3.rowF.alloc _) ⟨w3.heap.size + 1, 0, none⟩ 1 1 [.int .u8 a0, .int .i64 fs1, .int .i64 fp, .slice x' n1 k1, .slice y m1 j1] rfl rfl HNEW.out (fun x hx => by simp at hx; rcases hx with rfl | rfl | rfl | rfl | rfl <;> rfl) (by omega) (by unfold maxLen; omega) (by omega) (by simp; omega) ((w3.alloc (.cells #[.int .u8 a0, .int .i64 fs1, .int .i64 fp, .slice x' n1 k1, .slice y m1 j1] 121)).heap.size + 1) (by simp) ?_; intro gF capF w5 hown5 hg5 hat5 hlt5
                 have hq5 := hq3.appF hg5 hown5 hat5
                 clear c0 c1 c2 c3 c4 f0 f1 f2 f3 f4 hown5 hg5 hat5 HNEW
                 obtain ⟨c0, c1, c2, c3, c4⟩ := cells5 hq5.var
                 obtain ⟨f0, f1, f2, f3, f4⟩ := froz5 hq5.var
                 have hF5 : w5.heap[w3.heap.size]? = some (.cells #[.int .u8 a0, .int .i64 fs1, .int .i64 fp, .slice x' n1 k1, .slice y m1 j1] 121 (0, 0)) := (hq5.keep _ (Or.inr (Or.inr rfl))).trans (heap_alloc_new _ _)
                 obtain ⟨d0, d1, d2, d3, d4⟩ := cells5 hF5
                 have hq6 := hq5.setCell 3 (.slice (some ⟨gF, 0, none⟩) (ts.length + 1) capF) (y1 := .int .i64 e1) (y2 := .int .i64 e2) (yF := .slice (some ⟨gF, 0, none⟩) (ts.length + 1) capF) (yA := vA) (by rfl)
                 have e6 : (w5.setCell ⟨w2.heap.size, 3, none⟩ (.slice (some ⟨gF, 0, none⟩) (ts.length + 1) capF)).heap.size = w5.heap.size := by simp [World.setCell]
                 have hnews6 : ∀ j u, [Value.int .i64 U][j]? = some u → ((w5.setCell ⟨w2.heap.size, 3, none⟩ (.slice (some ⟨gF, 0, none⟩) (ts.length + 1) capF)).alloc (.cells #[.int .i64 U] 3)).cell? ((⟨w5.heap.size, 0, none⟩ : Addr).add j) = some u := World.news_of_block (by rw [← e6]; exact heap_alloc_new _ _)
                 have HNEW6 : Hid _ := hnews6
                 have hT5 := hq5.tlt
                 clear hnews6 e6)
              | (at_builtin; refine wpList_append_lies _ rfl _ _ 63 rfl (w2.heap.size + 1) 3 i1 (.int .i64 0) 1 8 Tryz.underlying63 hi1 hy0 hy1 hy2 rfl (by decide) vA ts.length ((P.places (0, 1) (ts.map (P.sz n))).map fun x : Nat => Value.int .i64 (x : Int)) rfl (hq6.rowA.alloc _) ⟨w5.heap.size, 0, none⟩ 1 1 [.int .i64 U] rfl rfl HNEW6.out (fun x hx => by simp at hx; subst hx; rfl) (by omega) (by unfold maxLen; omega) (by omega) (by simp; omega) ((w5.setCell ⟨w2.heap.size, 3, none⟩ (.slice (some ⟨gF, 0, none⟩) (ts.length + 1) capF)).heap.size + 1) (by simp) ?_; intro gA capA w7 hown7 hg7 hat7 hlt7
                 have hq7 := hq6.appA hg7 hown7 hat7
                 clear c0 c1 c2 c3 c4 f0 f1 f2 f3 f4 d0 d1 d2 d3 d4 hown7 hg7 hat7 HNEW6
                 obtain ⟨c0, c1, c2, c3, c4⟩ := cells5 hq7.var
                 obtain ⟨f0, f1, f2, f3, f4⟩ := froz5 hq7.var
                 have hF7 : w7.heap[w3.heap.size]? = some (.cells #[.int .u8 a0, .int .i64 fs1, .int .i64 fp, .slice x' n1 k1, .slice y m1 j1] 121 (0, 0)) := (hq7.keep _ (Or.inr (Or.inr rfl))).trans (heap_alloc_new _ _)
                 obtain ⟨d0, d1, d2, d3, d4⟩ := cells5 hF7))
            · have hmx : (e2 : Int) < (fp : Int) := by omega
              have hq8 := ((hq7.setCell 4 (.slice (some ⟨gA, 0, none⟩) (ts.length + 1) capA) (y1 := .int .i64 e1) (y2 := .int .i64 e2) (yF := .slice (some ⟨gF, 0, none⟩) (ts.length + 1) capF) (yA := .slice (some ⟨gA, 0, none⟩) (ts.length + 1) capA) (by rfl)).setCell 1 (.int .i64 ((U + fs1 : Nat) : Int)) (y1 := .int .i64 ((U + fs1 : Nat) : Int)) (y2 := .int .i64 e2) (yF := .slice (some ⟨gF, 0, none⟩) (ts.length + 1) capF) (yA := .slice (some ⟨gA, 0, none⟩) (ts.length + 1) capA) (by rfl)).setCell 2 (.int .i64 fp) (y1 := .int .i64 ((U + fs1 : Nat) : Int)) (y2 := .int .i64 fp) (yF := .slice (some ⟨gF, 0, none⟩) (ts.length + 1) capF) (yA := .slice (some ⟨gA, 0, none⟩) (ts.length + 1) capA) (by rfl)
              exact ⟨⟨ts ++ [t], fs ++ [_], _, U + fs1, fp, K + 1, _, _, by have := HK.out; simp; omega, by go_num, hinv.step hbe3 hT rfl hSc HSZ.out HU.out hU2 gd3 (by omega) gd1 gd2 HK.out HAI.out (by have := HN.out; omega) hq8⟩, by simp [intOf]; omega⟩
            · have hmx : (fp : Int) ≤ (e2 : Int) := by omega
              have hq8 := (hq7.setCell 4 (.slice (some ⟨gA, 0, none⟩) (ts.length + 1) capA) (y1 := .int .i64 e1) (y2 := .int .i64 e2) (yF := .slice (some ⟨gF, 0, none⟩) (ts.length + 1) capF) (yA := .slice (some ⟨gA, 0, none⟩) (ts.length + 1) capA) (by rfl)).setCell 1 (.int .i64 ((U + fs1 : Nat) : Int)) (y1 := .int .i64 ((U + fs1 : Nat) : Int)) (y2 := .int .i64 e2) (yF := .slice (some ⟨gF, 0, none⟩) (ts.length + 1) capF) (yA := .slice (some ⟨gA, 0, none⟩) (ts.length + 1) capA) (by rfl)
              exact ⟨⟨ts ++ [t], fs ++ [_], _, U + fs1, e2, K + 1, _, _, by have := HK.out; simp; omega, by go_num, hinv.step hbe3 hT rfl hSc HSZ.out HU.out hU2 gd3 (by omega) hb2 hb3 HK.out HAI.out (by have := HN.out; omega) hq8⟩, by simp [intOf]; omega⟩
        · have hq := hinv.q
          obtain ⟨c0, c1, c2, c3, c4⟩ := cells5 hq.var
          obtain ⟨f0, f1, f2, f3, f4⟩ := froz5 hq.var
          obtain ⟨r0, r1, r2, r3, r4⟩ := cells5 hq.res
          obtain ⟨q0, q1, q2, q3, q4⟩ := froz5 hq.res
          obtain ⟨aF, NF, capF, rfl⟩ := owns_form hq.rowF
          obtain ⟨aA, NA, capA, rfl⟩ := owns_form hq.rowA
          have hall : P.allM (P.rp n) (ss.map fun x => x.data.toList) = some ts := P.ai_end hinv.all (by have := HN.out; have := HK.out; simp; omega)
          obtain ⟨U, hU⟩ : ∃ U, P.up e1 e2 = U := ⟨_, rfl⟩
          have hU2 : U ≤ e1 + 3 := by have := P.up_le e1 e2 hb2; omega
          have HSZ : Hid (P.sz (n + 1) (.inr ts) = (U, e2)) := by
            unfold Hid; simp only [P.sz, P.closed, hinv.fold, hU]
          have HR : Hid (P.rp (n + 1) s.data.toList = if U ≤ 32 then some (.inr ts) else none) := by
            unfold Hid
            rw [HRP2.out, P.rpS, if_neg (by have := HN.out; simp; omega), hall]
            simp only [HSZ.out]
          have HU : Hid (P.up e1 e2 = U) := hU
          have hltT := hq.lt
          have hKt : ts.length ≤ 8 := by have := HK.out; have := HN.out; omega
          clear hall hU
          go_wp2_with fail
          refine (upTo_any e1 e2 _ (by omega) hb2 (by omega)).mono ?_
          rintro e w4 ⟨rfl, rfl⟩
          rw [HU.out]
          go_wp2_with fail
          have hne : w.heap.size ≠ w2.heap.size := by omega
          have hne' : w2.heap.size ≠ w.heap.size := by omega
          have hq9 := hq.setCell 1 (.int .i64 U) (y1 := .int .i64 U) (y2 := .int .i64 e2) (yF := .slice aF NF capF) (yA := .slice aA NA capA) (by rfl)
          obtain ⟨W, hW⟩ : ∃ W, w4.setCell ⟨w2.heap.size, 1, none⟩ (.int .i64 U) = W := ⟨_, rfl⟩
          rw [hW] at hq9 ⊢
          clear c0 c1 c2 c3 c4 f0 f1 f2 f3 f4 r0 r1 r2 r3 r4 q0 q1 q2 q3 q4 hW
          obtain ⟨c0, c1, c2, c3, c4⟩ := cells5 hq9.var
          obtain ⟨r0, r1, r2, r3, r4⟩ := cells5 hq9.res
          obtain ⟨q0, q1, q2, q3, q4⟩ := froz5 hq9.res
          go_region_held3 (fun w' => w'.cell? ⟨w2.heap.size, 0, none⟩ = some (.int .u8 123) ∧ w'.cell? ⟨w2.heap.size, 1, none⟩ = some (.int .i64 U) ∧ w'.cell? ⟨w2.heap.size, 2, none⟩ = some (.int .i64 e2) ∧ w'.cell? ⟨w2.heap.size, 3, none⟩ = some (.slice aF NF capF) ∧ w'.cell? ⟨w2.heap.size, 4, none⟩ = some (.slice aA NA capA)) (simp [go_sem, c0, c1, c2, c3, c4]) (fail)
          go_wp2_with fail
          have hh5 := set5_heap W w.heap.size (.int .u8 123) (.int .i64 U) (.int .i64 e2) (.slice aF NF capF) (.slice aA NA capA)
          have hb9 : Below w.heap.size w (((((W.setCell ⟨w.heap.size, 0, none⟩ (.int .u8 123)).setCell ⟨w.heap.size, 1, none⟩ (.int .i64 U)).setCell ⟨w.heap.size, 2, none⟩ (.int .i64 e2)).setCell ⟨w.heap.size, 3, none⟩ (.slice aF NF capF)).setCell ⟨w.heap.size, 4, none⟩ (.slice aA NA capA)).drew :=
            (Below.setCell (Below.setCell (Below.setCell (Below.setCell (Below.setCell hq9.below (Nat.le_refl _) _) (Nat.le_refl _) _) (Nat.le_refl _) _) (Nat.le_refl _) _) (Nat.le_refl _) _).drew
          by_cases hle : U ≤ 32
          · refine bodyPost_ret (v := .tuple #[.agg #[.int .u8 123, .int .i64 U, .int .i64 e2, .slice aF NF capF, .slice aA NA capA], .bool true]) (by simp [results, Tryz.results117, go_sem, r0, r1, r2, r3, r4]; omega) rfl ?_
            refine RpPost.yes (t := .inr ts) (S := fun g => S g ∨ (Value.slice aF NF capF).ownBlock = some g ∨ (Value.slice aA NA capA).ownBlock = some g) (by rw [HR.out, if_pos hle]) rfl ?_ ?_ hb9
            · refine ⟨.slice aF NF capF, .slice aA NA capA, fs, by rw [HSZ.out], ⟨owns_less' (owns_of hq9.rowF (fun g hg => hh5.1 g (by have := (hq9.rowF.lt _ hg).1; omega))), fun g hg => Or.inr (Or.inl hg)⟩, ⟨owns_less' (owns_of hq9.rowA (fun g hg => hh5.1 g (by have := (hq9.rowA.lt _ hg).1; omega))), fun g hg => Or.inr (Or.inr hg)⟩, hinv.len, ?_⟩
              intro i t c ht hc
              have := hinv.kids i t c ht hc
              refine ⟨this.1, this.2.of (fun g hg => ?_) (fun g hg => Or.inl hg)⟩
              have hf := hq9.foot g hg
              exact (hh5.1 g (by omega)).trans (hq9.keep g hg)
            · have hsz9 : (((((W.setCell ⟨w.heap.size, 0, none⟩ (.int .u8 123)).setCell ⟨w.heap.size, 1, none⟩ (.int .i64 U)).setCell ⟨w.heap.size, 2, none⟩ (.int .i64 e2)).setCell ⟨w.heap.size, 3, none⟩ (.slice aF NF capF)).setCell ⟨w.heap.size, 4, none⟩ (.slice aA NA capA)).drew.heap.size = W.heap.size := hh5.2
              rw [hsz9]
              rintro g (hg | hg | hg)
              · have hf := hq9.foot g hg; omega
              · have hf := hq9.rowF.lt _ hg; omega
              · have hf := hq9.rowA.lt _ hg; omega
          · refine bodyPost_ret (v := .tuple #[.agg #[.int .u8 123, .int .i64 U, .int .i64 e2, .slice aF NF capF, .slice aA NA capA], .bool false]) (by simp [results, Tryz.results117, go_sem, r0, r1, r2, r3, r4]; omega) rfl ?_
            exact RpPost.no (by rw [HR.out, if_neg hle]) rfl ⟨_, _, _, _, _, _, _, _, _, rfl⟩ hb9
theorem rparse_all (n : Nat) : RP n := by
  induction n with
  | zero =>
    intro d s w hd hs
    by_cases hh : s.data.toList.head? = some 123
    · have : d = 4 := by omega
      subst this
      exact rparse_deep s w hs hh
    · exact rparse_leaf d s w hs (by omega) hh
  | succ n ih =>
    intro d s w hd hs
    by_cases hh : s.data.toList.head? = some 123
    · exact rparse_struct ih d s w hd hs hh
    · exact rparse_leaf d s w hs (by omega) hh
end Go.Proofs.YtghggcehloiemabGreatDoor
