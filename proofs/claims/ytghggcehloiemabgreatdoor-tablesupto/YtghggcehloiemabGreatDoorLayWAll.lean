import Derived.Test.YtghggcehloiemabGreatDoorRefLieSAll
import Derived.Test.YtghggcehloiemabGreatDoorParseWAll
import Derived.Test.YtghggcehloiemabGreatDoorGoodAll
namespace Go.Proofs.YtghggcehloiemabGreatDoor
open Go.RowKit
set_option linter.unusedVariables false

theorem Tryz.infoU8 : (Tryz.prog.info? 5).map (fun i => (i.zero, i.size, i.bytes)) = some (some (.int .u8 0), 1, 1) := by kernel_rfl

theorem part_cell {w : World} {base g N cap k : Nat} {ps : List P.Pt} {x : P.Pt} (h : w.ownsRow base 145 4 (.slice (some ⟨g, 0, none⟩) N cap) ps.length (cellsOf ps)) (hx : ps[k]? = some x) :
    w.cell? ⟨g, k * 4, none⟩ = some (.int .i64 x.kind) ∧ w.cell? ⟨g, k * 4 + 1, none⟩ = some (.int .u8 x.mark) ∧ w.cell? ⟨g, k * 4 + 2, none⟩ = some (.int .i64 x.place) ∧ w.cell? ⟨g, k * 4 + 3, none⟩ = some (.int .i64 x.size) ∧ N = ps.length ∧ N ≤ cap := by
  obtain ⟨h1, h2⟩ := h
  rcases h2 with ⟨h2, _⟩ | ⟨g', cap', cur, hv, hb, hg, hn, hm, hsz, htk⟩
  · cases h2
  · cases hv
    have hk : k < ps.length := (List.getElem?_eq_some_iff.1 hx).1
    have key : ∀ j, j < 4 → w.cell? ⟨g, k * 4 + j, none⟩ = (ptCells x)[j]? := by
      intro j hj
      rw [cell_of_row w g _ _ _ _ hg]
      have hget := cellsOf_get ps k j x hx hj
      rw [← htk, List.getElem?_take_of_lt (by omega)] at hget
      simpa using hget
    exact ⟨key 0 (by omega), key 1 (by omega), key 2 (by omega), key 3 (by omega), rfl, hn⟩

theorem grown_wr {w1 w3 : World} {b i : Nat} {s : ByteArray} {v v' : Value} {bs : List UInt8} {c : UInt8} {o : Obj} (h : Wr w1 b s i v bs) (hg : (w1.alloc o).grownBy w3 v.ownBlock)
    (hown' : w3.ownsRow (b + 1) 5 1 v' (bs.length + 1) (bs.map u8v ++ [u8v c])) (hb : bs.length + 1 ≤ 32) : Wr (w3.setCell ⟨b, 2, none⟩ v') b s i v' (bs ++ [c]) ∧ Below b w1 (w3.setCell ⟨b, 2, none⟩ v') := by
  have hc3 := grown_cur h.cur h.own hg
  have hl := h.cur.lt
  refine ⟨⟨hc3.set2 v', ?_, h.here, h.long, by simpa using hb⟩, ?_⟩
  · have := ((Only.refl b w3).setCell 2 v').own hown'
    simpa using this
  · exact (Below.grown ((Below.refl b w1).alloc (by omega) o) hg (by simp; omega) (fun k hk => by have := (h.own.lt _ hk).1; omega)).setCell (Nat.le_refl _) v'

theorem drop_cons {α : Type} {l : List α} {i : Nat} {c : α} (hc : l[i]? = some c) : l.drop i = c :: l.drop (i + 1) := by
  obtain ⟨hl, he⟩ := List.getElem?_eq_some_iff.1 hc
  rw [List.drop_eq_getElem_cons hl, he]
theorem wr_cell_at {w : World} {b i g n cap k : Nat} {s : ByteArray} {bs : List UInt8} (h : Wr w b s i (.slice (some ⟨g, 0, none⟩) n cap) bs) (hk : k < bs.length) : w.cell? ⟨g, k, none⟩ = some (u8v bs[k]) := by
  obtain ⟨h1, h2⟩ := h.own
  rcases h2 with ⟨h2, _⟩ | ⟨g', cap', cur, hv, hb, hg, hn, hm, hsz, htk⟩
  · cases h2
  · cases hv
    rw [cell_of_row w g _ _ _ _ hg]
    have hget : (bs.map u8v)[k]? = some (u8v bs[k]) := by simp [List.getElem?_eq_getElem hk]
    rw [← htk, List.getElem?_take_of_lt (by omega)] at hget
    simpa using hget

/-- What 'Lay' answers. -/
def LayPost (o : Option (List UInt8 × List UInt8)) (w : World) (e : Ending) (w' : World) : Prop :=
  (match o with
    | some ([], bs) => e = .returned (.tuple #[.string ⟨bs.toArray⟩, .bool true])
    | _ => e = .returned (.tuple #[.string ⟨#[]⟩, .bool false])) ∧ Below w.heap.size w w'

set_option maxRecDepth 8000 in
set_option maxHeartbeats 2000000 in
theorem Lay_any (s : ByteArray) (w : World) (sz st base : Nat) (vP : Value) (ps : List P.Pt) (f : UInt8) (hown : w.ownsRow base 145 4 vP ps.length (cellsOf ps)) (hsz1 : 1 ≤ sz) (hsz : sz ≤ 32) (hps : ps.length ≤ 80) (hok : ∀ x ∈ ps, P.PtOk sz x) (hs : s.size ≤ maxLen) :
    Calls Tryz.prog 47 #[.agg #[.int .i64 sz, .int .i64 st, vP], .string s, .int .u8 f.toNat] w fun e w' => LayPost (P.layAll ps s.data.toList (List.replicate sz f)) w e w' := by
  obtain ⟨i0, hi0, hz0, hz1, hz2⟩ := info_parts Tryz.infoU8
  obtain ⟨a, N, cap, rfl⟩ := owns_slice hown
  have HOK : Hid (∀ x ∈ ps, P.PtOk sz x) := hok
  clear hok
  have HOWN : Hid (w.ownsRow base 145 4 (.slice a N cap) ps.length (cellsOf ps)) := hown
  clear hown
  go_enter Tryz.func47, Tryz.ntmps47
  go_wp2_with fail
  go_loopw [9] (fun j wr => ∃ (k : Nat) (v : Value), k ≤ sz ∧ j = .int .i64 k ∧ Wr wr (w.heap.size + 1) s 0 v (List.replicate k f) ∧ wr.heap[w.heap.size]? = some (.cells #[.int .i64 sz, .int .i64 st, .slice a N cap] 62 (0, 0)) ∧ Below w.heap.size w wr) (fun j _ => sz - (intOf j).toNat)
  case atStart =>
    refine ⟨0, .slice none 0 0, by omega, rfl, ⟨?_, World.ownsRow_nil _ _ _ _, Nat.zero_le _, hs, by simp⟩, ?_, ((Below.refl _ _).alloc (Nat.le_refl _) _).alloc (by simp) _⟩
    · unfold Cur; rw [show w.heap.size + 1 = (w.alloc (.cells #[.int .i64 sz, .int .i64 st, .slice a N cap] 62)).heap.size by simp]; exact heap_alloc_new _ _
    · rw [Below.heap_alloc _ _ _ (by simp)]; exact heap_alloc_new _ _
  case round =>
    obtain ⟨k, v, hk, rfl, hwr, hsh, hbe⟩ := hrel
    obtain ⟨s0, s1, s2, _, _, _⟩ := cells3 hsh
    have c2 := hwr.cur.c2
    have hwl := hwr.cur.lt
    by_cases hlt : k < sz
    · go_wp2_with (first
        | (at_builtin; refine wpList_append_lies _ rfl _ _ 38 rfl (w.heap.size + 1 + 1) 5 i0 (.int .u8 0) 1 1 Tryz.underlying38 hi0 hz0 hz1 hz2 rfl (by decide) v (List.replicate k f).length ((List.replicate k f).map u8v) rfl (hwr.own.alloc _) ⟨wr.heap.size, 0, none⟩ 1 1 [.int .u8 f.toNat] rfl rfl (cell_one_new _ _ _) (fun x hx => by simp at hx; subst hx; rfl) (by omega) (by unfold maxLen; simp; omega) (by simp; omega) (by simp; omega) _ rfl ?_; intro g cap3 w3 hown' hgrow hat hlt3
           have hc3 := grown_cur hwr.cur hwr.own hgrow
           have cf := hc3.fz 2; have cc := hc3.c2
           have X := grown_wr (c := f) hwr hgrow hown' (by simp; omega)
           simp only [List.length_replicate] at X
           have hsh3 : w3.heap[w.heap.size]? = some (.cells #[.int .i64 sz, .int .i64 st, .slice a N cap] 62 (0, 0)) := by
             rw [hgrow.block _ (by simp; omega) (fun e => by have := (hwr.own.lt _ e.symm).1; omega), Below.heap_alloc _ _ _ (by omega)]; exact hsh))
      refine ⟨⟨k + 1, .slice (some ⟨g, 0, none⟩) (k + 1) cap3, by omega, by go_num, ?_, ?_, hbe.trans (Below.mono X.2 (Nat.le_succ _))⟩, by simp [intOf]; omega⟩
      · have := X.1
        rw [List.replicate_succ']
        exact this
      · rw [Below.heap_setCell _ _ _ _ (by simp)]; exact hsh3
    · have hke : k = sz := by omega
      rw [hke] at hwr
      have HL : Hid (wr.cell? ⟨w.heap.size, 0, none⟩ = some (.int .i64 sz)) := s0
      clear hke
      have hNl : N = ps.length := by
        rcases HOWN.out.2 with ⟨h, h'⟩ | ⟨g, cap', cur, h, _⟩
        · cases h; omega
        · cases h; rfl
      have HNL : Hid (N = ps.length) := hNl
      have hN80 : N ≤ 80 := by omega
      clear hNl
      go_wp2_with fail
      go_loopw [30] (fun j wq => ∃ (q i : Nat) (bs : List UInt8), q ≤ N ∧ j = .int .i64 q ∧ Hid (P.layAll ps s.data.toList (List.replicate sz f) = P.layAll (ps.drop q) (s.data.toList.drop i) bs ∧ bs.length = sz) ∧ Wr wq (w.heap.size + 1) s i v bs ∧ Below w.heap.size w wq) (fun j _ => N - (intOf j).toNat)
      case atStart => exact ⟨0, 0, List.replicate sz f, by omega, rfl, ⟨by simp, by simp⟩, hwr, hbe⟩
      case round =>
        obtain ⟨q, i, bs, hq, rfl, HI, hwq, hbq⟩ := hrel
        clear hwr hsh c2 s1 s2 s0 hwl hbe
        by_cases hqn : q < N
        · obtain ⟨x, hx⟩ : ∃ x, ps[q]? = some x := ⟨_, List.getElem?_eq_getElem (by have := HNL.out; omega)⟩
          obtain ⟨g, cap', hv, _, hgl⟩ := HOWN.out.form (by have := HNL.out; omega)
          have ha : a = some ⟨g, 0, none⟩ := by injection hv
          subst ha
          clear hv
          obtain ⟨d0, d1, d2, d3, hNe, hcp⟩ := part_cell HOWN.out hx
          clear hNe
          rw [← hbq.cell (p := ⟨g, q * 4, none⟩) hgl] at d0
          rw [← hbq.cell (p := ⟨g, q * 4 + 1, none⟩) hgl] at d1
          rw [← hbq.cell (p := ⟨g, q * 4 + 2, none⟩) hgl] at d2
          rw [← hbq.cell (p := ⟨g, q * 4 + 3, none⟩) hgl] at d3
          have HX : Hid (ps[q]? = some x) := hx
          have hokx : P.PtOk bs.length x := by rw [HI.out.2]; exact HOK.out x (List.mem_of_getElem? hx)
          have HOKX : Hid (P.PtOk bs.length x) := hokx
          clear hokx hx
          have h0q : (0 : Int) ≤ (q : Int) := by omega
          have hqN : (q : Int) < (N : Int) := by omega
          have hwq2 := hwq.below ((Below.refl _ _).alloc (Nat.le_refl wr.heap.size) (.cells #[.int .i64 x.kind, .int .u8 x.mark, .int .i64 x.place, .int .i64 x.size] 145))
          have hwql := hwq.cur.lt
          go_wp2_with fail
          refine (wlay_any x hwq2 HOKX.out).mono ?_
          rintro e w2 ⟨hpost, hbe2⟩
          have hbe3 : Below w.heap.size w w2 := (hbq.alloc (by omega) _).trans (hbe2.mono (by omega))
          clear d0 d1 d2 d3
          cases hst : P.stepP x (s.data.toList.drop i) bs with
          | none =>
            rw [hst] at hpost
            simp only at hpost
            subst hpost
            have HE : Hid (P.layAll ps s.data.toList (List.replicate sz f) = none) := by
              unfold Hid
              rw [HI.out.1, drop_cons HX.out, P.layAll, hst]
            clear hst
            go_wp2_with fail
            go_ret2
            refine ⟨?_, hbe3⟩
            rw [HE.out]
            exact rfl
          | some y =>
            obtain ⟨kk, bs'⟩ := y
            rw [hst] at hpost
            simp only at hpost
            obtain ⟨rfl, hw2⟩ := hpost
            have HE : Hid (P.layAll ps s.data.toList (List.replicate sz f) = P.layAll (ps.drop (q + 1)) (s.data.toList.drop (i + kk)) bs' ∧ bs'.length = sz) := by
              refine ⟨?_, by rw [P.stepP_length HOKX.out hst]; exact HI.out.2⟩
              rw [HI.out.1, drop_cons HX.out, P.layAll, hst]
              simp only [List.drop_drop]
            clear hst
            go_wp2_with fail
            refine ⟨⟨q + 1, i + kk, bs', by omega, by go_num, HE, hw2, hbe3⟩, by simp [intOf]; omega⟩
        · have hqe : q = ps.length := by have := HNL.out; omega
          have HE : Hid (P.layAll ps s.data.toList (List.replicate sz f) = some (s.data.toList.drop i, bs)) := by
            unfold Hid
            rw [HI.out.1, hqe, List.drop_length, P.layAll]
          clear hqe
          go_wp2_with fail
          refine (ended_any hwq.cur).mono ?_
          rintro e w2 ⟨rfl, n, rfl⟩
          by_cases hend : s.size ≤ i
          · rw [decide_eq_true hend]
            have HE2 : Hid (P.layAll ps s.data.toList (List.replicate sz f) = some ([], bs)) := by
              unfold Hid; rw [HE.out, List.drop_eq_nil_of_le (by simpa using hend)]
            obtain ⟨g, cap', hv, _, _⟩ := hwq.own.form (by rw [HI.out.2]; omega)
            subst hv
            have g2 := hwq.cur.c2
            have hcv : ∀ dst, Tryz.prog.underlying dst = some .string → (convert 38 dst (.slice (some ⟨g, 0, none⟩) bs.length cap')).run Tryz.prog (wr.drewN n) = .ok (.string ⟨bs.toArray⟩) (wr.drewN n) := by
              intro dst hd
              have := run_convert_bytes_arg (P := Tryz.prog) (wr.drewN n) 38 5 Tryz.underlying38 Tryz.underlying5 g 0 bs.length cap' (bs.map fun c => (c.toNat : Int)) (by simp) (by
                intro j hj
                rw [Nat.zero_add]
                have := wr_cell_at hwq (k := j) hj
                simpa [List.getD, List.getElem?_eq_getElem hj, u8v] using this) dst hd
              rw [this]
              congr 2
              simp [strOfNums, Function.comp_def]
            have hcv9 := hcv 9 Tryz.underlying9
            clear hcv
            go_wp2_with fail
            go_ret2
            refine ⟨?_, below_drewN hbq n⟩
            rw [HE2.out]
            exact rfl
          · rw [decide_eq_false hend]
            go_wp2_with fail
            go_ret2
            refine ⟨?_, below_drewN hbq n⟩
            rw [HE.out]
            have hne : s.data.toList.drop i ≠ [] := by simp; omega
            cases hdr : s.data.toList.drop i with
            | nil => exact absurd hdr hne
            | cons c r => exact rfl
end Go.Proofs.YtghggcehloiemabGreatDoor
namespace Go.Proofs.YtghggcehloiemabGreatDoor.P
set_option linter.unusedVariables false

theorem ptOk_sh {m n p : Nat} {x : Pt} (h : PtOk m x) (hn : m + p ≤ n) : PtOk n (x.sh p) := by
  rcases h with ⟨h1, h2, h3, h4, h5⟩ | ⟨h1, h2, h3, h4, h5⟩ | ⟨h1, h2⟩
  · exact Or.inl ⟨h1, h2, h3, h4, by simp only [Pt.sh]; omega⟩
  · exact Or.inr (Or.inl ⟨h1, h2, h3, h4, by simp only [Pt.sh]; omega⟩)
  · exact Or.inr (Or.inr ⟨h1, h2⟩)
theorem ptOk_mono {m n : Nat} {x : Pt} (h : PtOk m x) (hn : m ≤ n) : PtOk n x := by
  rcases h with ⟨h1, h2, h3, h4, h5⟩ | ⟨h1, h2, h3, h4, h5⟩ | ⟨h1, h2⟩
  · exact Or.inl ⟨h1, h2, h3, h4, by omega⟩
  · exact Or.inr (Or.inl ⟨h1, h2, h3, h4, by omega⟩)
  · exact Or.inr (Or.inr ⟨h1, h2⟩)
theorem ptOk_mark (n c : Nat) (h : c < 256) : PtOk n (markP c) := Or.inr (Or.inr ⟨rfl, h⟩)

theorem body_ok (xs : List (List Pt × (Nat × Nat))) : (∀ y ∈ xs, 1 ≤ y.2.2 ∧ y.2.2 ≤ 4 ∧ ∀ z ∈ y.1, PtOk y.2.1 z) → ∀ a : Nat × Nat, 1 ≤ a.2 → a.2 ≤ 4 → ∀ z ∈ body a xs, PtOk ((xs.map (·.2)).foldl lay1 a).1 z := by
  induction xs with
  | nil => intro _ a _ _ z hz; simp [body] at hz
  | cons x xs ih =>
    intro h a h1 h2 z hz
    have hx := h x (by simp)
    have hl := lay1_le (a := a) hx.1 hx.2.1
    have hm2 : 1 ≤ (lay1 a x.2).2 ∧ (lay1 a x.2).2 ≤ 4 := by simp only [lay1]; omega
    have hmono := fold_step (l := xs.map (·.2)) (by
      intro y hy
      obtain ⟨q, hq, rfl⟩ := List.mem_map.1 hy
      have := h q (by simp [hq]); exact ⟨this.1, this.2.1⟩) (lay1 a x.2) hm2.1 hm2.2
    simp only [List.map_cons, List.foldl_cons]
    rw [body, List.mem_append, List.mem_cons] at hz
    rcases hz with hz | rfl | hz
    · obtain ⟨q, hq, rfl⟩ := List.mem_map.1 hz
      exact ptOk_sh (hx.2.2 q hq) (by omega)
    · exact ptOk_mark _ _ (by omega)
    · exact ih (fun y hy => h y (by simp [hy])) _ hm2.1 hm2.2 z hz

def Fine (n : Nat) (t : Ty n) : Prop := Good n t ∧ 1 ≤ (sz n t).1 ∧ ∀ x ∈ parts n t, PtOk (sz n t).1 x

theorem fine_struct {n : Nat} {ts : List (Ty n)} (hne : ts ≠ []) (h : ∀ t ∈ ts, Fine n t) : Fine (n + 1) (.inr ts) := by
  have hg := good_struct (fun t ht => (h t ht).1)
  have hs : ∀ x ∈ ts.map (sz n), 1 ≤ x.2 ∧ x.2 ≤ 4 := by
    intro x hx
    obtain ⟨t, ht, rfl⟩ := List.mem_map.1 hx
    exact ⟨(h t ht).1.1, (h t ht).1.2.1⟩
  obtain ⟨h1, h2, _⟩ := fold_step hs (0, 1) (by simp) (by simp)
  have e : (ts.map (fun t => (parts n t, sz n t))).map (·.2) = ts.map (sz n) := by simp [Function.comp_def]
  have hup := le_up (fold (ts.map (sz n))).1 (fold (ts.map (sz n))).2 h1
  have hb : ∀ z ∈ body (0, 1) (ts.map fun t => (parts n t, sz n t)), PtOk (fold (ts.map (sz n))).1 z := by
    have := body_ok (ts.map fun t => (parts n t, sz n t)) (by
      intro y hy
      obtain ⟨t, ht, rfl⟩ := List.mem_map.1 hy
      exact ⟨(h t ht).1.1, (h t ht).1.2.1, (h t ht).2.2⟩) (0, 1) (by simp) (by simp)
    rw [e] at this; exact this
  refine ⟨hg, ?_, ?_⟩
  · cases ts with
    | nil => exact absurd rfl hne
    | cons t ts =>
      have ht := h t (by simp)
      have hl := lay1_le (a := (0, 1)) ht.1.1 ht.1.2.1
      have hm2 : 1 ≤ (lay1 (0, 1) (sz n t)).2 ∧ (lay1 (0, 1) (sz n t)).2 ≤ 4 := by have := ht.1.1; have := ht.1.2.1; simp only [lay1]; omega
      have hmono := fold_step (l := ts.map (sz n)) (fun x hx => hs x (by simp at hx ⊢; exact Or.inr hx)) (lay1 (0, 1) (sz n t)) hm2.1 hm2.2
      have e2 : fold ((t :: ts).map (sz n)) = (ts.map (sz n)).foldl lay1 (lay1 (0, 1) (sz n t)) := rfl
      simp only [sz, closed]
      have h1' := ht.2.1
      rw [e2] at hup ⊢
      omega
  · intro x hx
    simp only [parts, List.mem_cons, List.mem_append] at hx
    simp only [sz, closed]
    rcases hx with rfl | hx | hx
    · exact ptOk_mark _ _ (by omega)
    · exact ptOk_mono (hb x (List.dropLast_subset _ hx)) hup
    · simp at hx; subst hx; exact ptOk_mark _ _ (by omega)

theorem body_len (xs : List (List Pt × (Nat × Nat))) (x : List Pt × (Nat × Nat)) (a : Nat × Nat) : (body a (xs ++ [x])).length = (body a xs).length + x.1.length + 1 := by
  rw [body_snoc]; simp; omega

theorem rdF_fine {n : Nat} (ih : ∀ l t r, rd n l = some (t, r) → Fine n t ∧ (parts n t).length + r.length ≤ l.length) :
    ∀ (k : Nat) (acc : List (Ty n)) (s : List UInt8) (ts : List (Ty n)) (r : List UInt8) (M : Nat), rdF (rd n) k acc s = some (ts, r) → (∀ t ∈ acc, Fine n t) → (body (0, 1) (acc.map fun t => (parts n t, sz n t))).length + s.length ≤ M →
    (∀ t ∈ ts, Fine n t) ∧ ts ≠ [] ∧ (body (0, 1) (ts.map fun t => (parts n t, sz n t))).length + r.length ≤ M := by
  intro k
  induction k with
  | zero => intro acc s ts r M h; simp [rdF] at h
  | succ k ihk =>
    intro acc s ts r M h hacc hM
    rw [rdF] at h
    split at h
    · cases h
    · cases h
    · rename_i t c r' hf
      obtain ⟨hg, hle⟩ := ih _ _ _ hf
      have hgs : ∀ x ∈ acc ++ [t], Fine n x := by
        intro x hx
        rcases List.mem_append.1 hx with hx | hx
        · exact hacc x hx
        · simp at hx; subst hx; exact hg
      have hbl : (body (0, 1) ((acc ++ [t]).map fun t => (parts n t, sz n t))).length = (body (0, 1) (acc.map fun t => (parts n t, sz n t))).length + (parts n t).length + 1 := by
        rw [List.map_append, List.map_cons, List.map_nil, body_len]
      simp only [List.length_cons] at hle
      split at h
      · cases h
        exact ⟨hgs, by simp, by rw [hbl]; omega⟩
      · split at h
        · exact ihk _ _ _ _ M h hgs (by rw [hbl]; omega)
        · cases h

theorem rd_fine : ∀ (n : Nat) (l : List UInt8) (t : Ty n) (r : List UInt8), rd n l = some (t, r) → Fine n t ∧ (parts n t).length + r.length ≤ l.length := by
  intro n
  have leafcase : ∀ (n : Nat) (l : List UInt8) (t : Ty n) (r : List UInt8), rd n l = some (t, r) → (rdLeaf l).map (fun x => (lf n x.1, x.2)) = some (t, r) → Fine n t ∧ (parts n t).length + r.length ≤ l.length := by
    intro n l t r h0 h
    have hgood := (rd_good n l t r h0).1
    cases hx : rdLeaf l with
    | none => rw [hx] at h; cases h
    | some x =>
      rw [hx] at h
      simp at h
      obtain ⟨rfl, rfl⟩ := h
      have hg := rdLeaf_good hx
      refine ⟨⟨hgood, by rw [sz_lf]; exact hg.2.2.2.1, ?_⟩, by rw [parts_lf]; simp; omega⟩
      rw [parts_lf, sz_lf]
      intro y hy
      simp at hy; subst hy
      obtain ⟨⟨num, k⟩, r⟩ := x
      cases num with
      | true => exact Or.inl ⟨rfl, rfl, hg.2.2.2.1, hg.2.1, by simp [lpart, lsz]⟩
      | false => exact Or.inr (Or.inl ⟨rfl, rfl, hg.2.2.2.1, hg.2.2.1, by simp [lpart, lsz]⟩)
  induction n with
  | zero =>
    intro l t r h
    by_cases hl : leafy l = true
    · exact leafcase 0 l t r h (by rw [← rd_leafy _ _ hl]; exact h)
    · simp [rd, hl] at h
  | succ n ih =>
    intro l t r h
    by_cases hl : leafy l = true
    · exact leafcase _ l t r h (by rw [← rd_leafy _ _ hl]; exact h)
    · rw [rd_else _ _ (by simpa using hl)] at h
      cases l with
      | nil => simp [rdS] at h
      | cons c s =>
        simp only [rdS] at h
        split at h
        · cases hx : rdF (rd n) 8 [] s with
          | none => rw [hx] at h; cases h
          | some x =>
            obtain ⟨ts, r'⟩ := x
            rw [hx] at h
            simp at h
            obtain ⟨rfl, rfl⟩ := h
            obtain ⟨hg, hne, hle⟩ := rdF_fine ih 8 [] s ts _ s.length hx (by simp) (by simp [body])
            refine ⟨fine_struct hne hg, ?_⟩
            have hpos : 1 ≤ (body (0, 1) (ts.map fun t => (parts n t, sz n t))).length := by
              cases ts with
              | nil => exact absurd rfl hne
              | cons t ts => simp [body]; omega
            simp only [parts, List.length_cons, List.length_append, List.length_dropLast, List.length_nil]
            omega
        · cases h

end Go.Proofs.YtghggcehloiemabGreatDoor.P
namespace Go.Proofs.YtghggcehloiemabGreatDoor
open Go.RowKit
set_option linter.unusedVariables false
set_option maxRecDepth 16000

namespace P
/-- The byte that comes into the gaps. -/
def fillB (fill : Int) : UInt8 := UInt8.ofNat (fill % 256).toNat
def encOf (lt lv : List UInt8) (fill : Int) : List UInt8 × Nat := match tyOf lt with
  | none => ([], 1)
  | some t => match layAll (parts 4 t) lv (List.replicate (sz 4 t).1 (fillB fill)) with
    | some ([], bs) => if fill < 0 ∨ 255 < fill then ([], 6) else (bs, 0)
    | _ => ([], 2)
end P

theorem and_255 (z : Int) : bits .and .i64 z 255 = z % 256 := by
  have h2 : (BitVec.ofInt 64 (255 : Int)).toNat = 255 := by decide
  show IntKind.i64.wrap ((BitVec.ofInt 64 z &&& BitVec.ofInt 64 255).toNat : Int) = _
  rw [BitVec.toNat_and, h2, show (255 : Nat) = 2 ^ 8 - 1 from rfl, Nat.and_two_pow_sub_one_eq_mod, BitVec.toNat_ofInt]
  simp only [IntKind.wrap, IntKind.signed, IntKind.bits]
  simp
  omega

theorem tyOf_some {l : List UInt8} {t : P.Ty 4} (h : P.tyOf l = some t) : P.rd 4 l = some (t, []) ∧ (P.sz 4 t).1 ≤ 32 ∧ l.length ≤ 80 := by
  unfold P.tyOf at h
  split at h
  · cases h
  · rename_i h80
    split at h
    · rename_i t' hr
      split at h
      · rename_i hle
        cases h
        exact ⟨hr, hle, by omega⟩
      · cases h
    · cases h

set_option maxHeartbeats 1000000 in
theorem encode_any (s v : ByteArray) (fill : Int) (w : World) (hs : s.size ≤ maxLen) (hv : v.size ≤ maxLen) :
    Calls Tryz.prog 22 #[.string s, .string v, .int .i64 fill] w fun e w' => e = .returned (.tuple #[.string ⟨(P.encOf s.data.toList v.data.toList fill).1.toArray⟩, .int .i64 (P.encOf s.data.toList v.data.toList fill).2]) ∧ Below w.heap.size w w' := by
  go_enter Tryz.func22, Tryz.ntmps22
  go_wp2_with fail
  refine (parse_any s w hs).mono ?_
  rintro e w1 ⟨hpost, hbe⟩
  cases ht : P.tyOf s.data.toList with
  | none =>
    rw [ht] at hpost
    simp only at hpost
    subst hpost
    have HT : Hid (P.encOf s.data.toList v.data.toList fill = ([], 1)) := by unfold Hid P.encOf; rw [ht]
    clear ht
    go_wp2_with fail
    go_ret2
    exact ⟨by rw [HT.out]; rfl, hbe.alloc hbe.size _⟩
  | some t =>
    rw [ht] at hpost
    simp only at hpost
    obtain ⟨vv, rfl, hown⟩ := hpost
    obtain ⟨a, N, cap, rfl⟩ := owns_slice hown
    obtain ⟨hrd, hs32, hl80⟩ := tyOf_some ht
    obtain ⟨hfine, hplen⟩ := P.rd_fine 4 _ t [] hrd
    have HT : Hid (P.encOf s.data.toList v.data.toList fill = match P.layAll (P.parts 4 t) v.data.toList (List.replicate (P.sz 4 t).1 (P.fillB fill)) with
      | some ([], bs) => if fill < 0 ∨ 255 < fill then ([], 6) else (bs, 0)
      | _ => ([], 2)) := by unfold Hid P.encOf; rw [ht]
    obtain ⟨fs, hfs⟩ : ∃ fs, (P.sz 4 t).1 = fs := ⟨_, rfl⟩
    obtain ⟨fp, hfp⟩ : ∃ fp, (P.sz 4 t).2 = fp := ⟨_, rfl⟩
    have hf1 := hfine.2.1
    have hf2 := hfine.2.2
    rw [hfs] at hf1 hf2 hs32 HT
    rw [hfs, hfp]
    have HOK : Hid (∀ x ∈ P.parts 4 t, P.PtOk fs x) := hf2
    have hp80 : (P.parts 4 t).length ≤ 80 := by simp only [List.length_nil, Nat.add_zero] at hplen; omega
    have HOWN : Hid ((w1.alloc (.cells #[.int .i64 fs, .int .i64 fp, .slice a N cap] 62)).ownsRow (w.heap.size + 1) 145 4 (.slice a N cap) (P.parts 4 t).length (cellsOf (P.parts 4 t))) := hown.alloc _
    clear hf2 hrd hfine ht hfs hfp hown hplen hl80
    have hand := and_255 fill
    have hfb : ((P.fillB fill).toNat : Int) = fill % 256 := by unfold P.fillB; simp; omega
    have HFB : Hid (((P.fillB fill).toNat : Int) = fill % 256) := hfb
    clear hfb
    have hm0 : 0 ≤ fill % 256 := by omega
    have hm1 : fill % 256 ≤ 255 := by omega
    have hsz1 := hbe.size
    go_wp2_with fail
    rw [← HFB.out]
    refine (Lay_any v _ fs fp (w.heap.size + 1) (.slice a N cap) (P.parts 4 t) (P.fillB fill) HOWN.out hf1 hs32 hp80 HOK.out hv).mono ?_
    rintro e w2 ⟨hpost, hbe2⟩
    have hbe3 : Below w.heap.size w w2 := (hbe.alloc hsz1 _).trans (hbe2.mono (by simp; omega))
    rw [HFB.out]
    cases hla : P.layAll (P.parts 4 t) v.data.toList (List.replicate fs (P.fillB fill)) with
    | none =>
      rw [hla] at hpost
      simp only at hpost
      subst hpost
      have HE : Hid (P.encOf s.data.toList v.data.toList fill = ([], 2)) := by unfold Hid; rw [HT.out, hla]
      clear hla
      go_wp2_with fail
      go_ret2
      exact ⟨by rw [HE.out]; rfl, hbe3⟩
    | some y =>
      obtain ⟨l', bs⟩ := y
      cases l' with
      | cons c r =>
        rw [hla] at hpost
        simp only at hpost
        subst hpost
        have HE : Hid (P.encOf s.data.toList v.data.toList fill = ([], 2)) := by unfold Hid; rw [HT.out, hla]
        clear hla
        go_wp2_with fail
        go_ret2
        exact ⟨by rw [HE.out]; rfl, hbe3⟩
      | nil =>
        rw [hla] at hpost
        simp only at hpost
        subst hpost
        have HE0 : Hid (P.encOf s.data.toList v.data.toList fill = if fill < 0 ∨ 255 < fill then ([], 6) else (bs, 0)) := by unfold Hid; rw [HT.out, hla]
        clear hla
        by_cases hneg : fill < 0
        · have HE : Hid (P.encOf s.data.toList v.data.toList fill = ([], 6)) := by unfold Hid; rw [HE0.out, if_pos (Or.inl hneg)]
          go_wp2_with fail
          go_ret2
          exact ⟨by rw [HE.out]; rfl, hbe3⟩
        · by_cases hbig : 255 < fill
          · have HE : Hid (P.encOf s.data.toList v.data.toList fill = ([], 6)) := by unfold Hid; rw [HE0.out, if_pos (Or.inr hbig)]
            go_wp2_with fail
            go_ret2
            exact ⟨by rw [HE.out]; rfl, hbe3⟩
          · have HE : Hid (P.encOf s.data.toList v.data.toList fill = (bs, 0)) := by unfold Hid; rw [HE0.out, if_neg (by omega)]
            go_wp2_with fail
            go_ret2
            exact ⟨by rw [HE.out]; rfl, hbe3⟩
end Go.Proofs.YtghggcehloiemabGreatDoor
