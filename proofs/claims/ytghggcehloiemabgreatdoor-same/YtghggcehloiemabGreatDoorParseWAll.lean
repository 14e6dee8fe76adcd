import Derived.Test.YtghggcehloiemabGreatDoorReadTAll
import Derived.Test.YtghggcehloiemabGreatDoorWriterAll
namespace Go.Proofs.YtghggcehloiemabGreatDoor
open Go.RowKit
set_option linter.unusedVariables false
set_option maxRecDepth 16000

namespace P
/-- The type that a text is, by the program's reader. -/
def tyOf (l : List UInt8) : Option (Ty 4) := if 80 < l.length then none else match rd 4 l with
  | some (t, []) => if (sz 4 t).1 ≤ 32 then some t else none
  | _ => none
end P

def ParsePost (s : ByteArray) (w : World) (e : Ending) (w' : World) : Prop :=
  (match P.tyOf s.data.toList with
    | some t => ∃ v, e = .returned (.tuple #[.agg #[.int .i64 (P.sz 4 t).1, .int .i64 (P.sz 4 t).2, v], .bool true]) ∧ w'.ownsRow (w.heap.size + 1) 145 4 v (P.parts 4 t).length (cellsOf (P.parts 4 t))
    | none => e = .returned (.tuple #[.agg #[.int .i64 0, .int .i64 0, .slice none 0 0], .bool false])) ∧ Below w.heap.size w w'

theorem cells3 {w : World} {B : Nat} {x y z : Value} {T : TypeId} (h : w.heap[B]? = some (.cells #[x, y, z] T (0, 0))) : w.cell? ⟨B, 0, none⟩ = some x ∧ w.cell? ⟨B, 1, none⟩ = some y ∧ w.cell? ⟨B, 2, none⟩ = some z ∧ w.frozen? ⟨B, 0, none⟩ = false ∧ w.frozen? ⟨B, 1, none⟩ = false ∧ w.frozen? ⟨B, 2, none⟩ = false := by
  refine ⟨?_, ?_, ?_, by simp [World.frozen?, h], by simp [World.frozen?, h], by simp [World.frozen?, h]⟩
  · rw [cell_of_row w B 0 _ _ _ h]; rfl
  · rw [cell_of_row w B 1 _ _ _ h]; rfl
  · rw [cell_of_row w B 2 _ _ _ h]; rfl

theorem owns_slice {w : World} {base : Nat} {e : TypeId} {size n : Nat} {v : Value} {xs : List Value} (h : w.ownsRow base e size v n xs) : ∃ a N cap, v = .slice a N cap := by
  rcases h.2 with ⟨h, _⟩ | ⟨g, cap, cur, h, _⟩
  · exact ⟨_, _, _, h⟩
  · exact ⟨_, _, _, h⟩
theorem owns_drewN {w : World} {base : Nat} {e : TypeId} {size n : Nat} {v : Value} {xs : List Value} (h : w.ownsRow base e size v n xs) (k : Nat) : (w.drewN k).ownsRow base e size v n xs := h
theorem p_owns_less {w : World} {base base' : Nat} {e : TypeId} {size n : Nat} {v : Value} {xs : List Value} (h : w.ownsRow base e size v n xs) (hb : base' ≤ base) : w.ownsRow base' e size v n xs := by
  obtain ⟨h1, h2⟩ := h
  refine ⟨h1, ?_⟩
  rcases h2 with h2 | ⟨g, cap, cur, hv, hb', hr⟩
  · exact .inl h2
  · exact .inr ⟨g, cap, cur, hv, by omega, hr⟩

set_option maxHeartbeats 1000000 in
theorem parse_any (s : ByteArray) (w : World) (hs : s.size ≤ maxLen) :
    Calls Tryz.prog 46 #[.string s] w fun e w' => ParsePost s w e w' := by
  unfold maxLen at hs
  by_cases hlong : 80 < s.size
  · have HT : Hid (P.tyOf s.data.toList = none) := by unfold Hid P.tyOf; rw [if_pos (by simpa using hlong)]
    have hl2 : (80 : Int) < (s.size : Int) := by omega
    go_enter Tryz.func46, Tryz.ntmps46
    go_wp2_with fail
    refine bodyPost_ret (v := .tuple #[.agg #[.int .i64 0, .int .i64 0, .slice none 0 0], .bool false]) (by simp [results, Tryz.results46, go_sem]) rfl ⟨?_, (Below.refl _ _).alloc (Nat.le_refl _) _⟩
    rw [HT.out]
  · have HL : Hid (¬ 80 < s.data.toList.length) := by simpa [Hid] using hlong
    go_enter Tryz.func46, Tryz.ntmps46
    go_wp2_with fail
    refine ((reads 4).2 (w.heap.size + 1) 0 0 s _ (.slice none 0 0) [] rfl ⟨?_, ?_, Nat.zero_le _, by omega, by simp⟩).mono ?_
    · unfold Cur; rw [show w.heap.size + 1 = (w.alloc (Obj.cells #[Value.int IntKind.i64 0, Value.int IntKind.i64 0, Value.slice none 0 0] 62)).heap.size by simp]; exact heap_alloc_new _ _
    · exact World.ownsRow_nil _ _ _ _
    · rintro e w2 ⟨hpost, hbe⟩
      rw [List.drop_zero] at hpost
      have hres : w2.heap[w.heap.size]? = some (.cells #[Value.int IntKind.i64 0, Value.int IntKind.i64 0, Value.slice none 0 0] 62 (0, 0)) := by
        rw [hbe.block _ (by omega), Below.heap_alloc _ _ _ (by simp)]; exact heap_alloc_new _ _
      obtain ⟨c0, c1, c2, f0, f1, f2⟩ := cells3 hres
      have hbw : Below w.heap.size w w2 := (((Below.refl _ _).alloc (Nat.le_refl _) _).alloc (by simp) _).trans (hbe.mono (by omega))
      have hsz2 := hbe.size
      simp at hsz2
      clear hbe
      cases hrd : P.rd 4 s.data.toList with
      | none =>
        rw [hrd] at hpost
        simp only at hpost
        subst hpost
        have HT : Hid (P.tyOf s.data.toList = none) := by unfold Hid P.tyOf; rw [if_neg HL.out, hrd]
        clear hrd hres
        go_wp2_with fail
        refine bodyPost_ret (v := .tuple #[.agg #[.int .i64 0, .int .i64 0, .slice none 0 0], .bool false]) (by simp [results, Tryz.results46, go_sem, c0, c1, c2]) rfl ⟨?_, ?_⟩
        · rw [HT.out]
        · exact ((hbw.setCell (Nat.le_refl _) _).setCell (Nat.le_refl _) _).setCell (Nat.le_refl _) _
      | some x =>
        obtain ⟨t, r⟩ := x
        rw [hrd] at hpost
        simp only at hpost
        obtain ⟨rfl, j, v2, _, hjr, hrd2⟩ := hpost
        have hgood := P.rd_good 4 _ t r hrd
        rw [List.nil_append] at hrd2
        have hj := hrd2.here
        have hlen : r.length = s.size - j := by rw [← hjr]; simp
        have hbb : (P.sz 4 t).1 ≤ 1280 := by have := hgood.2; simp at this; omega
        have hb2 := hgood.1.2.1
        obtain ⟨fs, hfs⟩ : ∃ fs, (P.sz 4 t).1 = fs := ⟨_, rfl⟩
        obtain ⟨fp, hfp⟩ : ∃ fp, (P.sz 4 t).2 = fp := ⟨_, rfl⟩
        rw [hfs] at hbb
        rw [hfp] at hb2
        rw [hfs, hfp]
        clear hgood
        by_cases hbig : 32 < fs
        · have HT : Hid (P.tyOf s.data.toList = none) := by
            unfold Hid P.tyOf; rw [if_neg HL.out, hrd]
            cases r with
            | nil => simp only; rw [if_neg (by omega)]
            | cons c r => rfl
          clear hrd hres hjr hlen hfs hfp
          go_wp2_with fail
          refine bodyPost_ret (v := .tuple #[.agg #[.int .i64 0, .int .i64 0, .slice none 0 0], .bool false]) (by simp [results, Tryz.results46, go_sem, c0, c1, c2]) rfl ⟨?_, ?_⟩
          · rw [HT.out]
          · exact ((hbw.setCell (Nat.le_refl _) _).setCell (Nat.le_refl _) _).setCell (Nat.le_refl _) _
        · by_cases hend : s.size ≤ j
          · have HT : Hid (P.tyOf s.data.toList = some t) := by
              unfold Hid P.tyOf; rw [if_neg HL.out, hrd]
              cases r with
              | nil => simp only; rw [if_pos (by omega)]
              | cons c r => simp at hlen; omega
            have H1 : Hid ((P.sz 4 t).1 = fs) := hfs
            have H2 : Hid ((P.sz 4 t).2 = fp) := hfp
            clear hrd hres hjr hlen hfs hfp
            go_wp2_with fail
            refine (ended_any hrd2.cur).mono ?_
            rintro e w3 ⟨rfl, n, rfl⟩
            rw [decide_eq_true hend]
            obtain ⟨a, N, cap, rfl⟩ := owns_slice hrd2.own
            have g2 := hrd2.cur.c2
            go_wp2_with fail
            refine bodyPost_ret (v := .tuple #[.agg #[.int .i64 fs, .int .i64 fp, .slice a N cap], .bool true]) (by simp [results, Tryz.results46, go_sem, c0, c1, c2]) rfl ⟨?_, ?_⟩
            · rw [HT.out]
              refine ⟨.slice a N cap, by rw [H1.out, H2.out], ?_⟩
              exact p_owns_less (ownsRow_setCell_below (ownsRow_setCell_below (ownsRow_setCell_below (owns_drewN hrd2.own n) (by simp; omega) _) (by simp; omega) _) (by simp; omega) _) (by omega)
            · exact (((below_drewN hbw n).setCell (Nat.le_refl _) _).setCell (Nat.le_refl _) _).setCell (Nat.le_refl _) _
          · have HT : Hid (P.tyOf s.data.toList = none) := by
              unfold Hid P.tyOf; rw [if_neg HL.out, hrd]
              cases r with
              | nil => simp at hlen; omega
              | cons c r => rfl
            clear hrd hres hjr hlen hfs hfp
            go_wp2_with fail
            refine (ended_any hrd2.cur).mono ?_
            rintro e w3 ⟨rfl, n, rfl⟩
            rw [decide_eq_false hend]
            go_wp2_with fail
            refine bodyPost_ret (v := .tuple #[.agg #[.int .i64 0, .int .i64 0, .slice none 0 0], .bool false]) (by simp [results, Tryz.results46, go_sem, c0, c1, c2]) rfl ⟨?_, ?_⟩
            · rw [HT.out]
            · exact (((below_drewN hbw n).setCell (Nat.le_refl _) _).setCell (Nat.le_refl _) _).setCell (Nat.le_refl _) _
end Go.Proofs.YtghggcehloiemabGreatDoor
namespace Go.Proofs.YtghggcehloiemabGreatDoor
open Go.RowKit
set_option linter.unusedVariables false

theorem Tryz.infoU8 : (Tryz.prog.info? 5).map (fun i => (i.zero, i.size, i.bytes)) = some (some (.int .u8 0), 1, 1) := by kernel_rfl

theorem part_cell {w : World} {base g N cap k : Nat} {ps : List P.Pt} {x : P.Pt} (h : w.ownsRow base 145 4 (.slice (some ⟨g, 0, none⟩) N cap) ps.length (cellsOf ps)) (hx : ps[k]? = some x) :
    w.cell? ⟨g, k * 4, none⟩ = some (.int .i64 x.kind) ∧ w.cell? ⟨g, k * 4 + 1, none⟩ = some (.int .u8 x.mark) ∧ w.cell? ⟨g, k * 4 + 2, none⟩ = some (.int .i64 x.place) ∧ w.cell? ⟨g, k * 4 + 3, none⟩ = some (.int .i64 x.size) ∧ N = ps.length ∧ N ≤ cap := by
  obtain ⟨h1, h2⟩ := h
  rcases h2 with ⟨h2, _⟩ | ⟨g', cap', cur, hv, hb, hg, hn, hm, hsz, htk⟩
  · cases h2
  · cases hv
    have hk : k < ps.length := (List.getElem?_eq_some_iff.1 hx).1
    have key : ∀ j, j < 4 → w.cell? ⟨g, k * 4 + j, none⟩ = (ptCells x)[j]? := by
      intro j hj
      rw [cell_of_row w g _ _ _ _ hg]
      have hget := cellsOf_get ps k j x hx hj
      rw [← htk, List.getElem?_take_of_lt (by omega)] at hget
      simpa using hget
    exact ⟨key 0 (by omega), key 1 (by omega), key 2 (by omega), key 3 (by omega), rfl, hn⟩

theorem grown_wr {w1 w3 : World} {b i : Nat} {s : ByteArray} {v v' : Value} {bs : List UInt8} {c : UInt8} {o : Obj} (h : Wr w1 b s i v bs) (hg : (w1.alloc o).grownBy w3 v.ownBlock)
    (hown' : w3.ownsRow (b + 1) 5 1 v' (bs.length + 1) (bs.map u8v ++ [u8v c])) (hb : bs.length + 1 ≤ 32) : Wr (w3.setCell ⟨b, 2, none⟩ v') b s i v' (bs ++ [c]) ∧ Below b w1 (w3.setCell ⟨b, 2, none⟩ v') := by
  have hc3 := grown_cur h.cur h.own hg
  have hl := h.cur.lt
  refine ⟨⟨hc3.set2 v', ?_, h.here, h.long, by simpa using hb⟩, ?_⟩
  · have := ((Only.refl b w3).setCell 2 v').own hown'
    simpa using this
  · exact (Below.grown ((Below.refl b w1).alloc (by omega) o) hg (by simp; omega) (fun k hk => by have := (h.own.lt _ hk).1; omega)).setCell (Nat.le_refl _) v'

theorem drop_cons {α : Type} {l : List α} {i : Nat} {c : α} (hc : l[i]? = some c) : l.drop i = c :: l.drop (i + 1) := by
  obtain ⟨hl, he⟩ := List.getElem?_eq_some_iff.1 hc
  rw [List.drop_eq_getElem_cons hl, he]
theorem wr_cell_at {w : World} {b i g n cap k : Nat} {s : ByteArray} {bs : List UInt8} (h : Wr w b s i (.slice (some ⟨g, 0, none⟩) n cap) bs) (hk : k < bs.length) : w.cell? ⟨g, k, none⟩ = some (u8v bs[k]) := by
  obtain ⟨h1, h2⟩ := h.own
  rcases h2 with ⟨h2, _⟩ | ⟨g', cap', cur, hv, hb, hg, hn, hm, hsz, htk⟩
  · cases h2
  · cases hv
    rw [cell_of_row w g _ _ _ _ hg]
    have hget : (bs.map u8v)[k]? = some (u8v bs[k]) := by simp [List.getElem?_eq_getElem hk]
    rw [← htk, List.getElem?_take_of_lt (by omega)] at hget
    simpa using hget

/-- What 'Lay' answers. -/
def LayPost (o : Option (List UInt8 × List UInt8)) (w : World) (e : Ending) (w' : World) : Prop :=
  (match o with
    | some ([], bs) => e = .returned (.tuple #[.string ⟨bs.toArray⟩, .bool true])
    | _ => e = .returned (.tuple #[.string ⟨#[]⟩, .bool false])) ∧ Below w.heap.size w w'

set_option maxRecDepth 8000 in
set_option maxHeartbeats 2000000 in
theorem Lay_any (s : ByteArray) (w : World) (sz st base : Nat) (vP : Value) (ps : List P.Pt) (f : UInt8) (hown : w.ownsRow base 145 4 vP ps.length (cellsOf ps)) (hsz1 : 1 ≤ sz) (hsz : sz ≤ 32) (hps : ps.length ≤ 80) (hok : ∀ x ∈ ps, P.PtOk sz x) (hs : s.size ≤ maxLen) :
    Calls Tryz.prog 47 #[.agg #[.int .i64 sz, .int .i64 st, vP], .string s, .int .u8 f.toNat] w fun e w' => LayPost (P.layAll ps s.data.toList (List.replicate sz f)) w e w' := by
  obtain ⟨i0, hi0, hz0, hz1, hz2⟩ := info_parts Tryz.infoU8
  obtain ⟨a, N, cap, rfl⟩ := owns_slice hown
  have HOK : Hid (∀ x ∈ ps, P.PtOk sz x) := hok
  clear hok
  have HOWN : Hid (w.ownsRow base 145 4 (.slice a N cap) ps.length (cellsOf ps)) := hown
  clear hown
  go_enter Tryz.func47, Tryz.ntmps47
  go_wp2_with fail
  go_loopw [9] (fun j wr => ∃ (k : Nat) (v : Value), k ≤ sz ∧ j = .int .i64 k ∧ Wr wr (w.heap.size + 1) s 0 v (List.replicate k f) ∧ wr.heap[w.heap.size]? = some (.cells #[.int .i64 sz, .int .i64 st, .slice a N cap] 62 (0, 0)) ∧ Below w.heap.size w wr) (fun j _ => sz - (intOf j).toNat)
  case atStart =>
    refine ⟨0, .slice none 0 0, by omega, rfl, ⟨?_, World.ownsRow_nil _ _ _ _, Nat.zero_le _, hs, by simp⟩, ?_, ((Below.refl _ _).alloc (Nat.le_refl _) _).alloc (by simp) _⟩
    · unfold Cur; rw [show w.heap.size + 1 = (w.alloc (.cells #[.int .i64 sz, .int .i64 st, .slice a N cap] 62)).heap.size by simp]; exact heap_alloc_new _ _
    · rw [Below.heap_alloc _ _ _ (by simp)]; exact heap_alloc_new _ _
  case round =>
    obtain ⟨k, v, hk, rfl, hwr, hsh, hbe⟩ := hrel
    obtain ⟨s0, s1, s2, _, _, _⟩ := cells3 hsh
    have c2 := hwr.cur.c2
    have hwl := hwr.cur.lt
    by_cases hlt : k < sz
    · go_wp2_with (first
        | (at_builtin; refine wpList_append_lies _ rfl _ _ 38 rfl (w.heap.size + 1 + 1) 5 i0 (.int .u8 0) 1 1 Tryz.underlying38 hi0 hz0 hz1 hz2 rfl (by decide) v (List.replicate k f).length ((List.replicate k f).map u8v) rfl (hwr.own.alloc _) ⟨wr.heap.size, 0, none⟩ 1 1 [.int .u8 f.toNat] rfl rfl (cell_one_new _ _ _) (fun x hx => by simp at hx; subst hx; rfl) (by omega) (by unfold maxLen; simp; omega) (by simp; omega) (by simp; omega) _ rfl ?_; intro g cap3 w3 hown' hgrow hat hlt3
           have hc3 := grown_cur hwr.cur hwr.own hgrow
           have cf := hc3.fz 2; have cc := hc3.c2
           have X := grown_wr (c := f) hwr hgrow hown' (by simp; omega)
           simp only [List.length_replicate] at X
           have hsh3 : w3.heap[w.heap.size]? = some (.cells #[.int .i64 sz, .int .i64 st, .slice a N cap] 62 (0, 0)) := by
             rw [hgrow.block _ (by simp; omega) (fun e => by have := (hwr.own.lt _ e.symm).1; omega), Below.heap_alloc _ _ _ (by omega)]; exact hsh))
      refine ⟨⟨k + 1, .slice (some ⟨g, 0, none⟩) (k + 1) cap3, by omega, by go_num, ?_, ?_, hbe.trans (Below.mono X.2 (Nat.le_succ _))⟩, by simp [intOf]; omega⟩
      · have := X.1
        rw [List.replicate_succ']
        exact this
      · rw [Below.heap_setCell _ _ _ _ (by simp)]; exact hsh3
    · have hke : k = sz := by omega
      rw [hke] at hwr
      have HL : Hid (wr.cell? ⟨w.heap.size, 0, none⟩ = some (.int .i64 sz)) := s0
      clear hke
      have hNl : N = ps.length := by
        rcases HOWN.out.2 with ⟨h, h'⟩ | ⟨g, cap', cur, h, _⟩
        · cases h; omega
        · cases h; rfl
      have HNL : Hid (N = ps.length) := hNl
      have hN80 : N ≤ 80 := by omega
      clear hNl
      go_wp2_with fail
      go_loopw [30] (fun j wq => ∃ (q i : Nat) (bs : List UInt8), q ≤ N ∧ j = .int .i64 q ∧ Hid (P.layAll ps s.data.toList (List.replicate sz f) = P.layAll (ps.drop q) (s.data.toList.drop i) bs ∧ bs.length = sz) ∧ Wr wq (w.heap.size + 1) s i v bs ∧ Below w.heap.size w wq) (fun j _ => N - (intOf j).toNat)
      case atStart => exact ⟨0, 0, List.replicate sz f, by omega, rfl, ⟨by simp, by simp⟩, hwr, hbe⟩
      case round =>
        obtain ⟨q, i, bs, hq, rfl, HI, hwq, hbq⟩ := hrel
        clear hwr hsh c2 s1 s2 s0 hwl hbe
        by_cases hqn : q < N
        · obtain ⟨x, hx⟩ : ∃ x, ps[q]? = some x := ⟨_, List.getElem?_eq_getElem (by have := HNL.out; omega)⟩
          obtain ⟨g, cap', hv, _, hgl⟩ := HOWN.out.form (by have := HNL.out; omega)
          have ha : a = some ⟨g, 0, none⟩ := by injection hv
          subst ha
          clear hv
          obtain ⟨d0, d1, d2, d3, hNe, hcp⟩ := part_cell HOWN.out hx
          clear hNe
          rw [← hbq.cell (p := ⟨g, q * 4, none⟩) hgl] at d0
          rw [← hbq.cell (p := ⟨g, q * 4 + 1, none⟩) hgl] at d1
          rw [← hbq.cell (p := ⟨g, q * 4 + 2, none⟩) hgl] at d2
          rw [← hbq.cell (p := ⟨g, q * 4 + 3, none⟩) hgl] at d3
          have HX : Hid (ps[q]? = some x) := hx
          have hokx : P.PtOk bs.length x := by rw [HI.out.2]; exact HOK.out x (List.mem_of_getElem? hx)
          have HOKX : Hid (P.PtOk bs.length x) := hokx
          clear hokx hx
          have h0q : (0 : Int) ≤ (q : Int) := by omega
          have hqN : (q : Int) < (N : Int) := by omega
          have hwq2 := hwq.below ((Below.refl _ _).alloc (Nat.le_refl wr.heap.size) (.cells #[.int .i64 x.kind, .int .u8 x.mark, .int .i64 x.place, .int .i64 x.size] 145))
          have hwql := hwq.cur.lt
          go_wp2_with fail
          refine (wlay_any x hwq2 HOKX.out).mono ?_
          rintro e w2 ⟨hpost, hbe2⟩
          have hbe3 : Below w.heap.size w w2 := (hbq.alloc (by omega) _).trans (hbe2.mono (by omega))
          clear d0 d1 d2 d3
          cases hst : P.stepP x (s.data.toList.drop i) bs with
          | none =>
            rw [hst] at hpost
            simp only at hpost
            subst hpost
            have HE : Hid (P.layAll ps s.data.toList (List.replicate sz f) = none) := by
              unfold Hid
              rw [HI.out.1, drop_cons HX.out, P.layAll, hst]
            clear hst
            go_wp2_with fail
            go_ret2
            refine ⟨?_, hbe3⟩
            rw [HE.out]
            exact rfl
          | some y =>
            obtain ⟨kk, bs'⟩ := y
            rw [hst] at hpost
            simp only at hpost
            obtain ⟨rfl, hw2⟩ := hpost
            have HE : Hid (P.layAll ps s.data.toList (List.replicate sz f) = P.layAll (ps.drop (q + 1)) (s.data.toList.drop (i + kk)) bs' ∧ bs'.length = sz) := by
              refine ⟨?_, by rw [P.stepP_length HOKX.out hst]; exact HI.out.2⟩
              rw [HI.out.1, drop_cons HX.out, P.layAll, hst]
              simp only [List.drop_drop]
            clear hst
            go_wp2_with fail
            refine ⟨⟨q + 1, i + kk, bs', by omega, by go_num, HE, hw2, hbe3⟩, by simp [intOf]; omega⟩
        · have hqe : q = ps.length := by have := HNL.out; omega
          have HE : Hid (P.layAll ps s.data.toList (List.replicate sz f) = some (s.data.toList.drop i, bs)) := by
            unfold Hid
            rw [HI.out.1, hqe, List.drop_length, P.layAll]
          clear hqe
          go_wp2_with fail
          refine (ended_any hwq.cur).mono ?_
          rintro e w2 ⟨rfl, n, rfl⟩
          by_cases hend : s.size ≤ i
          · rw [decide_eq_true hend]
            have HE2 : Hid (P.layAll ps s.data.toList (List.replicate sz f) = some ([], bs)) := by
              unfold Hid; rw [HE.out, List.drop_eq_nil_of_le (by simpa using hend)]
            obtain ⟨g, cap', hv, _, _⟩ := hwq.own.form (by rw [HI.out.2]; omega)
            subst hv
            have g2 := hwq.cur.c2
            have hcv : ∀ dst, Tryz.prog.underlying dst = some .string → (convert 38 dst (.slice (some ⟨g, 0, none⟩) bs.length cap')).run Tryz.prog (wr.drewN n) = .ok (.string ⟨bs.toArray⟩) (wr.drewN n) := by
              intro dst hd
              have := run_convert_bytes_arg (P := Tryz.prog) (wr.drewN n) 38 5 Tryz.underlying38 Tryz.underlying5 g 0 bs.length cap' (bs.map fun c => (c.toNat : Int)) (by simp) (by
                intro j hj
                rw [Nat.zero_add]
                have := wr_cell_at hwq (k := j) hj
                simpa [List.getD, List.getElem?_eq_getElem hj, u8v] using this) dst hd
              rw [this]
              congr 2
              simp [strOfNums, Function.comp_def]
            have hcv9 := hcv 9 Tryz.underlying9
            clear hcv
            go_wp2_with fail
            go_ret2
            refine ⟨?_, below_drewN hbq n⟩
            rw [HE2.out]
            exact rfl
          · rw [decide_eq_false hend]
            go_wp2_with fail
            go_ret2
            refine ⟨?_, below_drewN hbq n⟩
            rw [HE.out]
            have hne : s.data.toList.drop i ≠ [] := by simp; omega
            cases hdr : s.data.toList.drop i with
            | nil => exact absurd hdr hne
            | cons c r => exact rfl
end Go.Proofs.YtghggcehloiemabGreatDoor
