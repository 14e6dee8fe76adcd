import Derived.Test.YtghggcehloiemabReadTAll
namespace Go.Proofs.Ytghggcehloiemab
open Go.RowKit
set_option linter.unusedVariables false
set_option maxRecDepth 16000

namespace P
/-- The type that a text is, by the program's reader. -/
def tyOf (l : List UInt8) : Option (Ty 4) := if 80 < l.length then none else match rd 4 l with
  | some (t, []) => if (sz 4 t).1 ≤ 32 then some t else none
  | _ => none
end P

def ParsePost (s : ByteArray) (w : World) (e : Ending) (w' : World) : Prop :=
  (match P.tyOf s.data.toList with
    | some t => ∃ v, e = .returned (.tuple #[.agg #[.int .i64 (P.sz 4 t).1, .int .i64 (P.sz 4 t).2, v], .bool true]) ∧ w'.ownsRow (w.heap.size + 1) 129 4 v (P.parts 4 t).length (cellsOf (P.parts 4 t))
    | none => e = .returned (.tuple #[.agg #[.int .i64 0, .int .i64 0, .slice none 0 0], .bool false])) ∧ Below w.heap.size w w'

theorem cells3 {w : World} {B : Nat} {x y z : Value} {T : TypeId} (h : w.heap[B]? = some (.cells #[x, y, z] T (0, 0))) : w.cell? ⟨B, 0, none⟩ = some x ∧ w.cell? ⟨B, 1, none⟩ = some y ∧ w.cell? ⟨B, 2, none⟩ = some z ∧ w.frozen? ⟨B, 0, none⟩ = false ∧ w.frozen? ⟨B, 1, none⟩ = false ∧ w.frozen? ⟨B, 2, none⟩ = false := by
  refine ⟨?_, ?_, ?_, by simp [World.frozen?, h], by simp [World.frozen?, h], by simp [World.frozen?, h]⟩
  · rw [cell_of_row w B 0 _ _ _ h]; rfl
  · rw [cell_of_row w B 1 _ _ _ h]; rfl
  · rw [cell_of_row w B 2 _ _ _ h]; rfl

theorem owns_slice {w : World} {base : Nat} {e : TypeId} {size n : Nat} {v : Value} {xs : List Value} (h : w.ownsRow base e size v n xs) : ∃ a N cap, v = .slice a N cap := by
  rcases h.2 with ⟨h, _⟩ | ⟨g, cap, cur, h, _⟩
  · exact ⟨_, _, _, h⟩
  · exact ⟨_, _, _, h⟩
theorem owns_drewN {w : World} {base : Nat} {e : TypeId} {size n : Nat} {v : Value} {xs : List Value} (h : w.ownsRow base e size v n xs) (k : Nat) : (w.drewN k).ownsRow base e size v n xs := h
theorem p_owns_less {w : World} {base base' : Nat} {e : TypeId} {size n : Nat} {v : Value} {xs : List Value} (h : w.ownsRow base e size v n xs) (hb : base' ≤ base) : w.ownsRow base' e size v n xs := by
  obtain ⟨h1, h2⟩ := h
  refine ⟨h1, ?_⟩
  rcases h2 with h2 | ⟨g, cap, cur, hv, hb', hr⟩
  · exact .inl h2
  · exact .inr ⟨g, cap, cur, hv, by omega, hr⟩

set_option maxHeartbeats 1000000 in
theorem parse_any (s : ByteArray) (w : World) (hs : s.size ≤ maxLen) :
    Calls Try.prog 45 #[.string s] w fun e w' => ParsePost s w e w' := by
  unfold maxLen at hs
  by_cases hlong : 80 < s.size
  · have HT : Hid (P.tyOf s.data.toList = none) := by unfold Hid P.tyOf; rw [if_pos (by simpa using hlong)]
    have hl2 : (80 : Int) < (s.size : Int) := by omega
    go_enter Try.func45, Try.ntmps45
    go_wp2_with fail
    refine bodyPost_ret (v := .tuple #[.agg #[.int .i64 0, .int .i64 0, .slice none 0 0], .bool false]) (by simp [results, Try.results45, go_sem]) rfl ⟨?_, (Below.refl _ _).alloc (Nat.le_refl _) _⟩
    rw [HT.out]
  · have HL : Hid (¬ 80 < s.data.toList.length) := by simpa [Hid] using hlong
    go_enter Try.func45, Try.ntmps45
    go_wp2_with fail
    refine ((reads 4).2 (w.heap.size + 1) 0 0 s _ (.slice none 0 0) [] rfl ⟨?_, ?_, Nat.zero_le _, by omega, by simp⟩).mono ?_
    · unfold Cur; rw [show w.heap.size + 1 = (w.alloc (Obj.cells #[Value.int IntKind.i64 0, Value.int IntKind.i64 0, Value.slice none 0 0] 82)).heap.size by simp]; exact heap_alloc_new _ _
    · exact World.ownsRow_nil _ _ _ _
    · rintro e w2 ⟨hpost, hbe⟩
      rw [List.drop_zero] at hpost
      have hres : w2.heap[w.heap.size]? = some (.cells #[Value.int IntKind.i64 0, Value.int IntKind.i64 0, Value.slice none 0 0] 82 (0, 0)) := by
        rw [hbe.block _ (by omega), Below.heap_alloc _ _ _ (by simp)]; exact heap_alloc_new _ _
      obtain ⟨c0, c1, c2, f0, f1, f2⟩ := cells3 hres
      have hbw : Below w.heap.size w w2 := (((Below.refl _ _).alloc (Nat.le_refl _) _).alloc (by simp) _).trans (hbe.mono (by omega))
      have hsz2 := hbe.size
      simp at hsz2
      clear hbe
      cases hrd : P.rd 4 s.data.toList with
      | none =>
        rw [hrd] at hpost
        simp only at hpost
        subst hpost
        have HT : Hid (P.tyOf s.data.toList = none) := by unfold Hid P.tyOf; rw [if_neg HL.out, hrd]
        clear hrd hres
        go_wp2_with fail
        refine bodyPost_ret (v := .tuple #[.agg #[.int .i64 0, .int .i64 0, .slice none 0 0], .bool false]) (by simp [results, Try.results45, go_sem, c0, c1, c2]) rfl ⟨?_, ?_⟩
        · rw [HT.out]
        · exact ((hbw.setCell (Nat.le_refl _) _).setCell (Nat.le_refl _) _).setCell (Nat.le_refl _) _
      | some x =>
        obtain ⟨t, r⟩ := x
        rw [hrd] at hpost
        simp only at hpost
        obtain ⟨rfl, j, v2, _, hjr, hrd2⟩ := hpost
        have hgood := P.rd_good 4 _ t r hrd
        rw [List.nil_append] at hrd2
        have hj := hrd2.here
        have hlen : r.length = s.size - j := by rw [← hjr]; simp
        have hbb : (P.sz 4 t).1 ≤ 1280 := by have := hgood.2; simp at this; omega
        have hb2 := hgood.1.2.1
        obtain ⟨fs, hfs⟩ : ∃ fs, (P.sz 4 t).1 = fs := ⟨_, rfl⟩
        obtain ⟨fp, hfp⟩ : ∃ fp, (P.sz 4 t).2 = fp := ⟨_, rfl⟩
        rw [hfs] at hbb
        rw [hfp] at hb2
        rw [hfs, hfp]
        clear hgood
        by_cases hbig : 32 < fs
        · have HT : Hid (P.tyOf s.data.toList = none) := by
            unfold Hid P.tyOf; rw [if_neg HL.out, hrd]
            cases r with
            | nil => simp only; rw [if_neg (by omega)]
            | cons c r => rfl
          clear hrd hres hjr hlen hfs hfp
          go_wp2_with fail
          refine bodyPost_ret (v := .tuple #[.agg #[.int .i64 0, .int .i64 0, .slice none 0 0], .bool false]) (by simp [results, Try.results45, go_sem, c0, c1, c2]) rfl ⟨?_, ?_⟩
          · rw [HT.out]
          · exact ((hbw.setCell (Nat.le_refl _) _).setCell (Nat.le_refl _) _).setCell (Nat.le_refl _) _
        · by_cases hend : s.size ≤ j
          · have HT : Hid (P.tyOf s.data.toList = some t) := by
              unfold Hid P.tyOf; rw [if_neg HL.out, hrd]
              cases r with
              | nil => simp only; rw [if_pos (by omega)]
              | cons c r => simp at hlen; omega
            have H1 : Hid ((P.sz 4 t).1 = fs) := hfs
            have H2 : Hid ((P.sz 4 t).2 = fp) := hfp
            clear hrd hres hjr hlen hfs hfp
            go_wp2_with fail
            refine (ended_any hrd2.cur).mono ?_
            rintro e w3 ⟨rfl, n, rfl⟩
            rw [decide_eq_true hend]
            obtain ⟨a, N, cap, rfl⟩ := owns_slice hrd2.own
            have g2 := hrd2.cur.c2
            go_wp2_with fail
            refine bodyPost_ret (v := .tuple #[.agg #[.int .i64 fs, .int .i64 fp, .slice a N cap], .bool true]) (by simp [results, Try.results45, go_sem, c0, c1, c2]) rfl ⟨?_, ?_⟩
            · rw [HT.out]
              refine ⟨.slice a N cap, by rw [H1.out, H2.out], ?_⟩
              exact p_owns_less (ownsRow_setCell_below (ownsRow_setCell_below (ownsRow_setCell_below (owns_drewN hrd2.own n) (by simp; omega) _) (by simp; omega) _) (by simp; omega) _) (by omega)
            · exact (((below_drewN hbw n).setCell (Nat.le_refl _) _).setCell (Nat.le_refl _) _).setCell (Nat.le_refl _) _
          · have HT : Hid (P.tyOf s.data.toList = none) := by
              unfold Hid P.tyOf; rw [if_neg HL.out, hrd]
              cases r with
              | nil => simp at hlen; omega
              | cons c r => rfl
            clear hrd hres hjr hlen hfs hfp
            go_wp2_with fail
            refine (ended_any hrd2.cur).mono ?_
            rintro e w3 ⟨rfl, n, rfl⟩
            rw [decide_eq_false hend]
            go_wp2_with fail
            refine bodyPost_ret (v := .tuple #[.agg #[.int .i64 0, .int .i64 0, .slice none 0 0], .bool false]) (by simp [results, Try.results45, go_sem, c0, c1, c2]) rfl ⟨?_, ?_⟩
            · rw [HT.out]
            · exact (((below_drewN hbw n).setCell (Nat.le_refl _) _).setCell (Nat.le_refl _) _).setCell (Nat.le_refl _) _
end Go.Proofs.Ytghggcehloiemab
