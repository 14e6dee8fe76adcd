import Derived.Test.YtghggcehloiemaaRefLie
namespace Go.Proofs.Ytghggcehloiemaa
open Go.RowKit
set_option linter.unusedVariables false
set_option maxRecDepth 16000

def gapI (x : Option UInt8) : Int := match x with
  | none => -1
  | some c => (c.toNat : Int)
def i64v (x : Int) : Value := .int .i64 x
/-- What 'lie' answers. -/
def LiePost (o : Option (List (Option UInt8))) (w : World) (e : Ending) (w' : World) : Prop :=
  (match o with
    | some L => ∃ v, e = .returned (.tuple #[v, .bool true]) ∧ w'.ownsRow w.heap.size 3 1 v L.length (L.map fun x => i64v (gapI x))
    | none => ∃ a N c, e = .returned (.tuple #[.slice a N c, .bool false])) ∧ Below w.heap.size w w'
theorem LiePost.no {o : Option (List (Option UInt8))} {w w' : World} {e : Ending} {a : Option Addr} {N c : Nat} (h : o = none) (he : e = .returned (.tuple #[.slice a N c, .bool false])) (hb : Below w.heap.size w w') : LiePost o w e w' := by
  subst h; exact ⟨⟨a, N, c, he⟩, hb⟩
theorem LiePost.yes {o : Option (List (Option UInt8))} {w w' : World} {e : Ending} {v : Value} {L : List (Option UInt8)} (h : o = some L) (he : e = .returned (.tuple #[v, .bool true])) (hown : w'.ownsRow w.heap.size 3 1 v L.length (L.map fun x => i64v (gapI x))) (hb : Below w.heap.size w w') : LiePost o w e w' := by
  subst h; exact ⟨⟨v, he, hown⟩, hb⟩

theorem own_base {w : World} {base base' : Nat} {e : TypeId} {size n : Nat} {v : Value} {xs : List Value} (h : w.ownsRow base e size v n xs) (hb : base' ≤ base) : w.ownsRow base' e size v n xs := by
  obtain ⟨h1, h2⟩ := h
  refine ⟨h1, ?_⟩
  rcases h2 with h2 | ⟨g, cap, cur, hv, hb', hr⟩
  · exact .inl h2
  · exact .inr ⟨g, cap, cur, hv, by omega, hr⟩

/-- Behind an append onto a row of the call's own: other blocks are as they were. -/
theorem grown_blk {wr w3 : World} {base : Nat} {e : TypeId} {size n : Nat} {v : Value} {xs : List Value} {o o' : Obj} {B : Nat} (hown : wr.ownsRow base e size v n xs) (hg : (wr.alloc o).grownBy w3 v.ownBlock) (hB : B < base) (h : wr.heap[B]? = some o') : w3.heap[B]? = some o' := by
  have hl := blk_lt h
  rw [hg.block B (by simp; omega) (fun e => by have := (hown.lt _ e.symm).1; omega), Below.heap_alloc _ _ _ hl]; exact h
theorem grown_below {w wr w3 : World} {base : Nat} {e : TypeId} {size n : Nat} {v : Value} {xs : List Value} {o : Obj} (hb : Below w.heap.size w wr) (hown : wr.ownsRow base e size v n xs) (hg : (wr.alloc o).grownBy w3 v.ownBlock) (hB : w.heap.size ≤ base) : Below w.heap.size w w3 :=
  Below.grown (hb.alloc hb.size o) hg (by have := hb.size; simp; omega) (fun j hj => by have := (hown.lt _ hj).1; omega)

set_option maxHeartbeats 2000000 in
theorem lie_num (k : Nat) (s : ByteArray) (w : World) (hk : k ≤ 16) (hs : s.size ≤ maxLen) :
    Calls Try.prog 54 #[typV (true, k), .string s] w fun e w' => LiePost (P.lieLeaf (true, k) s.data.toList) w e w' := by
  obtain ⟨i1, hi1, hy0, hy1, hy2⟩ := info_parts Try.infoInt
  have hbd := P.rnum_bd s.data.toList
  obtain ⟨n, hn⟩ : ∃ n, P.rnum s.data.toList = n := ⟨_, rfl⟩
  rw [hn] at hbd
  have HN : Hid (P.rnum s.data.toList = n) := hn
  have HC : Hid (∀ w0, Calls Try.prog 79 #[.string s] w0 fun e w' => e = .returned (.int .i64 n) ∧ w' = w0) := by
    intro w0; have := rnumber_any s w0 hs; rw [hn] at this; exact this
  clear hn
  unfold typV
  simp only [P.lsz, if_true]
  by_cases hneg : n < 0
  · have hn1 : n = -1 := by omega
    subst hn1
    have HL : Hid (P.lieLeaf (true, k) s.data.toList = none) := by
      unfold Hid P.lieLeaf; rw [if_pos rfl, if_neg (by rw [HN.out]; omega)]
    go_enter Try.func54, Try.ntmps54
    go_wp2_with fail
    refine (HC.out _).mono ?_
    rintro e w1 ⟨rfl, rfl⟩
    go_wp2_with fail
    go_loopw [6, 7, 8] (fun v x i wr => ∃ (q : Nat) (nn : Int) (xs : List Value), q ≤ k ∧ i = .int .i64 q ∧ x = .int .i64 nn ∧ (nn = -1 ∨ nn = 0) ∧ wr.ownsRow (w.heap.size + 1) 3 1 v q xs ∧ wr.heap[w.heap.size]? = some (.cells #[.int .u8 117, .int .i64 k, .int .i64 k, .slice none 0 0, .slice none 0 0] 60 (0, 0)) ∧ Below w.heap.size w wr) (fun _ _ i _ => k - (intOf i).toNat)
    case atStart => exact ⟨0, -1, [], by omega, rfl, rfl, Or.inl rfl, World.ownsRow_nil _ _ _ _, heap_alloc_new w _, (Below.refl _ _).alloc (Nat.le_refl _) _⟩
    case round =>
      obtain ⟨q, nn, xs, hq, rfl, rfl, hnn, hown, hbx, hbe⟩ := hrel
      obtain ⟨c0, c1, c2, c3, c4⟩ := cells5 hbx
      have hsz := hbe.size
      have hwl := blk_lt hbx
      by_cases hlt : q < k
      · rcases hnn with rfl | rfl
        · go_wp2_with (first
            | (at_builtin; refine wpList_append_lies _ rfl _ _ 47 rfl (w.heap.size + 1) 3 i1 (.int .i64 0) 1 8 Try.underlying47 hi1 hy0 hy1 hy2 rfl (by decide) u6 q xs rfl (hown.alloc _) ⟨wr.heap.size, 0, none⟩ 1 1 [.int .i64 (-1)] rfl rfl (cell_one_new _ _ _) (fun x hx => by simp at hx; subst hx; rfl) (by omega) (by unfold maxLen; omega) (by omega) (by simp; omega) _ rfl ?_; intro g cap3 w3 hown' hgrow hat hlt3
               have hbx3 := grown_blk hown hgrow (Nat.lt_succ_self _) hbx
               have hbe3 := grown_below hbe hown hgrow (Nat.le_succ _)))
          exact ⟨⟨q + 1, 0, _, by omega, by go_num, rfl, Or.inr rfl, hown', hbx3, hbe3⟩, by simp [intOf]; omega⟩
        · go_wp2_with (first
            | (at_builtin; refine wpList_append_lies _ rfl _ _ 47 rfl (w.heap.size + 1) 3 i1 (.int .i64 0) 1 8 Try.underlying47 hi1 hy0 hy1 hy2 rfl (by decide) u6 q xs rfl (hown.alloc _) ⟨wr.heap.size, 0, none⟩ 1 1 [.int .i64 0] rfl rfl (cell_one_new _ _ _) (fun x hx => by simp at hx; subst hx; rfl) (by omega) (by unfold maxLen; omega) (by omega) (by simp; omega) _ rfl ?_; intro g cap3 w3 hown' hgrow hat hlt3
               have hbx3 := grown_blk hown hgrow (Nat.lt_succ_self _) hbx
               have hbe3 := grown_below hbe hown hgrow (Nat.le_succ _)))
          exact ⟨⟨q + 1, 0, _, by omega, by go_num, rfl, Or.inr rfl, hown', hbx3, hbe3⟩, by simp [intOf]; omega⟩
      · obtain ⟨a, N, cap, rfl⟩ := owns_form hown
        rcases hnn with rfl | rfl
        all_goals
          go_wp2_with fail
          refine (HC.out _).mono ?_
          rintro e w5 ⟨rfl, rfl⟩
          go_wp2_with fail
          go_ret2
          exact LiePost.no HL.out rfl hbe
  · obtain ⟨m, rfl⟩ := Int.eq_ofNat_of_zero_le (show 0 ≤ n by omega)
    have HL : Hid (P.lieLeaf (true, k) s.data.toList = if m / 256 ^ k = 0 then some ((P.le k m).map some) else none) := by
      unfold Hid P.lieLeaf; rw [if_pos rfl, HN.out]; simp
    have hm : m ≤ 10000000000 := by omega
    clear hneg hbd
    go_enter Try.func54, Try.ntmps54
    go_wp2_with fail
    refine (HC.out _).mono ?_
    rintro e w1 ⟨rfl, rfl⟩
    go_wp2_with fail
    go_loopw [6, 7, 8] (fun v x i wr => ∃ (q nn : Nat), q ≤ k ∧ i = .int .i64 q ∧ x = .int .i64 nn ∧ nn ≤ 10000000000 ∧ Hid (nn = m / 256 ^ q) ∧ wr.ownsRow (w.heap.size + 1) 3 1 v q ((P.le q m).map fun c => i64v (c.toNat : Int)) ∧ wr.heap[w.heap.size]? = some (.cells #[.int .u8 117, .int .i64 k, .int .i64 k, .slice none 0 0, .slice none 0 0] 60 (0, 0)) ∧ Below w.heap.size w wr) (fun _ _ i _ => k - (intOf i).toNat)
    case atStart => exact ⟨0, m, by omega, rfl, rfl, hm, by simp [Hid], World.ownsRow_nil _ _ _ _, heap_alloc_new w _, (Below.refl _ _).alloc (Nat.le_refl _) _⟩
    case round =>
      obtain ⟨q, nn, hq, rfl, rfl, hnn, HNN, hown, hbx, hbe⟩ := hrel
      obtain ⟨c0, c1, c2, c3, c4⟩ := cells5 hbx
      have hsz := hbe.size
      have hwl := blk_lt hbx
      by_cases hlt : q < k
      · have HLE : Hid ((P.le q m).map (fun c => i64v (c.toNat : Int)) ++ [.int .i64 ((nn : Int) % 256)] = (P.le (q + 1) m).map fun c => i64v (c.toNat : Int)) := by
          unfold Hid
          rw [P.le, List.map_append, ← HNN.out]
          congr 1
          simp [i64v]
        go_wp2_with (first
          | (at_builtin; refine wpList_append_lies _ rfl _ _ 47 rfl (w.heap.size + 1) 3 i1 (.int .i64 0) 1 8 Try.underlying47 hi1 hy0 hy1 hy2 rfl (by decide) u6 q ((P.le q m).map fun c => i64v (c.toNat : Int)) rfl (hown.alloc _) ⟨wr.heap.size, 0, none⟩ 1 1 [.int .i64 ((nn : Int) % 256)] rfl rfl (cell_one_new _ _ _) (fun x hx => by simp at hx; subst hx; rfl) (by omega) (by unfold maxLen; omega) (by omega) (by simp; omega) _ rfl ?_; intro g cap3 w3 hown' hgrow hat hlt3
             have hbx3 := grown_blk hown hgrow (Nat.lt_succ_self _) hbx
             have hbe3 := grown_below hbe hown hgrow (Nat.le_succ _)))
        rw [HLE.out] at hown'
        exact ⟨⟨q + 1, nn / 256, by omega, by go_num, by go_num, by omega, by unfold Hid; rw [HNN.out, Nat.div_div_eq_div_mul, Nat.pow_succ], hown', hbx3, hbe3⟩, by simp [intOf]; omega⟩
      · have hqe : q = k := by omega
        have HNN2 : Hid (nn = m / 256 ^ k) := by unfold Hid; rw [← hqe]; exact HNN.out
        have HOW : Hid (wr.ownsRow (w.heap.size + 1) 3 1 u6 k ((P.le k m).map fun c => i64v (c.toNat : Int))) := by
          rw [hqe] at hown; exact hown
        obtain ⟨a, N, cap, rfl⟩ := owns_form hown
        clear hqe hown
        by_cases hz : nn = 0
        · have hzb : ((nn : Int) == 0) = true := by rw [beq_iff_eq]; omega
          have HR : Hid (P.lieLeaf (true, k) s.data.toList = some ((P.le k m).map some)) := by
            unfold Hid; rw [HL.out, if_pos (by rw [← HNN2.out]; exact hz)]
          clear hz
          go_wp2_with fail
          refine (HC.out _).mono ?_
          rintro e w5 ⟨rfl, rfl⟩
          go_wp2_with fail
          go_ret2
          refine LiePost.yes HR.out rfl ?_ hbe
          have := own_base HOW.out (Nat.le_succ _)
          simpa [P.le_length, gapI, Function.comp_def] using this
        · have hzb : ((nn : Int) == 0) = false := by rw [beq_eq_false_iff_ne]; omega
          have HR : Hid (P.lieLeaf (true, k) s.data.toList = none) := by
            unfold Hid; rw [HL.out, if_neg (by rw [← HNN2.out]; exact hz)]
          clear hz
          go_wp2_with fail
          refine (HC.out _).mono ?_
          rintro e w5 ⟨rfl, rfl⟩
          go_wp2_with fail
          go_ret2
          exact LiePost.no HR.out rfl hbe
end Go.Proofs.Ytghggcehloiemaa
