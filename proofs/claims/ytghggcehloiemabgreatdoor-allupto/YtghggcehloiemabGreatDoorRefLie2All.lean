import Derived.Test.YtghggcehloiemabGreatDoorHexAll
import Derived.Test.YtghggcehloiemabGreatDoorTypAtAll
namespace Go.Proofs.YtghggcehloiemabGreatDoor
open Go.RowKit
set_option linter.unusedVariables false
set_option maxRecDepth 16000

def gapI (x : Option UInt8) : Int := match x with
  | none => -1
  | some c => (c.toNat : Int)
def i64v (x : Int) : Value := .int .i64 x
/-- What 'lie' answers. -/
def LiePost (o : Option (List (Option UInt8))) (w : World) (e : Ending) (w' : World) : Prop :=
  (match o with
    | some L => ∃ v, e = .returned (.tuple #[v, .bool true]) ∧ w'.ownsRow w.heap.size 3 1 v L.length (L.map fun x => i64v (gapI x))
    | none => ∃ a N c, e = .returned (.tuple #[.slice a N c, .bool false])) ∧ Below w.heap.size w w'
theorem LiePost.no {o : Option (List (Option UInt8))} {w w' : World} {e : Ending} {a : Option Addr} {N c : Nat} (h : o = none) (he : e = .returned (.tuple #[.slice a N c, .bool false])) (hb : Below w.heap.size w w') : LiePost o w e w' := by
  subst h; exact ⟨⟨a, N, c, he⟩, hb⟩
theorem LiePost.yes {o : Option (List (Option UInt8))} {w w' : World} {e : Ending} {v : Value} {L : List (Option UInt8)} (h : o = some L) (he : e = .returned (.tuple #[v, .bool true])) (hown : w'.ownsRow w.heap.size 3 1 v L.length (L.map fun x => i64v (gapI x))) (hb : Below w.heap.size w w') : LiePost o w e w' := by
  subst h; exact ⟨⟨v, he, hown⟩, hb⟩

theorem own_base {w : World} {base base' : Nat} {e : TypeId} {size n : Nat} {v : Value} {xs : List Value} (h : w.ownsRow base e size v n xs) (hb : base' ≤ base) : w.ownsRow base' e size v n xs := by
  obtain ⟨h1, h2⟩ := h
  refine ⟨h1, ?_⟩
  rcases h2 with h2 | ⟨g, cap, cur, hv, hb', hr⟩
  · exact .inl h2
  · exact .inr ⟨g, cap, cur, hv, by omega, hr⟩

/-- Behind an append onto a row of the call's own: other blocks are as they were. -/
theorem grown_blk {wr w3 : World} {base : Nat} {e : TypeId} {size n : Nat} {v : Value} {xs : List Value} {o o' : Obj} {B : Nat} (hown : wr.ownsRow base e size v n xs) (hg : (wr.alloc o).grownBy w3 v.ownBlock) (hB : B < base) (h : wr.heap[B]? = some o') : w3.heap[B]? = some o' := by
  have hl := blk_lt h
  rw [hg.block B (by simp; omega) (fun e => by have := (hown.lt _ e.symm).1; omega), Below.heap_alloc _ _ _ hl]; exact h
theorem grown_below {w wr w3 : World} {base : Nat} {e : TypeId} {size n : Nat} {v : Value} {xs : List Value} {o : Obj} (hb : Below w.heap.size w wr) (hown : wr.ownsRow base e size v n xs) (hg : (wr.alloc o).grownBy w3 v.ownBlock) (hB : w.heap.size ≤ base) : Below w.heap.size w w3 :=
  Below.grown (hb.alloc hb.size o) hg (by have := hb.size; simp; omega) (fun j hj => by have := (hown.lt _ hj).1; omega)

set_option maxHeartbeats 2000000 in
theorem lie_num (k : Nat) (s : ByteArray) (w : World) (hk : k ≤ 16) (hs : s.size ≤ maxLen) :
    Calls Tryz.prog 158 #[typV (true, k), .string s] w fun e w' => LiePost (P.lieLeaf (true, k) s.data.toList) w e w' := by
  obtain ⟨i1, hi1, hy0, hy1, hy2⟩ := info_parts Tryz.infoInt
  have hbd := P.rnum_bd s.data.toList
  obtain ⟨n, hn⟩ : ∃ n, P.rnum s.data.toList = n := ⟨_, rfl⟩
  rw [hn] at hbd
  have HN : Hid (P.rnum s.data.toList = n) := hn
  have HC : Hid (∀ w0, Calls Tryz.prog 169 #[.string s] w0 fun e w' => e = .returned (.int .i64 n) ∧ w' = w0) := by
    intro w0; have := rnumber_any s w0 hs; rw [hn] at this; exact this
  clear hn
  unfold typV
  simp only [P.lsz, if_true]
  by_cases hneg : n < 0
  · have hn1 : n = -1 := by omega
    subst hn1
    have HL : Hid (P.lieLeaf (true, k) s.data.toList = none) := by
      unfold Hid P.lieLeaf; rw [if_pos rfl, if_neg (by rw [HN.out]; omega)]
    go_enter Tryz.func158, Tryz.ntmps158
    go_wp2_with fail
    refine (HC.out _).mono ?_
    rintro e w1 ⟨rfl, rfl⟩
    go_wp2_with fail
    go_loopw [6, 7, 8] (fun v x i wr => ∃ (q : Nat) (nn : Int) (xs : List Value), q ≤ k ∧ i = .int .i64 q ∧ x = .int .i64 nn ∧ (nn = -1 ∨ nn = 0) ∧ wr.ownsRow (w.heap.size + 1) 3 1 v q xs ∧ wr.heap[w.heap.size]? = some (.cells #[.int .u8 117, .int .i64 k, .int .i64 k, .slice none 0 0, .slice none 0 0] 121 (0, 0)) ∧ Below w.heap.size w wr) (fun _ _ i _ => k - (intOf i).toNat)
    case atStart => exact ⟨0, -1, [], by omega, rfl, rfl, Or.inl rfl, World.ownsRow_nil _ _ _ _, heap_alloc_new w _, (Below.refl _ _).alloc (Nat.le_refl _) _⟩
    case round =>
      obtain ⟨q, nn, xs, hq, rfl, rfl, hnn, hown, hbx, hbe⟩ := hrel
      obtain ⟨c0, c1, c2, c3, c4⟩ := cells5 hbx
      have hsz := hbe.size
      have hwl := blk_lt hbx
      by_cases hlt : q < k
      · rcases hnn with rfl | rfl
        · go_wp2_with (first
            | (at_builtin; refine wpList_append_lies _ rfl _ _ 63 rfl (w.heap.size + 1) 3 i1 (.int .i64 0) 1 8 Tryz.underlying63 hi1 hy0 hy1 hy2 rfl (by decide) u6 q xs rfl (hown.alloc _) ⟨wr.heap.size, 0, none⟩ 1 1 [.int .i64 (-1)] rfl rfl (cell_one_new _ _ _) (fun x hx => by simp at hx; subst hx; rfl) (by omega) (by unfold maxLen; omega) (by omega) (by simp; omega) _ rfl ?_; intro g cap3 w3 hown' hgrow hat hlt3
               have hbx3 := grown_blk hown hgrow (Nat.lt_succ_self _) hbx
               have hbe3 := grown_below hbe hown hgrow (Nat.le_succ _)))
          exact ⟨⟨q + 1, 0, _, by omega, by go_num, rfl, Or.inr rfl, hown', hbx3, hbe3⟩, by simp [intOf]; omega⟩
        · go_wp2_with (first
            | (at_builtin; refine wpList_append_lies _ rfl _ _ 63 rfl (w.heap.size + 1) 3 i1 (.int .i64 0) 1 8 Tryz.underlying63 hi1 hy0 hy1 hy2 rfl (by decide) u6 q xs rfl (hown.alloc _) ⟨wr.heap.size, 0, none⟩ 1 1 [.int .i64 0] rfl rfl (cell_one_new _ _ _) (fun x hx => by simp at hx; subst hx; rfl) (by omega) (by unfold maxLen; omega) (by omega) (by simp; omega) _ rfl ?_; intro g cap3 w3 hown' hgrow hat hlt3
               have hbx3 := grown_blk hown hgrow (Nat.lt_succ_self _) hbx
               have hbe3 := grown_below hbe hown hgrow (Nat.le_succ _)))
          exact ⟨⟨q + 1, 0, _, by omega, by go_num, rfl, Or.inr rfl, hown', hbx3, hbe3⟩, by simp [intOf]; omega⟩
      · obtain ⟨a, N, cap, rfl⟩ := owns_form hown
        rcases hnn with rfl | rfl
        all_goals
          go_wp2_with fail
          refine (HC.out _).mono ?_
          rintro e w5 ⟨rfl, rfl⟩
          go_wp2_with fail
          go_ret2
          exact LiePost.no HL.out rfl hbe
  · obtain ⟨m, rfl⟩ := Int.eq_ofNat_of_zero_le (show 0 ≤ n by omega)
    have HL : Hid (P.lieLeaf (true, k) s.data.toList = if m / 256 ^ k = 0 then some ((P.le k m).map some) else none) := by
      unfold Hid P.lieLeaf; rw [if_pos rfl, HN.out]; simp
    have hm : m ≤ 10000000000 := by omega
    clear hneg hbd
    go_enter Tryz.func158, Tryz.ntmps158
    go_wp2_with fail
    refine (HC.out _).mono ?_
    rintro e w1 ⟨rfl, rfl⟩
    go_wp2_with fail
    go_loopw [6, 7, 8] (fun v x i wr => ∃ (q nn : Nat), q ≤ k ∧ i = .int .i64 q ∧ x = .int .i64 nn ∧ nn ≤ 10000000000 ∧ Hid (nn = m / 256 ^ q) ∧ wr.ownsRow (w.heap.size + 1) 3 1 v q ((P.le q m).map fun c => i64v (c.toNat : Int)) ∧ wr.heap[w.heap.size]? = some (.cells #[.int .u8 117, .int .i64 k, .int .i64 k, .slice none 0 0, .slice none 0 0] 121 (0, 0)) ∧ Below w.heap.size w wr) (fun _ _ i _ => k - (intOf i).toNat)
    case atStart => exact ⟨0, m, by omega, rfl, rfl, hm, by simp [Hid], World.ownsRow_nil _ _ _ _, heap_alloc_new w _, (Below.refl _ _).alloc (Nat.le_refl _) _⟩
    case round =>
      obtain ⟨q, nn, hq, rfl, rfl, hnn, HNN, hown, hbx, hbe⟩ := hrel
      obtain ⟨c0, c1, c2, c3, c4⟩ := cells5 hbx
      have hsz := hbe.size
      have hwl := blk_lt hbx
      by_cases hlt : q < k
      · have HLE : Hid ((P.le q m).map (fun c => i64v (c.toNat : Int)) ++ [.int .i64 ((nn : Int) % 256)] = (P.le (q + 1) m).map fun c => i64v (c.toNat : Int)) := by
          unfold Hid
          rw [P.le, List.map_append, ← HNN.out]
          congr 1
          simp [i64v]
        go_wp2_with (first
          | (at_builtin; refine wpList_append_lies _ rfl _ _ 63 rfl (w.heap.size + 1) 3 i1 (.int .i64 0) 1 8 Tryz.underlying63 hi1 hy0 hy1 hy2 rfl (by decide) u6 q ((P.le q m).map fun c => i64v (c.toNat : Int)) rfl (hown.alloc _) ⟨wr.heap.size, 0, none⟩ 1 1 [.int .i64 ((nn : Int) % 256)] rfl rfl (cell_one_new _ _ _) (fun x hx => by simp at hx; subst hx; rfl) (by omega) (by unfold maxLen; omega) (by omega) (by simp; omega) _ rfl ?_; intro g cap3 w3 hown' hgrow hat hlt3
             have hbx3 := grown_blk hown hgrow (Nat.lt_succ_self _) hbx
             have hbe3 := grown_below hbe hown hgrow (Nat.le_succ _)))
        rw [HLE.out] at hown'
        exact ⟨⟨q + 1, nn / 256, by omega, by go_num, by go_num, by omega, by unfold Hid; rw [HNN.out, Nat.div_div_eq_div_mul, Nat.pow_succ], hown', hbx3, hbe3⟩, by simp [intOf]; omega⟩
      · have hqe : q = k := by omega
        have HNN2 : Hid (nn = m / 256 ^ k) := by unfold Hid; rw [← hqe]; exact HNN.out
        have HOW : Hid (wr.ownsRow (w.heap.size + 1) 3 1 u6 k ((P.le k m).map fun c => i64v (c.toNat : Int))) := by
          rw [hqe] at hown; exact hown
        obtain ⟨a, N, cap, rfl⟩ := owns_form hown
        clear hqe hown
        by_cases hz : nn = 0
        · have hzb : ((nn : Int) == 0) = true := by rw [beq_iff_eq]; omega
          have HR : Hid (P.lieLeaf (true, k) s.data.toList = some ((P.le k m).map some)) := by
            unfold Hid; rw [HL.out, if_pos (by rw [← HNN2.out]; exact hz)]
          clear hz
          go_wp2_with fail
          refine (HC.out _).mono ?_
          rintro e w5 ⟨rfl, rfl⟩
          go_wp2_with fail
          go_ret2
          refine LiePost.yes HR.out rfl ?_ hbe
          have := own_base HOW.out (Nat.le_succ _)
          simpa [P.le_length, gapI, Function.comp_def] using this
        · have hzb : ((nn : Int) == 0) = false := by rw [beq_eq_false_iff_ne]; omega
          have HR : Hid (P.lieLeaf (true, k) s.data.toList = none) := by
            unfold Hid; rw [HL.out, if_neg (by rw [← HNN2.out]; exact hz)]
          clear hz
          go_wp2_with fail
          refine (HC.out _).mono ?_
          rintro e w5 ⟨rfl, rfl⟩
          go_wp2_with fail
          go_ret2
          exact LiePost.no HR.out rfl hbe
end Go.Proofs.YtghggcehloiemabGreatDoor
namespace Go.Proofs.YtghggcehloiemabGreatDoor
open Go.RowKit
set_option linter.unusedVariables false
set_option maxRecDepth 16000

theorem hexI_some {s : ByteArray} {i : Nat} (hi : i < s.size) {x : Nat} (h : P.hexv s[i] = some x) : hexAt s i = some x ∧ P.hexI s[i] = x ∧ x ≤ 15 := by
  refine ⟨by simp [hexAt, get_of hi, h], by simp [P.hexI, h], P.hexv_lt h⟩
theorem hexI_none {s : ByteArray} {i : Nat} (hi : i < s.size) (h : P.hexv s[i] = none) : hexAt s i = none ∧ P.hexI s[i] = -1 := by
  refine ⟨by simp [hexAt, get_of hi, h], by simp [P.hexI, h]⟩
theorem rhex_eq (c : UInt8) (w : World) {x : Int} (h : P.hexI c = x) : Calls Tryz.prog 174 #[.int .u8 c.toNat] w fun e w' => e = .returned (.int .i64 x) ∧ w' = w := by
  have := rhex_any c w; rw [h] at this; exact this

set_option maxHeartbeats 2000000 in
theorem lie_bytes (k : Nat) (s : ByteArray) (w : World) (hk : k ≤ 16) (hs : s.size ≤ maxLen) :
    Calls Tryz.prog 158 #[typV (false, k), .string s] w fun e w' => LiePost (P.lieLeaf (false, k) s.data.toList) w e w' := by
  obtain ⟨i1, hi1, hy0, hy1, hy2⟩ := info_parts Tryz.infoInt
  have hlen := tl_len s
  unfold typV
  simp only [P.lsz, Bool.false_eq_true, if_false]
  rw [show ((1 : Nat) : Int) = 1 from rfl]
  by_cases hl : s.size = 2 * k
  · have hnb : ((s.size : Int) != 2 * (k : Int)) = false := by rw [bne_eq_false_iff_eq]; omega
    have HL : Hid (P.lieLeaf (false, k) s.data.toList = (P.rdhex k s.data.toList).map (·.map some)) := by
      unfold Hid P.lieLeaf; simp [hl]
    have HS : Hid (s.size = 2 * k) := hl
    have hs32 : s.size ≤ 32 := by omega
    clear hl hlen
    go_enter Tryz.func158, Tryz.ntmps158
    go_wp2_with fail
    go_loopw [6, 9] (fun v i wr => ∃ (q p : Nat) (xs : List UInt8), q ≤ k ∧ p = 2 * q ∧ i = .int .i64 p ∧ Hid (xs.length = q ∧ P.rdhex k s.data.toList = (P.rdhex (k - q) (s.data.toList.drop p)).map (xs ++ ·)) ∧ wr.ownsRow (w.heap.size + 1) 3 1 v q (xs.map fun c => i64v (c.toNat : Int)) ∧ wr.heap[w.heap.size]? = some (.cells #[.int .u8 98, .int .i64 k, .int .i64 1, .slice none 0 0, .slice none 0 0] 121 (0, 0)) ∧ Below w.heap.size w wr) (fun _ i _ => s.size - (intOf i).toNat)
    case atStart => exact ⟨0, 0, [], by omega, rfl, rfl, ⟨rfl, by simp⟩, World.ownsRow_nil _ _ _ _, heap_alloc_new w _, (Below.refl _ _).alloc (Nat.le_refl _) _⟩
    case round =>
      obtain ⟨q, p, xs, hq, hp, rfl, HX, hown, hbx, hbe⟩ := hrel
      obtain ⟨c0, c1, c2, c3, c4⟩ := cells5 hbx
      have HP : Hid (p = 2 * q) := hp
      have hsz := hbe.size
      have hwl := blk_lt hbx
      by_cases hlt : p < s.size
      · have hlt1 : p + 1 < s.size := by have := HS.out; omega
        have hqk : q + 1 ≤ k := by have := HS.out; omega
        clear hp
        cases hv1 : P.hexv s[p] with
        | none =>
          obtain ⟨e1, e2⟩ := hexI_none hlt hv1
          have HR : Hid (P.lieLeaf (false, k) s.data.toList = none) := by
            unfold Hid; rw [HL.out, HX.out.2, show k - q = (k - (q + 1)) + 1 by omega, rdhex_no (Or.inl e1)]; rfl
          have H1 : Hid (P.hexI s[p] = -1) := e2
          clear hv1 e1 e2
          cases hv2 : P.hexv s[p + 1] with
          | none =>
            have H2 : Hid (P.hexI s[p + 1] = -1) := (hexI_none hlt1 hv2).2
            clear hv2
            go_wp2_with fail
            refine (rhex_eq _ _ H1.out).mono ?_
            rintro e w5 ⟨rfl, rfl⟩
            go_wp2_with fail
            refine (rhex_eq _ _ H2.out).mono ?_
            rintro e w6 ⟨rfl, rfl⟩
            go_wp2_with fail
            go_ret2
            exact LiePost.no HR.out rfl hbe
          | some y =>
            have H2 : Hid (P.hexI s[p + 1] = y) := (hexI_some hlt1 hv2).2.1
            clear hv2
            go_wp2_with fail
            refine (rhex_eq _ _ H1.out).mono ?_
            rintro e w5 ⟨rfl, rfl⟩
            go_wp2_with fail
            refine (rhex_eq _ _ H2.out).mono ?_
            rintro e w6 ⟨rfl, rfl⟩
            go_wp2_with fail
            go_ret2
            exact LiePost.no HR.out rfl hbe
        | some x =>
          obtain ⟨e1, e2, hx15⟩ := hexI_some hlt hv1
          have H1 : Hid (P.hexI s[p] = x) := e2
          have HA : Hid (hexAt s p = some x) := e1
          clear hv1 e1 e2
          cases hv2 : P.hexv s[p + 1] with
          | none =>
            obtain ⟨e1, e2⟩ := hexI_none hlt1 hv2
            have HR : Hid (P.lieLeaf (false, k) s.data.toList = none) := by
              unfold Hid; rw [HL.out, HX.out.2, show k - q = (k - (q + 1)) + 1 by omega, rdhex_no (Or.inr e1)]; rfl
            have H2 : Hid (P.hexI s[p + 1] = -1) := e2
            clear hv2 e1 e2
            go_wp2_with fail
            refine (rhex_eq _ _ H1.out).mono ?_
            rintro e w5 ⟨rfl, rfl⟩
            go_wp2_with fail
            refine (rhex_eq _ _ H2.out).mono ?_
            rintro e w6 ⟨rfl, rfl⟩
            go_wp2_with fail
            go_ret2
            exact LiePost.no HR.out rfl hbe
          | some y =>
            obtain ⟨e1, e2, hy15⟩ := hexI_some hlt1 hv2
            have H2 : Hid (P.hexI s[p + 1] = y) := e2
            have HE : Hid ((xs ++ [UInt8.ofNat (x * 16 + y)]).length = q + 1 ∧ P.rdhex k s.data.toList = (P.rdhex (k - (q + 1)) (s.data.toList.drop (p + 2))).map ((xs ++ [UInt8.ofNat (x * 16 + y)]) ++ ·)) := by
              refine ⟨by simp [HX.out.1], ?_⟩
              rw [HX.out.2, show k - q = (k - (q + 1)) + 1 by omega, rdhex_step HA.out e1]
              cases P.rdhex (k - (q + 1)) (s.data.toList.drop (p + 2)) <;> simp
            have HV : Hid (xs.map (fun c => i64v (c.toNat : Int)) ++ [.int .i64 (16 * (x : Int) + y)] = (xs ++ [UInt8.ofNat (x * 16 + y)]).map fun c => i64v (c.toNat : Int)) := by
              unfold Hid
              rw [List.map_append]
              congr 1
              simp [i64v]
              omega
            clear hv2 e1 e2
            go_wp2_with fail
            refine (rhex_eq _ _ H1.out).mono ?_
            rintro e w5 ⟨rfl, rfl⟩
            go_wp2_with fail
            refine (rhex_eq _ _ H2.out).mono ?_
            rintro e w6 ⟨rfl, rfl⟩
            go_wp2_with (first
              | (at_builtin; refine wpList_append_lies _ rfl _ _ 63 rfl (w.heap.size + 1) 3 i1 (.int .i64 0) 1 8 Tryz.underlying63 hi1 hy0 hy1 hy2 rfl (by decide) u6 q (xs.map fun c => i64v (c.toNat : Int)) rfl (hown.alloc _) ⟨w6.heap.size, 0, none⟩ 1 1 [.int .i64 (16 * (x : Int) + y)] rfl rfl (cell_one_new _ _ _) (fun x hx => by simp at hx; subst hx; rfl) (by omega) (by unfold maxLen; omega) (by omega) (by simp; omega) _ rfl ?_; intro g cap3 w3 hown' hgrow hat hlt3
                 have hbx3 := grown_blk hown hgrow (Nat.lt_succ_self _) hbx
                 have hbe3 := grown_below hbe hown hgrow (Nat.le_succ _)))
            rw [HV.out] at hown'
            exact ⟨⟨q + 1, p + 2, _, by omega, by have := HP.out; omega, by go_num, HE, hown', hbx3, hbe3⟩, by simp [intOf]; omega⟩
      · have hqe : q = k := by have := HS.out; omega
        have HR : Hid (P.lieLeaf (false, k) s.data.toList = some (xs.map some)) := by
          unfold Hid; rw [HL.out, HX.out.2, hqe, Nat.sub_self]; simp [P.rdhex]
        have hxl := HX.out.1
        have HOW : Hid (wr.ownsRow (w.heap.size + 1) 3 1 u6 xs.length (xs.map fun c => i64v (c.toNat : Int))) := by
          rw [hxl]; exact hown
        obtain ⟨a, N, cap, rfl⟩ := owns_form hown
        clear hqe hown hxl hp
        go_wp2_with fail
        go_ret2
        refine LiePost.yes HR.out rfl ?_ hbe
        have := own_base HOW.out (Nat.le_succ _)
        simpa [gapI, Function.comp_def] using this
  · have hnb : ((s.size : Int) != 2 * (k : Int)) = true := by rw [bne_iff_ne]; omega
    have HR : Hid (P.lieLeaf (false, k) s.data.toList = none) := by
      unfold Hid P.lieLeaf; simp [hl]
    clear hl
    go_enter Tryz.func158, Tryz.ntmps158
    go_wp2_with fail
    go_ret2
    exact LiePost.no HR.out rfl ((Below.refl _ _).alloc (Nat.le_refl _) _)
end Go.Proofs.YtghggcehloiemabGreatDoor
namespace Go.Proofs.YtghggcehloiemabGreatDoor.P

/-- The reference's reading without its bound on sizes. -/
def rq : (n : Nat) → List UInt8 → Option (Ty n)
  | 0, l => if l.head? = some 123 then none else (rleaf l).map (lf 0)
  | n + 1, l => if l.head? = some 123 then (match cut l with
      | none => none
      | some ps => if 8 < ps.length then none else (allM (rq n) ps).map Sum.inr) else (rleaf l).map (lf (n + 1))

def nodig (r : List UInt8) : Prop := ∀ c, r.head? = some c → isDig c = false

theorem val_ge {c : UInt8} {l : List UInt8} (hd : isDig c = true) (hc : c ≠ 48) : 10 ^ l.length ≤ val (c :: l) := by
  have key : ∀ (l : List UInt8) (a : Nat), a * 10 ^ l.length ≤ l.foldl (fun n c => n * 10 + (c.toNat - 48)) a := by
    intro l
    induction l with
    | nil => intro a; simp
    | cons x l ih =>
      intro a
      rw [List.foldl_cons, List.length_cons, Nat.pow_succ, Nat.mul_comm (10 ^ l.length) 10, ← Nat.mul_assoc]
      exact Nat.le_trans (Nat.mul_le_mul_right _ (by omega)) (ih _)
  have h1 : 1 ≤ c.toNat - 48 := by
    have := val_pos_of_head (l := []) hd hc
    simp [val] at this; omega
  have h2 := key l (c.toNat - 48)
  have h3 : val (c :: l) = l.foldl (fun n c => n * 10 + (c.toNat - 48)) (c.toNat - 48) := by simp [val]
  rw [h3]
  exact Nat.le_trans (by have := Nat.mul_le_mul_right (10 ^ l.length) h1; simpa using this) h2

theorem digs_of_all : ∀ (ds r : List UInt8), (∀ c ∈ ds, isDig c = true) → nodig r → digs (ds ++ r) = ds := by
  intro ds
  induction ds with
  | nil =>
    intro r _ hr
    cases r with
    | nil => rfl
    | cons c r => have := hr c rfl; simp [digs, this]
  | cons a ds ih =>
    intro r h hr
    have ha := h a (by simp)
    have := ih r (fun c hc => h c (by simp [hc])) hr
    simp only [digs] at this
    simp [digs, ha, this]

theorem rdnum_short {most : Nat} {l : List UInt8} {n k : Nat} (hm : most ≤ 99) (h : rdnum most l = some (n, k)) : k ≤ 2 ∧ k = (digs l).length ∧ n = val (digs l) ∧ 1 ≤ k ∧ ¬ (1 < (digs l).length ∧ (digs l).head? = some 48) ∧ n ≤ most := by
  have h' := h
  unfold rdnum at h
  split at h
  · cases h
  · rename_i hn
    simp at h
    obtain ⟨rfl, rfl⟩ := h
    have hne : digs l ≠ [] := fun e => hn (Or.inl e)
    have hle : val (digs l) ≤ most := by
      rcases Nat.lt_or_ge most (val (digs l)) with h3 | h3
      · exact absurd (Or.inr (Or.inr h3)) hn
      · exact h3
    have hlead : ¬ (1 < (digs l).length ∧ (digs l).head? = some 48) := fun e => hn (Or.inr (Or.inl e))
    refine ⟨?_, rfl, rfl, List.length_pos_iff.2 hne, hlead, hle⟩
    cases hd : digs l with
    | nil => exact absurd hd hne
    | cons c r =>
      rcases Nat.lt_or_ge r.length 2 with h2 | h2
      · simp; omega
      · exfalso
        have hc : c ≠ 48 := fun e => hlead ⟨by rw [hd]; simp; omega, by rw [hd, e]; rfl⟩
        have := val_ge (l := r) (digs_all l c (by rw [hd]; simp)) hc
        have h10 : 10 ^ 2 ≤ 10 ^ r.length := Nat.pow_le_pow_right (by omega) h2
        rw [hd] at hle
        omega

theorem rnum_of {ds : List UInt8} (hall : ∀ c ∈ ds, isDig c = true) (h1 : 1 ≤ ds.length) (h10 : ds.length ≤ 10) (hl : ¬ (1 < ds.length ∧ ds.head? = some 48)) : rnum ds = val ds := by
  unfold rnum
  rw [if_neg, if_pos (List.all_eq_true.2 hall)]
  rintro (h | h | h)
  · omega
  · omega
  · exact hl h
theorem rnum_pos {ds : List UInt8} (h : 0 ≤ rnum ds) : (∀ c ∈ ds, isDig c = true) ∧ 1 ≤ ds.length ∧ ds.length ≤ 10 ∧ ¬ (1 < ds.length ∧ ds.head? = some 48) ∧ rnum ds = val ds := by
  unfold rnum at h ⊢
  split at h
  · omega
  · rename_i hn
    split at h
    · rename_i ha
      refine ⟨List.all_eq_true.1 ha, ?_, ?_, fun e => hn (Or.inr (Or.inr e)), by rw [if_neg hn, if_pos ha]⟩
      · rcases Nat.lt_or_ge ds.length 1 with h | h
        · exact absurd (Or.inl h) hn
        · exact h
      · rcases Nat.lt_or_ge 10 ds.length with h | h
        · exact absurd (Or.inr (Or.inl h)) hn
        · exact h
    · omega

def Bal (p : List UInt8) : Prop := ∀ (d : Int) (cur rest : List UInt8), 0 ≤ d → rest ≠ [] → cutGo d cur (p ++ rest) = cutGo d (cur ++ p) rest

theorem bal_plain : ∀ (p : List UInt8), (∀ c ∈ p, c ≠ 123 ∧ c ≠ 125 ∧ c ≠ 44) → Bal p := by
  intro p
  induction p with
  | nil => intro _ d cur rest _ _; simp
  | cons c p ih =>
    intro h d cur rest hd hr
    have hc := h c (by simp)
    rw [List.cons_append, cutGo, if_neg (by omega), if_neg (by simp [hr]), if_neg (fun e => hc.2.2 e.2)]
    have hdl : dl c = 0 := by simp [dl, hc.1, hc.2.1]
    rw [hdl, Int.add_zero, ih (fun x hx => h x (by simp [hx])) d _ _ hd hr, List.append_assoc]; rfl

def join : List (List UInt8) → List UInt8
  | [] => []
  | p :: ps => match ps with
    | [] => p
    | _ :: _ => p ++ 44 :: join ps
theorem join_one (p : List UInt8) : join [p] = p := rfl
theorem join_cons (p : List UInt8) {ps : List (List UInt8)} (h : ps ≠ []) : join (p :: ps) = p ++ 44 :: join ps := by
  cases ps with
  | nil => exact absurd rfl h
  | cons q qs => rfl

theorem cut_join : ∀ (ps : List (List UInt8)), ps ≠ [] → (∀ p ∈ ps, Bal p) → cutGo 0 [] (join ps ++ [125]) = some ps := by
  intro ps
  induction ps with
  | nil => intro h; exact absurd rfl h
  | cons p ps ih =>
    intro _ hb
    have hp := hb p (by simp)
    by_cases he : ps = []
    · subst he
      rw [join_one, hp 0 [] [125] (by omega) (by simp)]
      simp [cutGo]
    · rw [join_cons p he, List.append_assoc, hp 0 [] _ (by omega) (by simp), List.cons_append, cutGo, if_neg (by omega), if_neg (by simp), if_pos ⟨rfl, rfl⟩, ih he (fun q hq => hb q (by simp [hq]))]
      simp
theorem bal_join : ∀ (ps : List (List UInt8)), ps ≠ [] → (∀ p ∈ ps, Bal p) → ∀ (d : Int) (cur rest : List UInt8), 0 < d → rest ≠ [] → cutGo d cur (join ps ++ rest) = cutGo d (cur ++ join ps) rest := by
  intro ps
  induction ps with
  | nil => intro h; exact absurd rfl h
  | cons p ps ih =>
    intro _ hb d cur rest hd hr
    have hp := hb p (by simp)
    by_cases he : ps = []
    · subst he
      rw [join_one, hp d cur rest (by omega) hr]
    · rw [join_cons p he, List.append_assoc, hp d cur _ (by omega) (by simp), List.cons_append, cutGo, if_neg (by omega), if_neg (by simp [hr]), if_neg (fun e => by omega)]
      have hdl : dl 44 = 0 := by simp [dl]
      rw [hdl, Int.add_zero, ih he (fun q hq => hb q (by simp [hq])) d _ rest hd hr]
      simp
theorem bal_struct (ps : List (List UInt8)) (hne : ps ≠ []) (hb : ∀ p ∈ ps, Bal p) : Bal (123 :: join ps ++ [125]) := by
  intro d cur rest hd hr
  rw [List.cons_append, List.cons_append, cutGo, if_neg (by omega), if_neg (by simp), if_neg (fun e => by have := e.2; cases this)]
  have hdl : dl 123 = 1 := by simp [dl]
  rw [hdl, List.append_assoc, bal_join ps hne hb (d + 1) _ _ (by omega) (by simp), List.cons_append, List.nil_append, cutGo, if_neg (by omega), if_neg hr, if_neg (fun e => by have := e.2; cases this)]
  have hdl2 : dl 125 = -1 := by simp [dl]
  rw [hdl2, show d + 1 + -1 = d by omega]
  simp

theorem cutGo_join : ∀ (r : List UInt8) (d : Int) (cur : List UInt8) (ps : List (List UInt8)), cutGo d cur r = some ps → r ≠ [] → r.getLast? = some 125 → ps ≠ [] ∧ cur ++ r = join ps ++ [125] := by
  intro r
  induction r with
  | nil => intro d cur ps _ h; exact absurd rfl h
  | cons c r ih =>
    intro d cur ps h _ hl
    rw [cutGo] at h
    split at h
    · cases h
    · split at h
      · rename_i hr
        subst hr
        split at h
        · cases h
          simp at hl
          subst hl
          exact ⟨by simp, rfl⟩
        · cases h
      · rename_i hr
        have hl' : r.getLast? = some 125 := by
          rw [List.getLast?_cons] at hl
          cases hx : r.getLast? with
          | none => rw [List.getLast?_eq_none_iff] at hx; exact absurd hx hr
          | some y => rw [hx] at hl; simpa using hl
        split at h
        · rename_i hc
          obtain ⟨_, rfl⟩ := hc
          cases hx : cutGo 0 [] r with
          | none => rw [hx] at h; cases h
          | some qs =>
            rw [hx] at h
            simp at h
            subst h
            obtain ⟨h1, h2⟩ := ih 0 [] qs hx hr hl'
            refine ⟨by simp, ?_⟩
            rw [join_cons cur h1]
            simp at h2
            simp [h2]
        · obtain ⟨h1, h2⟩ := ih _ _ ps h hr hl'
          refine ⟨h1, ?_⟩
          rw [← h2]; simp
end Go.Proofs.YtghggcehloiemabGreatDoor.P
