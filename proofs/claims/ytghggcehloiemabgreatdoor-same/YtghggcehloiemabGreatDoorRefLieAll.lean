import Derived.Test.YtghggcehloiemabGreatDoorRefStruct
import Derived.Test.YtghggcehloiemabGreatDoorNumberAll
import Derived.Test.YtghggcehloiemabGreatDoorWriterAll
import Derived.Test.YtghggcehloiemabGreatDoorEquivAll
import Derived.Test.YtghggcehloiemabGreatDoorRefTopAll
import Derived.Test.YtghggcehloiemabGreatDoorEncWAll
namespace Go.Proofs.YtghggcehloiemabGreatDoor
open Go.RowKit
set_option linter.unusedVariables false
set_option maxRecDepth 16000

namespace P
def padTo (L : List (Option UInt8)) (n : Nat) : List (Option UInt8) := L ++ List.replicate (n - L.length) none
def lieF : List (Option (List (Option UInt8)) × Nat) → List (Option UInt8) → Option (List (Option UInt8))
  | [], L => some L
  | (x, p) :: r, L => match x with
    | none => none
    | some y => lieF r (padTo L p ++ y)
def lieLeaf (l : Bool × Nat) (s : List UInt8) : Option (List (Option UInt8)) :=
  if l.1 = true then (if 0 ≤ rnum s ∧ (rnum s).toNat / 256 ^ l.2 = 0 then some ((le l.2 (rnum s).toNat).map some) else none)
  else (if s.length = 2 * l.2 then (rdhex l.2 s).map (·.map some) else none)
def lieP : (n : Nat) → Ty n → List UInt8 → Option (List (Option UInt8))
  | 0, l, s => lieLeaf l s
  | _ + 1, .inl l, s => lieLeaf l s
  | n + 1, .inr ts, s => match cut s with
    | none => none
    | some ps => if ps.length = ts.length then (lieF (List.zip (List.zipWith (lieP n) ts ps) (places (0, 1) (ts.map (sz n)))) []).map (fun L => padTo L (sz (n + 1) (.inr ts)).1) else none
def tbl : List UInt8 := [48, 49, 50, 51, 52, 53, 54, 55, 56, 57, 97, 98, 99, 100, 101, 102]
def hexI (c : UInt8) : Int := match hexv c with
  | some d => (d : Int)
  | none => -1
theorem tbl_hit (c : UInt8) : ∀ k, tbl[k]? = some c → hexv c = some k := by
  intro k h
  have hk : k < 16 := (List.getElem?_eq_some_iff.1 h).1
  match k, hk with
  | 0, _ | 1, _ | 2, _ | 3, _ | 4, _ | 5, _ | 6, _ | 7, _ | 8, _ | 9, _ | 10, _ | 11, _ | 12, _ | 13, _ | 14, _ | 15, _ => simp [tbl] at h; subst h; rfl
theorem tbl_miss (c : UInt8) (h : ∀ k, k < 16 → tbl[k]? ≠ some c) : hexv c = none := by
  unfold hexv
  have hne : ∀ k x, tbl[k]? = some x → k < 16 → c ≠ x := fun k x hx hk e => h k hk (by rw [e]; exact hx)
  rw [if_neg, if_neg]
  · rintro ⟨h1, h2⟩
    have : c.toNat = 97 ∨ c.toNat = 98 ∨ c.toNat = 99 ∨ c.toNat = 100 ∨ c.toNat = 101 ∨ c.toNat = 102 := by omega
    rcases this with e | e | e | e | e | e
    · exact hne 10 97 rfl (by omega) (UInt8.toNat_inj.1 (by simpa using e))
    · exact hne 11 98 rfl (by omega) (UInt8.toNat_inj.1 (by simpa using e))
    · exact hne 12 99 rfl (by omega) (UInt8.toNat_inj.1 (by simpa using e))
    · exact hne 13 100 rfl (by omega) (UInt8.toNat_inj.1 (by simpa using e))
    · exact hne 14 101 rfl (by omega) (UInt8.toNat_inj.1 (by simpa using e))
    · exact hne 15 102 rfl (by omega) (UInt8.toNat_inj.1 (by simpa using e))
  · rintro ⟨h1, h2⟩
    have : c.toNat = 48 ∨ c.toNat = 49 ∨ c.toNat = 50 ∨ c.toNat = 51 ∨ c.toNat = 52 ∨ c.toNat = 53 ∨ c.toNat = 54 ∨ c.toNat = 55 ∨ c.toNat = 56 ∨ c.toNat = 57 := by omega
    rcases this with e | e | e | e | e | e | e | e | e | e
    · exact hne 0 48 rfl (by omega) (UInt8.toNat_inj.1 (by simpa using e))
    · exact hne 1 49 rfl (by omega) (UInt8.toNat_inj.1 (by simpa using e))
    · exact hne 2 50 rfl (by omega) (UInt8.toNat_inj.1 (by simpa using e))
    · exact hne 3 51 rfl (by omega) (UInt8.toNat_inj.1 (by simpa using e))
    · exact hne 4 52 rfl (by omega) (UInt8.toNat_inj.1 (by simpa using e))
    · exact hne 5 53 rfl (by omega) (UInt8.toNat_inj.1 (by simpa using e))
    · exact hne 6 54 rfl (by omega) (UInt8.toNat_inj.1 (by simpa using e))
    · exact hne 7 55 rfl (by omega) (UInt8.toNat_inj.1 (by simpa using e))
    · exact hne 8 56 rfl (by omega) (UInt8.toNat_inj.1 (by simpa using e))
    · exact hne 9 57 rfl (by omega) (UInt8.toNat_inj.1 (by simpa using e))
end P

set_option maxHeartbeats 1000000 in
theorem rhex_any (c : UInt8) (w : World) :
    Calls Tryz.prog 174 #[.int .u8 c.toNat] w fun e w' => e = .returned (.int .i64 (P.hexI c)) ∧ w' = w := by
  go_enter Tryz.func174, Tryz.ntmps174
  go_wp2_with fail
  go_loop [3] (fun i => ∃ k : Nat, k ≤ 16 ∧ i = .int .i64 k ∧ Hid (∀ j, j < k → P.tbl[j]? ≠ some c)) (fun i => 16 - (intOf i).toNat)
  case atStart => exact ⟨0, by omega, rfl, fun j hj => by omega⟩
  case round =>
    obtain ⟨k, hk, rfl, HK⟩ := hrel
    by_cases hlt : k < 16
    · go_wp2_with fail
      · have h1 := ‹(_ == (c.toNat : Int)) = true›
        rw [beq_iff_eq] at h1
        have hc := u8_of h1
        have ht : P.tbl[k]? = some c := by
          rw [← hc]; exact get_of (s := ⟨#[48, 49, 50, 51, 52, 53, 54, 55, 56, 57, 97, 98, 99, 100, 101, 102]⟩) (i := k) hlt
        go_ret
        exact ⟨ret_i64 (by simp [P.hexI, P.tbl_hit c k ht]), rfl⟩
      · have h1 := ‹(_ == (c.toNat : Int)) = false›
        rw [beq_eq_false_iff_ne] at h1
        refine ⟨⟨k + 1, by omega, by go_num, ?_⟩, by simp [intOf]; omega⟩
        intro j hj
        rcases Nat.lt_or_ge j k with h | h
        · exact HK.out j h
        · have hjk : j = k := by omega
          subst hjk
          intro e
          have hg := get_of (s := ⟨#[48, 49, 50, 51, 52, 53, 54, 55, 56, 57, 97, 98, 99, 100, 101, 102]⟩) (i := j) hlt
          have hg' : P.tbl[j]? = _ := hg
          rw [hg'] at e
          exact h1 (by rw [Option.some.inj e])
    · have HE : Hid (P.hexI c = -1) := by
        unfold Hid P.hexI; rw [P.tbl_miss c (fun j hj => HK.out j (by omega))]
      go_wp2_with fail
      go_ret
      exact ⟨by rw [HE.out]; rfl, rfl⟩
end Go.Proofs.YtghggcehloiemabGreatDoor
namespace Go.Proofs.YtghggcehloiemabGreatDoor
open Go.RowKit
set_option linter.unusedVariables false
set_option maxRecDepth 16000

def gapI (x : Option UInt8) : Int := match x with
  | none => -1
  | some c => (c.toNat : Int)
def i64v (x : Int) : Value := .int .i64 x
/-- What 'lie' answers. -/
def LiePost (o : Option (List (Option UInt8))) (w : World) (e : Ending) (w' : World) : Prop :=
  (match o with
    | some L => ∃ v, e = .returned (.tuple #[v, .bool true]) ∧ w'.ownsRow w.heap.size 3 1 v L.length (L.map fun x => i64v (gapI x))
    | none => ∃ a N c, e = .returned (.tuple #[.slice a N c, .bool false])) ∧ Below w.heap.size w w'
theorem LiePost.no {o : Option (List (Option UInt8))} {w w' : World} {e : Ending} {a : Option Addr} {N c : Nat} (h : o = none) (he : e = .returned (.tuple #[.slice a N c, .bool false])) (hb : Below w.heap.size w w') : LiePost o w e w' := by
  subst h; exact ⟨⟨a, N, c, he⟩, hb⟩
theorem LiePost.yes {o : Option (List (Option UInt8))} {w w' : World} {e : Ending} {v : Value} {L : List (Option UInt8)} (h : o = some L) (he : e = .returned (.tuple #[v, .bool true])) (hown : w'.ownsRow w.heap.size 3 1 v L.length (L.map fun x => i64v (gapI x))) (hb : Below w.heap.size w w') : LiePost o w e w' := by
  subst h; exact ⟨⟨v, he, hown⟩, hb⟩

theorem own_base {w : World} {base base' : Nat} {e : TypeId} {size n : Nat} {v : Value} {xs : List Value} (h : w.ownsRow base e size v n xs) (hb : base' ≤ base) : w.ownsRow base' e size v n xs := by
  obtain ⟨h1, h2⟩ := h
  refine ⟨h1, ?_⟩
  rcases h2 with h2 | ⟨g, cap, cur, hv, hb', hr⟩
  · exact .inl h2
  · exact .inr ⟨g, cap, cur, hv, by omega, hr⟩

/-- Behind an append onto a row of the call's own: other blocks are as they were. -/
theorem grown_blk {wr w3 : World} {base : Nat} {e : TypeId} {size n : Nat} {v : Value} {xs : List Value} {o o' : Obj} {B : Nat} (hown : wr.ownsRow base e size v n xs) (hg : (wr.alloc o).grownBy w3 v.ownBlock) (hB : B < base) (h : wr.heap[B]? = some o') : w3.heap[B]? = some o' := by
  have hl := blk_lt h
  rw [hg.block B (by simp; omega) (fun e => by have := (hown.lt _ e.symm).1; omega), Below.heap_alloc _ _ _ hl]; exact h
theorem grown_below {w wr w3 : World} {base : Nat} {e : TypeId} {size n : Nat} {v : Value} {xs : List Value} {o : Obj} (hb : Below w.heap.size w wr) (hown : wr.ownsRow base e size v n xs) (hg : (wr.alloc o).grownBy w3 v.ownBlock) (hB : w.heap.size ≤ base) : Below w.heap.size w w3 :=
  Below.grown (hb.alloc hb.size o) hg (by have := hb.size; simp; omega) (fun j hj => by have := (hown.lt _ hj).1; omega)

set_option maxHeartbeats 2000000 in
theorem lie_num (k : Nat) (s : ByteArray) (w : World) (hk : k ≤ 16) (hs : s.size ≤ maxLen) :
    Calls Tryz.prog 158 #[typV (true, k), .string s] w fun e w' => LiePost (P.lieLeaf (true, k) s.data.toList) w e w' := by
  obtain ⟨i1, hi1, hy0, hy1, hy2⟩ := info_parts Tryz.infoInt
  have hbd := P.rnum_bd s.data.toList
  obtain ⟨n, hn⟩ : ∃ n, P.rnum s.data.toList = n := ⟨_, rfl⟩
  rw [hn] at hbd
  have HN : Hid (P.rnum s.data.toList = n) := hn
  have HC : Hid (∀ w0, Calls Tryz.prog 169 #[.string s] w0 fun e w' => e = .returned (.int .i64 n) ∧ w' = w0) := by
    intro w0; have := rnumber_any s w0 hs; rw [hn] at this; exact this
  clear hn
  unfold typV
  simp only [P.lsz, if_true]
  by_cases hneg : n < 0
  · have hn1 : n = -1 := by omega
    subst hn1
    have HL : Hid (P.lieLeaf (true, k) s.data.toList = none) := by
      unfold Hid P.lieLeaf; rw [if_pos rfl, if_neg (by rw [HN.out]; omega)]
    go_enter Tryz.func158, Tryz.ntmps158
    go_wp2_with fail
    refine (HC.out _).mono ?_
    rintro e w1 ⟨rfl, rfl⟩
    go_wp2_with fail
    go_loopw [6, 7, 8] (fun v x i wr => ∃ (q : Nat) (nn : Int) (xs : List Value), q ≤ k ∧ i = .int .i64 q ∧ x = .int .i64 nn ∧ (nn = -1 ∨ nn = 0) ∧ wr.ownsRow (w.heap.size + 1) 3 1 v q xs ∧ wr.heap[w.heap.size]? = some (.cells #[.int .u8 117, .int .i64 k, .int .i64 k, .slice none 0 0, .slice none 0 0] 121 (0, 0)) ∧ Below w.heap.size w wr) (fun _ _ i _ => k - (intOf i).toNat)
    case atStart => exact ⟨0, -1, [], by omega, rfl, rfl, Or.inl rfl, World.ownsRow_nil _ _ _ _, heap_alloc_new w _, (Below.refl _ _).alloc (Nat.le_refl _) _⟩
    case round =>
      obtain ⟨q, nn, xs, hq, rfl, rfl, hnn, hown, hbx, hbe⟩ := hrel
      obtain ⟨c0, c1, c2, c3, c4⟩ := cells5 hbx
      have hsz := hbe.size
      have hwl := blk_lt hbx
      by_cases hlt : q < k
      · rcases hnn with rfl | rfl
        · go_wp2_with (first
            | (at_builtin; refine wpList_append_lies _ rfl _ _ 63 rfl (w.heap.size + 1) 3 i1 (.int .i64 0) 1 8 Tryz.underlying63 hi1 hy0 hy1 hy2 rfl (by decide) u6 q xs rfl (hown.alloc _) ⟨wr.heap.size, 0, none⟩ 1 1 [.int .i64 (-1)] rfl rfl (cell_one_new _ _ _) (fun x hx => by simp at hx; subst hx; rfl) (by omega) (by unfold maxLen; omega) (by omega) (by simp; omega) _ rfl ?_; intro g cap3 w3 hown' hgrow hat hlt3
               have hbx3 := grown_blk hown hgrow (Nat.lt_succ_self _) hbx
               have hbe3 := grown_below hbe hown hgrow (Nat.le_succ _)))
          exact ⟨⟨q + 1, 0, _, by omega, by go_num, rfl, Or.inr rfl, hown', hbx3, hbe3⟩, by simp [intOf]; omega⟩
        · go_wp2_with (first
            | (at_builtin; refine wpList_append_lies _ rfl _ _ 63 rfl (w.heap.size + 1) 3 i1 (.int .i64 0) 1 8 Tryz.underlying63 hi1 hy0 hy1 hy2 rfl (by decide) u6 q xs rfl (hown.alloc _) ⟨wr.heap.size, 0, none⟩ 1 1 [.int .i64 0] rfl rfl (cell_one_new _ _ _) (fun x hx => by simp at hx; subst hx; rfl) (by omega) (by unfold maxLen; omega) (by omega) (by simp; omega) _ rfl ?_; intro g cap3 w3 hown' hgrow hat hlt3
               have hbx3 := grown_blk hown hgrow (Nat.lt_succ_self _) hbx
               have hbe3 := grown_below hbe hown hgrow (Nat.le_succ _)))
          exact ⟨⟨q + 1, 0, _, by omega, by go_num, rfl, Or.inr rfl, hown', hbx3, hbe3⟩, by simp [intOf]; omega⟩
      · obtain ⟨a, N, cap, rfl⟩ := owns_form hown
        rcases hnn with rfl | rfl
        all_goals
          go_wp2_with fail
          refine (HC.out _).mono ?_
          rintro e w5 ⟨rfl, rfl⟩
          go_wp2_with fail
          go_ret2
          exact LiePost.no HL.out rfl hbe
  · obtain ⟨m, rfl⟩ := Int.eq_ofNat_of_zero_le (show 0 ≤ n by omega)
    have HL : Hid (P.lieLeaf (true, k) s.data.toList = if m / 256 ^ k = 0 then some ((P.le k m).map some) else none) := by
      unfold Hid P.lieLeaf; rw [if_pos rfl, HN.out]; simp
    have hm : m ≤ 10000000000 := by omega
    clear hneg hbd
    go_enter Tryz.func158, Tryz.ntmps158
    go_wp2_with fail
    refine (HC.out _).mono ?_
    rintro e w1 ⟨rfl, rfl⟩
    go_wp2_with fail
    go_loopw [6, 7, 8] (fun v x i wr => ∃ (q nn : Nat), q ≤ k ∧ i = .int .i64 q ∧ x = .int .i64 nn ∧ nn ≤ 10000000000 ∧ Hid (nn = m / 256 ^ q) ∧ wr.ownsRow (w.heap.size + 1) 3 1 v q ((P.le q m).map fun c => i64v (c.toNat : Int)) ∧ wr.heap[w.heap.size]? = some (.cells #[.int .u8 117, .int .i64 k, .int .i64 k, .slice none 0 0, .slice none 0 0] 121 (0, 0)) ∧ Below w.heap.size w wr) (fun _ _ i _ => k - (intOf i).toNat)
    case atStart => exact ⟨0, m, by omega, rfl, rfl, hm, by simp [Hid], World.ownsRow_nil _ _ _ _, heap_alloc_new w _, (Below.refl _ _).alloc (Nat.le_refl _) _⟩
    case round =>
      obtain ⟨q, nn, hq, rfl, rfl, hnn, HNN, hown, hbx, hbe⟩ := hrel
      obtain ⟨c0, c1, c2, c3, c4⟩ := cells5 hbx
      have hsz := hbe.size
      have hwl := blk_lt hbx
      by_cases hlt : q < k
      · have HLE : Hid ((P.le q m).map (fun c => i64v (c.toNat : Int)) ++ [.int .i64 ((nn : Int) % 256)] = (P.le (q + 1) m).map fun c => i64v (c.toNat : Int)) := by
          unfold Hid
          rw [P.le, List.map_append, ← HNN.out]
          congr 1
          simp [i64v]
        go_wp2_with (first
          | (at_builtin; refine wpList_append_lies _ rfl _ _ 63 rfl (w.heap.size + 1) 3 i1 (.int .i64 0) 1 8 Tryz.underlying63 hi1 hy0 hy1 hy2 rfl (by decide) u6 q ((P.le q m).map fun c => i64v (c.toNat : Int)) rfl (hown.alloc _) ⟨wr.heap.size, 0, none⟩ 1 1 [.int .i64 ((nn : Int) % 256)] rfl rfl (cell_one_new _ _ _) (fun x hx => by simp at hx; subst hx; rfl) (by omega) (by unfold maxLen; omega) (by omega) (by simp; omega) _ rfl ?_; intro g cap3 w3 hown' hgrow hat hlt3
             have hbx3 := grown_blk hown hgrow (Nat.lt_succ_self _) hbx
             have hbe3 := grown_below hbe hown hgrow (Nat.le_succ _)))
        rw [HLE.out] at hown'
        exact ⟨⟨q + 1, nn / 256, by omega, by go_num, by go_num, by omega, by unfold Hid; rw [HNN.out, Nat.div_div_eq_div_mul, Nat.pow_succ], hown', hbx3, hbe3⟩, by simp [intOf]; omega⟩
      · have hqe : q = k := by omega
        have HNN2 : Hid (nn = m / 256 ^ k) := by unfold Hid; rw [← hqe]; exact HNN.out
        have HOW : Hid (wr.ownsRow (w.heap.size + 1) 3 1 u6 k ((P.le k m).map fun c => i64v (c.toNat : Int))) := by
          rw [hqe] at hown; exact hown
        obtain ⟨a, N, cap, rfl⟩ := owns_form hown
        clear hqe hown
        by_cases hz : nn = 0
        · have hzb : ((nn : Int) == 0) = true := by rw [beq_iff_eq]; omega
          have HR : Hid (P.lieLeaf (true, k) s.data.toList = some ((P.le k m).map some)) := by
            unfold Hid; rw [HL.out, if_pos (by rw [← HNN2.out]; exact hz)]
          clear hz
          go_wp2_with fail
          refine (HC.out _).mono ?_
          rintro e w5 ⟨rfl, rfl⟩
          go_wp2_with fail
          go_ret2
          refine LiePost.yes HR.out rfl ?_ hbe
          have := own_base HOW.out (Nat.le_succ _)
          simpa [P.le_length, gapI, Function.comp_def] using this
        · have hzb : ((nn : Int) == 0) = false := by rw [beq_eq_false_iff_ne]; omega
          have HR : Hid (P.lieLeaf (true, k) s.data.toList = none) := by
            unfold Hid; rw [HL.out, if_neg (by rw [← HNN2.out]; exact hz)]
          clear hz
          go_wp2_with fail
          refine (HC.out _).mono ?_
          rintro e w5 ⟨rfl, rfl⟩
          go_wp2_with fail
          go_ret2
          exact LiePost.no HR.out rfl hbe
end Go.Proofs.YtghggcehloiemabGreatDoor
namespace Go.Proofs.YtghggcehloiemabGreatDoor
open Go.RowKit
set_option linter.unusedVariables false
set_option maxRecDepth 16000

theorem hexI_some {s : ByteArray} {i : Nat} (hi : i < s.size) {x : Nat} (h : P.hexv s[i] = some x) : hexAt s i = some x ∧ P.hexI s[i] = x ∧ x ≤ 15 := by
  refine ⟨by simp [hexAt, get_of hi, h], by simp [P.hexI, h], P.hexv_lt h⟩
theorem hexI_none {s : ByteArray} {i : Nat} (hi : i < s.size) (h : P.hexv s[i] = none) : hexAt s i = none ∧ P.hexI s[i] = -1 := by
  refine ⟨by simp [hexAt, get_of hi, h], by simp [P.hexI, h]⟩
theorem rhex_eq (c : UInt8) (w : World) {x : Int} (h : P.hexI c = x) : Calls Tryz.prog 174 #[.int .u8 c.toNat] w fun e w' => e = .returned (.int .i64 x) ∧ w' = w := by
  have := rhex_any c w; rw [h] at this; exact this

set_option maxHeartbeats 2000000 in
theorem lie_bytes (k : Nat) (s : ByteArray) (w : World) (hk : k ≤ 16) (hs : s.size ≤ maxLen) :
    Calls Tryz.prog 158 #[typV (false, k), .string s] w fun e w' => LiePost (P.lieLeaf (false, k) s.data.toList) w e w' := by
  obtain ⟨i1, hi1, hy0, hy1, hy2⟩ := info_parts Tryz.infoInt
  have hlen := tl_len s
  unfold typV
  simp only [P.lsz, Bool.false_eq_true, if_false]
  rw [show ((1 : Nat) : Int) = 1 from rfl]
  by_cases hl : s.size = 2 * k
  · have hnb : ((s.size : Int) != 2 * (k : Int)) = false := by rw [bne_eq_false_iff_eq]; omega
    have HL : Hid (P.lieLeaf (false, k) s.data.toList = (P.rdhex k s.data.toList).map (·.map some)) := by
      unfold Hid P.lieLeaf; simp [hl]
    have HS : Hid (s.size = 2 * k) := hl
    have hs32 : s.size ≤ 32 := by omega
    clear hl hlen
    go_enter Tryz.func158, Tryz.ntmps158
    go_wp2_with fail
    go_loopw [6, 9] (fun v i wr => ∃ (q p : Nat) (xs : List UInt8), q ≤ k ∧ p = 2 * q ∧ i = .int .i64 p ∧ Hid (xs.length = q ∧ P.rdhex k s.data.toList = (P.rdhex (k - q) (s.data.toList.drop p)).map (xs ++ ·)) ∧ wr.ownsRow (w.heap.size + 1) 3 1 v q (xs.map fun c => i64v (c.toNat : Int)) ∧ wr.heap[w.heap.size]? = some (.cells #[.int .u8 98, .int .i64 k, .int .i64 1, .slice none 0 0, .slice none 0 0] 121 (0, 0)) ∧ Below w.heap.size w wr) (fun _ i _ => s.size - (intOf i).toNat)
    case atStart => exact ⟨0, 0, [], by omega, rfl, rfl, ⟨rfl, by simp⟩, World.ownsRow_nil _ _ _ _, heap_alloc_new w _, (Below.refl _ _).alloc (Nat.le_refl _) _⟩
    case round =>
      obtain ⟨q, p, xs, hq, hp, rfl, HX, hown, hbx, hbe⟩ := hrel
      obtain ⟨c0, c1, c2, c3, c4⟩ := cells5 hbx
      have HP : Hid (p = 2 * q) := hp
      have hsz := hbe.size
      have hwl := blk_lt hbx
      by_cases hlt : p < s.size
      · have hlt1 : p + 1 < s.size := by have := HS.out; omega
        have hqk : q + 1 ≤ k := by have := HS.out; omega
        clear hp
        cases hv1 : P.hexv s[p] with
        | none =>
          obtain ⟨e1, e2⟩ := hexI_none hlt hv1
          have HR : Hid (P.lieLeaf (false, k) s.data.toList = none) := by
            unfold Hid; rw [HL.out, HX.out.2, show k - q = (k - (q + 1)) + 1 by omega, rdhex_no (Or.inl e1)]; rfl
          have H1 : Hid (P.hexI s[p] = -1) := e2
          clear hv1 e1 e2
          cases hv2 : P.hexv s[p + 1] with
          | none =>
            have H2 : Hid (P.hexI s[p + 1] = -1) := (hexI_none hlt1 hv2).2
            clear hv2
            go_wp2_with fail
            refine (rhex_eq _ _ H1.out).mono ?_
            rintro e w5 ⟨rfl, rfl⟩
            go_wp2_with fail
            refine (rhex_eq _ _ H2.out).mono ?_
            rintro e w6 ⟨rfl, rfl⟩
            go_wp2_with fail
            go_ret2
            exact LiePost.no HR.out rfl hbe
          | some y =>
            have H2 : Hid (P.hexI s[p + 1] = y) := (hexI_some hlt1 hv2).2.1
            clear hv2
            go_wp2_with fail
            refine (rhex_eq _ _ H1.out).mono ?_
            rintro e w5 ⟨rfl, rfl⟩
            go_wp2_with fail
            refine (rhex_eq _ _ H2.out).mono ?_
            rintro e w6 ⟨rfl, rfl⟩
            go_wp2_with fail
            go_ret2
            exact LiePost.no HR.out rfl hbe
        | some x =>
          obtain ⟨e1, e2, hx15⟩ := hexI_some hlt hv1
          have H1 : Hid (P.hexI s[p] = x) := e2
          have HA : Hid (hexAt s p = some x) := e1
          clear hv1 e1 e2
          cases hv2 : P.hexv s[p + 1] with
          | none =>
            obtain ⟨e1, e2⟩ := hexI_none hlt1 hv2
            have HR : Hid (P.lieLeaf (false, k) s.data.toList = none) := by
              unfold Hid; rw [HL.out, HX.out.2, show k - q = (k - (q + 1)) + 1 by omega, rdhex_no (Or.inr e1)]; rfl
            have H2 : Hid (P.hexI s[p + 1] = -1) := e2
            clear hv2 e1 e2
            go_wp2_with fail
            refine (rhex_eq _ _ H1.out).mono ?_
            rintro e w5 ⟨rfl, rfl⟩
            go_wp2_with fail
            refine (rhex_eq _ _ H2.out).mono ?_
            rintro e w6 ⟨rfl, rfl⟩
            go_wp2_with fail
            go_ret2
            exact LiePost.no HR.out rfl hbe
          | some y =>
            obtain ⟨e1, e2, hy15⟩ := hexI_some hlt1 hv2
            have H2 : Hid (P.hexI s[p + 1] = y) := e2
            have HE : Hid ((xs ++ [UInt8.ofNat (x * 16 + y)]).length = q + 1 ∧ P.rdhex k s.data.toList = (P.rdhex (k - (q + 1)) (s.data.toList.drop (p + 2))).map ((xs ++ [UInt8.ofNat (x * 16 + y)]) ++ ·)) := by
              refine ⟨by simp [HX.out.1], ?_⟩
              rw [HX.out.2, show k - q = (k - (q + 1)) + 1 by omega, rdhex_step HA.out e1]
              cases P.rdhex (k - (q + 1)) (s.data.toList.drop (p + 2)) <;> simp
            have HV : Hid (xs.map (fun c => i64v (c.toNat : Int)) ++ [.int .i64 (16 * (x : Int) + y)] = (xs ++ [UInt8.ofNat (x * 16 + y)]).map fun c => i64v (c.toNat : Int)) := by
              unfold Hid
              rw [List.map_append]
              congr 1
              simp [i64v]
              omega
            clear hv2 e1 e2
            go_wp2_with fail
            refine (rhex_eq _ _ H1.out).mono ?_
            rintro e w5 ⟨rfl, rfl⟩
            go_wp2_with fail
            refine (rhex_eq _ _ H2.out).mono ?_
            rintro e w6 ⟨rfl, rfl⟩
            go_wp2_with (first
              | (at_builtin; refine wpList_append_lies _ rfl _ _ 63 rfl (w.heap.size + 1) 3 i1 (.int .i64 0) 1 8 Tryz.underlying63 hi1 hy0 hy1 hy2 rfl (by decide) u6 q (xs.map fun c => i64v (c.toNat : Int)) rfl (hown.alloc _) ⟨w6.heap.size, 0, none⟩ 1 1 [.int .i64 (16 * (x : Int) + y)] rfl rfl (cell_one_new _ _ _) (fun x hx => by simp at hx; subst hx; rfl) (by omega) (by unfold maxLen; omega) (by omega) (by simp; omega) _ rfl ?_; intro g cap3 w3 hown' hgrow hat hlt3
                 have hbx3 := grown_blk hown hgrow (Nat.lt_succ_self _) hbx
                 have hbe3 := grown_below hbe hown hgrow (Nat.le_succ _)))
            rw [HV.out] at hown'
            exact ⟨⟨q + 1, p + 2, _, by omega, by have := HP.out; omega, by go_num, HE, hown', hbx3, hbe3⟩, by simp [intOf]; omega⟩
      · have hqe : q = k := by have := HS.out; omega
        have HR : Hid (P.lieLeaf (false, k) s.data.toList = some (xs.map some)) := by
          unfold Hid; rw [HL.out, HX.out.2, hqe, Nat.sub_self]; simp [P.rdhex]
        have hxl := HX.out.1
        have HOW : Hid (wr.ownsRow (w.heap.size + 1) 3 1 u6 xs.length (xs.map fun c => i64v (c.toNat : Int))) := by
          rw [hxl]; exact hown
        obtain ⟨a, N, cap, rfl⟩ := owns_form hown
        clear hqe hown hxl hp
        go_wp2_with fail
        go_ret2
        refine LiePost.yes HR.out rfl ?_ hbe
        have := own_base HOW.out (Nat.le_succ _)
        simpa [gapI, Function.comp_def] using this
  · have hnb : ((s.size : Int) != 2 * (k : Int)) = true := by rw [bne_iff_ne]; omega
    have HR : Hid (P.lieLeaf (false, k) s.data.toList = none) := by
      unfold Hid P.lieLeaf; simp [hl]
    clear hl
    go_enter Tryz.func158, Tryz.ntmps158
    go_wp2_with fail
    go_ret2
    exact LiePost.no HR.out rfl ((Below.refl _ _).alloc (Nat.le_refl _) _)
end Go.Proofs.YtghggcehloiemabGreatDoor
namespace Go.Proofs.YtghggcehloiemabGreatDoor
open Go.RowKit
set_option linter.unusedVariables false
set_option maxRecDepth 16000

namespace P
def Sm : (n : Nat) → Ty n → Prop
  | 0, l => 1 ≤ l.2 ∧ l.2 ≤ 16
  | _ + 1, .inl l => 1 ≤ l.2 ∧ l.2 ≤ 16
  | n + 1, .inr ts => (sz (n + 1) (.inr ts)).1 ≤ 32 ∧ ts.length ≤ 8 ∧ ts ≠ [] ∧ ∀ t ∈ ts, Sm n t ∧ 1 ≤ (sz n t).2 ∧ (sz n t).2 ≤ 4

theorem rleaf_sm {l : List UInt8} {x : Bool × Nat} (h : rleaf l = some x) : 1 ≤ x.2 ∧ x.2 ≤ 16 := by
  unfold rleaf at h
  cases l with
  | nil => cases h
  | cons c r =>
    simp only at h
    split at h
    · split at h
      · cases h; simp only; omega
      · cases h
    · split at h
      · split at h
        · cases h; simp only; omega
        · cases h
      · cases h
theorem sm_lf (n : Nat) (l : Bool × Nat) (h : 1 ≤ l.2 ∧ l.2 ≤ 16) : Sm n (lf n l) := by cases n <;> exact h

theorem cutGo_ne : ∀ (r : List UInt8) (d : Int) (cur : List UInt8) (ps : List (List UInt8)), cutGo d cur r = some ps → r ≠ [] → ps ≠ [] := by
  intro r
  induction r with
  | nil => intro d cur ps _ h; exact absurd rfl h
  | cons c r ih =>
    intro d cur ps h _
    rw [cutGo] at h
    split at h
    · cases h
    · split at h
      · split at h
        · cases h; simp
        · cases h
      · rename_i hr
        split at h
        · cases hx : cutGo 0 [] r with
          | none => rw [hx] at h; cases h
          | some qs => rw [hx] at h; simp at h; subst h; simp
        · exact ih _ _ ps h hr
theorem cut_ne {l : List UInt8} {ps : List (List UInt8)} (h : cut l = some ps) : ps ≠ [] := by
  unfold cut at h
  split at h
  · rename_i hc
    refine cutGo_ne _ _ _ _ h (fun e => ?_)
    have := congrArg List.length e
    simp only [List.length_drop, List.length_nil] at this
    omega
  · cases h
theorem allM_length {α β : Type} {f : α → Option β} : ∀ {l : List α} {ys : List β}, allM f l = some ys → ys.length = l.length := by
  intro l
  induction l with
  | nil => intro ys h; simp [allM] at h; subst h; rfl
  | cons a l ih =>
    intro ys h
    rw [allM] at h
    cases ha : f a with
    | none => rw [ha] at h; cases h
    | some b =>
      rw [ha] at h
      cases hl : allM f l with
      | none => rw [hl] at h; cases h
      | some bs => rw [hl] at h; simp at h; subst h; simp [ih hl]

theorem rp_sm : ∀ (n : Nat) (l : List UInt8) (t : Ty n), rp n l = some t → Sm n t := by
  intro n
  induction n with
  | zero =>
    intro l t h
    rw [rp] at h
    split at h
    · cases h
    · cases hx : rleaf l with
      | none => rw [hx] at h; cases h
      | some x => rw [hx] at h; simp at h; subst h; exact sm_lf 0 x (rleaf_sm hx)
  | succ n ih =>
    intro l t h
    have hg := rp_good _ _ _ h
    rw [rp] at h
    split at h
    · split at h
      · cases h
      · rename_i ps hcut
        split at h
        · cases h
        · rename_i h8
          split at h
          · cases h
          · rename_i ts hts
            split at h
            · rename_i hle
              cases h
              have hlen := allM_length hts
              refine ⟨hle, by omega, ?_, ?_⟩
              · intro e
                subst e
                have := cut_ne hcut
                apply this
                exact List.eq_nil_of_length_eq_zero (by simpa using hlen.symm)
              · intro t ht
                obtain ⟨y, _, hy⟩ := allM_mem hts t ht
                have h1 := rp_good _ _ _ hy
                exact ⟨ih _ _ hy, h1.1, h1.2.1⟩
            · cases h
    · cases hx : rleaf l with
      | none => rw [hx] at h; cases h
      | some x => rw [hx] at h; simp at h; subst h; exact sm_lf _ x (rleaf_sm hx)

theorem sm_size : ∀ (n : Nat) (t : Ty n), Sm n t → 1 ≤ (sz n t).1 ∧ (sz n t).1 ≤ 32 := by
  intro n
  induction n with
  | zero => intro t h; have h' : 1 ≤ t.2 ∧ t.2 ≤ 16 := h; exact ⟨h'.1, by have := h'.2; show t.2 ≤ 32; omega⟩
  | succ n ih =>
    intro t h
    cases t with
    | inl l => have h' : 1 ≤ l.2 ∧ l.2 ≤ 16 := h; exact ⟨h'.1, by have := h'.2; show l.2 ≤ 32; omega⟩
    | inr ts =>
      obtain ⟨h1, h2, h3, h4⟩ := h
      refine ⟨?_, h1⟩
      have hst : ∀ x ∈ ts.map (sz n), 1 ≤ x.2 ∧ x.2 ≤ 4 := by
        intro x hx
        obtain ⟨t, ht, rfl⟩ := List.mem_map.1 hx
        exact (h4 t ht).2
      obtain ⟨g1, _, _⟩ := fold_step hst (0, 1) (by simp) (by simp)
      have hup := le_up (fold (ts.map (sz n))).1 (fold (ts.map (sz n))).2 g1
      cases ts with
      | nil => exact absurd rfl h3
      | cons t ts =>
        have hge := fold_ge hst (0, 1) (by simp) (by simp) (sz n t) (by simp)
        have := (ih t (h4 t (by simp)).1).1
        have e : (fold ((t :: ts).map (sz n))) = ((t :: ts).map (sz n)).foldl lay1 (0, 1) := rfl
        simp only [sz, closed]
        rw [e] at hup ⊢
        omega
theorem places_bd : ∀ (xs : List (Nat × Nat)) (a : Nat × Nat), (∀ x ∈ xs, 1 ≤ x.2 ∧ x.2 ≤ 4) → 1 ≤ a.2 → a.2 ≤ 4 → ∀ p ∈ places a xs, p ≤ (xs.foldl lay1 a).1 := by
  intro xs
  induction xs with
  | nil => intro a _ _ _ p hp; simp [places] at hp
  | cons x xs ih =>
    intro a h h1 h2 p hp
    have hx := h x (by simp)
    have hl := lay1_le (a := a) hx.1 hx.2
    have hm : 1 ≤ (lay1 a x).2 ∧ (lay1 a x).2 ≤ 4 := by simp only [lay1]; omega
    have hm2 := fold_step (l := xs) (fun z hz => h z (by simp [hz])) (lay1 a x) hm.1 hm.2
    rw [List.foldl_cons]
    simp only [places, List.mem_cons] at hp
    rcases hp with rfl | hp
    · omega
    · exact ih _ (fun z hz => h z (by simp [hz])) hm.1 hm.2 p hp

def Nm : (n : Nat) → Ty n → Prop
  | 0, l => l.1 = true → l.2 ≤ 4
  | _ + 1, .inl l => l.1 = true → l.2 ≤ 4
  | n + 1, .inr ts => ∀ t ∈ ts, Nm n t
theorem rleaf_nm {l : List UInt8} {x : Bool × Nat} (h : rleaf l = some x) : x.1 = true → x.2 ≤ 4 := by
  unfold rleaf at h
  cases l with
  | nil => cases h
  | cons c r =>
    simp only at h
    split at h
    · split at h
      · cases h; intro _; simp only; omega
      · cases h
    · split at h
      · split at h
        · cases h; intro h; cases h
        · cases h
      · cases h
theorem nm_lf (n : Nat) (l : Bool × Nat) (h : l.1 = true → l.2 ≤ 4) : Nm n (lf n l) := by cases n <;> exact h
theorem rp_nm : ∀ (n : Nat) (l : List UInt8) (t : Ty n), rp n l = some t → Nm n t := by
  intro n
  induction n with
  | zero =>
    intro l t h
    rw [rp] at h
    split at h
    · cases h
    · cases hx : rleaf l with
      | none => rw [hx] at h; cases h
      | some x => rw [hx] at h; simp at h; subst h; exact nm_lf 0 x (rleaf_nm hx)
  | succ n ih =>
    intro l t h
    rw [rp] at h
    split at h
    · split at h
      · cases h
      · split at h
        · cases h
        · split at h
          · cases h
          · rename_i ts hts
            split at h
            · cases h
              intro t ht
              obtain ⟨y, _, hy⟩ := allM_mem hts t ht
              exact ih _ _ hy
            · cases h
    · cases hx : rleaf l with
      | none => rw [hx] at h; cases h
      | some x => rw [hx] at h; simp at h; subst h; exact nm_lf _ x (rleaf_nm hx)

end P

theorem int_cell {w : World} {base g N cap i : Nat} {xs : List Value} {x : Value} (h : w.ownsRow base 3 1 (.slice (some ⟨g, 0, none⟩) N cap) xs.length xs) (hx : xs[i]? = some x) : w.cell? ⟨g, i, none⟩ = some x ∧ N ≤ cap := by
  obtain ⟨h1, h2⟩ := h
  rcases h2 with ⟨h2, _⟩ | ⟨g', cap', cur, hv, hb, hg, hn, hm, hsz, htk⟩
  · cases h2
  · cases hv
    refine ⟨?_, hn⟩
    rw [cell_of_row w g _ _ _ _ hg]
    have hl : i < xs.length := (List.getElem?_eq_some_iff.1 hx).1
    rw [← htk, List.getElem?_take_of_lt (by omega)] at hx
    simpa using hx
theorem flat_get : ∀ (fs : List (Array Value)) (i k : Nat) (c : Array Value), (∀ x ∈ fs, x.size = 5) → fs[i]? = some c → k < 5 → (fs.flatMap Array.toList)[i * 5 + k]? = c.toList[k]? := by
  intro fs
  induction fs with
  | nil => intro i k c _ h; simp at h
  | cons y fs ih =>
    intro i k c hall h hk
    have hl : y.toList.length = 5 := by simpa using hall y (by simp)
    rw [List.flatMap_cons]
    cases i with
    | zero =>
      simp at h; subst h
      rw [List.getElem?_append_left (by omega)]; simp
    | succ i =>
      simp at h
      rw [List.getElem?_append_right (by omega), hl, show (i + 1) * 5 + k - 5 = i * 5 + k by omega]
      exact ih i k c (fun x hx => hall x (by simp [hx])) h hk
theorem typ_cell {w : World} {base g N cap i n : Nat} {fs : List (Array Value)} {a b c d e : Value} (h : w.ownsRow base 121 5 (.slice (some ⟨g, 0, none⟩) N cap) n (fs.flatMap Array.toList)) (hall : ∀ x ∈ fs, x.size = 5) (hn : fs.length = n) (hx : fs[i]? = some #[a, b, c, d, e]) :
    w.cell? ⟨g, i * 5, none⟩ = some a ∧ w.cell? ⟨g, i * 5 + 1, none⟩ = some b ∧ w.cell? ⟨g, i * 5 + 2, none⟩ = some c ∧ w.cell? ⟨g, i * 5 + 3, none⟩ = some d ∧ w.cell? ⟨g, i * 5 + 4, none⟩ = some e ∧ N ≤ cap := by
  obtain ⟨h1, h2⟩ := h
  rcases h2 with ⟨h2, _⟩ | ⟨g', cap', cur, hv, hb, hg, hnn, hm, hsz, htk⟩
  · cases h2
  · cases hv
    have hk : i < fs.length := (List.getElem?_eq_some_iff.1 hx).1
    have key : ∀ j, j < 5 → w.cell? ⟨g, i * 5 + j, none⟩ = [a, b, c, d, e][j]? := by
      intro j hj
      rw [cell_of_row w g _ _ _ _ hg]
      have hget := flat_get fs i j _ hall hx hj
      rw [← htk, List.getElem?_take_of_lt (by omega)] at hget
      simpa using hget
    exact ⟨key 0 (by omega), key 1 (by omega), key 2 (by omega), key 3 (by omega), key 4 (by omega), hnn⟩

end Go.Proofs.YtghggcehloiemabGreatDoor
namespace Go.Proofs.YtghggcehloiemabGreatDoor.P
set_option linter.unusedVariables false

theorem padTo_length (L : List (Option UInt8)) (n : Nat) (h : L.length ≤ n) : (padTo L n).length = n := by
  simp [padTo]; omega
theorem lieLeaf_len {l : Bool × Nat} {s : List UInt8} {L : List (Option UInt8)} (h : lieLeaf l s = some L) : L.length = l.2 := by
  unfold lieLeaf at h
  split at h
  · split at h
    · cases h; simp [le_length]
    · cases h
  · split at h
    · cases hr : rdhex l.2 s with
      | none => rw [hr] at h; cases h
      | some xs => rw [hr] at h; simp at h; subst h; simp [rdhex_length _ _ _ hr]
    · cases h

theorem lieF_len : ∀ (xs : List (Nat × Nat)) (ys : List (Option (List (Option UInt8)))) (a : Nat × Nat) (L L' : List (Option UInt8)), ys.length = xs.length → (∀ (i : Nat) y z, ys[i]? = some (some y) → xs[i]? = some z → y.length = z.1) → (∀ x ∈ xs, 1 ≤ x.2 ∧ x.2 ≤ 4) → L.length = a.1 →
    lieF (List.zip ys (places a xs)) L = some L' → L'.length = (xs.foldl lay1 a).1 := by
  intro xs
  induction xs with
  | nil => intro ys a L L' hl _ _ hL h; simp [places, lieF] at h; subst h; simpa using hL
  | cons x xs ih =>
    intro ys a L L' hl hy hx hL h
    cases ys with
    | nil => simp at hl
    | cons y ys =>
      simp only [places, List.zip_cons_cons, lieF] at h
      cases y with
      | none => cases h
      | some y =>
        simp only at h
        have h1 := hx x (by simp)
        have h2 := lay1_le (a := a) h1.1 h1.2
        have hup := le_up a.1 x.2 h1.1
        have hyl : y.length = x.1 := hy 0 y x rfl rfl
        rw [List.foldl_cons]
        refine ih ys (lay1 a x) _ L' (by simpa using hl) (fun i y z h3 h4 => hy (i + 1) y z (by simpa using h3) (by simpa using h4)) (fun z hz => hx z (by simp [hz])) ?_ h
        rw [List.length_append, padTo_length _ _ (by omega), hyl]
        exact h2.2.2

theorem lie_len : ∀ (n : Nat) (t : Ty n) (s : List UInt8) (L : List (Option UInt8)), Sm n t → lieP n t s = some L → L.length = (sz n t).1 := by
  intro n
  induction n with
  | zero => intro t s L _ h; exact lieLeaf_len h
  | succ n ih =>
    intro t s L hs h
    cases t with
    | inl l => exact lieLeaf_len h
    | inr ts =>
      simp only [lieP] at h
      split at h
      · cases h
      · rename_i ps hc
        split at h
        · rename_i hl
          cases hf : lieF (List.zip (List.zipWith (lieP n) ts ps) (places (0, 1) (ts.map (sz n)))) [] with
          | none => rw [hf] at h; cases h
          | some L0 =>
            rw [hf] at h
            simp at h
            subst h
            obtain ⟨h1, h2, h3, h4⟩ := hs
            have hst : ∀ x ∈ ts.map (sz n), 1 ≤ x.2 ∧ x.2 ≤ 4 := by
              intro x hx
              obtain ⟨t, ht, rfl⟩ := List.mem_map.1 hx
              exact (h4 t ht).2
            have hlen := lieF_len (ts.map (sz n)) _ (0, 1) [] L0 (by simp; omega) (by
              intro i y z hy hz
              rw [List.getElem?_map] at hz
              cases ht : ts[i]? with
              | none => rw [ht] at hz; cases hz
              | some t =>
                rw [ht] at hz
                simp at hz
                subst hz
                rw [List.getElem?_zipWith, ht] at hy
                cases hp : ps[i]? with
                | none => rw [hp] at hy; cases hy
                | some p =>
                  rw [hp] at hy
                  simp at hy
                  exact ih t p y (h4 t (List.mem_of_getElem? ht)).1 hy) hst rfl hf
            obtain ⟨g1, _, _⟩ := fold_step hst (0, 1) (by simp) (by simp)
            have hup := le_up (fold (ts.map (sz n))).1 (fold (ts.map (sz n))).2 g1
            have e : (fold (ts.map (sz n))) = (ts.map (sz n)).foldl lay1 (0, 1) := rfl
            apply padTo_length
            simp only [sz, closed]
            rw [hlen]
            rw [e] at hup ⊢
            exact hup
        · cases h

end Go.Proofs.YtghggcehloiemabGreatDoor.P
namespace Go.Proofs.YtghggcehloiemabGreatDoor
open Go.RowKit
set_option linter.unusedVariables false

namespace P
def lieS (n : Nat) (ts : List (Ty n)) (ps : List (List UInt8)) : Option (List (Option UInt8)) := if ps.length = ts.length then (lieF (List.zip (List.zipWith (lieP n) ts ps) (places (0, 1) (ts.map (sz n)))) []).map (fun L => padTo L (sz (n + 1) (.inr ts)).1) else none
theorem lieP_struct {n : Nat} (ts : List (Ty n)) (s : List UInt8) : lieP (n + 1) (.inr ts) s = (cut s).bind (lieS n ts) := by
  simp only [lieP]; cases cut s <;> rfl
end P

/-- 'lie' for a type that lies in w. -/
def LIE (n : Nat) : Prop := ∀ (t : P.Ty n) (v : Value) (S : Nat → Prop) (s : ByteArray) (w : World), P.Sm n t → TypAt w n t v S → (∀ g, S g → g < w.heap.size) → s.size ≤ 1099511627776 →
  Calls Tryz.prog 158 #[v, .string s] w fun e w' => LiePost (P.lieP n t s.data.toList) w e w'

def slen (v : Value) : Nat := match v with
  | .slice _ n _ => n
  | _ => 0
theorem own_at {w : World} {base g n N cap : Nat} {e : TypeId} {size : Nat} {xs : List Value} (h : w.ownsRow base e size (.slice (some ⟨g, 0, none⟩) N cap) n xs) : w.ownsRow g e size (.slice (some ⟨g, 0, none⟩) N cap) n xs := by
  obtain ⟨h1, h2⟩ := h
  refine ⟨h1, ?_⟩
  rcases h2 with ⟨h2, _⟩ | ⟨g', cap', cur, hv, hb', hr⟩
  · cases h2
  · cases hv; exact .inr ⟨g, cap, cur, rfl, Nat.le_refl _, hr⟩
theorem news_own {w : World} {base g N cap : Nat} {xs : List (Option UInt8)} (h : w.ownsRow base 3 1 (.slice (some ⟨g, 0, none⟩) N cap) xs.length (xs.map fun x => i64v (gapI x))) : ∀ k u, (xs.map fun x => i64v (gapI x))[k]? = some u → w.cell? ((⟨g, 0, none⟩ : Addr).add k) = some u := by
  intro k u hu
  have hadd : (⟨g, 0, none⟩ : Addr).add k = ⟨g, k, none⟩ := by unfold Addr.add; split <;> simp_all
  rw [hadd]
  exact (int_cell (xs := xs.map fun x => i64v (gapI x)) (by rw [List.length_map]; exact h) hu).1
theorem lie_shape {o : Option (List (Option UInt8))} {w w' : World} {e : Ending} (h : LiePost o w e w') : ∃ a N c z, e = .returned (.tuple #[.slice a N c, .bool z]) ∧ ((z = true ∧ ∃ y, o = some y ∧ w'.ownsRow w.heap.size 3 1 (.slice a N c) y.length (y.map fun x => i64v (gapI x))) ∨ (z = false ∧ o = none)) := by
  obtain ⟨h1, _⟩ := h
  cases o with
  | none => obtain ⟨a, N, c, he⟩ := h1; exact ⟨a, N, c, false, he, Or.inr ⟨rfl, rfl⟩⟩
  | some L =>
    obtain ⟨v, he, hown⟩ := h1
    obtain ⟨a, N, c, rfl⟩ := owns_form hown
    exact ⟨a, N, c, true, he, Or.inl ⟨rfl, L, rfl, hown⟩⟩
theorem keep7 {wr w3 : World} {b0 b1 b2 o0 o1 o2 o3 o4 o5 o6 : Nat} {v0 v1 v2 v3 v4 v5 v6 : Value} (h : Below wr.drew.heap.size wr.drew w3) (h0 : wr.cell? ⟨b0, o0, none⟩ = some v0) (h1 : wr.cell? ⟨b1, o1, none⟩ = some v1) (h2 : wr.cell? ⟨b1, o2, none⟩ = some v2) (h3 : wr.cell? ⟨b1, o3, none⟩ = some v3) (h4 : wr.cell? ⟨b1, o4, none⟩ = some v4) (h5 : wr.cell? ⟨b1, o5, none⟩ = some v5) (h6 : wr.cell? ⟨b2, o6, none⟩ = some v6) :
    w3.cell? ⟨b0, o0, none⟩ = some v0 ∧ w3.cell? ⟨b1, o1, none⟩ = some v1 ∧ w3.cell? ⟨b1, o2, none⟩ = some v2 ∧ w3.cell? ⟨b1, o3, none⟩ = some v3 ∧ w3.cell? ⟨b1, o4, none⟩ = some v4 ∧ w3.cell? ⟨b1, o5, none⟩ = some v5 ∧ w3.cell? ⟨b2, o6, none⟩ = some v6 := by
  have key : ∀ a v, wr.cell? a = some v → w3.cell? a = some v := fun a v hv => by
    have hl := World.block_lt_of_cell? wr a hv
    exact (h.cell (p := a) hl).trans hv
  exact ⟨key _ _ h0, key _ _ h1, key _ _ h2, key _ _ h3, key _ _ h4, key _ _ h5, key _ _ h6⟩

set_option maxRecDepth 100000 in
set_option maxHeartbeats 4000000 in
theorem lie_struct {n : Nat} (hIH : LIE n) (ts : List (P.Ty n)) (v : Value) (S : Nat → Prop) (s : ByteArray) (w : World) (hsm : P.Sm (n + 1) (.inr ts)) (hT : TypAt w (n + 1) (.inr ts) v S) (hS : ∀ g, S g → g < w.heap.size) (hs : s.size ≤ 1099511627776) :
    Calls Tryz.prog 158 #[v, .string s] w fun e w' => LiePost (P.lieP (n + 1) (.inr ts) s.data.toList) w e w' := by
  obtain ⟨i1, hi1, hy0, hy1, hy2⟩ := info_parts Tryz.infoInt
  have hsize := P.sm_size _ _ hsm
  obtain ⟨hz32, ht8, htne, hkids⟩ := hsm
  obtain ⟨vF, vA, fs, rfl, hF, hA, hfl, hfk⟩ := hT
  obtain ⟨Z, hZ⟩ : ∃ Z, (P.sz (n + 1) (.inr ts)).1 = Z := ⟨_, rfl⟩
  obtain ⟨Z2, hZ2⟩ : ∃ Z2, (P.sz (n + 1) (.inr ts)).2 = Z2 := ⟨_, rfl⟩
  have HL : Hid (P.lieP (n + 1) (.inr ts) s.data.toList = (P.cut s.data.toList).bind (P.lieS n ts)) := P.lieP_struct ts _
  have HZ : Hid ((P.sz (n + 1) (.inr ts)).1 = Z) := hZ
  rw [hZ] at hsize hz32
  rw [hZ, hZ2]
  have hpos : 0 < ts.length := List.length_pos_iff.2 htne
  obtain ⟨gF, capF, hvF, _, hgF⟩ := hF.1.form hpos
  obtain ⟨gA, capA, hvA, _, hgA⟩ := hA.1.form hpos
  obtain ⟨NT, hNT⟩ : ∃ NT, NT = ts.length := ⟨_, rfl⟩
  rw [← hNT] at hvF hvA
  subst hvF hvA
  have HNT : Hid (NT = ts.length) := hNT
  have hNT8 : NT ≤ 8 := by omega
  clear hZ hZ2 hpos hNT
  go_enter Tryz.func158, Tryz.ntmps158
  go_wp2_with fail
  refine (cut_any s _ hs).mono ?_
  rintro e w2 ⟨hpost, hbe⟩
  have hbe' : Below w.heap.size w w2 := ((Below.refl _ _).alloc (Nat.le_refl _) _).trans (hbe.mono (by simp))
  have hbx : w2.heap[w.heap.size]? = some (.cells #[.int .u8 123, .int .i64 Z, .int .i64 Z2, .slice (some ⟨gF, 0, none⟩) NT capF, .slice (some ⟨gA, 0, none⟩) NT capA] 121 (0, 0)) := by
    rw [hbe.block _ (by simp)]; exact heap_alloc_new _ _
  have hw2 := blk_lt hbx
  obtain ⟨c0, c1, c2, c3, c4⟩ := cells5 hbx
  cases hcut : P.cut s.data.toList with
  | none =>
    rw [hcut] at hpost
    simp only at hpost
    subst hpost
    have HR : Hid (P.lieP (n + 1) (.inr ts) s.data.toList = none) := by unfold Hid; rw [HL.out, hcut]; rfl
    clear hcut
    go_wp2_with fail
    go_ret2
    exact LiePost.no HR.out rfl hbe'
  | some ps =>
    rw [hcut] at hpost
    obtain ⟨ss, vS, rfl, hss, hown⟩ := hpost
    have hown' : w2.ownsRow (w.heap.size + 1) 9 1 vS ss.length (ss.map Value.string) := by simpa [Strs] using hown
    obtain ⟨aS, N, capS, rfl⟩ := owns_form hown'
    have hN : N = ss.length := by
      rcases hown'.2 with ⟨h, h'⟩ | ⟨g, cap', cur, h, _⟩
      · cases h; omega
      · cases h; rfl
    have HN : Hid (N = ss.length) := hN
    have hlen : ps.length = ss.length := by rw [← hss]; simp
    have hsmall : ∀ x ∈ ss, x.size ≤ 1099511627776 := by
      intro x hx
      have := P.cut_len hcut x.data.toList (by rw [← hss]; exact List.mem_map_of_mem hx)
      have h1 := tl_len s
      have h2 := tl_len x
      omega
    have HSM : Hid (∀ x ∈ ss, x.size ≤ 1099511627776) := hsmall
    clear hsmall hown
    by_cases hne : N = NT
    · have HR : Hid (P.lieP (n + 1) (.inr ts) s.data.toList = (P.lieF (List.zip (List.zipWith (P.lieP n) ts ps) (P.places (0, 1) (ts.map (P.sz n)))) []).map (fun L => P.padTo L Z)) := by
        unfold Hid; rw [HL.out, hcut, Option.bind_some, P.lieS, if_pos (by have := HNT.out; omega), HZ.out]
      have hneb : ((N : Int) != (NT : Int)) = false := by rw [bne_eq_false_iff_eq]; omega
      have HNE : Hid (N = NT) := hne
      have hN8 : N ≤ 8 := by omega
      have HPS : Hid (ss.map (fun x => x.data.toList) = ps) := hss
      have HOW : Hid (w2.ownsRow (w.heap.size + 1) 9 1 (.slice aS N capS) ss.length (ss.map Value.string)) := hown'
      clear hcut hne hN hlen hss hown' HL
      have HIT : Hid (∀ (q : Nat) (t : P.Ty n) (x : ByteArray), ts[q]? = some t → ss[q]? = some x → ∃ pl, (P.places (0, 1) (ts.map (P.sz n)))[q]? = some pl ∧ pl ≤ 32 ∧ (List.zip (List.zipWith (P.lieP n) ts ps) (P.places (0, 1) (ts.map (P.sz n))))[q]? = some (P.lieP n t x.data.toList, pl)) := by
        intro q t x h1 h2
        have hst : ∀ x ∈ ts.map (P.sz n), 1 ≤ x.2 ∧ x.2 ≤ 4 := by
          intro x hx
          obtain ⟨t, ht, rfl⟩ := List.mem_map.1 hx
          exact (hkids t ht).2
        have hq : q < (P.places (0, 1) (ts.map (P.sz n))).length := by
          rw [P.places_length]; simpa using (List.getElem?_eq_some_iff.1 h1).1
        refine ⟨_, List.getElem?_eq_getElem hq, ?_, ?_⟩
        · have h3 := P.places_bd (ts.map (P.sz n)) (0, 1) hst (by simp) (by simp) _ (List.getElem_mem hq)
          obtain ⟨g1, _, _⟩ := P.fold_step hst (0, 1) (by simp) (by simp)
          have hup := P.le_up (P.fold (ts.map (P.sz n))).1 (P.fold (ts.map (P.sz n))).2 g1
          have hz := HZ.out
          simp only [P.sz, P.closed] at hz
          rw [hz] at hup
          exact Nat.le_trans h3 (Nat.le_trans hup hz32)
        · rw [List.getElem?_zip_eq_some]
          refine ⟨?_, List.getElem?_eq_getElem hq⟩
          rw [List.getElem?_zipWith, h1, ← HPS.out, List.getElem?_map, h2]; rfl
      have hall5 : ∀ x ∈ fs, x.size = 5 := by
        intro x hx
        obtain ⟨i, hi, he⟩ := List.getElem_of_mem hx
        have hi2 : i < ts.length := by omega
        exact (hfk i ts[i] x (List.getElem?_eq_getElem hi2) (by rw [List.getElem?_eq_getElem hi, he])).1
      have HALL : Hid (∀ x ∈ fs, x.size = 5) := hall5
      have HFR : Hid (w.ownsRow 0 121 5 (.slice (some ⟨gF, 0, none⟩) NT capF) ts.length (fs.flatMap Array.toList)) := hF.1
      have HAR : Hid (w.ownsRow 0 3 1 (.slice (some ⟨gA, 0, none⟩) NT capA) ts.length ((P.places (0, 1) (ts.map (P.sz n))).map fun x : Nat => Value.int .i64 (x : Int))) := hA.1
      have HFK : Hid (∀ (i : Nat) (t : P.Ty n) (c : Array Value), ts[i]? = some t → fs[i]? = some c → c.size = 5 ∧ TypAt w n t (.agg c) S) := hfk
      have HKD : Hid (∀ t ∈ ts, P.Sm n t) := fun t ht => (hkids t ht).1
      have HFL : Hid (fs.length = ts.length) := hfl
      clear hall5 hF hA hfk hkids hfl htne
      go_wp2_with fail
      go_loopw [6, 14] (fun l i wr => ∃ (q : Nat) (L : List (Option UInt8)), q ≤ N ∧ i = .int .i64 q ∧ Hid (P.lieF (List.zip (List.zipWith (P.lieP n) ts ps) (P.places (0, 1) (ts.map (P.sz n)))) [] = P.lieF ((List.zip (List.zipWith (P.lieP n) ts ps) (P.places (0, 1) (ts.map (P.sz n)))).drop q) L) ∧ L.length ≤ 64 * q ∧ wr.ownsRow w2.heap.size 3 1 l L.length (L.map fun x => i64v (gapI x)) ∧ Below w2.heap.size w2 wr) (fun _ i _ => N - (intOf i).toNat)
      case atStart => exact ⟨0, [], by omega, rfl, rfl, by simp, World.ownsRow_nil _ _ _ _, Below.refl _ _⟩
      case round =>
        obtain ⟨q, L, hq, rfl, HI, hLl, hown, hb2⟩ := hrel
        have hb2s := hb2.size
        have hbw : Below w.heap.size w wr := hbe'.trans (hb2.mono (by omega))
        have hbxr : wr.heap[w.heap.size]? = some (.cells #[.int .u8 123, .int .i64 Z, .int .i64 Z2, .slice (some ⟨gF, 0, none⟩) NT capF, .slice (some ⟨gA, 0, none⟩) NT capA] 121 (0, 0)) := by rw [hb2.block _ hw2]; exact hbx
        clear c0 c1 c2 c3 c4
        obtain ⟨c0, c1, c2, c3, c4⟩ := cells5 hbxr
        by_cases hlt : q < N
        · obtain ⟨t, ht⟩ : ∃ t, ts[q]? = some t := ⟨_, List.getElem?_eq_getElem (by have := HNT.out; have := HNE.out; omega)⟩
          obtain ⟨x, hx⟩ : ∃ x, ss[q]? = some x := ⟨_, List.getElem?_eq_getElem (by have := HN.out; omega)⟩
          obtain ⟨c, hc⟩ : ∃ c, fs[q]? = some c := ⟨_, List.getElem?_eq_getElem (by have := HNT.out; have := HNE.out; have := HFL.out; omega)⟩
          obtain ⟨pl, hpl, hpl32, hit⟩ := HIT.out q t x ht hx
          obtain ⟨_, hTc⟩ := HFK.out q t c ht hc
          have hTr : TypAt wr n t (.agg c) S := hTc.of (fun g hg => hbw.block g (hS g hg)) (fun g hg => hg)
          obtain ⟨a0, x', n1, k1, y, m1, j1, hvv⟩ := hTc.is
          have hcc : c = #[.int .u8 a0, .int .i64 (P.sz n t).1, .int .i64 (P.sz n t).2, .slice x' n1 k1, .slice y m1 j1] := by injection hvv
          obtain ⟨f1, hf1⟩ : ∃ f1, (P.sz n t).1 = f1 := ⟨_, rfl⟩
          obtain ⟨f2, hf2⟩ : ∃ f2, (P.sz n t).2 = f2 := ⟨_, rfl⟩
          rw [hf1, hf2] at hcc
          subst hcc
          obtain ⟨d0, d1, d2, d3, d4, hcF⟩ := typ_cell HFR.out HALL.out HFL.out hc
          rw [← hbw.cell (p := ⟨gF, q * 5, none⟩) hgF] at d0
          rw [← hbw.cell (p := ⟨gF, q * 5 + 1, none⟩) hgF] at d1
          rw [← hbw.cell (p := ⟨gF, q * 5 + 2, none⟩) hgF] at d2
          rw [← hbw.cell (p := ⟨gF, q * 5 + 3, none⟩) hgF] at d3
          rw [← hbw.cell (p := ⟨gF, q * 5 + 4, none⟩) hgF] at d4
          have hAl : ((P.places (0, 1) (ts.map (P.sz n))).map fun x : Nat => Value.int .i64 (x : Int)).length = ts.length := by rw [List.length_map, P.places_length, List.length_map]
          obtain ⟨p0, hcA⟩ := int_cell (i := q) (x := .int .i64 pl) (by rw [hAl]; exact HAR.out) (by rw [List.getElem?_map, hpl]; rfl)
          rw [← hbw.cell (p := ⟨gA, q, none⟩) hgA] at p0
          obtain ⟨gS, capS', hvS, _, hgS⟩ := HOW.out.form (by have := HN.out; omega)
          have haS : aS = some ⟨gS, 0, none⟩ := by injection hvS
          subst haS
          clear hvS hAl
          have s0 := (str_cell HOW.out hx).1
          have hcS := (str_cell HOW.out hx).2.2
          rw [← hb2.cell (p := ⟨gS, q, none⟩) hgS] at s0
          have HTX : Hid (ts[q]? = some t) := ht
          have HITQ : Hid ((List.zip (List.zipWith (P.lieP n) ts ps) (P.places (0, 1) (ts.map (P.sz n))))[q]? = some (P.lieP n t x.data.toList, pl)) := hit
          have hxs : x.size ≤ 1099511627776 := HSM.out x (List.mem_of_getElem? hx)
          have HSMt : Hid (P.Sm n t) := HKD.out t (List.mem_of_getElem? ht)
          have HF1 : Hid ((P.sz n t).1 = f1) := hf1
          have hqF : (q : Int) < (NT : Int) := by have := HNE.out; omega
          have hqS : (q : Int) < (N : Int) := by omega
          have h0q : (0 : Int) ≤ (q : Int) := by omega
          have hcont : ∀ wx, wx.heap = wr.heap → Calls Tryz.prog 158 #[.agg #[.int .u8 a0, .int .i64 f1, .int .i64 f2, .slice x' n1 k1, .slice y m1 j1], .string x] wx fun e w' => LiePost (P.lieP n t x.data.toList) wx e w' := by
            intro wx hwx
            refine hIH t _ S x wx HSMt.out (hTr.of (fun g hg => by rw [hwx]) (fun g hg => hg)) (fun g hg => ?_) hxs
            rw [hwx]; have := hS g hg; omega
          have HCT : Hid _ := hcont
          clear hcont ht hx hc hpl hit hTr hTc hvv hf1 hf2
          go_wp2_with fail
          go_region_held3 (fun w' => w'.cell? ⟨w.heap.size, 3, none⟩ = some (.slice (some ⟨gF, 0, none⟩) NT capF) ∧ w'.cell? ⟨gF, q * 5, none⟩ = some (.int .u8 a0) ∧ w'.cell? ⟨gF, q * 5 + 1, none⟩ = some (.int .i64 f1) ∧ w'.cell? ⟨gF, q * 5 + 2, none⟩ = some (.int .i64 f2) ∧ w'.cell? ⟨gF, q * 5 + 3, none⟩ = some (.slice x' n1 k1) ∧ w'.cell? ⟨gF, q * 5 + 4, none⟩ = some (.slice y m1 j1) ∧ w'.cell? ⟨gS, q, none⟩ = some (.string x)) (first | (simp [go_sem, c3, d0, d1, d2, d3, d4, s0]; done) | (exact kk)) (first | (go_at_call 158; refine (HCT.out wr.drew rfl).mono ?_; rintro e w3 hp3; obtain ⟨af, Nf, cf, zf, rfl, hcase⟩ := lie_shape hp3; have kk := keep7 hp3.2 c3 d0 d1 d2 d3 d4 s0))
          have hbe3 : Below wr.heap.size wr w3 := ⟨hp3.2.os, hp3.2.tape, hp3.2.output, hp3.2.size, hp3.2.block⟩
          have hwr3 := hbe3.size
          clear hp3
          rcases hcase with ⟨rfl, y, hy, hownf⟩ | ⟨rfl, hy⟩
          · have hyl := P.lie_len n t _ y HSMt.out hy
            rw [HF1.out] at hyl
            have hf := P.sm_size n t HSMt.out
            rw [HF1.out] at hf
            have HYL : Hid (y.length = f1) := hyl
            have HN2 : Hid (P.lieF (List.zip (List.zipWith (P.lieP n) ts ps) (P.places (0, 1) (ts.map (P.sz n)))) [] = P.lieF ((List.zip (List.zipWith (P.lieP n) ts ps) (P.places (0, 1) (ts.map (P.sz n)))).drop (q + 1)) (P.padTo L pl ++ y)) := by
              unfold Hid; rw [HI.out, P.drop_at' HITQ.out, hy]; rfl
            obtain ⟨gf, capf, hvf, hgf0, hgf⟩ := hownf.form (by omega)
            have haf : af = some ⟨gf, 0, none⟩ := by injection hvf
            have hNf : Nf = y.length := by injection hvf
            subst haf
            rw [hNf]
            have HOF : Hid (w3.ownsRow wr.heap.size 3 1 (.slice (some ⟨gf, 0, none⟩) y.length cf) y.length (y.map fun x => i64v (gapI x))) := by rw [hNf] at hownf; exact hownf
            clear hvf hNf hownf hy hyl HI HITQ HCT kk
            have hgf1 : wr.heap.size ≤ gf := hgf0
            have hown3 : w3.ownsRow w2.heap.size 3 1 u6 L.length (L.map fun x => i64v (gapI x)) := owns_of hown (fun g hg => hbe3.block g (hown.lt _ hg).2)
            have hlb : ∀ g, u6.ownBlock = some g → g < wr.heap.size := fun g hg => (hown.lt _ hg).2
            have hb3 : Below w2.heap.size w2 w3 := hb2.trans (hbe3.mono hb2s)
            have HP0 : Hid (w.cell? ⟨gA, q, none⟩ = some (.int .i64 pl)) := by rw [← hbw.cell (p := ⟨gA, q, none⟩) hgA]; exact p0
            have hofr : w3.ownsRow gf 3 1 (.slice (some ⟨gf, 0, none⟩) y.length cf) y.length (y.map fun x => i64v (gapI x)) := own_at HOF.out
            have hlf : ∀ g, u6.ownBlock = some g → g ≠ gf := fun g hg => by have := hlb g hg; omega
            clear HOF hlb d0 d1 d2 d3 d4 s0 p0 hgf0 hown hb2 hb2s hbw hbxr c0 c1 c2 c3 c4 hbe3 hwr3 hgf1
            go_wp2_with fail
            go_loopw [6] (fun l wq => ∃ (j : Nat), j ≤ pl - L.length ∧ wq.ownsRow w2.heap.size 3 1 l (L ++ List.replicate j none).length ((L ++ List.replicate j none).map fun x => i64v (gapI x)) ∧ Below w2.heap.size w2 wq ∧ wq.ownsRow gf 3 1 (.slice (some ⟨gf, 0, none⟩) y.length cf) y.length (y.map fun x => i64v (gapI x)) ∧ (∀ g, l.ownBlock = some g → g ≠ gf)) (fun l _ => pl - slen l)
            case atStart => exact ⟨0, by omega, by simpa using hown3, hb3, hofr, hlf⟩
            case round =>
              clear hown3 hb3 hofr hlf
              obtain ⟨j, hj, hownj, hbj, hofj, hnej⟩ := hrel
              have hbwj : Below w.heap.size w wr := hbe'.trans (hbj.mono (by omega))
              have hbxj : wr.heap[w.heap.size]? = some (.cells #[.int .u8 123, .int .i64 Z, .int .i64 Z2, .slice (some ⟨gF, 0, none⟩) NT capF, .slice (some ⟨gA, 0, none⟩) NT capA] 121 (0, 0)) := by rw [hbj.block _ hw2]; exact hbx
              obtain ⟨c0, c1, c2, c3, c4⟩ := cells5 hbxj
              have p0 : wr.cell? ⟨gA, q, none⟩ = some (.int .i64 pl) := by rw [hbwj.cell (p := ⟨gA, q, none⟩) hgA]; exact HP0.out
              obtain ⟨al, Nl, cl, hul⟩ := owns_form hownj
              have hNl : Nl = (L ++ List.replicate j none).length := by
                rcases hownj.2 with ⟨h, h'⟩ | ⟨g, cap', cur, h, _⟩
                · rw [hul] at h; cases h; omega
                · rw [hul] at h; cases h; rfl
              have HNL : Hid (Nl = L.length + j) := by unfold Hid; simpa using hNl
              have hNlb : Nl ≤ 1000 := by have := HNL.out; omega
              have hbjs := hbj.size
              have hgfl : gf < wr.heap.size := (hofj.lt gf rfl).2
              have HOJ : Hid (wr.ownsRow w2.heap.size 3 1 u6 Nl ((L ++ List.replicate j none).map fun x => i64v (gapI x))) := by rw [← hNl] at hownj; exact hownj
              clear hownj hNl
              subst hul
              by_cases hlt4 : Nl < pl
              · go_wp2_with (first
                  | (at_builtin; refine wpList_append_lies _ rfl _ _ 63 rfl w2.heap.size 3 i1 (.int .i64 0) 1 8 Tryz.underlying63 hi1 hy0 hy1 hy2 rfl (by decide) (.slice al Nl cl) Nl ((L ++ List.replicate j none).map fun x => i64v (gapI x)) rfl (HOJ.out.alloc _) ⟨wr.heap.size, 0, none⟩ 1 1 [.int .i64 (-1)] rfl rfl (cell_one_new _ _ _) (fun x hx => by simp at hx; subst hx; rfl) (by omega) (by unfold maxLen; omega) (by omega) (by simp; omega) (wr.heap.size + 1) (by simp) ?_; intro g5 cap5 w5 hown5 hgrow5 hat5 hlt5
                     have hb5 : Below w2.heap.size w2 w5 := Below.grown (hbj.alloc hbjs _) hgrow5 (by simp; omega) (fun k hk => (HOJ.out.lt _ hk).1)
                     have hof5 : w5.ownsRow gf 3 1 (.slice (some ⟨gf, 0, none⟩) y.length cf) y.length (y.map fun x => i64v (gapI x)) := owns_of hofj (fun g hg => by
                       have hgg : g = gf := by simpa [Value.ownBlock] using hg.symm
                       subst hgg
                       rw [hgrow5.block g (by simp; omega) (fun e => hnej g e.symm rfl), Below.heap_alloc _ _ _ hgfl])
                     have hne5 : ∀ g, (Value.slice (some ⟨g5, 0, none⟩) (Nl + 1) cap5).ownBlock = some g → g ≠ gf := fun g hg => by
                       have hgg : g5 = g := by simpa [Value.ownBlock] using hg
                       subst hgg
                       rcases hat5 with h | h
                       · exact hnej _ h
                       · omega))
                refine ⟨⟨j + 1, ?_, ?_, hb5, hof5, hne5⟩, ?_⟩
                · have := HNL.out; omega
                · have e : L ++ List.replicate (j + 1) none = (L ++ List.replicate j none) ++ [(none : Option UInt8)] := by rw [List.replicate_succ', List.append_assoc]
                  have e2 : (L ++ List.replicate (j + 1) (none : Option UInt8)).length = Nl + 1 := by have := HNL.out; simp; omega
                  rw [e2, e, List.map_append]
                  exact hown5
                · have := HNL.out; simp only [slen]; omega
              · have HPAD : Hid (L ++ List.replicate j none = P.padTo L pl) := by
                  unfold Hid P.padTo; congr 2; have := HNL.out; omega
                have HOP : Hid (wr.ownsRow w2.heap.size 3 1 (.slice al Nl cl) Nl ((P.padTo L pl).map fun x => i64v (gapI x))) := by
                  have := HOJ.out; rw [HPAD.out] at this; exact this
                have HPL : Hid ((P.padTo L pl ++ y).length = Nl + y.length) := by
                  unfold Hid; rw [List.length_append, ← HPAD.out]; have := HNL.out; simp; omega
                have hPl : Nl ≤ L.length + 32 := by have := HNL.out; omega
                have HYL2 := HYL.out
                have hyl32 : y.length ≤ 32 := by omega
                have hyl1 : 1 ≤ y.length := by omega
                have HNW : Hid (∀ k u, (y.map fun x => i64v (gapI x))[k]? = some u → wr.cell? ((⟨gf, 0, none⟩ : Addr).add k) = some u) := news_own hofj
                clear HYL2 HOJ HPAD
                go_wp2_with (first
                  | (at_builtin; refine wpList_append_lies _ rfl _ _ 63 rfl w2.heap.size 3 i1 (.int .i64 0) 1 8 Tryz.underlying63 hi1 hy0 hy1 hy2 rfl (by decide) (.slice al Nl cl) Nl ((P.padTo L pl).map fun x => i64v (gapI x)) rfl HOP.out ⟨gf, 0, none⟩ y.length cf (y.map fun x => i64v (gapI x)) rfl (by simp) HNW.out (fun x hx => by obtain ⟨z, _, rfl⟩ := List.mem_map.1 hx; rfl) (by omega) (by unfold maxLen; omega) (by omega) (by omega) wr.heap.size rfl ?_; intro g5 cap5 w5 hown5 hgrow5 hat5 hlt5
                     have hb5 : Below w2.heap.size w2 w5 := Below.grown hbj hgrow5 hbjs (fun k hk => (HOP.out.lt _ hk).1)))
                refine ⟨⟨q + 1, P.padTo L pl ++ y, by omega, by go_num, HN2, ?_, ?_, hb5⟩, by simp [intOf]; omega⟩
                · rw [HPL.out]; omega
                · rw [HPL.out, List.map_append]; exact hown5
          · have HE : Hid (P.lieP (n + 1) (.inr ts) s.data.toList = none) := by
              unfold Hid; rw [HR.out, HI.out, P.drop_at' HITQ.out, hy]; rfl
            clear hy
            go_wp2_with fail
            go_ret2
            exact LiePost.no HE.out rfl (hbw.trans (hbe3.mono (by have := hbw.size; omega)))
        · have hqe : q = N := by omega
          have HFIN : Hid (P.lieP (n + 1) (.inr ts) s.data.toList = some (P.padTo L Z)) := by
            unfold Hid
            have hl : (List.zip (List.zipWith (P.lieP n) ts ps) (P.places (0, 1) (ts.map (P.sz n)))).length ≤ q := by
              rw [List.length_zip, List.length_zipWith]
              have := HNT.out; have := HNE.out; omega
            rw [HR.out, HI.out, List.drop_eq_nil_of_le hl]; rfl
          clear hqe HI
          have hown0 : wr.ownsRow w2.heap.size 3 1 u6 (L ++ List.replicate 0 none).length ((L ++ List.replicate 0 none).map fun x => i64v (gapI x)) := by simpa using hown
          clear hown
          go_wp2_with fail
          go_loopw [6] (fun l wq => ∃ (j : Nat), j ≤ Z - L.length ∧ wq.ownsRow w2.heap.size 3 1 l (L ++ List.replicate j none).length ((L ++ List.replicate j none).map fun x => i64v (gapI x)) ∧ Below w2.heap.size w2 wq) (fun l _ => Z - slen l)
          case atStart => exact ⟨0, by omega, hown0, hb2⟩
          case round =>
            clear hown0 hb2 hb2s hbw hbxr c0 c1 c2 c3 c4
            obtain ⟨j, hj, hownj, hbj⟩ := hrel
            have hbwj : Below w.heap.size w wr := hbe'.trans (hbj.mono (by omega))
            have hbxj : wr.heap[w.heap.size]? = some (.cells #[.int .u8 123, .int .i64 Z, .int .i64 Z2, .slice (some ⟨gF, 0, none⟩) NT capF, .slice (some ⟨gA, 0, none⟩) NT capA] 121 (0, 0)) := by rw [hbj.block _ hw2]; exact hbx
            obtain ⟨c0, c1, c2, c3, c4⟩ := cells5 hbxj
            obtain ⟨al, Nl, cl, hul⟩ := owns_form hownj
            have hNl : Nl = (L ++ List.replicate j none).length := by
              rcases hownj.2 with ⟨h, h'⟩ | ⟨g, cap', cur, h, _⟩
              · rw [hul] at h; cases h; omega
              · rw [hul] at h; cases h; rfl
            have HNL : Hid (Nl = L.length + j) := by unfold Hid; simpa using hNl
            have hNlb : Nl ≤ 1000 := by have := HNL.out; omega
            have hbjs := hbj.size
            have HOJ : Hid (wr.ownsRow w2.heap.size 3 1 u6 Nl ((L ++ List.replicate j none).map fun x => i64v (gapI x))) := by rw [← hNl] at hownj; exact hownj
            clear hownj hNl
            subst hul
            by_cases hlt4 : Nl < Z
            · go_wp2_with (first
                | (at_builtin; refine wpList_append_lies _ rfl _ _ 63 rfl w2.heap.size 3 i1 (.int .i64 0) 1 8 Tryz.underlying63 hi1 hy0 hy1 hy2 rfl (by decide) (.slice al Nl cl) Nl ((L ++ List.replicate j none).map fun x => i64v (gapI x)) rfl (HOJ.out.alloc _) ⟨wr.heap.size, 0, none⟩ 1 1 [.int .i64 (-1)] rfl rfl (cell_one_new _ _ _) (fun x hx => by simp at hx; subst hx; rfl) (by omega) (by unfold maxLen; omega) (by omega) (by simp; omega) (wr.heap.size + 1) (by simp) ?_; intro g5 cap5 w5 hown5 hgrow5 hat5 hlt5
                   have hb5 : Below w2.heap.size w2 w5 := Below.grown (hbj.alloc hbjs _) hgrow5 (by simp; omega) (fun k hk => (HOJ.out.lt _ hk).1)))
              refine ⟨⟨j + 1, ?_, ?_, hb5⟩, ?_⟩
              · have := HNL.out; omega
              · have e : L ++ List.replicate (j + 1) none = (L ++ List.replicate j none) ++ [(none : Option UInt8)] := by rw [List.replicate_succ', List.append_assoc]
                have e2 : (L ++ List.replicate (j + 1) (none : Option UInt8)).length = Nl + 1 := by have := HNL.out; simp; omega
                rw [e2, e, List.map_append]
                exact hown5
              · have := HNL.out; simp only [slen]; omega
            · have HPAD : Hid (L ++ List.replicate j none = P.padTo L Z) := by
                unfold Hid P.padTo; congr 2; have := HNL.out; omega
              have HOP : Hid (wr.ownsRow w2.heap.size 3 1 (.slice al Nl cl) (P.padTo L Z).length ((P.padTo L Z).map fun x => i64v (gapI x))) := by
                have := HOJ.out
                rw [HPAD.out] at this
                have e : (P.padTo L Z).length = Nl := by rw [← HPAD.out]; have := HNL.out; simp; omega
                rw [e]; exact this
              clear HPAD
              go_wp2_with fail
              go_ret2
              exact LiePost.yes HFIN.out rfl (own_base HOP.out (by omega)) hbwj
    · have HR : Hid (P.lieP (n + 1) (.inr ts) s.data.toList = none) := by
        unfold Hid; rw [HL.out, hcut, Option.bind_some, P.lieS, if_neg (by have := HNT.out; omega)]
      have hneb : ((N : Int) != (NT : Int)) = true := by rw [bne_iff_ne]; omega
      clear hcut hne hN hlen hss hown' HL
      go_wp2_with fail
      go_ret2
      exact LiePost.no HR.out rfl hbe'

theorem lie_leaf (n : Nat) (l : Bool × Nat) (s : ByteArray) (w : World) (h : 1 ≤ l.2 ∧ l.2 ≤ 16) (hs : s.size ≤ 1099511627776) : Calls Tryz.prog 158 #[typV l, .string s] w fun e w' => LiePost (P.lieLeaf l s.data.toList) w e w' := by
  obtain ⟨b, k⟩ := l
  cases b with
  | true => exact lie_num k s w h.2 (by unfold maxLen; omega)
  | false => exact lie_bytes k s w h.2 (by unfold maxLen; omega)
theorem lie_all (n : Nat) : LIE n := by
  induction n with
  | zero =>
    intro t v S s w hsm hT hS hs
    have hv : v = typV t := hT
    subst hv
    exact lie_leaf 0 t s w hsm hs
  | succ n ih =>
    intro t v S s w hsm hT hS hs
    cases t with
    | inl l =>
      have hv : v = typV l := hT
      subst hv
      exact lie_leaf (n + 1) l s w hsm hs
    | inr ts => exact lie_struct ih ts v S s w hsm hT hS hs
end Go.Proofs.YtghggcehloiemabGreatDoor
namespace Go.Proofs.YtghggcehloiemabGreatDoor
open Go.RowKit
set_option linter.unusedVariables false
set_option maxRecDepth 16000

namespace P
def filled (f : UInt8) (L : List (Option UInt8)) : List UInt8 := L.map fun x => x.getD f
def rencOf (lt lv : List UInt8) (fill : Int) : List UInt8 × Nat := match rtyOf lt with
  | none => ([], 1)
  | some t => match lieP 4 t lv with
    | none => ([], 2)
    | some L => if fill < 0 ∨ 255 < fill then ([], 6) else (filled (fillB fill) L, 0)
end P

set_option maxHeartbeats 1000000 in
theorem isValue_any {n : Nat} (t : P.Ty n) (v : Value) (S : Nat → Prop) (s : ByteArray) (w : World) (hsm : P.Sm n t) (hT : TypAt w n t v S) (hS : ∀ g, S g → g < w.heap.size) (hs : s.size ≤ 1099511627776) :
    Calls Tryz.prog 127 #[v, .string s] w fun e w' => e = .returned (.bool (P.lieP n t s.data.toList).isSome) ∧ Below w.heap.size w w' := by
  obtain ⟨a0, x', n1, k1, y, m1, j1, rfl⟩ := hT.is
  obtain ⟨f1, hf1⟩ : ∃ f1, (P.sz n t).1 = f1 := ⟨_, rfl⟩
  obtain ⟨f2, hf2⟩ : ∃ f2, (P.sz n t).2 = f2 := ⟨_, rfl⟩
  rw [hf1, hf2] at hT ⊢
  have hT2 : TypAt (w.alloc (.cells #[.int .u8 a0, .int .i64 f1, .int .i64 f2, .slice x' n1 k1, .slice y m1 j1] 121)) n t (.agg #[.int .u8 a0, .int .i64 f1, .int .i64 f2, .slice x' n1 k1, .slice y m1 j1]) S := hT.of (fun g hg => Below.heap_alloc _ _ _ (hS g hg)) (fun g hg => hg)
  have hS2 : ∀ g, S g → g < (w.alloc (.cells #[.int .u8 a0, .int .i64 f1, .int .i64 f2, .slice x' n1 k1, .slice y m1 j1] 121)).heap.size := fun g hg => by have := hS g hg; simp; omega
  have HC : Hid (Calls Tryz.prog 158 #[.agg #[.int .u8 a0, .int .i64 f1, .int .i64 f2, .slice x' n1 k1, .slice y m1 j1], .string s] (w.alloc (.cells #[.int .u8 a0, .int .i64 f1, .int .i64 f2, .slice x' n1 k1, .slice y m1 j1] 121)) fun e w' => LiePost (P.lieP n t s.data.toList) (w.alloc (.cells #[.int .u8 a0, .int .i64 f1, .int .i64 f2, .slice x' n1 k1, .slice y m1 j1] 121)) e w') := lie_all n t _ S s _ hsm hT2 hS2 hs
  clear hT hT2 hS hS2 hf1 hf2
  go_enter Tryz.func127, Tryz.ntmps127
  go_wp2_with fail
  refine Calls.mono HC.out ?_
  intro e w2 hp
  obtain ⟨af, Nf, cf, zf, rfl, hcase⟩ := lie_shape hp
  have hbe : Below w.heap.size w w2 := ((Below.refl _ _).alloc (Nat.le_refl _) _).trans (hp.2.mono (by simp))
  have hz : zf = (P.lieP n t s.data.toList).isSome := by
    rcases hcase with ⟨rfl, y, hy, _⟩ | ⟨rfl, hy⟩
    · rw [hy]; rfl
    · rw [hy]; rfl
  have HZ : Hid (zf = (P.lieP n t s.data.toList).isSome) := hz
  clear hcase hz hp
  go_wp2_with fail
  go_ret
  exact ⟨by rw [← HZ.out]; rfl, hbe⟩

theorem u8_row_cell {w : World} {base g N cap k : Nat} {bs : List UInt8} (h : w.ownsRow base 5 1 (.slice (some ⟨g, 0, none⟩) N cap) bs.length (bs.map u8v)) (hk : k < bs.length) : w.cell? ⟨g, k, none⟩ = some (u8v bs[k]) := by
  obtain ⟨h1, h2⟩ := h
  rcases h2 with ⟨h2, _⟩ | ⟨g', cap', cur, hv, hb, hg, hn, hm, hsz, htk⟩
  · cases h2
  · cases hv
    rw [cell_of_row w g _ _ _ _ hg]
    have hget : (bs.map u8v)[k]? = some (u8v bs[k]) := by simp [List.getElem?_eq_getElem hk]
    rw [← htk, List.getElem?_take_of_lt (by omega)] at hget
    simpa using hget

set_option maxHeartbeats 2000000 in
theorem bytes_any {n : Nat} (t : P.Ty n) (v : Value) (S : Nat → Prop) (s : ByteArray) (fill : Int) (L : List (Option UInt8)) (w : World) (hsm : P.Sm n t) (hT : TypAt w n t v S) (hS : ∀ g, S g → g < w.heap.size) (hs : s.size ≤ 1099511627776) (hf0 : 0 ≤ fill) (hf1 : fill ≤ 255) (hL : P.lieP n t s.data.toList = some L) :
    Calls Tryz.prog 148 #[v, .string s, .int .i64 fill] w fun e w' => e = .returned (.string ⟨(P.filled (P.fillB fill) L).toArray⟩) ∧ Below w.heap.size w w' := by
  obtain ⟨i0, hi0, hz0, hz1, hz2⟩ := info_parts Tryz.infoU8
  have hlen := P.lie_len n t _ L hsm hL
  have hsz := P.sm_size n t hsm
  rw [← hlen] at hsz
  obtain ⟨a0, x', n1, k1, y, m1, j1, rfl⟩ := hT.is
  obtain ⟨f1, hf1'⟩ : ∃ f1, (P.sz n t).1 = f1 := ⟨_, rfl⟩
  obtain ⟨f2, hf2'⟩ : ∃ f2, (P.sz n t).2 = f2 := ⟨_, rfl⟩
  rw [hf1', hf2'] at hT ⊢
  have hT2 : TypAt (w.alloc (.cells #[.int .u8 a0, .int .i64 f1, .int .i64 f2, .slice x' n1 k1, .slice y m1 j1] 121)) n t (.agg #[.int .u8 a0, .int .i64 f1, .int .i64 f2, .slice x' n1 k1, .slice y m1 j1]) S := hT.of (fun g hg => Below.heap_alloc _ _ _ (hS g hg)) (fun g hg => hg)
  have hS2 : ∀ g, S g → g < (w.alloc (.cells #[.int .u8 a0, .int .i64 f1, .int .i64 f2, .slice x' n1 k1, .slice y m1 j1] 121)).heap.size := fun g hg => by have := hS g hg; simp; omega
  have hC := lie_all n t _ S s _ hsm hT2 hS2 hs
  rw [hL] at hC
  have HC : Hid (Calls Tryz.prog 158 #[.agg #[.int .u8 a0, .int .i64 f1, .int .i64 f2, .slice x' n1 k1, .slice y m1 j1], .string s] (w.alloc (.cells #[.int .u8 a0, .int .i64 f1, .int .i64 f2, .slice x' n1 k1, .slice y m1 j1] 121)) fun e w' => LiePost (some L) (w.alloc (.cells #[.int .u8 a0, .int .i64 f1, .int .i64 f2, .slice x' n1 k1, .slice y m1 j1] 121)) e w') := hC
  have hfb : ((P.fillB fill).toNat : Int) = fill := by unfold P.fillB; simp; omega
  have HFB : Hid (((P.fillB fill).toNat : Int) = fill) := hfb
  clear hT hT2 hS hS2 hf1' hf2' hC hlen hfb hL
  go_enter Tryz.func148, Tryz.ntmps148
  go_wp2_with fail
  refine Calls.mono HC.out ?_
  rintro e w2 ⟨⟨vL, rfl, hownL⟩, hbe0⟩
  have hbe : Below w.heap.size w w2 := ((Below.refl _ _).alloc (Nat.le_refl _) _).trans (hbe0.mono (by simp))
  have hs0 := hbe.size
  obtain ⟨gL, capL, hvL, _, hgL⟩ := hownL.form (by omega)
  obtain ⟨N, hN⟩ : ∃ N, N = L.length := ⟨_, rfl⟩
  rw [← hN] at hvL
  subst hvL
  have HNL : Hid (N = L.length) := hN
  have hN32 : N ≤ 32 := by omega
  have hN1 : 1 ≤ N := by omega
  clear hN hbe0 HC hsz
  go_wp2_with fail
  go_loopw [9, 10] (fun b i wr => ∃ k : Nat, k ≤ N ∧ i = .int .i64 k ∧ wr.ownsRow w2.heap.size 5 1 b k ((P.filled (P.fillB fill) (L.take k)).map u8v) ∧ Below w2.heap.size w2 wr) (fun _ i _ => N - (intOf i).toNat)
  case atStart => exact ⟨0, by omega, rfl, World.ownsRow_nil _ _ _ _, Below.refl _ _⟩
  case round =>
    obtain ⟨k, hk, rfl, hown, hb2⟩ := hrel
    have hb2s := hb2.size
    have hbw : Below w.heap.size w wr := hbe.trans (hb2.mono hs0)
    by_cases hlt : k < N
    · obtain ⟨x, hx⟩ : ∃ x, L[k]? = some x := ⟨_, List.getElem?_eq_getElem (by have := HNL.out; omega)⟩
      have hcl := (int_cell (i := k) (x := i64v (gapI x)) (xs := L.map fun x => i64v (gapI x)) (by rw [List.length_map]; exact hownL) (by rw [List.getElem?_map, hx]; rfl))
      have p0 := hcl.1
      have hcc := hcl.2
      rw [← hb2.cell (p := ⟨gL, k, none⟩) hgL] at p0
      have HTK : Hid ((P.filled (P.fillB fill) (L.take (k + 1))).map u8v = (P.filled (P.fillB fill) (L.take k)).map u8v ++ [u8v (x.getD (P.fillB fill))]) := by
        unfold Hid P.filled; rw [List.take_add_one, hx]; simp
      unfold i64v at p0
      have hkN : (k : Int) < (N : Int) := by omega
      have h0k : (0 : Int) ≤ (k : Int) := by omega
      clear hcl hx
      cases x with
      | none =>
        simp only [gapI] at p0
        go_wp2_with (first
          | (at_builtin; refine wpList_append_lies _ rfl _ _ 38 rfl w2.heap.size 5 i0 (.int .u8 0) 1 1 Tryz.underlying38 hi0 hz0 hz1 hz2 rfl (by decide) u9 k ((P.filled (P.fillB fill) (L.take k)).map u8v) rfl (hown.alloc _) ⟨wr.heap.size, 0, none⟩ 1 1 [.int .u8 fill] rfl rfl (cell_one_new _ _ _) (fun x hx => by simp at hx; subst hx; rfl) (by omega) (by unfold maxLen; omega) (by omega) (by simp; omega) _ rfl ?_; intro g cap3 w3 hown' hgrow hat hlt3
             have hb3 : Below w2.heap.size w2 w3 := Below.grown (hb2.alloc hb2s _) hgrow (by simp; omega) (fun j hj => (hown.lt _ hj).1)))
        refine ⟨⟨k + 1, by omega, by go_num, ?_, hb3⟩, by simp [intOf]; omega⟩
        rw [HTK.out]
        simp only [Option.getD_none, u8v, HFB.out]
        exact hown'
      | some c =>
        simp only [gapI] at p0
        have hc255 : (c.toNat : Int) ≤ 255 := by have := c.toNat_lt; omega
        have hcne : ((c.toNat : Int) == -1) = false := by rw [beq_eq_false_iff_ne]; omega
        go_wp2_with (first
          | (at_builtin; refine wpList_append_lies _ rfl _ _ 38 rfl w2.heap.size 5 i0 (.int .u8 0) 1 1 Tryz.underlying38 hi0 hz0 hz1 hz2 rfl (by decide) u9 k ((P.filled (P.fillB fill) (L.take k)).map u8v) rfl (hown.alloc _) ⟨wr.heap.size, 0, none⟩ 1 1 [.int .u8 c.toNat] rfl rfl (cell_one_new _ _ _) (fun x hx => by simp at hx; subst hx; rfl) (by omega) (by unfold maxLen; omega) (by omega) (by simp; omega) _ rfl ?_; intro g cap3 w3 hown' hgrow hat hlt3
             have hb3 : Below w2.heap.size w2 w3 := Below.grown (hb2.alloc hb2s _) hgrow (by simp; omega) (fun j hj => (hown.lt _ hj).1)))
        refine ⟨⟨k + 1, by omega, by go_num, ?_, hb3⟩, by simp [intOf]; omega⟩
        rw [HTK.out]
        exact hown'
    · have hke : k = L.length := by have := HNL.out; omega
      have hlf : (P.filled (P.fillB fill) L).length = k := by unfold P.filled; simp [hke]
      rw [hke, List.take_length, ← hke] at hown
      rw [← hlf] at hown
      obtain ⟨g, capb, hvb, _, _⟩ := hown.form (by omega)
      subst hvb
      have hcv : (convert 38 9 (.slice (some ⟨g, 0, none⟩) (P.filled (P.fillB fill) L).length capb)).run Tryz.prog wr = .ok (.string ⟨(P.filled (P.fillB fill) L).toArray⟩) wr := by
        have := run_convert_bytes_arg (P := Tryz.prog) wr 38 5 Tryz.underlying38 Tryz.underlying5 g 0 (P.filled (P.fillB fill) L).length capb ((P.filled (P.fillB fill) L).map fun c => (c.toNat : Int)) (by simp) (by
          intro j hj
          rw [Nat.zero_add]
          have := u8_row_cell hown (k := j) hj
          simpa [List.getD, List.getElem?_eq_getElem hj, u8v] using this) 9 Tryz.underlying9
        rw [this]
        congr 2
        simp [strOfNums, Function.comp_def]
      obtain ⟨bs, hbs⟩ : ∃ bs, P.filled (P.fillB fill) L = bs := ⟨_, rfl⟩
      rw [hbs] at hown hcv hlf ⊢
      have HBS : Hid (P.filled (P.fillB fill) L = bs) := hbs
      have HLF : Hid (bs.length = k) := hlf
      clear hlf hbs hke
      go_wp2_with fail
      go_ret
      exact ⟨by rw [HBS.out]; rfl, hbw⟩

set_option maxHeartbeats 1000000 in
theorem rencode_any (s v : ByteArray) (fill : Int) (w : World) (hs : s.size ≤ maxLen) (hv : v.size ≤ 1099511627776) :
    Calls Tryz.prog 120 #[.string s, .string v, .int .i64 fill] w fun e w' => e = .returned (.tuple #[.string ⟨(P.rencOf s.data.toList v.data.toList fill).1.toArray⟩, .int .i64 (P.rencOf s.data.toList v.data.toList fill).2]) ∧ Below w.heap.size w w' := by
  go_enter Tryz.func120, Tryz.ntmps120
  go_wp2_with fail
  refine (rParse_any s w hs).mono ?_
  rintro e w1 ⟨hpost, hbe⟩
  cases ht : P.rtyOf s.data.toList with
  | none =>
    rw [ht] at hpost
    obtain ⟨vv, rfl, a1, a2, a3, x', n1, k1, y, m1, j1, rfl⟩ := hpost
    have HT : Hid (P.rencOf s.data.toList v.data.toList fill = ([], 1)) := by unfold Hid P.rencOf; rw [ht]
    clear ht
    go_wp2_with fail
    go_ret2
    exact ⟨by rw [HT.out]; rfl, hbe.alloc hbe.size _⟩
  | some t =>
    rw [ht] at hpost
    obtain ⟨vv, S, rfl, hT, hS⟩ := hpost
    have hrp : P.rp 4 s.data.toList = some t := by
      unfold P.rtyOf at ht
      split at ht
      · cases ht
      · exact ht
    have hsm := P.rp_sm 4 _ t hrp
    obtain ⟨a0, x', n1, k1, y, m1, j1, rfl⟩ := hT.is
    have HT : Hid (P.rencOf s.data.toList v.data.toList fill = match P.lieP 4 t v.data.toList with
      | none => ([], 2)
      | some L => if fill < 0 ∨ 255 < fill then ([], 6) else (P.filled (P.fillB fill) L, 0)) := by unfold Hid P.rencOf; rw [ht]
    obtain ⟨f1, hf1⟩ : ∃ f1, (P.sz 4 t).1 = f1 := ⟨_, rfl⟩
    obtain ⟨f2, hf2⟩ : ∃ f2, (P.sz 4 t).2 = f2 := ⟨_, rfl⟩
    rw [hf1, hf2] at hT ⊢
    have hsz1 := hbe.size
    have hT2 : TypAt (w1.alloc (.cells #[.int .u8 a0, .int .i64 f1, .int .i64 f2, .slice x' n1 k1, .slice y m1 j1] 121)) 4 t (.agg #[.int .u8 a0, .int .i64 f1, .int .i64 f2, .slice x' n1 k1, .slice y m1 j1]) S := hT.of (fun g hg => Below.heap_alloc _ _ _ (hS g hg).2) (fun g hg => hg)
    have hS2 : ∀ g, S g → g < w1.heap.size := fun g hg => (hS g hg).2
    have HC : Hid (Calls Tryz.prog 127 #[.agg #[.int .u8 a0, .int .i64 f1, .int .i64 f2, .slice x' n1 k1, .slice y m1 j1], .string v] (w1.alloc (.cells #[.int .u8 a0, .int .i64 f1, .int .i64 f2, .slice x' n1 k1, .slice y m1 j1] 121)) fun e w' => e = .returned (.bool (P.lieP 4 t v.data.toList).isSome) ∧ Below (w1.alloc (.cells #[.int .u8 a0, .int .i64 f1, .int .i64 f2, .slice x' n1 k1, .slice y m1 j1] 121)).heap.size (w1.alloc (.cells #[.int .u8 a0, .int .i64 f1, .int .i64 f2, .slice x' n1 k1, .slice y m1 j1] 121)) w') :=
      isValue_any t _ S v _ hsm hT2 (fun g hg => by have := hS2 g hg; simp; omega) hv
    have HT2 : Hid (TypAt (w1.alloc (.cells #[.int .u8 a0, .int .i64 f1, .int .i64 f2, .slice x' n1 k1, .slice y m1 j1] 121)) 4 t (.agg #[.int .u8 a0, .int .i64 f1, .int .i64 f2, .slice x' n1 k1, .slice y m1 j1]) S) := hT2
    have HSM : Hid (P.Sm 4 t) := hsm
    clear hT hT2 hS hf1 hf2 ht hrp hsm
    go_wp2_with fail
    refine Calls.mono HC.out ?_
    rintro e w2 ⟨rfl, hbe2⟩
    have hbe3 : Below w.heap.size w w2 := (hbe.alloc hsz1 _).trans (hbe2.mono (by simp; omega))
    have hvar : w2.heap[w1.heap.size]? = some (.cells #[.int .u8 a0, .int .i64 f1, .int .i64 f2, .slice x' n1 k1, .slice y m1 j1] 121 (0, 0)) := by
      rw [hbe2.block _ (by simp)]; exact heap_alloc_new _ _
    obtain ⟨c0, c1, c2, c3, c4⟩ := cells5 hvar
    cases hl : P.lieP 4 t v.data.toList with
    | none =>
      have HE : Hid (P.rencOf s.data.toList v.data.toList fill = ([], 2)) := by unfold Hid; rw [HT.out, hl]
      clear hl
      simp only [Option.isSome_none]
      go_wp2_with fail
      go_ret2
      exact ⟨by rw [HE.out]; rfl, hbe3⟩
    | some L =>
      have HE0 : Hid (P.rencOf s.data.toList v.data.toList fill = if fill < 0 ∨ 255 < fill then ([], 6) else (P.filled (P.fillB fill) L, 0)) := by unfold Hid; rw [HT.out, hl]
      have HLL : Hid (P.lieP 4 t v.data.toList = some L) := hl
      clear hl
      simp only [Option.isSome_some]
      by_cases hneg : fill < 0
      · have HE : Hid (P.rencOf s.data.toList v.data.toList fill = ([], 6)) := by unfold Hid; rw [HE0.out, if_pos (Or.inl hneg)]
        go_wp2_with fail
        go_ret2
        exact ⟨by rw [HE.out]; rfl, hbe3⟩
      · by_cases hbig : 255 < fill
        · have HE : Hid (P.rencOf s.data.toList v.data.toList fill = ([], 6)) := by unfold Hid; rw [HE0.out, if_pos (Or.inr hbig)]
          go_wp2_with fail
          go_ret2
          exact ⟨by rw [HE.out]; rfl, hbe3⟩
        · have HE : Hid (P.rencOf s.data.toList v.data.toList fill = (P.filled (P.fillB fill) L, 0)) := by unfold Hid; rw [HE0.out, if_neg (by omega)]
          have hT3 : TypAt w2 4 t (.agg #[.int .u8 a0, .int .i64 f1, .int .i64 f2, .slice x' n1 k1, .slice y m1 j1]) S := HT2.out.of (fun g hg => hbe2.block g (by have := hS2 g hg; simp; omega)) (fun g hg => hg)
          have hs2 := hbe2.size
          simp at hs2
          have HB : Hid (Calls Tryz.prog 148 #[.agg #[.int .u8 a0, .int .i64 f1, .int .i64 f2, .slice x' n1 k1, .slice y m1 j1], .string v, .int .i64 fill] w2 fun e w' => e = .returned (.string ⟨(P.filled (P.fillB fill) L).toArray⟩) ∧ Below w2.heap.size w2 w') :=
            bytes_any t _ S v fill L w2 HSM.out hT3 (fun g hg => by have := hS2 g hg; omega) hv (by omega) (by omega) HLL.out
          clear hT3
          go_wp2_with fail
          refine Calls.mono HB.out ?_
          rintro e w4 ⟨rfl, hbe4⟩
          go_wp2_with fail
          go_ret2
          exact ⟨by rw [HE.out]; rfl, hbe3.trans (hbe4.mono (by have := hbe3.size; omega))⟩
end Go.Proofs.YtghggcehloiemabGreatDoor
