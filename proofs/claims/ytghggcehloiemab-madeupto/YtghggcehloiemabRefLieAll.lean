import Derived.Test.YtghggcehloiemabRefStruct
import Derived.Test.YtghggcehloiemabHexAll
namespace Go.Proofs.Ytghggcehloiemab
open Go.RowKit
set_option linter.unusedVariables false
set_option maxRecDepth 16000

namespace P
def padTo (L : List (Option UInt8)) (n : Nat) : List (Option UInt8) := L ++ List.replicate (n - L.length) none
def lieF : List (Option (List (Option UInt8)) × Nat) → List (Option UInt8) → Option (List (Option UInt8))
  | [], L => some L
  | (x, p) :: r, L => match x with
    | none => none
    | some y => lieF r (padTo L p ++ y)
def lieLeaf (l : Bool × Nat) (s : List UInt8) : Option (List (Option UInt8)) :=
  if l.1 = true then (if 0 ≤ rnum s ∧ (rnum s).toNat / 256 ^ l.2 = 0 then some ((le l.2 (rnum s).toNat).map some) else none)
  else (if s.length = 2 * l.2 then (rdhex l.2 s).map (·.map some) else none)
def lieP : (n : Nat) → Ty n → List UInt8 → Option (List (Option UInt8))
  | 0, l, s => lieLeaf l s
  | _ + 1, .inl l, s => lieLeaf l s
  | n + 1, .inr ts, s => match cut s with
    | none => none
    | some ps => if ps.length = ts.length then (lieF (List.zip (List.zipWith (lieP n) ts ps) (places (0, 1) (ts.map (sz n)))) []).map (fun L => padTo L (sz (n + 1) (.inr ts)).1) else none
def tbl : List UInt8 := [48, 49, 50, 51, 52, 53, 54, 55, 56, 57, 97, 98, 99, 100, 101, 102]
def hexI (c : UInt8) : Int := match hexv c with
  | some d => (d : Int)
  | none => -1
theorem tbl_hit (c : UInt8) : ∀ k, tbl[k]? = some c → hexv c = some k := by
  intro k h
  have hk : k < 16 := (List.getElem?_eq_some_iff.1 h).1
  match k, hk with
  | 0, _ | 1, _ | 2, _ | 3, _ | 4, _ | 5, _ | 6, _ | 7, _ | 8, _ | 9, _ | 10, _ | 11, _ | 12, _ | 13, _ | 14, _ | 15, _ => simp [tbl] at h; subst h; rfl
theorem tbl_miss (c : UInt8) (h : ∀ k, k < 16 → tbl[k]? ≠ some c) : hexv c = none := by
  unfold hexv
  have hne : ∀ k x, tbl[k]? = some x → k < 16 → c ≠ x := fun k x hx hk e => h k hk (by rw [e]; exact hx)
  rw [if_neg, if_neg]
  · rintro ⟨h1, h2⟩
    have : c.toNat = 97 ∨ c.toNat = 98 ∨ c.toNat = 99 ∨ c.toNat = 100 ∨ c.toNat = 101 ∨ c.toNat = 102 := by omega
    rcases this with e | e | e | e | e | e
    · exact hne 10 97 rfl (by omega) (UInt8.toNat_inj.1 (by simpa using e))
    · exact hne 11 98 rfl (by omega) (UInt8.toNat_inj.1 (by simpa using e))
    · exact hne 12 99 rfl (by omega) (UInt8.toNat_inj.1 (by simpa using e))
    · exact hne 13 100 rfl (by omega) (UInt8.toNat_inj.1 (by simpa using e))
    · exact hne 14 101 rfl (by omega) (UInt8.toNat_inj.1 (by simpa using e))
    · exact hne 15 102 rfl (by omega) (UInt8.toNat_inj.1 (by simpa using e))
  · rintro ⟨h1, h2⟩
    have : c.toNat = 48 ∨ c.toNat = 49 ∨ c.toNat = 50 ∨ c.toNat = 51 ∨ c.toNat = 52 ∨ c.toNat = 53 ∨ c.toNat = 54 ∨ c.toNat = 55 ∨ c.toNat = 56 ∨ c.toNat = 57 := by omega
    rcases this with e | e | e | e | e | e | e | e | e | e
    · exact hne 0 48 rfl (by omega) (UInt8.toNat_inj.1 (by simpa using e))
    · exact hne 1 49 rfl (by omega) (UInt8.toNat_inj.1 (by simpa using e))
    · exact hne 2 50 rfl (by omega) (UInt8.toNat_inj.1 (by simpa using e))
    · exact hne 3 51 rfl (by omega) (UInt8.toNat_inj.1 (by simpa using e))
    · exact hne 4 52 rfl (by omega) (UInt8.toNat_inj.1 (by simpa using e))
    · exact hne 5 53 rfl (by omega) (UInt8.toNat_inj.1 (by simpa using e))
    · exact hne 6 54 rfl (by omega) (UInt8.toNat_inj.1 (by simpa using e))
    · exact hne 7 55 rfl (by omega) (UInt8.toNat_inj.1 (by simpa using e))
    · exact hne 8 56 rfl (by omega) (UInt8.toNat_inj.1 (by simpa using e))
    · exact hne 9 57 rfl (by omega) (UInt8.toNat_inj.1 (by simpa using e))
end P

set_option maxHeartbeats 1000000 in
theorem rhex_any (c : UInt8) (w : World) :
    Calls Try.prog 41 #[.int .u8 c.toNat] w fun e w' => e = .returned (.int .i64 (P.hexI c)) ∧ w' = w := by
  go_enter Try.func41, Try.ntmps41
  go_wp2_with fail
  go_loop [3] (fun i => ∃ k : Nat, k ≤ 16 ∧ i = .int .i64 k ∧ Hid (∀ j, j < k → P.tbl[j]? ≠ some c)) (fun i => 16 - (intOf i).toNat)
  case atStart => exact ⟨0, by omega, rfl, fun j hj => by omega⟩
  case round =>
    obtain ⟨k, hk, rfl, HK⟩ := hrel
    by_cases hlt : k < 16
    · go_wp2_with fail
      · have h1 := ‹(_ == (c.toNat : Int)) = true›
        rw [beq_iff_eq] at h1
        have hc := u8_of h1
        have ht : P.tbl[k]? = some c := by
          rw [← hc]; exact get_of (s := ⟨#[48, 49, 50, 51, 52, 53, 54, 55, 56, 57, 97, 98, 99, 100, 101, 102]⟩) (i := k) hlt
        go_ret
        exact ⟨ret_i64 (by simp [P.hexI, P.tbl_hit c k ht]), rfl⟩
      · have h1 := ‹(_ == (c.toNat : Int)) = false›
        rw [beq_eq_false_iff_ne] at h1
        refine ⟨⟨k + 1, by omega, by go_num, ?_⟩, by simp [intOf]; omega⟩
        intro j hj
        rcases Nat.lt_or_ge j k with h | h
        · exact HK.out j h
        · have hjk : j = k := by omega
          subst hjk
          intro e
          have hg := get_of (s := ⟨#[48, 49, 50, 51, 52, 53, 54, 55, 56, 57, 97, 98, 99, 100, 101, 102]⟩) (i := j) hlt
          have hg' : P.tbl[j]? = _ := hg
          rw [hg'] at e
          exact h1 (by rw [Option.some.inj e])
    · have HE : Hid (P.hexI c = -1) := by
        unfold Hid P.hexI; rw [P.tbl_miss c (fun j hj => HK.out j (by omega))]
      go_wp2_with fail
      go_ret
      exact ⟨by rw [HE.out]; rfl, rfl⟩
end Go.Proofs.Ytghggcehloiemab
namespace Go.Proofs.Ytghggcehloiemab
open Go.RowKit
set_option linter.unusedVariables false
set_option maxRecDepth 16000

def gapI (x : Option UInt8) : Int := match x with
  | none => -1
  | some c => (c.toNat : Int)
def i64v (x : Int) : Value := .int .i64 x
/-- What 'lie' answers. -/
def LiePost (o : Option (List (Option UInt8))) (w : World) (e : Ending) (w' : World) : Prop :=
  (match o with
    | some L => ∃ v, e = .returned (.tuple #[v, .bool true]) ∧ w'.ownsRow w.heap.size 3 1 v L.length (L.map fun x => i64v (gapI x))
    | none => ∃ a N c, e = .returned (.tuple #[.slice a N c, .bool false])) ∧ Below w.heap.size w w'
theorem LiePost.no {o : Option (List (Option UInt8))} {w w' : World} {e : Ending} {a : Option Addr} {N c : Nat} (h : o = none) (he : e = .returned (.tuple #[.slice a N c, .bool false])) (hb : Below w.heap.size w w') : LiePost o w e w' := by
  subst h; exact ⟨⟨a, N, c, he⟩, hb⟩
theorem LiePost.yes {o : Option (List (Option UInt8))} {w w' : World} {e : Ending} {v : Value} {L : List (Option UInt8)} (h : o = some L) (he : e = .returned (.tuple #[v, .bool true])) (hown : w'.ownsRow w.heap.size 3 1 v L.length (L.map fun x => i64v (gapI x))) (hb : Below w.heap.size w w') : LiePost o w e w' := by
  subst h; exact ⟨⟨v, he, hown⟩, hb⟩

theorem own_base {w : World} {base base' : Nat} {e : TypeId} {size n : Nat} {v : Value} {xs : List Value} (h : w.ownsRow base e size v n xs) (hb : base' ≤ base) : w.ownsRow base' e size v n xs := by
  obtain ⟨h1, h2⟩ := h
  refine ⟨h1, ?_⟩
  rcases h2 with h2 | ⟨g, cap, cur, hv, hb', hr⟩
  · exact .inl h2
  · exact .inr ⟨g, cap, cur, hv, by omega, hr⟩

/-- Behind an append onto a row of the call's own: other blocks are as they were. -/
theorem grown_blk {wr w3 : World} {base : Nat} {e : TypeId} {size n : Nat} {v : Value} {xs : List Value} {o o' : Obj} {B : Nat} (hown : wr.ownsRow base e size v n xs) (hg : (wr.alloc o).grownBy w3 v.ownBlock) (hB : B < base) (h : wr.heap[B]? = some o') : w3.heap[B]? = some o' := by
  have hl := blk_lt h
  rw [hg.block B (by simp; omega) (fun e => by have := (hown.lt _ e.symm).1; omega), Below.heap_alloc _ _ _ hl]; exact h
theorem grown_below {w wr w3 : World} {base : Nat} {e : TypeId} {size n : Nat} {v : Value} {xs : List Value} {o : Obj} (hb : Below w.heap.size w wr) (hown : wr.ownsRow base e size v n xs) (hg : (wr.alloc o).grownBy w3 v.ownBlock) (hB : w.heap.size ≤ base) : Below w.heap.size w w3 :=
  Below.grown (hb.alloc hb.size o) hg (by have := hb.size; simp; omega) (fun j hj => by have := (hown.lt _ hj).1; omega)

set_option maxHeartbeats 2000000 in
theorem lie_num (k : Nat) (s : ByteArray) (w : World) (hk : k ≤ 16) (hs : s.size ≤ maxLen) :
    Calls Try.prog 24 #[typV (true, k), .string s] w fun e w' => LiePost (P.lieLeaf (true, k) s.data.toList) w e w' := by
  obtain ⟨i1, hi1, hy0, hy1, hy2⟩ := info_parts Try.infoInt
  have hbd := P.rnum_bd s.data.toList
  obtain ⟨n, hn⟩ : ∃ n, P.rnum s.data.toList = n := ⟨_, rfl⟩
  rw [hn] at hbd
  have HN : Hid (P.rnum s.data.toList = n) := hn
  have HC : Hid (∀ w0, Calls Try.prog 40 #[.string s] w0 fun e w' => e = .returned (.int .i64 n) ∧ w' = w0) := by
    intro w0; have := rnumber_any s w0 hs; rw [hn] at this; exact this
  clear hn
  unfold typV
  simp only [P.lsz, if_true]
  by_cases hneg : n < 0
  · have hn1 : n = -1 := by omega
    subst hn1
    have HL : Hid (P.lieLeaf (true, k) s.data.toList = none) := by
      unfold Hid P.lieLeaf; rw [if_pos rfl, if_neg (by rw [HN.out]; omega)]
    go_enter Try.func24, Try.ntmps24
    go_wp2_with fail
    refine (HC.out _).mono ?_
    rintro e w1 ⟨rfl, rfl⟩
    go_wp2_with fail
    go_loopw [6, 7, 8] (fun v x i wr => ∃ (q : Nat) (nn : Int) (xs : List Value), q ≤ k ∧ i = .int .i64 q ∧ x = .int .i64 nn ∧ (nn = -1 ∨ nn = 0) ∧ wr.ownsRow (w.heap.size + 1) 3 1 v q xs ∧ wr.heap[w.heap.size]? = some (.cells #[.int .u8 117, .int .i64 k, .int .i64 k, .slice none 0 0, .slice none 0 0] 33 (0, 0)) ∧ Below w.heap.size w wr) (fun _ _ i _ => k - (intOf i).toNat)
    case atStart => exact ⟨0, -1, [], by omega, rfl, rfl, Or.inl rfl, World.ownsRow_nil _ _ _ _, heap_alloc_new w _, (Below.refl _ _).alloc (Nat.le_refl _) _⟩
    case round =>
      obtain ⟨q, nn, xs, hq, rfl, rfl, hnn, hown, hbx, hbe⟩ := hrel
      obtain ⟨c0, c1, c2, c3, c4⟩ := cells5 hbx
      have hsz := hbe.size
      have hwl := blk_lt hbx
      by_cases hlt : q < k
      · rcases hnn with rfl | rfl
        · go_wp2_with (first
            | (at_builtin; refine wpList_append_lies _ rfl _ _ 31 rfl (w.heap.size + 1) 3 i1 (.int .i64 0) 1 8 Try.underlying31 hi1 hy0 hy1 hy2 rfl (by decide) u6 q xs rfl (hown.alloc _) ⟨wr.heap.size, 0, none⟩ 1 1 [.int .i64 (-1)] rfl rfl (cell_one_new _ _ _) (fun x hx => by simp at hx; subst hx; rfl) (by omega) (by unfold maxLen; omega) (by omega) (by simp; omega) _ rfl ?_; intro g cap3 w3 hown' hgrow hat hlt3
               have hbx3 := grown_blk hown hgrow (Nat.lt_succ_self _) hbx
               have hbe3 := grown_below hbe hown hgrow (Nat.le_succ _)))
          exact ⟨⟨q + 1, 0, _, by omega, by go_num, rfl, Or.inr rfl, hown', hbx3, hbe3⟩, by simp [intOf]; omega⟩
        · go_wp2_with (first
            | (at_builtin; refine wpList_append_lies _ rfl _ _ 31 rfl (w.heap.size + 1) 3 i1 (.int .i64 0) 1 8 Try.underlying31 hi1 hy0 hy1 hy2 rfl (by decide) u6 q xs rfl (hown.alloc _) ⟨wr.heap.size, 0, none⟩ 1 1 [.int .i64 0] rfl rfl (cell_one_new _ _ _) (fun x hx => by simp at hx; subst hx; rfl) (by omega) (by unfold maxLen; omega) (by omega) (by simp; omega) _ rfl ?_; intro g cap3 w3 hown' hgrow hat hlt3
               have hbx3 := grown_blk hown hgrow (Nat.lt_succ_self _) hbx
               have hbe3 := grown_below hbe hown hgrow (Nat.le_succ _)))
          exact ⟨⟨q + 1, 0, _, by omega, by go_num, rfl, Or.inr rfl, hown', hbx3, hbe3⟩, by simp [intOf]; omega⟩
      · obtain ⟨a, N, cap, rfl⟩ := owns_form hown
        rcases hnn with rfl | rfl
        all_goals
          go_wp2_with fail
          refine (HC.out _).mono ?_
          rintro e w5 ⟨rfl, rfl⟩
          go_wp2_with fail
          go_ret2
          exact LiePost.no HL.out rfl hbe
  · obtain ⟨m, rfl⟩ := Int.eq_ofNat_of_zero_le (show 0 ≤ n by omega)
    have HL : Hid (P.lieLeaf (true, k) s.data.toList = if m / 256 ^ k = 0 then some ((P.le k m).map some) else none) := by
      unfold Hid P.lieLeaf; rw [if_pos rfl, HN.out]; simp
    have hm : m ≤ 10000000000 := by omega
    clear hneg hbd
    go_enter Try.func24, Try.ntmps24
    go_wp2_with fail
    refine (HC.out _).mono ?_
    rintro e w1 ⟨rfl, rfl⟩
    go_wp2_with fail
    go_loopw [6, 7, 8] (fun v x i wr => ∃ (q nn : Nat), q ≤ k ∧ i = .int .i64 q ∧ x = .int .i64 nn ∧ nn ≤ 10000000000 ∧ Hid (nn = m / 256 ^ q) ∧ wr.ownsRow (w.heap.size + 1) 3 1 v q ((P.le q m).map fun c => i64v (c.toNat : Int)) ∧ wr.heap[w.heap.size]? = some (.cells #[.int .u8 117, .int .i64 k, .int .i64 k, .slice none 0 0, .slice none 0 0] 33 (0, 0)) ∧ Below w.heap.size w wr) (fun _ _ i _ => k - (intOf i).toNat)
    case atStart => exact ⟨0, m, by omega, rfl, rfl, hm, by simp [Hid], World.ownsRow_nil _ _ _ _, heap_alloc_new w _, (Below.refl _ _).alloc (Nat.le_refl _) _⟩
    case round =>
      obtain ⟨q, nn, hq, rfl, rfl, hnn, HNN, hown, hbx, hbe⟩ := hrel
      obtain ⟨c0, c1, c2, c3, c4⟩ := cells5 hbx
      have hsz := hbe.size
      have hwl := blk_lt hbx
      by_cases hlt : q < k
      · have HLE : Hid ((P.le q m).map (fun c => i64v (c.toNat : Int)) ++ [.int .i64 ((nn : Int) % 256)] = (P.le (q + 1) m).map fun c => i64v (c.toNat : Int)) := by
          unfold Hid
          rw [P.le, List.map_append, ← HNN.out]
          congr 1
          simp [i64v]
        go_wp2_with (first
          | (at_builtin; refine wpList_append_lies _ rfl _ _ 31 rfl (w.heap.size + 1) 3 i1 (.int .i64 0) 1 8 Try.underlying31 hi1 hy0 hy1 hy2 rfl (by decide) u6 q ((P.le q m).map fun c => i64v (c.toNat : Int)) rfl (hown.alloc _) ⟨wr.heap.size, 0, none⟩ 1 1 [.int .i64 ((nn : Int) % 256)] rfl rfl (cell_one_new _ _ _) (fun x hx => by simp at hx; subst hx; rfl) (by omega) (by unfold maxLen; omega) (by omega) (by simp; omega) _ rfl ?_; intro g cap3 w3 hown' hgrow hat hlt3
             have hbx3 := grown_blk hown hgrow (Nat.lt_succ_self _) hbx
             have hbe3 := grown_below hbe hown hgrow (Nat.le_succ _)))
        rw [HLE.out] at hown'
        exact ⟨⟨q + 1, nn / 256, by omega, by go_num, by go_num, by omega, by unfold Hid; rw [HNN.out, Nat.div_div_eq_div_mul, Nat.pow_succ], hown', hbx3, hbe3⟩, by simp [intOf]; omega⟩
      · have hqe : q = k := by omega
        have HNN2 : Hid (nn = m / 256 ^ k) := by unfold Hid; rw [← hqe]; exact HNN.out
        have HOW : Hid (wr.ownsRow (w.heap.size + 1) 3 1 u6 k ((P.le k m).map fun c => i64v (c.toNat : Int))) := by
          rw [hqe] at hown; exact hown
        obtain ⟨a, N, cap, rfl⟩ := owns_form hown
        clear hqe hown
        by_cases hz : nn = 0
        · have hzb : ((nn : Int) == 0) = true := by rw [beq_iff_eq]; omega
          have HR : Hid (P.lieLeaf (true, k) s.data.toList = some ((P.le k m).map some)) := by
            unfold Hid; rw [HL.out, if_pos (by rw [← HNN2.out]; exact hz)]
          clear hz
          go_wp2_with fail
          refine (HC.out _).mono ?_
          rintro e w5 ⟨rfl, rfl⟩
          go_wp2_with fail
          go_ret2
          refine LiePost.yes HR.out rfl ?_ hbe
          have := own_base HOW.out (Nat.le_succ _)
          simpa [P.le_length, gapI, Function.comp_def] using this
        · have hzb : ((nn : Int) == 0) = false := by rw [beq_eq_false_iff_ne]; omega
          have HR : Hid (P.lieLeaf (true, k) s.data.toList = none) := by
            unfold Hid; rw [HL.out, if_neg (by rw [← HNN2.out]; exact hz)]
          clear hz
          go_wp2_with fail
          refine (HC.out _).mono ?_
          rintro e w5 ⟨rfl, rfl⟩
          go_wp2_with fail
          go_ret2
          exact LiePost.no HR.out rfl hbe
end Go.Proofs.Ytghggcehloiemab
namespace Go.Proofs.Ytghggcehloiemab
open Go.RowKit
set_option linter.unusedVariables false
set_option maxRecDepth 16000

theorem hexI_some {s : ByteArray} {i : Nat} (hi : i < s.size) {x : Nat} (h : P.hexv s[i] = some x) : hexAt s i = some x ∧ P.hexI s[i] = x ∧ x ≤ 15 := by
  refine ⟨by simp [hexAt, get_of hi, h], by simp [P.hexI, h], P.hexv_lt h⟩
theorem hexI_none {s : ByteArray} {i : Nat} (hi : i < s.size) (h : P.hexv s[i] = none) : hexAt s i = none ∧ P.hexI s[i] = -1 := by
  refine ⟨by simp [hexAt, get_of hi, h], by simp [P.hexI, h]⟩
theorem rhex_eq (c : UInt8) (w : World) {x : Int} (h : P.hexI c = x) : Calls Try.prog 41 #[.int .u8 c.toNat] w fun e w' => e = .returned (.int .i64 x) ∧ w' = w := by
  have := rhex_any c w; rw [h] at this; exact this

set_option maxHeartbeats 2000000 in
theorem lie_bytes (k : Nat) (s : ByteArray) (w : World) (hk : k ≤ 16) (hs : s.size ≤ maxLen) :
    Calls Try.prog 24 #[typV (false, k), .string s] w fun e w' => LiePost (P.lieLeaf (false, k) s.data.toList) w e w' := by
  obtain ⟨i1, hi1, hy0, hy1, hy2⟩ := info_parts Try.infoInt
  have hlen := tl_len s
  unfold typV
  simp only [P.lsz, Bool.false_eq_true, if_false]
  rw [show ((1 : Nat) : Int) = 1 from rfl]
  by_cases hl : s.size = 2 * k
  · have hnb : ((s.size : Int) != 2 * (k : Int)) = false := by rw [bne_eq_false_iff_eq]; omega
    have HL : Hid (P.lieLeaf (false, k) s.data.toList = (P.rdhex k s.data.toList).map (·.map some)) := by
      unfold Hid P.lieLeaf; simp [hl]
    have HS : Hid (s.size = 2 * k) := hl
    have hs32 : s.size ≤ 32 := by omega
    clear hl hlen
    go_enter Try.func24, Try.ntmps24
    go_wp2_with fail
    go_loopw [6, 9] (fun v i wr => ∃ (q p : Nat) (xs : List UInt8), q ≤ k ∧ p = 2 * q ∧ i = .int .i64 p ∧ Hid (xs.length = q ∧ P.rdhex k s.data.toList = (P.rdhex (k - q) (s.data.toList.drop p)).map (xs ++ ·)) ∧ wr.ownsRow (w.heap.size + 1) 3 1 v q (xs.map fun c => i64v (c.toNat : Int)) ∧ wr.heap[w.heap.size]? = some (.cells #[.int .u8 98, .int .i64 k, .int .i64 1, .slice none 0 0, .slice none 0 0] 33 (0, 0)) ∧ Below w.heap.size w wr) (fun _ i _ => s.size - (intOf i).toNat)
    case atStart => exact ⟨0, 0, [], by omega, rfl, rfl, ⟨rfl, by simp⟩, World.ownsRow_nil _ _ _ _, heap_alloc_new w _, (Below.refl _ _).alloc (Nat.le_refl _) _⟩
    case round =>
      obtain ⟨q, p, xs, hq, hp, rfl, HX, hown, hbx, hbe⟩ := hrel
      obtain ⟨c0, c1, c2, c3, c4⟩ := cells5 hbx
      have HP : Hid (p = 2 * q) := hp
      have hsz := hbe.size
      have hwl := blk_lt hbx
      by_cases hlt : p < s.size
      · have hlt1 : p + 1 < s.size := by have := HS.out; omega
        have hqk : q + 1 ≤ k := by have := HS.out; omega
        clear hp
        cases hv1 : P.hexv s[p] with
        | none =>
          obtain ⟨e1, e2⟩ := hexI_none hlt hv1
          have HR : Hid (P.lieLeaf (false, k) s.data.toList = none) := by
            unfold Hid; rw [HL.out, HX.out.2, show k - q = (k - (q + 1)) + 1 by omega, rdhex_no (Or.inl e1)]; rfl
          have H1 : Hid (P.hexI s[p] = -1) := e2
          clear hv1 e1 e2
          cases hv2 : P.hexv s[p + 1] with
          | none =>
            have H2 : Hid (P.hexI s[p + 1] = -1) := (hexI_none hlt1 hv2).2
            clear hv2
            go_wp2_with fail
            refine (rhex_eq _ _ H1.out).mono ?_
            rintro e w5 ⟨rfl, rfl⟩
            go_wp2_with fail
            refine (rhex_eq _ _ H2.out).mono ?_
            rintro e w6 ⟨rfl, rfl⟩
            go_wp2_with fail
            go_ret2
            exact LiePost.no HR.out rfl hbe
          | some y =>
            have H2 : Hid (P.hexI s[p + 1] = y) := (hexI_some hlt1 hv2).2.1
            clear hv2
            go_wp2_with fail
            refine (rhex_eq _ _ H1.out).mono ?_
            rintro e w5 ⟨rfl, rfl⟩
            go_wp2_with fail
            refine (rhex_eq _ _ H2.out).mono ?_
            rintro e w6 ⟨rfl, rfl⟩
            go_wp2_with fail
            go_ret2
            exact LiePost.no HR.out rfl hbe
        | some x =>
          obtain ⟨e1, e2, hx15⟩ := hexI_some hlt hv1
          have H1 : Hid (P.hexI s[p] = x) := e2
          have HA : Hid (hexAt s p = some x) := e1
          clear hv1 e1 e2
          cases hv2 : P.hexv s[p + 1] with
          | none =>
            obtain ⟨e1, e2⟩ := hexI_none hlt1 hv2
            have HR : Hid (P.lieLeaf (false, k) s.data.toList = none) := by
              unfold Hid; rw [HL.out, HX.out.2, show k - q = (k - (q + 1)) + 1 by omega, rdhex_no (Or.inr e1)]; rfl
            have H2 : Hid (P.hexI s[p + 1] = -1) := e2
            clear hv2 e1 e2
            go_wp2_with fail
            refine (rhex_eq _ _ H1.out).mono ?_
            rintro e w5 ⟨rfl, rfl⟩
            go_wp2_with fail
            refine (rhex_eq _ _ H2.out).mono ?_
            rintro e w6 ⟨rfl, rfl⟩
            go_wp2_with fail
            go_ret2
            exact LiePost.no HR.out rfl hbe
          | some y =>
            obtain ⟨e1, e2, hy15⟩ := hexI_some hlt1 hv2
            have H2 : Hid (P.hexI s[p + 1] = y) := e2
            have HE : Hid ((xs ++ [UInt8.ofNat (x * 16 + y)]).length = q + 1 ∧ P.rdhex k s.data.toList = (P.rdhex (k - (q + 1)) (s.data.toList.drop (p + 2))).map ((xs ++ [UInt8.ofNat (x * 16 + y)]) ++ ·)) := by
              refine ⟨by simp [HX.out.1], ?_⟩
              rw [HX.out.2, show k - q = (k - (q + 1)) + 1 by omega, rdhex_step HA.out e1]
              cases P.rdhex (k - (q + 1)) (s.data.toList.drop (p + 2)) <;> simp
            have HV : Hid (xs.map (fun c => i64v (c.toNat : Int)) ++ [.int .i64 (16 * (x : Int) + y)] = (xs ++ [UInt8.ofNat (x * 16 + y)]).map fun c => i64v (c.toNat : Int)) := by
              unfold Hid
              rw [List.map_append]
              congr 1
              simp [i64v]
              omega
            clear hv2 e1 e2
            go_wp2_with fail
            refine (rhex_eq _ _ H1.out).mono ?_
            rintro e w5 ⟨rfl, rfl⟩
            go_wp2_with fail
            refine (rhex_eq _ _ H2.out).mono ?_
            rintro e w6 ⟨rfl, rfl⟩
            go_wp2_with (first
              | (at_builtin; refine wpList_append_lies _ rfl _ _ 31 rfl (w.heap.size + 1) 3 i1 (.int .i64 0) 1 8 Try.underlying31 hi1 hy0 hy1 hy2 rfl (by decide) u6 q (xs.map fun c => i64v (c.toNat : Int)) rfl (hown.alloc _) ⟨w6.heap.size, 0, none⟩ 1 1 [.int .i64 (16 * (x : Int) + y)] rfl rfl (cell_one_new _ _ _) (fun x hx => by simp at hx; subst hx; rfl) (by omega) (by unfold maxLen; omega) (by omega) (by simp; omega) _ rfl ?_; intro g cap3 w3 hown' hgrow hat hlt3
                 have hbx3 := grown_blk hown hgrow (Nat.lt_succ_self _) hbx
                 have hbe3 := grown_below hbe hown hgrow (Nat.le_succ _)))
            rw [HV.out] at hown'
            exact ⟨⟨q + 1, p + 2, _, by omega, by have := HP.out; omega, by go_num, HE, hown', hbx3, hbe3⟩, by simp [intOf]; omega⟩
      · have hqe : q = k := by have := HS.out; omega
        have HR : Hid (P.lieLeaf (false, k) s.data.toList = some (xs.map some)) := by
          unfold Hid; rw [HL.out, HX.out.2, hqe, Nat.sub_self]; simp [P.rdhex]
        have hxl := HX.out.1
        have HOW : Hid (wr.ownsRow (w.heap.size + 1) 3 1 u6 xs.length (xs.map fun c => i64v (c.toNat : Int))) := by
          rw [hxl]; exact hown
        obtain ⟨a, N, cap, rfl⟩ := owns_form hown
        clear hqe hown hxl hp
        go_wp2_with fail
        go_ret2
        refine LiePost.yes HR.out rfl ?_ hbe
        have := own_base HOW.out (Nat.le_succ _)
        simpa [gapI, Function.comp_def] using this
  · have hnb : ((s.size : Int) != 2 * (k : Int)) = true := by rw [bne_iff_ne]; omega
    have HR : Hid (P.lieLeaf (false, k) s.data.toList = none) := by
      unfold Hid P.lieLeaf; simp [hl]
    clear hl
    go_enter Try.func24, Try.ntmps24
    go_wp2_with fail
    go_ret2
    exact LiePost.no HR.out rfl ((Below.refl _ _).alloc (Nat.le_refl _) _)
end Go.Proofs.Ytghggcehloiemab
