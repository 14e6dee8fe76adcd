import Derived.Test.YtghggcehloiemaaRefStruct
import Derived.Test.YtghggcehloiemaaHex
import Derived.Test.YtghggcehloiemaaWriter2
namespace Go.Proofs.Ytghggcehloiemaa
open Go.RowKit
set_option linter.unusedVariables false
set_option maxRecDepth 16000

namespace P
def padTo (L : List (Option UInt8)) (n : Nat) : List (Option UInt8) := L ++ List.replicate (n - L.length) none
def lieF : List (Option (List (Option UInt8)) × Nat) → List (Option UInt8) → Option (List (Option UInt8))
  | [], L => some L
  | (x, p) :: r, L => match x with
    | none => none
    | some y => lieF r (padTo L p ++ y)
def lieLeaf (l : Bool × Nat) (s : List UInt8) : Option (List (Option UInt8)) :=
  if l.1 = true then (if 0 ≤ rnum s ∧ (rnum s).toNat / 256 ^ l.2 = 0 then some ((le l.2 (rnum s).toNat).map some) else none)
  else (if s.length = 2 * l.2 then (rdhex l.2 s).map (·.map some) else none)
def lieP : (n : Nat) → Ty n → List UInt8 → Option (List (Option UInt8))
  | 0, l, s => lieLeaf l s
  | _ + 1, .inl l, s => lieLeaf l s
  | n + 1, .inr ts, s => match cut s with
    | none => none
    | some ps => if ps.length = ts.length then (lieF (List.zip (List.zipWith (lieP n) ts ps) (places (0, 1) (ts.map (sz n)))) []).map (fun L => padTo L (sz (n + 1) (.inr ts)).1) else none
def tbl : List UInt8 := [48, 49, 50, 51, 52, 53, 54, 55, 56, 57, 97, 98, 99, 100, 101, 102]
def hexI (c : UInt8) : Int := match hexv c with
  | some d => (d : Int)
  | none => -1
theorem tbl_hit (c : UInt8) : ∀ k, tbl[k]? = some c → hexv c = some k := by
  intro k h
  have hk : k < 16 := (List.getElem?_eq_some_iff.1 h).1
  match k, hk with
  | 0, _ | 1, _ | 2, _ | 3, _ | 4, _ | 5, _ | 6, _ | 7, _ | 8, _ | 9, _ | 10, _ | 11, _ | 12, _ | 13, _ | 14, _ | 15, _ => simp [tbl] at h; subst h; rfl
theorem tbl_miss (c : UInt8) (h : ∀ k, k < 16 → tbl[k]? ≠ some c) : hexv c = none := by
  unfold hexv
  have hne : ∀ k x, tbl[k]? = some x → k < 16 → c ≠ x := fun k x hx hk e => h k hk (by rw [e]; exact hx)
  rw [if_neg, if_neg]
  · rintro ⟨h1, h2⟩
    have : c.toNat = 97 ∨ c.toNat = 98 ∨ c.toNat = 99 ∨ c.toNat = 100 ∨ c.toNat = 101 ∨ c.toNat = 102 := by omega
    rcases this with e | e | e | e | e | e
    · exact hne 10 97 rfl (by omega) (UInt8.toNat_inj.1 (by simpa using e))
    · exact hne 11 98 rfl (by omega) (UInt8.toNat_inj.1 (by simpa using e))
    · exact hne 12 99 rfl (by omega) (UInt8.toNat_inj.1 (by simpa using e))
    · exact hne 13 100 rfl (by omega) (UInt8.toNat_inj.1 (by simpa using e))
    · exact hne 14 101 rfl (by omega) (UInt8.toNat_inj.1 (by simpa using e))
    · exact hne 15 102 rfl (by omega) (UInt8.toNat_inj.1 (by simpa using e))
  · rintro ⟨h1, h2⟩
    have : c.toNat = 48 ∨ c.toNat = 49 ∨ c.toNat = 50 ∨ c.toNat = 51 ∨ c.toNat = 52 ∨ c.toNat = 53 ∨ c.toNat = 54 ∨ c.toNat = 55 ∨ c.toNat = 56 ∨ c.toNat = 57 := by omega
    rcases this with e | e | e | e | e | e | e | e | e | e
    · exact hne 0 48 rfl (by omega) (UInt8.toNat_inj.1 (by simpa using e))
    · exact hne 1 49 rfl (by omega) (UInt8.toNat_inj.1 (by simpa using e))
    · exact hne 2 50 rfl (by omega) (UInt8.toNat_inj.1 (by simpa using e))
    · exact hne 3 51 rfl (by omega) (UInt8.toNat_inj.1 (by simpa using e))
    · exact hne 4 52 rfl (by omega) (UInt8.toNat_inj.1 (by simpa using e))
    · exact hne 5 53 rfl (by omega) (UInt8.toNat_inj.1 (by simpa using e))
    · exact hne 6 54 rfl (by omega) (UInt8.toNat_inj.1 (by simpa using e))
    · exact hne 7 55 rfl (by omega) (UInt8.toNat_inj.1 (by simpa using e))
    · exact hne 8 56 rfl (by omega) (UInt8.toNat_inj.1 (by simpa using e))
    · exact hne 9 57 rfl (by omega) (UInt8.toNat_inj.1 (by simpa using e))
end P

set_option maxHeartbeats 1000000 in
theorem rhex_any (c : UInt8) (w : World) :
    Calls Try.prog 80 #[.int .u8 c.toNat] w fun e w' => e = .returned (.int .i64 (P.hexI c)) ∧ w' = w := by
  go_enter Try.func80, Try.ntmps80
  go_wp2_with fail
  go_loop [3] (fun i => ∃ k : Nat, k ≤ 16 ∧ i = .int .i64 k ∧ Hid (∀ j, j < k → P.tbl[j]? ≠ some c)) (fun i => 16 - (intOf i).toNat)
  case atStart => exact ⟨0, by omega, rfl, fun j hj => by omega⟩
  case round =>
    obtain ⟨k, hk, rfl, HK⟩ := hrel
    by_cases hlt : k < 16
    · go_wp2_with fail
      · have h1 := ‹(_ == (c.toNat : Int)) = true›
        rw [beq_iff_eq] at h1
        have hc := u8_of h1
        have ht : P.tbl[k]? = some c := by
          rw [← hc]; exact get_of (s := ⟨#[48, 49, 50, 51, 52, 53, 54, 55, 56, 57, 97, 98, 99, 100, 101, 102]⟩) (i := k) hlt
        go_ret
        exact ⟨ret_i64 (by simp [P.hexI, P.tbl_hit c k ht]), rfl⟩
      · have h1 := ‹(_ == (c.toNat : Int)) = false›
        rw [beq_eq_false_iff_ne] at h1
        refine ⟨⟨k + 1, by omega, by go_num, ?_⟩, by simp [intOf]; omega⟩
        intro j hj
        rcases Nat.lt_or_ge j k with h | h
        · exact HK.out j h
        · have hjk : j = k := by omega
          subst hjk
          intro e
          have hg := get_of (s := ⟨#[48, 49, 50, 51, 52, 53, 54, 55, 56, 57, 97, 98, 99, 100, 101, 102]⟩) (i := j) hlt
          have hg' : P.tbl[j]? = _ := hg
          rw [hg'] at e
          exact h1 (by rw [Option.some.inj e])
    · have HE : Hid (P.hexI c = -1) := by
        unfold Hid P.hexI; rw [P.tbl_miss c (fun j hj => HK.out j (by omega))]
      go_wp2_with fail
      go_ret
      exact ⟨by rw [HE.out]; rfl, rfl⟩
end Go.Proofs.Ytghggcehloiemaa
