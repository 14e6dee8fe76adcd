import Derived.Test.YtghggcehloiemabGreatDoorNumberAll
import Derived.Test.YtghggcehloiemabGreatDoorPureAll
import Derived.Lib.IndexBytes
namespace Go.Proofs.YtghggcehloiemabGreatDoor
open Go.RowKit
set_option linter.unusedVariables false
set_option maxRecDepth 16000

namespace P
def rnum (l : List UInt8) : Int :=
  if l.length < 1 ∨ 10 < l.length ∨ (1 < l.length ∧ l.head? = some 48) then -1 else if l.all isDig = true then (val l : Int) else -1
theorem val_lt (l : List UInt8) (h : ∀ c ∈ l, isDig c = true) : val l < 10 ^ l.length := by
  have key : ∀ (l : List UInt8) (a : Nat), (∀ c ∈ l, isDig c = true) → l.foldl (fun n c => n * 10 + (c.toNat - 48)) a < (a + 1) * 10 ^ l.length := by
    intro l
    induction l with
    | nil => intro a _; simp
    | cons c l ih =>
      intro a h
      rw [List.foldl_cons]
      have hc := isDig_sub (h c (by simp))
      have := ih (a * 10 + (c.toNat - 48)) (fun d hd => h d (by simp [hd]))
      refine Nat.lt_of_lt_of_le this ?_
      rw [List.length_cons, Nat.pow_succ, Nat.mul_comm (10 ^ l.length) 10, ← Nat.mul_assoc]
      exact Nat.mul_le_mul_right _ (by omega)
  have := key l 0 h
  simpa [val] using this
theorem val_bd (l : List UInt8) (h : ∀ c ∈ l, isDig c = true) (hl : l.length ≤ 10) : val l < 10000000000 := by
  have h1 := val_lt l h
  have h2 : 10 ^ l.length ≤ 10 ^ 10 := Nat.pow_le_pow_right (by omega) hl
  omega
theorem up_least (e p q : Nat) (hp : 1 ≤ p) (he : e ≤ q) (hq : q % p = 0) : up e p ≤ q := by
  unfold up
  have hd := Nat.div_add_mod q p
  rw [hq, Nat.add_zero] at hd
  have h1 : (e + p - 1) / p < q / p + 1 := by
    rw [Nat.div_lt_iff_lt_mul (by omega)]
    rw [Nat.add_mul, Nat.mul_comm (q / p) p]
    omega
  have h2 : (e + p - 1) / p ≤ q / p := by omega
  refine Nat.le_trans (Nat.mul_le_mul_right _ h2) ?_
  rw [Nat.mul_comm, hd]; exact Nat.le_refl _
theorem up_mod (e p : Nat) : up e p % p = 0 := by unfold up; exact Nat.mul_mod_left _ _
end P

theorem ret_i64 {a b : Int} (h : a = b) : Ending.returned (.int .i64 a) = .returned (.int .i64 b) := by rw [h]

set_option maxHeartbeats 400000 in
theorem upTo_any (e p : Nat) (w : World) (he : e ≤ 100000) (hp1 : 1 ≤ p) (hp2 : p ≤ 16) :
    Calls Tryz.prog 146 #[.int .i64 e, .int .i64 p] w fun r w' => r = .returned (.int .i64 (P.up e p)) ∧ w' = w := by
  have hle := P.up_le e p hp1
  have hge := P.le_up e p hp1
  have hz : ((p : Int) == 0) = false := by rw [beq_eq_false_iff_ne]; omega
  go_enter Tryz.func146, Tryz.ntmps146
  go_wp2_with fail
  go_loop [0] (fun x => ∃ q : Nat, x = .int .i64 q ∧ e ≤ q ∧ q ≤ P.up e p) (fun x => P.up e p - (intOf x).toNat)
  case atStart => exact ⟨e, rfl, Nat.le_refl _, hge⟩
  case round =>
    obtain ⟨q, rfl, hq1, hq2⟩ := hrel
    by_cases hm : q % p = 0
    · have hmz : ((q : Int) % (p : Int) != 0) = false := by
        have : ((q : Int) % (p : Int)) = ((q % p : Nat) : Int) := by simp
        rw [this, hm]; rfl
      have HQ : Hid (P.up e p = q) := Nat.le_antisymm (P.up_least e p q hp1 hq1 hm) hq2
      clear hm
      go_wp2
      go_ret
      exact ⟨ret_i64 (by rw [HQ.out]), rfl⟩
    · have hmz : ((q : Int) % (p : Int) != 0) = true := by
        have : ((q : Int) % (p : Int)) = ((q % p : Nat) : Int) := by simp
        rw [this, bne_iff_ne]; omega
      have hlt : q < P.up e p := by
        rcases Nat.lt_or_ge q (P.up e p) with h | h
        · exact h
        · have : q = P.up e p := by omega
          exact absurd (by rw [this]; exact P.up_mod e p) hm
      clear hm
      go_wp2
      go_round
      case rel => exact ⟨q + 1, by go_num, by omega, by omega⟩
      case measure => simp [intOf]; omega

theorem rnum_bad {l : List UInt8} {k : Nat} {c : UInt8} (hr : P.rnum l = if l.all P.isDig = true then (P.val l : Int) else -1) (hg : l[k]? = some c) (hd : P.isDig c = false) : P.rnum l = -1 := by
  rw [hr, if_neg]
  intro h
  rw [List.all_eq_true] at h
  have := h c (List.mem_of_getElem? hg)
  rw [this] at hd; cases hd
theorem num_step {l : List UInt8} {k n : Nat} {c : UInt8} (hI : n = P.val (l.take k) ∧ ∀ c ∈ l.take k, P.isDig c = true) (hg : l[k]? = some c) (hd : P.isDig c = true) (hk : k + 1 ≤ 10) :
    (n * 10 + (c.toNat - 48) = P.val (l.take (k + 1)) ∧ ∀ c ∈ l.take (k + 1), P.isDig c = true) ∧ n * 10 + (c.toNat - 48) ≤ 10000000000 := by
  have e := P.take_next hg
  have hall : ∀ d ∈ l.take (k + 1), P.isDig d = true := by
    rw [e]
    intro d hdm
    rcases List.mem_append.1 hdm with h | h
    · exact hI.2 d h
    · simp at h; subst h; exact hd
  have hv : n * 10 + (c.toNat - 48) = P.val (l.take (k + 1)) := by rw [e, P.val_snoc, hI.1]
  refine ⟨⟨hv, hall⟩, ?_⟩
  rw [hv]
  exact Nat.le_of_lt (P.val_bd _ hall (by rw [List.length_take]; omega))

set_option maxHeartbeats 1000000 in
theorem rnumber_any (s : ByteArray) (w : World) (hs : s.size ≤ maxLen) :
    Calls Tryz.prog 169 #[.string s] w fun e w' => e = .returned (.int .i64 (P.rnum s.data.toList)) ∧ w' = w := by
  unfold maxLen at hs
  by_cases h0 : s.size < 1
  · have HR : Hid (P.rnum s.data.toList = -1) := by unfold Hid P.rnum; rw [if_pos (Or.inl (by simpa using h0))]
    go_enter Tryz.func169, Tryz.ntmps169
    go_wp2_with fail
    go_ret
    exact ⟨ret_i64 HR.out.symm, rfl⟩
  · by_cases h10 : 10 < s.size
    · have HR : Hid (P.rnum s.data.toList = -1) := by unfold Hid P.rnum; rw [if_pos (Or.inr (Or.inl (by simpa using h10)))]
      go_enter Tryz.func169, Tryz.ntmps169
      go_wp2_with fail
      go_ret
      exact ⟨ret_i64 HR.out.symm, rfl⟩
    · by_cases hlead : 1 < s.size ∧ s[0]'(by omega) = 48
      · have HR : Hid (P.rnum s.data.toList = -1) := by
          unfold Hid P.rnum
          have hx : s.data.toList.head? = some 48 := by rw [List.head?_eq_getElem?, get_of (by omega), hlead.2]
          rw [if_pos (Or.inr (Or.inr ⟨by simpa using hlead.1, hx⟩))]
        obtain ⟨h1, h2⟩ := hlead
        have hb : (((s[0]'(by omega)).toNat : Int) == 48) = true := by rw [h2]; rfl
        clear h2
        go_enter Tryz.func169, Tryz.ntmps169
        go_wp2_with fail
        go_ret
        exact ⟨ret_i64 HR.out.symm, rfl⟩
      · have hne : ¬ (s.data.toList.length < 1 ∨ 10 < s.data.toList.length ∨ (1 < s.data.toList.length ∧ s.data.toList.head? = some 48)) := by
          rintro (h | h | ⟨h, h'⟩)
          · exact h0 (by simpa using h)
          · exact h10 (by simpa using h)
          · apply hlead
            refine ⟨by simpa using h, ?_⟩
            rw [List.head?_eq_getElem?, get_of (by omega)] at h'
            simpa using h'
        have HR : Hid (P.rnum s.data.toList = if s.data.toList.all P.isDig = true then (P.val s.data.toList : Int) else -1) := by unfold Hid P.rnum; rw [if_neg hne]
        by_cases h1 : 1 < s.size
        · have hb : (((s[0]'(by omega)).toNat : Int) == 48) = false := by
            rw [beq_eq_false_iff_ne]
            intro h
            exact hlead ⟨h1, UInt8.toNat_inj.1 (by have : (s[0]'(by omega)).toNat = 48 := by omega
                                                   simpa using this)⟩
          clear hlead hne
          go_enter Tryz.func169, Tryz.ntmps169
          go_wp2_with fail
          go_loop [3, 4] (fun x i => ∃ k n : Nat, k ≤ s.size ∧ i = .int .i64 k ∧ x = .int .i64 n ∧ n ≤ 10000000000 ∧ Hid (n = P.val (s.data.toList.take k) ∧ ∀ c ∈ s.data.toList.take k, P.isDig c = true)) (fun _ i => s.size - (intOf i).toNat)
          case atStart => exact ⟨0, 0, Nat.zero_le _, rfl, rfl, by omega, rfl, by simp⟩
          case round =>
            obtain ⟨k, n, hk, rfl, rfl, hn, HI⟩ := hrel
            by_cases hlt : k < s.size
            · have hget := get_of hlt
              have HG : Hid (s.data.toList[k]? = some s[k]) := hget
              clear hget
              by_cases hlo : (s[k].toNat : Int) < 48
              · have HA : Hid (P.rnum s.data.toList = -1) := rnum_bad HR.out HG.out (by simp [P.isDig]; omega)
                go_wp2_with fail
                go_ret
                exact ⟨ret_i64 HA.out.symm, rfl⟩
              · by_cases hhi : (57 : Int) < (s[k].toNat : Int)
                · have HA : Hid (P.rnum s.data.toList = -1) := rnum_bad HR.out HG.out (by simp [P.isDig]; omega)
                  go_wp2_with fail
                  go_ret
                  exact ⟨ret_i64 HA.out.symm, rfl⟩
                · have hd : P.isDig s[k] = true := by simp [P.isDig]; omega
                  have hst := num_step HI.out HG.out hd (by omega)
                  have HS : Hid _ := hst
                  clear hst hd
                  go_wp2_with fail
                  refine ⟨⟨k + 1, n * 10 + (s[k].toNat - 48), by omega, by go_num, by go_num, HS.out.2, HS.out.1⟩, by simp [intOf]; omega⟩
            · have HA : Hid (P.rnum s.data.toList = n) := by
                have hke : k = s.data.toList.length := by simp; omega
                have hI := HI.out
                rw [hke, List.take_length] at hI
                unfold Hid
                rw [HR.out, if_pos (by rw [List.all_eq_true]; exact hI.2), hI.1]
              go_wp2_with fail
              go_ret
              exact ⟨ret_i64 HA.out.symm, rfl⟩
        · clear hlead hne
          go_enter Tryz.func169, Tryz.ntmps169
          go_wp2_with fail
          go_loop [3, 4] (fun x i => ∃ k n : Nat, k ≤ s.size ∧ i = .int .i64 k ∧ x = .int .i64 n ∧ n ≤ 10000000000 ∧ Hid (n = P.val (s.data.toList.take k) ∧ ∀ c ∈ s.data.toList.take k, P.isDig c = true)) (fun _ i => s.size - (intOf i).toNat)
          case atStart => exact ⟨0, 0, Nat.zero_le _, rfl, rfl, by omega, rfl, by simp⟩
          case round =>
            obtain ⟨k, n, hk, rfl, rfl, hn, HI⟩ := hrel
            by_cases hlt : k < s.size
            · have hget := get_of hlt
              have HG : Hid (s.data.toList[k]? = some s[k]) := hget
              clear hget
              by_cases hlo : (s[k].toNat : Int) < 48
              · have HA : Hid (P.rnum s.data.toList = -1) := rnum_bad HR.out HG.out (by simp [P.isDig]; omega)
                go_wp2_with fail
                go_ret
                exact ⟨ret_i64 HA.out.symm, rfl⟩
              · by_cases hhi : (57 : Int) < (s[k].toNat : Int)
                · have HA : Hid (P.rnum s.data.toList = -1) := rnum_bad HR.out HG.out (by simp [P.isDig]; omega)
                  go_wp2_with fail
                  go_ret
                  exact ⟨ret_i64 HA.out.symm, rfl⟩
                · have hd : P.isDig s[k] = true := by simp [P.isDig]; omega
                  have hst := num_step HI.out HG.out hd (by omega)
                  have HS : Hid _ := hst
                  clear hst hd
                  go_wp2_with fail
                  refine ⟨⟨k + 1, n * 10 + (s[k].toNat - 48), by omega, by go_num, by go_num, HS.out.2, HS.out.1⟩, by simp [intOf]; omega⟩
            · have HA : Hid (P.rnum s.data.toList = n) := by
                have hke : k = s.data.toList.length := by simp; omega
                have hI := HI.out
                rw [hke, List.take_length] at hI
                unfold Hid
                rw [HR.out, if_pos (by rw [List.all_eq_true]; exact hI.2), hI.1]
              go_wp2_with fail
              go_ret
              exact ⟨ret_i64 HA.out.symm, rfl⟩
end Go.Proofs.YtghggcehloiemabGreatDoor
namespace Go.Proofs.YtghggcehloiemabGreatDoor
open Go.RowKit
set_option linter.unusedVariables false
set_option maxRecDepth 16000

namespace P
def rleaf (l : List UInt8) : Option (Bool × Nat) := match l with
  | [] => none
  | c :: r => if c = 117 then (if rnum r = 1 ∨ rnum r = 2 ∨ rnum r = 4 then some (true, (rnum r).toNat) else none)
    else if c = 98 then (if 1 ≤ rnum r ∧ rnum r ≤ 16 then some (false, (rnum r).toNat) else none) else none
theorem rnum_bd (l : List UInt8) : -1 ≤ rnum l ∧ rnum l ≤ 10000000000 := by
  unfold rnum
  split
  · omega
  · rename_i h
    split
    · rename_i h2
      rw [List.all_eq_true] at h2
      have := val_bd l h2 (by omega)
      omega
    · omega
theorem rnum_nil : rnum [] = -1 := rfl
end P

def typV (l : Bool × Nat) : Value := .agg #[.int .u8 (if l.1 then 117 else 98), .int .i64 (P.lsz l).1, .int .i64 (P.lsz l).2, .slice none 0 0, .slice none 0 0]
def zeroTyp : Value := .agg #[.int .u8 0, .int .i64 0, .int .i64 0, .slice none 0 0, .slice none 0 0]

/-- What 'leaf' answers. -/
def LeafR (l : List UInt8) (w : World) (e : Ending) (w' : World) : Prop :=
  (match P.rleaf l with
    | some x => e = .returned (.tuple #[typV x, .bool true])
    | none => e = .returned (.tuple #[zeroTyp, .bool false])) ∧ Below w.heap.size w w'
theorem LeafR.no {l : List UInt8} {w w' : World} {e : Ending} (h : P.rleaf l = none) (he : e = .returned (.tuple #[zeroTyp, .bool false])) (hb : Below w.heap.size w w') : LeafR l w e w' := by
  unfold LeafR; rw [h]; exact ⟨he, hb⟩
theorem LeafR.yes {l : List UInt8} {w w' : World} {e : Ending} {x : Bool × Nat} (h : P.rleaf l = some x) (he : e = .returned (.tuple #[typV x, .bool true])) (hb : Below w.heap.size w w') : LeafR l w e w' := by
  unfold LeafR; rw [h]; exact ⟨he, hb⟩

theorem tl_len (s : ByteArray) : s.data.toList.length = s.size := by simp
theorem u8_of {c k : UInt8} (h : (c.toNat : Int) = (k.toNat : Int)) : c = k := UInt8.toNat_inj.1 (by omega)
theorem tail_of {s : ByteArray} (h : 1 ≤ s.size) : (s.extract 1 s.size).data.toList = s.data.toList.drop 1 := by
  have h2 : (s.extract 1 s.size).data.toList = (s.data.toList.drop 1).take (s.size - 1) := by simp [ByteArray.data_extract]
  rw [h2, List.take_of_length_le]
  simp
theorem list_split {s : ByteArray} (h : 1 ≤ s.size) : s.data.toList = s[0]'(by omega) :: s.data.toList.drop 1 := by
  have hl : 0 < s.data.toList.length := by have := tl_len s; omega
  have := List.drop_eq_getElem_cons (l := s.data.toList) (i := 0) hl
  rw [List.drop_zero] at this
  exact this

set_option maxHeartbeats 1000000 in
theorem rleaf_any (s : ByteArray) (w : World) (hs : s.size ≤ maxLen) :
    Calls Tryz.prog 144 #[.string s] w fun e w' => LeafR s.data.toList w e w' := by
  have hs' := hs
  unfold maxLen at hs
  by_cases h2 : s.size < 2
  · have HR : Hid (P.rleaf s.data.toList = none) := by
      unfold Hid
      rcases Nat.lt_or_ge s.size 1 with h | h
      · have : s.data.toList = [] := List.eq_nil_of_length_eq_zero (by have := tl_len s; omega)
        rw [this]; rfl
      · rw [list_split h, List.drop_eq_nil_of_le (by simp; omega)]
        simp [P.rleaf, P.rnum_nil]
    go_enter Tryz.func144, Tryz.ntmps144
    go_wp2_with fail
    refine bodyPost_ret (v := .tuple #[zeroTyp, .bool false]) (by simp [results, Tryz.results144, go_sem, zeroTyp]) rfl ?_
    exact LeafR.no HR.out rfl ((Below.refl _ _).alloc (Nat.le_refl _) _)
  · have hsp := list_split (s := s) (by omega)
    have htl := tail_of (s := s) (by omega)
    obtain ⟨c, hc⟩ : ∃ c, s[0]'(by omega) = c := ⟨_, rfl⟩
    obtain ⟨n, hn⟩ : ∃ n, P.rnum (s.data.toList.drop 1) = n := ⟨_, rfl⟩
    have hbd := P.rnum_bd (s.data.toList.drop 1)
    rw [hn] at hbd
    have HL : Hid (P.rleaf s.data.toList = if c = 117 then (if n = 1 ∨ n = 2 ∨ n = 4 then some (true, n.toNat) else none) else if c = 98 then (if 1 ≤ n ∧ n ≤ 16 then some (false, n.toNat) else none) else none) := by
      unfold Hid; rw [hsp, hc]; simp only [P.rleaf, hn]
    have HC : Hid (P.rnum (s.extract 1 s.size).data.toList = n) := by unfold Hid; rw [htl]; exact hn
    have hc0 : ((s[0]'(by omega)).toNat : Int) = (c.toNat : Int) := by rw [hc]
    clear hn htl hsp hc
    obtain ⟨hb1, hb2⟩ := hbd
    go_enter Tryz.func144, Tryz.ntmps144
    go_wp2_with fail
    refine (rnumber_any _ _ (by simp; unfold maxLen; omega)).mono ?_
    rintro e w1 ⟨rfl, rfl⟩
    rw [HC.out]
    by_cases hu : c = 117
    · subst hu
      have hc1 : ((s[0]'(by omega)).toNat : Int) = 117 := hc0
      have hq : (((s[0]'(by omega)).toNat : Int) == 117) = true := by rw [hc1]; rfl
      have hq2 : (((s[0]'(by omega)).toNat : Int) == 98) = false := by rw [hc1]; rfl
      clear hc0 hc1
      by_cases hv : n = 1 ∨ n = 2 ∨ n = 4
      · have HY := HL.out
        rw [if_pos rfl, if_pos hv] at HY
        have HY' : Hid _ := HY
        clear HY HL
        have HV : Hid (.agg #[.int .u8 117, .int .i64 n, .int .i64 n, .slice none 0 0, .slice none 0 0] = typV (true, n.toNat)) := by
          have e : ((n.toNat : Nat) : Int) = n := by omega
          simp only [Hid, typV, P.lsz, if_true, e]
        by_cases h1 : n = 1
        · have k1 : (n == 1) = true := beq_iff_eq.2 h1
          clear hv h1
          go_wp2_with fail
          refine bodyPost_ret (v := .tuple #[.agg #[.int .u8 117, .int .i64 n, .int .i64 n, .slice none 0 0, .slice none 0 0], .bool true]) (by simp [results, Tryz.results144, go_sem]) rfl ?_
          exact LeafR.yes HY'.out (by rw [HV.out]) ((Below.refl _ _).alloc (Nat.le_refl _) _)
        · have k1 : (n == 1) = false := beq_eq_false_iff_ne.2 h1
          by_cases h2 : n = 2
          · have k2 : (n == 2) = true := beq_iff_eq.2 h2
            clear hv h1 h2
            go_wp2_with fail
            refine bodyPost_ret (v := .tuple #[.agg #[.int .u8 117, .int .i64 n, .int .i64 n, .slice none 0 0, .slice none 0 0], .bool true]) (by simp [results, Tryz.results144, go_sem]) rfl ?_
            exact LeafR.yes HY'.out (by rw [HV.out]) ((Below.refl _ _).alloc (Nat.le_refl _) _)
          · have k2 : (n == 2) = false := beq_eq_false_iff_ne.2 h2
            have k4 : (n == 4) = true := beq_iff_eq.2 (by omega)
            clear hv h1 h2
            go_wp2_with fail
            refine bodyPost_ret (v := .tuple #[.agg #[.int .u8 117, .int .i64 n, .int .i64 n, .slice none 0 0, .slice none 0 0], .bool true]) (by simp [results, Tryz.results144, go_sem]) rfl ?_
            exact LeafR.yes HY'.out (by rw [HV.out]) ((Below.refl _ _).alloc (Nat.le_refl _) _)
      · have HY := HL.out
        rw [if_pos rfl, if_neg hv] at HY
        have HY' : Hid _ := HY
        clear HY HL
        have k1 : (n == 1) = false := beq_eq_false_iff_ne.2 (by omega)
        have k2 : (n == 2) = false := beq_eq_false_iff_ne.2 (by omega)
        have k4 : (n == 4) = false := beq_eq_false_iff_ne.2 (by omega)
        clear hv
        go_wp2_with fail
        refine bodyPost_ret (v := .tuple #[zeroTyp, .bool false]) (by simp [results, Tryz.results144, go_sem, zeroTyp]) rfl ?_
        exact LeafR.no HY'.out rfl ((Below.refl _ _).alloc (Nat.le_refl _) _)
    · have hne : ((s[0]'(by omega)).toNat : Int) ≠ 117 := by
        rw [hc0]; intro h; exact hu (u8_of (k := 117) h)
      have hq : (((s[0]'(by omega)).toNat : Int) == 117) = false := beq_eq_false_iff_ne.2 hne
      clear hne
      by_cases hb : c = 98
      · subst hb
        have hc1 : ((s[0]'(by omega)).toNat : Int) = 98 := hc0
        have hq2 : (((s[0]'(by omega)).toNat : Int) == 98) = true := by rw [hc1]; rfl
        clear hc0 hc1
        by_cases hv : 1 ≤ n ∧ n ≤ 16
        · have HY := HL.out
          rw [if_neg hu, if_pos rfl, if_pos hv] at HY
          have HY' : Hid _ := HY
          have HV : Hid (.agg #[.int .u8 98, .int .i64 n, .int .i64 1, .slice none 0 0, .slice none 0 0] = typV (false, n.toNat)) := by
            have e : ((n.toNat : Nat) : Int) = n := by omega
            simp only [Hid, typV, P.lsz, Bool.false_eq_true, if_false, e]; rfl
          clear HY HL
          obtain ⟨hv1, hv2⟩ := hv
          go_wp2_with fail
          refine bodyPost_ret (v := .tuple #[.agg #[.int .u8 98, .int .i64 n, .int .i64 1, .slice none 0 0, .slice none 0 0], .bool true]) (by simp [results, Tryz.results144, go_sem]) rfl ?_
          exact LeafR.yes HY'.out (by rw [HV.out]) ((Below.refl _ _).alloc (Nat.le_refl _) _)
        · have HY := HL.out
          rw [if_neg hu, if_pos rfl, if_neg hv] at HY
          have HY' : Hid _ := HY
          clear HY HL
          by_cases hv1 : 1 ≤ n
          · have hv2 : ¬ n ≤ 16 := fun h => hv ⟨hv1, h⟩
            clear hv
            go_wp2_with fail
            refine bodyPost_ret (v := .tuple #[zeroTyp, .bool false]) (by simp [results, Tryz.results144, go_sem, zeroTyp]) rfl ?_
            exact LeafR.no HY'.out rfl ((Below.refl _ _).alloc (Nat.le_refl _) _)
          · clear hv
            go_wp2_with fail
            refine bodyPost_ret (v := .tuple #[zeroTyp, .bool false]) (by simp [results, Tryz.results144, go_sem, zeroTyp]) rfl ?_
            exact LeafR.no HY'.out rfl ((Below.refl _ _).alloc (Nat.le_refl _) _)
      · have hne : ((s[0]'(by omega)).toNat : Int) ≠ 98 := by
          rw [hc0]; intro h; exact hb (u8_of (k := 98) h)
        have hq2 : (((s[0]'(by omega)).toNat : Int) == 98) = false := beq_eq_false_iff_ne.2 hne
        have HY := HL.out
        rw [if_neg hu, if_neg hb] at HY
        have HY' : Hid _ := HY
        clear HY HL hne hc0
        go_wp2_with fail
        refine bodyPost_ret (v := .tuple #[zeroTyp, .bool false]) (by simp [results, Tryz.results144, go_sem, zeroTyp]) rfl ?_
        exact LeafR.no HY'.out rfl ((Below.refl _ _).alloc (Nat.le_refl _) _)
end Go.Proofs.YtghggcehloiemabGreatDoor
