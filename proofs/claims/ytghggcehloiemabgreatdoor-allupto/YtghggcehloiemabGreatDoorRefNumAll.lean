import Derived.Test.YtghggcehloiemabGreatDoorPrOAll
import Derived.Lib.IndexBytes
import Derived.Deep.AppendLies
namespace Go.Proofs.YtghggcehloiemabGreatDoor
open Go.RowKit
set_option linter.unusedVariables false
set_option maxRecDepth 16000

namespace P
def rnum (l : List UInt8) : Int :=
  if l.length < 1 ∨ 10 < l.length ∨ (1 < l.length ∧ l.head? = some 48) then -1 else if l.all isDig = true then (val l : Int) else -1
theorem val_lt (l : List UInt8) (h : ∀ c ∈ l, isDig c = true) : val l < 10 ^ l.length := by
  have key : ∀ (l : List UInt8) (a : Nat), (∀ c ∈ l, isDig c = true) → l.foldl (fun n c => n * 10 + (c.toNat - 48)) a < (a + 1) * 10 ^ l.length := by
    intro l
    induction l with
    | nil => intro a _; simp
    | cons c l ih =>
      intro a h
      rw [List.foldl_cons]
      have hc := isDig_sub (h c (by simp))
      have := ih (a * 10 + (c.toNat - 48)) (fun d hd => h d (by simp [hd]))
      refine Nat.lt_of_lt_of_le this ?_
      rw [List.length_cons, Nat.pow_succ, Nat.mul_comm (10 ^ l.length) 10, ← Nat.mul_assoc]
      exact Nat.mul_le_mul_right _ (by omega)
  have := key l 0 h
  simpa [val] using this
theorem val_bd (l : List UInt8) (h : ∀ c ∈ l, isDig c = true) (hl : l.length ≤ 10) : val l < 10000000000 := by
  have h1 := val_lt l h
  have h2 : 10 ^ l.length ≤ 10 ^ 10 := Nat.pow_le_pow_right (by omega) hl
  omega
theorem up_least (e p q : Nat) (hp : 1 ≤ p) (he : e ≤ q) (hq : q % p = 0) : up e p ≤ q := by
  unfold up
  have hd := Nat.div_add_mod q p
  rw [hq, Nat.add_zero] at hd
  have h1 : (e + p - 1) / p < q / p + 1 := by
    rw [Nat.div_lt_iff_lt_mul (by omega)]
    rw [Nat.add_mul, Nat.mul_comm (q / p) p]
    omega
  have h2 : (e + p - 1) / p ≤ q / p := by omega
  refine Nat.le_trans (Nat.mul_le_mul_right _ h2) ?_
  rw [Nat.mul_comm, hd]; exact Nat.le_refl _
theorem up_mod (e p : Nat) : up e p % p = 0 := by unfold up; exact Nat.mul_mod_left _ _
end P

theorem ret_i64 {a b : Int} (h : a = b) : Ending.returned (.int .i64 a) = .returned (.int .i64 b) := by rw [h]

set_option maxHeartbeats 400000 in
theorem upTo_any (e p : Nat) (w : World) (he : e ≤ 100000) (hp1 : 1 ≤ p) (hp2 : p ≤ 16) :
    Calls Tryz.prog 146 #[.int .i64 e, .int .i64 p] w fun r w' => r = .returned (.int .i64 (P.up e p)) ∧ w' = w := by
  have hle := P.up_le e p hp1
  have hge := P.le_up e p hp1
  have hz : ((p : Int) == 0) = false := by rw [beq_eq_false_iff_ne]; omega
  go_enter Tryz.func146, Tryz.ntmps146
  go_wp2_with fail
  go_loop [0] (fun x => ∃ q : Nat, x = .int .i64 q ∧ e ≤ q ∧ q ≤ P.up e p) (fun x => P.up e p - (intOf x).toNat)
  case atStart => exact ⟨e, rfl, Nat.le_refl _, hge⟩
  case round =>
    obtain ⟨q, rfl, hq1, hq2⟩ := hrel
    by_cases hm : q % p = 0
    · have hmz : ((q : Int) % (p : Int) != 0) = false := by
        have : ((q : Int) % (p : Int)) = ((q % p : Nat) : Int) := by simp
        rw [this, hm]; rfl
      have HQ : Hid (P.up e p = q) := Nat.le_antisymm (P.up_least e p q hp1 hq1 hm) hq2
      clear hm
      go_wp2
      go_ret
      exact ⟨ret_i64 (by rw [HQ.out]), rfl⟩
    · have hmz : ((q : Int) % (p : Int) != 0) = true := by
        have : ((q : Int) % (p : Int)) = ((q % p : Nat) : Int) := by simp
        rw [this, bne_iff_ne]; omega
      have hlt : q < P.up e p := by
        rcases Nat.lt_or_ge q (P.up e p) with h | h
        · exact h
        · have : q = P.up e p := by omega
          exact absurd (by rw [this]; exact P.up_mod e p) hm
      clear hm
      go_wp2
      go_round
      case rel => exact ⟨q + 1, by go_num, by omega, by omega⟩
      case measure => simp [intOf]; omega

theorem rnum_bad {l : List UInt8} {k : Nat} {c : UInt8} (hr : P.rnum l = if l.all P.isDig = true then (P.val l : Int) else -1) (hg : l[k]? = some c) (hd : P.isDig c = false) : P.rnum l = -1 := by
  rw [hr, if_neg]
  intro h
  rw [List.all_eq_true] at h
  have := h c (List.mem_of_getElem? hg)
  rw [this] at hd; cases hd
theorem num_step {l : List UInt8} {k n : Nat} {c : UInt8} (hI : n = P.val (l.take k) ∧ ∀ c ∈ l.take k, P.isDig c = true) (hg : l[k]? = some c) (hd : P.isDig c = true) (hk : k + 1 ≤ 10) :
    (n * 10 + (c.toNat - 48) = P.val (l.take (k + 1)) ∧ ∀ c ∈ l.take (k + 1), P.isDig c = true) ∧ n * 10 + (c.toNat - 48) ≤ 10000000000 := by
  have e := P.take_next hg
  have hall : ∀ d ∈ l.take (k + 1), P.isDig d = true := by
    rw [e]
    intro d hdm
    rcases List.mem_append.1 hdm with h | h
    · exact hI.2 d h
    · simp at h; subst h; exact hd
  have hv : n * 10 + (c.toNat - 48) = P.val (l.take (k + 1)) := by rw [e, P.val_snoc, hI.1]
  refine ⟨⟨hv, hall⟩, ?_⟩
  rw [hv]
  exact Nat.le_of_lt (P.val_bd _ hall (by rw [List.length_take]; omega))

set_option maxHeartbeats 1000000 in
theorem rnumber_any (s : ByteArray) (w : World) (hs : s.size ≤ maxLen) :
    Calls Tryz.prog 169 #[.string s] w fun e w' => e = .returned (.int .i64 (P.rnum s.data.toList)) ∧ w' = w := by
  unfold maxLen at hs
  by_cases h0 : s.size < 1
  · have HR : Hid (P.rnum s.data.toList = -1) := by unfold Hid P.rnum; rw [if_pos (Or.inl (by simpa using h0))]
    go_enter Tryz.func169, Tryz.ntmps169
    go_wp2_with fail
    go_ret
    exact ⟨ret_i64 HR.out.symm, rfl⟩
  · by_cases h10 : 10 < s.size
    · have HR : Hid (P.rnum s.data.toList = -1) := by unfold Hid P.rnum; rw [if_pos (Or.inr (Or.inl (by simpa using h10)))]
      go_enter Tryz.func169, Tryz.ntmps169
      go_wp2_with fail
      go_ret
      exact ⟨ret_i64 HR.out.symm, rfl⟩
    · by_cases hlead : 1 < s.size ∧ s[0]'(by omega) = 48
      · have HR : Hid (P.rnum s.data.toList = -1) := by
          unfold Hid P.rnum
          have hx : s.data.toList.head? = some 48 := by rw [List.head?_eq_getElem?, get_of (by omega), hlead.2]
          rw [if_pos (Or.inr (Or.inr ⟨by simpa using hlead.1, hx⟩))]
        obtain ⟨h1, h2⟩ := hlead
        have hb : (((s[0]'(by omega)).toNat : Int) == 48) = true := by rw [h2]; rfl
        clear h2
        go_enter Tryz.func169, Tryz.ntmps169
        go_wp2_with fail
        go_ret
        exact ⟨ret_i64 HR.out.symm, rfl⟩
      · have hne : ¬ (s.data.toList.length < 1 ∨ 10 < s.data.toList.length ∨ (1 < s.data.toList.length ∧ s.data.toList.head? = some 48)) := by
          rintro (h | h | ⟨h, h'⟩)
          · exact h0 (by simpa using h)
          · exact h10 (by simpa using h)
          · apply hlead
            refine ⟨by simpa using h, ?_⟩
            rw [List.head?_eq_getElem?, get_of (by omega)] at h'
            simpa using h'
        have HR : Hid (P.rnum s.data.toList = if s.data.toList.all P.isDig = true then (P.val s.data.toList : Int) else -1) := by unfold Hid P.rnum; rw [if_neg hne]
        by_cases h1 : 1 < s.size
        · have hb : (((s[0]'(by omega)).toNat : Int) == 48) = false := by
            rw [beq_eq_false_iff_ne]
            intro h
            exact hlead ⟨h1, UInt8.toNat_inj.1 (by have : (s[0]'(by omega)).toNat = 48 := by omega
                                                   simpa using this)⟩
          clear hlead hne
          go_enter Tryz.func169, Tryz.ntmps169
          go_wp2_with fail
          go_loop [3, 4] (fun x i => ∃ k n : Nat, k ≤ s.size ∧ i = .int .i64 k ∧ x = .int .i64 n ∧ n ≤ 10000000000 ∧ Hid (n = P.val (s.data.toList.take k) ∧ ∀ c ∈ s.data.toList.take k, P.isDig c = true)) (fun _ i => s.size - (intOf i).toNat)
          case atStart => exact ⟨0, 0, Nat.zero_le _, rfl, rfl, by omega, rfl, by simp⟩
          case round =>
            obtain ⟨k, n, hk, rfl, rfl, hn, HI⟩ := hrel
            by_cases hlt : k < s.size
            · have hget := get_of hlt
              have HG : Hid (s.data.toList[k]? = some s[k]) := hget
              clear hget
              by_cases hlo : (s[k].toNat : Int) < 48
              · have HA : Hid (P.rnum s.data.toList = -1) := rnum_bad HR.out HG.out (by simp [P.isDig]; omega)
                go_wp2_with fail
                go_ret
                exact ⟨ret_i64 HA.out.symm, rfl⟩
              · by_cases hhi : (57 : Int) < (s[k].toNat : Int)
                · have HA : Hid (P.rnum s.data.toList = -1) := rnum_bad HR.out HG.out (by simp [P.isDig]; omega)
                  go_wp2_with fail
                  go_ret
                  exact ⟨ret_i64 HA.out.symm, rfl⟩
                · have hd : P.isDig s[k] = true := by simp [P.isDig]; omega
                  have hst := num_step HI.out HG.out hd (by omega)
                  have HS : Hid _ := hst
                  clear hst hd
                  go_wp2_with fail
                  refine ⟨⟨k + 1, n * 10 + (s[k].toNat - 48), by omega, by go_num, by go_num, HS.out.2, HS.out.1⟩, by simp [intOf]; omega⟩
            · have HA : Hid (P.rnum s.data.toList = n) := by
                have hke : k = s.data.toList.length := by simp; omega
                have hI := HI.out
                rw [hke, List.take_length] at hI
                unfold Hid
                rw [HR.out, if_pos (by rw [List.all_eq_true]; exact hI.2), hI.1]
              go_wp2_with fail
              go_ret
              exact ⟨ret_i64 HA.out.symm, rfl⟩
        · clear hlead hne
          go_enter Tryz.func169, Tryz.ntmps169
          go_wp2_with fail
          go_loop [3, 4] (fun x i => ∃ k n : Nat, k ≤ s.size ∧ i = .int .i64 k ∧ x = .int .i64 n ∧ n ≤ 10000000000 ∧ Hid (n = P.val (s.data.toList.take k) ∧ ∀ c ∈ s.data.toList.take k, P.isDig c = true)) (fun _ i => s.size - (intOf i).toNat)
          case atStart => exact ⟨0, 0, Nat.zero_le _, rfl, rfl, by omega, rfl, by simp⟩
          case round =>
            obtain ⟨k, n, hk, rfl, rfl, hn, HI⟩ := hrel
            by_cases hlt : k < s.size
            · have hget := get_of hlt
              have HG : Hid (s.data.toList[k]? = some s[k]) := hget
              clear hget
              by_cases hlo : (s[k].toNat : Int) < 48
              · have HA : Hid (P.rnum s.data.toList = -1) := rnum_bad HR.out HG.out (by simp [P.isDig]; omega)
                go_wp2_with fail
                go_ret
                exact ⟨ret_i64 HA.out.symm, rfl⟩
              · by_cases hhi : (57 : Int) < (s[k].toNat : Int)
                · have HA : Hid (P.rnum s.data.toList = -1) := rnum_bad HR.out HG.out (by simp [P.isDig]; omega)
                  go_wp2_with fail
                  go_ret
                  exact ⟨ret_i64 HA.out.symm, rfl⟩
                · have hd : P.isDig s[k] = true := by simp [P.isDig]; omega
                  have hst := num_step HI.out HG.out hd (by omega)
                  have HS : Hid _ := hst
                  clear hst hd
                  go_wp2_with fail
                  refine ⟨⟨k + 1, n * 10 + (s[k].toNat - 48), by omega, by go_num, by go_num, HS.out.2, HS.out.1⟩, by simp [intOf]; omega⟩
            · have HA : Hid (P.rnum s.data.toList = n) := by
                have hke : k = s.data.toList.length := by simp; omega
                have hI := HI.out
                rw [hke, List.take_length] at hI
                unfold Hid
                rw [HR.out, if_pos (by rw [List.all_eq_true]; exact hI.2), hI.1]
              go_wp2_with fail
              go_ret
              exact ⟨ret_i64 HA.out.symm, rfl⟩
end Go.Proofs.YtghggcehloiemabGreatDoor
namespace Go.Proofs.YtghggcehloiemabGreatDoor
open Go.RowKit
set_option linter.unusedVariables false
set_option maxRecDepth 16000

namespace P
def rleaf (l : List UInt8) : Option (Bool × Nat) := match l with
  | [] => none
  | c :: r => if c = 117 then (if rnum r = 1 ∨ rnum r = 2 ∨ rnum r = 4 then some (true, (rnum r).toNat) else none)
    else if c = 98 then (if 1 ≤ rnum r ∧ rnum r ≤ 16 then some (false, (rnum r).toNat) else none) else none
theorem rnum_bd (l : List UInt8) : -1 ≤ rnum l ∧ rnum l ≤ 10000000000 := by
  unfold rnum
  split
  · omega
  · rename_i h
    split
    · rename_i h2
      rw [List.all_eq_true] at h2
      have := val_bd l h2 (by omega)
      omega
    · omega
theorem rnum_nil : rnum [] = -1 := rfl
end P

def typV (l : Bool × Nat) : Value := .agg #[.int .u8 (if l.1 then 117 else 98), .int .i64 (P.lsz l).1, .int .i64 (P.lsz l).2, .slice none 0 0, .slice none 0 0]
def zeroTyp : Value := .agg #[.int .u8 0, .int .i64 0, .int .i64 0, .slice none 0 0, .slice none 0 0]

/-- What 'leaf' answers. -/
def LeafR (l : List UInt8) (w : World) (e : Ending) (w' : World) : Prop :=
  (match P.rleaf l with
    | some x => e = .returned (.tuple #[typV x, .bool true])
    | none => e = .returned (.tuple #[zeroTyp, .bool false])) ∧ Below w.heap.size w w'
theorem LeafR.no {l : List UInt8} {w w' : World} {e : Ending} (h : P.rleaf l = none) (he : e = .returned (.tuple #[zeroTyp, .bool false])) (hb : Below w.heap.size w w') : LeafR l w e w' := by
  unfold LeafR; rw [h]; exact ⟨he, hb⟩
theorem LeafR.yes {l : List UInt8} {w w' : World} {e : Ending} {x : Bool × Nat} (h : P.rleaf l = some x) (he : e = .returned (.tuple #[typV x, .bool true])) (hb : Below w.heap.size w w') : LeafR l w e w' := by
  unfold LeafR; rw [h]; exact ⟨he, hb⟩

theorem tl_len (s : ByteArray) : s.data.toList.length = s.size := by simp
theorem u8_of {c k : UInt8} (h : (c.toNat : Int) = (k.toNat : Int)) : c = k := UInt8.toNat_inj.1 (by omega)
theorem tail_of {s : ByteArray} (h : 1 ≤ s.size) : (s.extract 1 s.size).data.toList = s.data.toList.drop 1 := by
  have h2 : (s.extract 1 s.size).data.toList = (s.data.toList.drop 1).take (s.size - 1) := by simp [ByteArray.data_extract]
  rw [h2, List.take_of_length_le]
  simp
theorem list_split {s : ByteArray} (h : 1 ≤ s.size) : s.data.toList = s[0]'(by omega) :: s.data.toList.drop 1 := by
  have hl : 0 < s.data.toList.length := by have := tl_len s; omega
  have := List.drop_eq_getElem_cons (l := s.data.toList) (i := 0) hl
  rw [List.drop_zero] at this
  exact this

set_option maxHeartbeats 1000000 in
theorem rleaf_any (s : ByteArray) (w : World) (hs : s.size ≤ maxLen) :
    Calls Tryz.prog 144 #[.string s] w fun e w' => LeafR s.data.toList w e w' := by
  have hs' := hs
  unfold maxLen at hs
  by_cases h2 : s.size < 2
  · have HR : Hid (P.rleaf s.data.toList = none) := by
      unfold Hid
      rcases Nat.lt_or_ge s.size 1 with h | h
      · have : s.data.toList = [] := List.eq_nil_of_length_eq_zero (by have := tl_len s; omega)
        rw [this]; rfl
      · rw [list_split h, List.drop_eq_nil_of_le (by simp; omega)]
        simp [P.rleaf, P.rnum_nil]
    go_enter Tryz.func144, Tryz.ntmps144
    go_wp2_with fail
    refine bodyPost_ret (v := .tuple #[zeroTyp, .bool false]) (by simp [results, Tryz.results144, go_sem, zeroTyp]) rfl ?_
    exact LeafR.no HR.out rfl ((Below.refl _ _).alloc (Nat.le_refl _) _)
  · have hsp := list_split (s := s) (by omega)
    have htl := tail_of (s := s) (by omega)
    obtain ⟨c, hc⟩ : ∃ c, s[0]'(by omega) = c := ⟨_, rfl⟩
    obtain ⟨n, hn⟩ : ∃ n, P.rnum (s.data.toList.drop 1) = n := ⟨_, rfl⟩
    have hbd := P.rnum_bd (s.data.toList.drop 1)
    rw [hn] at hbd
    have HL : Hid (P.rleaf s.data.toList = if c = 117 then (if n = 1 ∨ n = 2 ∨ n = 4 then some (true, n.toNat) else none) else if c = 98 then (if 1 ≤ n ∧ n ≤ 16 then some (false, n.toNat) else none) else none) := by
      unfold Hid; rw [hsp, hc]; simp only [P.rleaf, hn]
    have HC : Hid (P.rnum (s.extract 1 s.size).data.toList = n) := by unfold Hid; rw [htl]; exact hn
    have hc0 : ((s[0]'(by omega)).toNat : Int) = (c.toNat : Int) := by rw [hc]
    clear hn htl hsp hc
    obtain ⟨hb1, hb2⟩ := hbd
    go_enter Tryz.func144, Tryz.ntmps144
    go_wp2_with fail
    refine (rnumber_any _ _ (by simp; unfold maxLen; omega)).mono ?_
    rintro e w1 ⟨rfl, rfl⟩
    rw [HC.out]
    by_cases hu : c = 117
    · subst hu
      have hc1 : ((s[0]'(by omega)).toNat : Int) = 117 := hc0
      have hq : (((s[0]'(by omega)).toNat : Int) == 117) = true := by rw [hc1]; rfl
      have hq2 : (((s[0]'(by omega)).toNat : Int) == 98) = false := by rw [hc1]; rfl
      clear hc0 hc1
      by_cases hv : n = 1 ∨ n = 2 ∨ n = 4
      · have HY := HL.out
        rw [if_pos rfl, if_pos hv] at HY
        have HY' : Hid _ := HY
        clear HY HL
        have HV : Hid (.agg #[.int .u8 117, .int .i64 n, .int .i64 n, .slice none 0 0, .slice none 0 0] = typV (true, n.toNat)) := by
          have e : ((n.toNat : Nat) : Int) = n := by omega
          simp only [Hid, typV, P.lsz, if_true, e]
        by_cases h1 : n = 1
        · have k1 : (n == 1) = true := beq_iff_eq.2 h1
          clear hv h1
          go_wp2_with fail
          refine bodyPost_ret (v := .tuple #[.agg #[.int .u8 117, .int .i64 n, .int .i64 n, .slice none 0 0, .slice none 0 0], .bool true]) (by simp [results, Tryz.results144, go_sem]) rfl ?_
          exact LeafR.yes HY'.out (by rw [HV.out]) ((Below.refl _ _).alloc (Nat.le_refl _) _)
        · have k1 : (n == 1) = false := beq_eq_false_iff_ne.2 h1
          by_cases h2 : n = 2
          · have k2 : (n == 2) = true := beq_iff_eq.2 h2
            clear hv h1 h2
            go_wp2_with fail
            refine bodyPost_ret (v := .tuple #[.agg #[.int .u8 117, .int .i64 n, .int .i64 n, .slice none 0 0, .slice none 0 0], .bool true]) (by simp [results, Tryz.results144, go_sem]) rfl ?_
            exact LeafR.yes HY'.out (by rw [HV.out]) ((Below.refl _ _).alloc (Nat.le_refl _) _)
          · have k2 : (n == 2) = false := beq_eq_false_iff_ne.2 h2
            have k4 : (n == 4) = true := beq_iff_eq.2 (by omega)
            clear hv h1 h2
            go_wp2_with fail
            refine bodyPost_ret (v := .tuple #[.agg #[.int .u8 117, .int .i64 n, .int .i64 n, .slice none 0 0, .slice none 0 0], .bool true]) (by simp [results, Tryz.results144, go_sem]) rfl ?_
            exact LeafR.yes HY'.out (by rw [HV.out]) ((Below.refl _ _).alloc (Nat.le_refl _) _)
      · have HY := HL.out
        rw [if_pos rfl, if_neg hv] at HY
        have HY' : Hid _ := HY
        clear HY HL
        have k1 : (n == 1) = false := beq_eq_false_iff_ne.2 (by omega)
        have k2 : (n == 2) = false := beq_eq_false_iff_ne.2 (by omega)
        have k4 : (n == 4) = false := beq_eq_false_iff_ne.2 (by omega)
        clear hv
        go_wp2_with fail
        refine bodyPost_ret (v := .tuple #[zeroTyp, .bool false]) (by simp [results, Tryz.results144, go_sem, zeroTyp]) rfl ?_
        exact LeafR.no HY'.out rfl ((Below.refl _ _).alloc (Nat.le_refl _) _)
    · have hne : ((s[0]'(by omega)).toNat : Int) ≠ 117 := by
        rw [hc0]; intro h; exact hu (u8_of (k := 117) h)
      have hq : (((s[0]'(by omega)).toNat : Int) == 117) = false := beq_eq_false_iff_ne.2 hne
      clear hne
      by_cases hb : c = 98
      · subst hb
        have hc1 : ((s[0]'(by omega)).toNat : Int) = 98 := hc0
        have hq2 : (((s[0]'(by omega)).toNat : Int) == 98) = true := by rw [hc1]; rfl
        clear hc0 hc1
        by_cases hv : 1 ≤ n ∧ n ≤ 16
        · have HY := HL.out
          rw [if_neg hu, if_pos rfl, if_pos hv] at HY
          have HY' : Hid _ := HY
          have HV : Hid (.agg #[.int .u8 98, .int .i64 n, .int .i64 1, .slice none 0 0, .slice none 0 0] = typV (false, n.toNat)) := by
            have e : ((n.toNat : Nat) : Int) = n := by omega
            simp only [Hid, typV, P.lsz, Bool.false_eq_true, if_false, e]; rfl
          clear HY HL
          obtain ⟨hv1, hv2⟩ := hv
          go_wp2_with fail
          refine bodyPost_ret (v := .tuple #[.agg #[.int .u8 98, .int .i64 n, .int .i64 1, .slice none 0 0, .slice none 0 0], .bool true]) (by simp [results, Tryz.results144, go_sem]) rfl ?_
          exact LeafR.yes HY'.out (by rw [HV.out]) ((Below.refl _ _).alloc (Nat.le_refl _) _)
        · have HY := HL.out
          rw [if_neg hu, if_pos rfl, if_neg hv] at HY
          have HY' : Hid _ := HY
          clear HY HL
          by_cases hv1 : 1 ≤ n
          · have hv2 : ¬ n ≤ 16 := fun h => hv ⟨hv1, h⟩
            clear hv
            go_wp2_with fail
            refine bodyPost_ret (v := .tuple #[zeroTyp, .bool false]) (by simp [results, Tryz.results144, go_sem, zeroTyp]) rfl ?_
            exact LeafR.no HY'.out rfl ((Below.refl _ _).alloc (Nat.le_refl _) _)
          · clear hv
            go_wp2_with fail
            refine bodyPost_ret (v := .tuple #[zeroTyp, .bool false]) (by simp [results, Tryz.results144, go_sem, zeroTyp]) rfl ?_
            exact LeafR.no HY'.out rfl ((Below.refl _ _).alloc (Nat.le_refl _) _)
      · have hne : ((s[0]'(by omega)).toNat : Int) ≠ 98 := by
          rw [hc0]; intro h; exact hb (u8_of (k := 98) h)
        have hq2 : (((s[0]'(by omega)).toNat : Int) == 98) = false := beq_eq_false_iff_ne.2 hne
        have HY := HL.out
        rw [if_neg hu, if_neg hb] at HY
        have HY' : Hid _ := HY
        clear HY HL hne hc0
        go_wp2_with fail
        refine bodyPost_ret (v := .tuple #[zeroTyp, .bool false]) (by simp [results, Tryz.results144, go_sem, zeroTyp]) rfl ?_
        exact LeafR.no HY'.out rfl ((Below.refl _ _).alloc (Nat.le_refl _) _)
end Go.Proofs.YtghggcehloiemabGreatDoor
namespace Go.Proofs.YtghggcehloiemabGreatDoor.P

def dl (c : UInt8) : Int := if c = 123 then 1 else if c = 125 then -1 else 0
def cutGo : Int → List UInt8 → List UInt8 → Option (List (List UInt8))
  | _, _, [] => some []
  | d, cur, c :: r => if d < 0 then none else if r = [] then (if d = 0 then some [cur] else none)
    else if d = 0 ∧ c = 44 then (cutGo 0 [] r).map (cur :: ·) else cutGo (d + dl c) (cur ++ [c]) r
def cut (l : List UInt8) : Option (List (List UInt8)) := if 2 ≤ l.length ∧ l.head? = some 123 ∧ l.getLast? = some 125 then cutGo 0 [] (l.drop 1) else none

def CutInv (l : List UInt8) (i f : Nat) (d : Int) (ps : List (List UInt8)) : Prop := cut l = (cutGo d ((l.take i).drop f) (l.drop i)).map (ps ++ ·)

theorem drop_at {l : List UInt8} {i : Nat} {c : UInt8} (hc : l[i]? = some c) : l.drop i = c :: l.drop (i + 1) := by
  obtain ⟨hl, he⟩ := List.getElem?_eq_some_iff.1 hc
  rw [List.drop_eq_getElem_cons hl, he]
theorem ci_neg {l : List UInt8} {i f : Nat} {d : Int} {ps : List (List UInt8)} {c : UInt8} (h : CutInv l i f d ps) (hc : l[i]? = some c) (hd : d < 0) : cut l = none := by
  unfold CutInv at h; rw [h, drop_at hc, cutGo, if_pos hd]; rfl
theorem ci_last_bad {l : List UInt8} {i f : Nat} {d : Int} {ps : List (List UInt8)} {c : UInt8} (h : CutInv l i f d ps) (hc : l[i]? = some c) (hl : i + 1 = l.length) (hd : 0 ≤ d) (hd0 : d ≠ 0) : cut l = none := by
  unfold CutInv at h; rw [h, drop_at hc, cutGo, if_neg (by omega), if_pos (List.drop_eq_nil_of_le (by omega)), if_neg hd0]; rfl
theorem ci_last {l : List UInt8} {i f : Nat} {d d' : Int} {ps : List (List UInt8)} {c : UInt8} (h : CutInv l i f d ps) (hc : l[i]? = some c) (hl : i + 1 = l.length) (hd0 : d = 0) : CutInv l (i + 1) (i + 1) d' (ps ++ [(l.take i).drop f]) := by
  unfold CutInv at *
  rw [h, drop_at hc, cutGo, if_neg (by omega), if_pos (List.drop_eq_nil_of_le (by omega)), if_pos hd0, List.drop_eq_nil_of_le (show l.length ≤ i + 1 by omega)]
  simp [cutGo]
theorem ci_comma {l : List UInt8} {i f : Nat} {d : Int} {ps : List (List UInt8)} {c : UInt8} (h : CutInv l i f d ps) (hc : l[i]? = some c) (hl : i + 1 < l.length) (hd0 : d = 0) (h44 : c = 44) : CutInv l (i + 1) (i + 1) 0 (ps ++ [(l.take i).drop f]) := by
  unfold CutInv at *
  have hne : l.drop (i + 1) ≠ [] := by simp; omega
  rw [h, drop_at hc, cutGo, if_neg (by omega), if_neg hne, if_pos ⟨hd0, h44⟩]
  have e : (l.take (i + 1)).drop (i + 1) = [] := List.drop_eq_nil_of_le (by rw [List.length_take]; omega)
  rw [e]
  cases cutGo 0 [] (l.drop (i + 1)) <;> simp
theorem ci_else {l : List UInt8} {i f : Nat} {d : Int} {ps : List (List UInt8)} {c : UInt8} (h : CutInv l i f d ps) (hc : l[i]? = some c) (hl : i + 1 < l.length) (hd0 : 0 ≤ d) (h44 : ¬ (d = 0 ∧ c = 44)) (hf : f ≤ i) : CutInv l (i + 1) f (d + dl c) ps := by
  unfold CutInv at *
  have hne : l.drop (i + 1) ≠ [] := by simp; omega
  rw [h, drop_at hc, cutGo, if_neg (by omega), if_neg hne, if_neg h44]
  have e : (l.take (i + 1)).drop f = (l.take i).drop f ++ [c] := by
    rw [take_next hc, List.drop_append_of_le_length (by rw [List.length_take]; omega)]
  rw [e]
theorem ci_end {l : List UInt8} {i f : Nat} {d : Int} {ps : List (List UInt8)} (h : CutInv l i f d ps) (hi : l.length ≤ i) : cut l = some ps := by
  unfold CutInv at h; rw [h, List.drop_eq_nil_of_le hi]; simp [cutGo]
theorem ci_start {l : List UInt8} (h : 2 ≤ l.length ∧ l.head? = some 123 ∧ l.getLast? = some 125) : CutInv l 1 1 0 [] := by
  unfold CutInv cut
  rw [if_pos h]
  have e : (l.take 1).drop 1 = [] := List.drop_eq_nil_of_le (by rw [List.length_take]; omega)
  rw [e]
  cases cutGo 0 [] (l.drop 1) <;> simp

end Go.Proofs.YtghggcehloiemabGreatDoor.P
namespace Go.Proofs.YtghggcehloiemabGreatDoor
open Go.RowKit
set_option linter.unusedVariables false
set_option maxRecDepth 16000

theorem Tryz.infoString : (Tryz.prog.info? 9).map (fun i => (i.zero, i.size, i.bytes)) = some (some (.string ByteArray.empty), 1, 16) := by kernel_rfl

/-- A list of strings that the call owns. -/
def Strs (w : World) (base : Nat) (v : Value) (ss : List ByteArray) : Prop := w.ownsRow base 9 1 v ss.length (ss.map Value.string)

def CutPost (s : ByteArray) (w : World) (e : Ending) (w' : World) : Prop :=
  (match P.cut s.data.toList with
    | some ps => ∃ ss v, e = .returned (.tuple #[v, .bool true]) ∧ ss.map (fun x => x.data.toList) = ps ∧ Strs w' w.heap.size v ss
    | none => e = .returned (.tuple #[.slice none 0 0, .bool false])) ∧ Below w.heap.size w w'
theorem CutPost.no {s : ByteArray} {w w' : World} {e : Ending} (h : P.cut s.data.toList = none) (he : e = .returned (.tuple #[.slice none 0 0, .bool false])) (hb : Below w.heap.size w w') : CutPost s w e w' := by
  unfold CutPost; rw [h]; exact ⟨he, hb⟩
theorem CutPost.yes {s : ByteArray} {w w' : World} {e : Ending} {ps : List (List UInt8)} {ss : List ByteArray} {v : Value} (h : P.cut s.data.toList = some ps) (he : e = .returned (.tuple #[v, .bool true])) (hss : ss.map (fun x => x.data.toList) = ps) (ho : Strs w' w.heap.size v ss) (hb : Below w.heap.size w w') : CutPost s w e w' := by
  unfold CutPost; rw [h]; exact ⟨⟨ss, v, he, hss, ho⟩, hb⟩

theorem piece {s : ByteArray} {f i : Nat} : (s.extract f i).data.toList = (s.data.toList.take i).drop f := by
  simp [ByteArray.data_extract, List.drop_take]

/-- At the head of each round. -/
structure CInv (s : ByteArray) (w : World) (i f : Nat) (d : Int) (ss : List ByteArray) (v : Value) (wr : World) : Prop where
  inv : P.CutInv s.data.toList i f d (ss.map (fun x => x.data.toList))
  own : Strs wr w.heap.size v ss
  below : Below w.heap.size w wr
  f1 : f ≤ i
  i1 : i ≤ s.size
  few : ss.length ≤ i
  d1 : -(i : Int) ≤ d
  d2 : d ≤ i

theorem owns_slice' {w : World} {base : Nat} {v : Value} {ss : List ByteArray} (h : Strs w base v ss) : ∃ a N cap, v = .slice a N cap := by
  rcases h.2 with ⟨h, _⟩ | ⟨g, cap, cur, h, _⟩
  · exact ⟨_, _, _, h⟩
  · exact ⟨_, _, _, h⟩
theorem strs_grown {w wr w3 : World} {v v' : Value} {ss : List ByteArray} {x : ByteArray} {o : Obj} (hb : Below w.heap.size w wr) (hown : Strs wr w.heap.size v ss) (hg : (wr.alloc o).grownBy w3 v.ownBlock)
    (hown' : w3.ownsRow w.heap.size 9 1 v' (ss.length + 1) (ss.map Value.string ++ [.string x])) : Strs w3 w.heap.size v' (ss ++ [x]) ∧ Below w.heap.size w w3 := by
  have hsz := hb.size
  refine ⟨by unfold Strs; simpa using hown', ?_⟩
  exact Below.grown (hb.alloc (by omega) o) hg (by simp; omega) (fun j hj => (hown.lt _ hj).1)

set_option maxHeartbeats 4000000 in
theorem cut_any (s : ByteArray) (w : World) (hs : s.size ≤ 1099511627776) :
    Calls Tryz.prog 145 #[.string s] w fun e w' => CutPost s w e w' := by
  obtain ⟨i0, hi0, hz0, hz1, hz2⟩ := info_parts Tryz.infoString
  have hlen := tl_len s
  by_cases h2 : s.size < 2
  · have HR : Hid (P.cut s.data.toList = none) := by unfold Hid P.cut; rw [if_neg (by omega)]
    go_enter Tryz.func145, Tryz.ntmps145
    go_wp2_with fail
    go_ret2
    exact CutPost.no HR.out rfl (Below.refl _ _)
  · have hhead : s.data.toList.head? = some (s[0]'(by omega)) := by rw [List.head?_eq_getElem?, get_of (by omega)]
    have hlast : s.data.toList.getLast? = some (s[s.size - 1]'(by omega)) := by rw [List.getLast?_eq_getElem?, hlen, get_of (by omega)]
    by_cases h123 : s[0]'(by omega) = 123
    · have hq : (((s[0]'(by omega)).toNat : Int) != 123) = false := by rw [h123]; rfl
      by_cases h125 : s[s.size - 1]'(by omega) = 125
      · have hq2 : (((s[s.size - 1]'(by omega)).toNat : Int) != 125) = false := by rw [h125]; rfl
        have HST : Hid (P.CutInv s.data.toList 1 1 0 []) := P.ci_start ⟨by omega, by rw [hhead, h123], by rw [hlast, h125]⟩
        have H125 : Hid (s[s.size - 1]'(by omega) = 125) := h125
        have hd2 : decide ((s.size : Int) < 2) = false := by simp; omega
        clear hhead hlast h123 h125
        go_enter Tryz.func145, Tryz.ntmps145
        go_wp2_with fail
        go_loopw [4, 5, 6, 7] (fun x y z i wr => ∃ (k f : Nat) (d : Int) (ss : List ByteArray), y = .int .i64 d ∧ z = .int .i64 f ∧ i = .int .i64 k ∧ CInv s w k f d ss x wr) (fun _ _ _ i _ => s.size - (intOf i).toNat)
        case atStart => exact ⟨1, 1, 0, [], rfl, rfl, rfl, ⟨HST.out, World.ownsRow_nil _ _ _ _, Below.refl _ _, Nat.le_refl _, by omega, by simp, by omega, by omega⟩⟩
        case round =>
          obtain ⟨k, f, d, ss, rfl, rfl, rfl, hinv⟩ := hrel
          have hf1 := hinv.f1
          have hi1 := hinv.i1
          have hfew := hinv.few
          have hd1 := hinv.d1
          have hd2' := hinv.d2
          have hsz := hinv.below.size
          by_cases hlt : k < s.size
          · have hget := get_of hlt
            have HG : Hid (s.data.toList[k]? = some s[k]) := hget
            clear hget
            by_cases hneg : d < 0
            · have HR : Hid (P.cut s.data.toList = none) := P.ci_neg hinv.inv HG.out hneg
              go_wp2_with fail
              go_ret2
              exact CutPost.no HR.out rfl hinv.below
            · by_cases hl : k + 1 = s.size
              · have hlb : ((k : Int) == (s.size : Int) - 1) = true := by rw [beq_iff_eq]; omega
                by_cases hd0 : d = 0
                · have HL : Hid (∀ d', P.CutInv s.data.toList (k + 1) (k + 1) d' (ss.map (fun x => x.data.toList) ++ [(s.data.toList.take k).drop f])) := fun d' => P.ci_last hinv.inv HG.out (by omega) hd0
                  have hdb : (d != 0) = false := by rw [hd0]; rfl
                  have hdb2 : (d == 0) = true := by rw [hd0]; rfl
                  have HD0 : Hid (d = 0) := hd0
                  have hk5 : s[k] = 125 := by have e : k = s.size - 1 := by omega
                                              subst e; exact H125.out
                  have hb1 : ((s[k].toNat : Int) == 123) = false := by rw [hk5]; rfl
                  have hb2 : ((s[k].toNat : Int) == 125) = true := by rw [hk5]; rfl
                  clear hd0 hk5 hl
                  go_wp2_with (first
                    | (at_builtin; refine wpList_append_lies _ rfl _ _ 35 rfl w.heap.size 9 i0 (.string ByteArray.empty) 1 16 Tryz.underlying35 hi0 hz0 hz1 hz2 rfl (by decide) u4 ss.length (ss.map Value.string) rfl (hinv.own.alloc _) ⟨wr.heap.size, 0, none⟩ 1 1 [.string (s.extract f k)] rfl rfl (cell_one_new _ _ _) (fun x hx => by simp at hx; subst hx; rfl) (by omega) (by unfold maxLen; omega) (by omega) (by simp; omega) _ rfl ?_; intro g cap w3 hown' hgrow hat hlt3
                       have X := strs_grown hinv.below hinv.own hgrow hown'))
                  refine ⟨⟨k + 1, k + 1, d - 1, ss ++ [s.extract f k], by go_num, by go_num, by go_num, ⟨by rw [List.map_append, List.map_cons, List.map_nil, piece]; exact HL.out _, X.1, X.2, Nat.le_refl _, by omega, by simp; omega, by omega, by omega⟩⟩, by simp [intOf]; omega⟩
                · have HR : Hid (P.cut s.data.toList = none) := P.ci_last_bad hinv.inv HG.out (by omega) (by omega) hd0
                  have hdb : (d != 0) = true := by rw [bne_iff_ne]; exact hd0
                  clear hd0
                  go_wp2_with fail
                  go_ret2
                  exact CutPost.no HR.out rfl hinv.below
              · have hlb : ((k : Int) == (s.size : Int) - 1) = false := by rw [beq_eq_false_iff_ne]; omega
                have HE0 : Hid (¬ (d = 0 ∧ s[k] = 44) → P.CutInv s.data.toList (k + 1) f (d + P.dl s[k]) (ss.map (fun x => x.data.toList))) := fun h => P.ci_else hinv.inv HG.out (by omega) (by omega) h hf1
                by_cases hb3 : s[k] = 123
                · have hx1 : ((s[k].toNat : Int) == 123) = true := by rw [hb3]; rfl
                  have hx2 : ((s[k].toNat : Int) == 125) = false := by rw [hb3]; rfl
                  have hx3 : ((s[k].toNat : Int) == 44) = false := by rw [hb3]; rfl
                  have HE : Hid (P.CutInv s.data.toList (k + 1) f (d + 1) (ss.map (fun x => x.data.toList))) := by
                    have := HE0.out (by rw [hb3]; rintro ⟨_, h⟩; cases h)
                    rw [hb3] at this; exact this
                  clear hb3 HE0
                  by_cases hd0 : d = 0
                  · have hdb2 : (d == 0) = true := by rw [hd0]; rfl
                    clear hd0
                    go_wp2_with fail
                    refine ⟨⟨k + 1, f, d + 1, ss, by go_num, rfl, by go_num, ⟨HE.out, hinv.own, hinv.below, by omega, by omega, by omega, by omega, by omega⟩⟩, by simp [intOf]; omega⟩
                  · have hdb2 : (d == 0) = false := by rw [beq_eq_false_iff_ne]; exact hd0
                    clear hd0
                    go_wp2_with fail
                    refine ⟨⟨k + 1, f, d + 1, ss, by go_num, rfl, by go_num, ⟨HE.out, hinv.own, hinv.below, by omega, by omega, by omega, by omega, by omega⟩⟩, by simp [intOf]; omega⟩
                · have hx1 : ((s[k].toNat : Int) == 123) = false := by rw [beq_eq_false_iff_ne]; intro h; exact hb3 (u8_of (k := 123) h)
                  by_cases hb5 : s[k] = 125
                  · have hx2 : ((s[k].toNat : Int) == 125) = true := by rw [hb5]; rfl
                    have hx3 : ((s[k].toNat : Int) == 44) = false := by rw [hb5]; rfl
                    have HE : Hid (P.CutInv s.data.toList (k + 1) f (d - 1) (ss.map (fun x => x.data.toList))) := by
                      have := HE0.out (by rw [hb5]; rintro ⟨_, h⟩; cases h)
                      rw [hb5] at this; exact this
                    clear hb3 HE0 hb5
                    by_cases hd0 : d = 0
                    · have hdb2 : (d == 0) = true := by rw [hd0]; rfl
                      clear hd0
                      go_wp2_with fail
                      refine ⟨⟨k + 1, f, d - 1, ss, by go_num, rfl, by go_num, ⟨HE.out, hinv.own, hinv.below, by omega, by omega, by omega, by omega, by omega⟩⟩, by simp [intOf]; omega⟩
                    · have hdb2 : (d == 0) = false := by rw [beq_eq_false_iff_ne]; exact hd0
                      clear hd0
                      go_wp2_with fail
                      refine ⟨⟨k + 1, f, d - 1, ss, by go_num, rfl, by go_num, ⟨HE.out, hinv.own, hinv.below, by omega, by omega, by omega, by omega, by omega⟩⟩, by simp [intOf]; omega⟩
                  · have hx2 : ((s[k].toNat : Int) == 125) = false := by rw [beq_eq_false_iff_ne]; intro h; exact hb5 (u8_of (k := 125) h)
                    have hdl : d + P.dl s[k] = d := by simp [P.dl, hb3, hb5]
                    by_cases hd0 : d = 0
                    · have hdb2 : (d == 0) = true := by rw [hd0]; rfl
                      by_cases hb4 : s[k] = 44
                      · have hx3 : ((s[k].toNat : Int) == 44) = true := by rw [hb4]; rfl
                        have HL : Hid (P.CutInv s.data.toList (k + 1) (k + 1) 0 (ss.map (fun x => x.data.toList) ++ [(s.data.toList.take k).drop f])) := P.ci_comma hinv.inv HG.out (by omega) hd0 hb4
                        have HD0 : Hid (d = 0) := hd0
                        clear hb3 hb4 hb5 HE0 hdl hd0
                        go_wp2_with (first
                          | (at_builtin; refine wpList_append_lies _ rfl _ _ 35 rfl w.heap.size 9 i0 (.string ByteArray.empty) 1 16 Tryz.underlying35 hi0 hz0 hz1 hz2 rfl (by decide) u4 ss.length (ss.map Value.string) rfl (hinv.own.alloc _) ⟨wr.heap.size, 0, none⟩ 1 1 [.string (s.extract f k)] rfl rfl (cell_one_new _ _ _) (fun x hx => by simp at hx; subst hx; rfl) (by omega) (by unfold maxLen; omega) (by omega) (by simp; omega) _ rfl ?_; intro g cap w3 hown' hgrow hat hlt3
                             have X := strs_grown hinv.below hinv.own hgrow hown'))
                        refine ⟨⟨k + 1, k + 1, d, ss ++ [s.extract f k], by go_num, by go_num, by go_num, ⟨by rw [List.map_append, List.map_cons, List.map_nil, piece]; exact (by have := HL.out; rw [HD0.out]; exact this), X.1, X.2, Nat.le_refl _, by omega, by simp; omega, by omega, by omega⟩⟩, by simp [intOf]; omega⟩
                      · have hx3 : ((s[k].toNat : Int) == 44) = false := by rw [beq_eq_false_iff_ne]; intro h; exact hb4 (u8_of (k := 44) h)
                        have HE : Hid (P.CutInv s.data.toList (k + 1) f d (ss.map (fun x => x.data.toList))) := by
                          have := HE0.out (fun h => hb4 h.2)
                          rw [hdl] at this; exact this
                        clear hb3 hb4 hb5 HE0 hdl hd0
                        go_wp2_with fail
                        refine ⟨⟨k + 1, f, d, ss, by go_num, rfl, by go_num, ⟨HE.out, hinv.own, hinv.below, by omega, by omega, by omega, by omega, by omega⟩⟩, by simp [intOf]; omega⟩
                    · have hdb2 : (d == 0) = false := by rw [beq_eq_false_iff_ne]; exact hd0
                      have HE : Hid (P.CutInv s.data.toList (k + 1) f d (ss.map (fun x => x.data.toList))) := by
                        have := HE0.out (fun h => hd0 h.1)
                        rw [hdl] at this; exact this
                      clear hb3 hb5 HE0 hdl hd0
                      go_wp2_with fail
                      refine ⟨⟨k + 1, f, d, ss, by go_num, rfl, by go_num, ⟨HE.out, hinv.own, hinv.below, by omega, by omega, by omega, by omega, by omega⟩⟩, by simp [intOf]; omega⟩
          · have HR : Hid (P.cut s.data.toList = some (ss.map (fun x => x.data.toList))) := P.ci_end hinv.inv (by omega)
            obtain ⟨a, N, cap, rfl⟩ := owns_slice' hinv.own
            go_wp2_with fail
            go_ret2
            exact CutPost.yes HR.out rfl rfl hinv.own hinv.below
      · have hq2 : (((s[s.size - 1]'(by omega)).toNat : Int) != 125) = true := by
          rw [bne_iff_ne]; intro h; exact h125 (u8_of (k := 125) h)
        have HR : Hid (P.cut s.data.toList = none) := by
          unfold Hid P.cut; rw [if_neg]; rintro ⟨_, _, h⟩; rw [hlast] at h; exact h125 (by simpa using h)
        clear hhead hlast h123 h125
        go_enter Tryz.func145, Tryz.ntmps145
        go_wp2_with fail
        go_ret2
        exact CutPost.no HR.out rfl (Below.refl _ _)
    · have hq : (((s[0]'(by omega)).toNat : Int) != 123) = true := by
        rw [bne_iff_ne]; intro h; exact h123 (u8_of (k := 123) h)
      have HR : Hid (P.cut s.data.toList = none) := by
        unfold Hid P.cut; rw [if_neg]; rintro ⟨_, h, _⟩; rw [hhead] at h; exact h123 (by simpa using h)
      clear hhead hlast h123
      go_enter Tryz.func145, Tryz.ntmps145
      go_wp2_with fail
      go_ret2
      exact CutPost.no HR.out rfl (Below.refl _ _)
end Go.Proofs.YtghggcehloiemabGreatDoor
