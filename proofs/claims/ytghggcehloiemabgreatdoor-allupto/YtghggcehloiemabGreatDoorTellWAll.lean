import Derived.Test.YtghggcehloiemabGreatDoorRefEncAll
import Derived.Test.YtghggcehloiemabGreatDoorShelf
import Derived.Test.YtghggcehloiemabGreatDoorLayWAll
import Derived.Sort.Grow
import Derived.Lib.AppendIntMem
import Derived.Lib.ItoaLen
import Derived.Test.YtghggcehloiemabGreatDoorMcStepAll
namespace Go.Proofs.YtghggcehloiemabGreatDoor
open Go.RowKit
set_option linter.unusedVariables false
set_option maxRecDepth 16000

theorem grow_below {w w' : World} {k : Nat} {os : Array Obj} (h : w' = Go.Sort.grow (w.drewN k) os) : Below w.heap.size w w' := by
  subst h
  have hd : Below w.heap.size w (w.drewN k) := below_drewN (Below.refl _ _) k
  refine ⟨hd.os, hd.tape, hd.output, ?_, ?_⟩
  · simp
  · intro j hj
    rw [Go.Sort.heap_grow_old _ _ (by simpa using hj)]
    exact hd.block j hj

theorem row8_cell {w : World} {base g N cap k : Nat} {bs : List UInt8} (h : w.ownsRow base 5 1 (.slice (some ⟨g, 0, none⟩) N cap) bs.length (bs.map u8v)) (hk : k < bs.length) : w.cell? ⟨g, k, none⟩ = some (u8v bs[k]) := by
  obtain ⟨h1, h2⟩ := h
  rcases h2 with ⟨h2, _⟩ | ⟨g', cap', cur, hv, hb, hg, hn, hm, hsz, htk⟩
  · cases h2
  · cases hv
    rw [cell_of_row w g _ _ _ _ hg]
    have hget : (bs.map u8v)[k]? = some (u8v bs[k]) := by simp [List.getElem?_eq_getElem hk]
    rw [← htk, List.getElem?_take_of_lt (by omega)] at hget
    simpa using hget

set_option maxHeartbeats 400000 in
theorem hexMark_any (n : Nat) (w : World) (hn : n ≤ 15) :
    Calls Tryz.prog 137 #[.int .u8 n] w fun e w' => e = .returned (.int .u8 (P.hx n).toNat) ∧ w' = w := by
  by_cases h : n < 10
  · have HX : Hid (((P.hx n).toNat : Int) = 48 + n) := by unfold Hid P.hx; rw [if_pos h]; simp; omega
    go_enter Tryz.func137, Tryz.ntmps137
    go_wp2
    go_ret
    exact ⟨by rw [HX.out]; rfl, rfl⟩
  · have HX : Hid (((P.hx n).toNat : Int) = 97 + n - 10) := by unfold Hid P.hx; rw [if_neg h]; simp; omega
    go_enter Tryz.func137, Tryz.ntmps137
    go_wp2
    go_ret
    exact ⟨by rw [HX.out]; rfl, rfl⟩

theorem and_15 (a : Nat) (ha : a < 256) : bits .and .u8 (a : Int) 15 = (a : Int) % 16 := by
  have h1 : (BitVec.ofInt 8 (a : Int)).toNat = a := by
    rw [BitVec.ofInt_natCast, BitVec.toNat_ofNat]; exact Nat.mod_eq_of_lt (by omega)
  have h2 : (BitVec.ofInt 8 (15 : Int)).toNat = 15 := by decide
  show IntKind.u8.wrap ((BitVec.ofInt 8 (a : Int) &&& BitVec.ofInt 8 15).toNat : Int) = _
  rw [BitVec.toNat_and, h1, h2, show (15 : Nat) = 2 ^ 4 - 1 from rfl, Nat.and_two_pow_sub_one_eq_mod]
  simp only [IntKind.wrap, IntKind.signed, IntKind.bits]
  simp
  omega

set_option maxHeartbeats 1000000 in
theorem hexText_any (s : ByteArray) (w : World) (hs : s.size ≤ 32) (hs1 : 1 ≤ s.size) :
    Calls Tryz.prog 91 #[.string s] w fun e w' => e = .returned (.string ⟨(P.hexT s.data.toList).toArray⟩) ∧ Below w.heap.size w w' := by
  obtain ⟨i0, hi0, hz0, hz1, hz2⟩ := info_parts Tryz.infoU8
  go_enter Tryz.func91, Tryz.ntmps91
  go_wp2_with fail
  go_loopw [3, 4] (fun b i wr => ∃ k : Nat, k ≤ s.size ∧ i = .int .i64 k ∧ wr.ownsRow w.heap.size 5 1 b (2 * k) ((P.hexT (s.data.toList.take k)).map u8v) ∧ Below w.heap.size w wr) (fun _ i _ => s.size - (intOf i).toNat)
  case atStart => exact ⟨0, by omega, rfl, World.ownsRow_nil _ _ _ _, Below.refl _ _⟩
  case round =>
    obtain ⟨k, hk, rfl, hown, hbe⟩ := hrel
    have hsz := hbe.size
    by_cases hlt : k < s.size
    · have hc := s[k].toNat_lt
      have hand : bits .and .u8 (s[k].toNat : Int) 15 = (s[k].toNat : Int) % 16 := and_15 _ (by omega)
      have HTK : Hid ((P.hexT (s.data.toList.take (k + 1))).map u8v = (P.hexT (s.data.toList.take k)).map u8v ++ [u8v (P.hx (s[k].toNat / 16))] ++ [u8v (P.hx (s[k].toNat % 16))]) := by
        unfold Hid P.hexT; rw [List.take_add_one, get_of hlt]; simp
      have hc2 : (s[k].toNat : Int) ≤ 255 := by omega
      have HM1 : Hid (∀ w0, Calls Tryz.prog 137 #[.int .u8 ((s[k].toNat : Int) / 16)] w0 fun e w' => e = .returned (.int .u8 (P.hx (s[k].toNat / 16)).toNat) ∧ w' = w0) := fun w0 => hexMark_any (s[k].toNat / 16) w0 (by omega)
      have HM2 : Hid (∀ w0, Calls Tryz.prog 137 #[.int .u8 ((s[k].toNat : Int) % 16)] w0 fun e w' => e = .returned (.int .u8 (P.hx (s[k].toNat % 16)).toNat) ∧ w' = w0) := fun w0 => hexMark_any (s[k].toNat % 16) w0 (by omega)
      go_wp2_with fail
      refine Calls.mono (HM1.out _) ?_
      rintro e wr ⟨rfl, rfl⟩
      generalize hd1 : P.hx (s[k].toNat / 16) = d1 at *
      generalize hd2 : P.hx (s[k].toNat % 16) = d2 at *
      have hn1 : (d1.toNat : Int) ≤ 255 := by have := d1.toNat_lt; omega
      have hn2 : (d2.toNat : Int) ≤ 255 := by have := d2.toNat_lt; omega
      clear hd1 hd2
      have hl0 : ((P.hexT (s.data.toList.take k)).map u8v).length = 2 * k := by rw [List.length_map, P.hexT_length, List.length_take]; simp; omega
      go_wp2_with (first
          | (at_builtin; refine wpList_append_lies _ rfl _ _ 38 rfl w.heap.size 5 i0 (.int .u8 0) 1 1 Tryz.underlying38 hi0 hz0 hz1 hz2 rfl (by decide) u3 (2 * k) ((P.hexT (s.data.toList.take k)).map u8v) rfl (hown.alloc _) ⟨wr.heap.size, 0, none⟩ 1 1 [.int .u8 d1.toNat] rfl rfl (cell_one_new _ _ _) (fun x hx => by simp at hx; subst hx; rfl) (by omega) (by unfold maxLen; omega) (by omega) (by simp; omega) _ rfl ?_; intro g cap3 w3 hown' hgrow hat hlt3
             have hb3 : Below w.heap.size w w3 := Below.grown (hbe.alloc hsz _) hgrow (by simp; omega) (fun j hj => (hown.lt _ hj).1)))
      refine Calls.mono (HM2.out _) ?_
      rintro e w3 ⟨rfl, rfl⟩
      have hb3s := hb3.size
      go_wp2_with (first
          | (at_builtin; refine wpList_append_lies _ rfl _ _ 38 rfl w.heap.size 5 i0 (.int .u8 0) 1 1 Tryz.underlying38 hi0 hz0 hz1 hz2 rfl (by decide) (.slice (some ⟨g, 0, none⟩) (2 * k + 1) cap3) (2 * k + 1) ((P.hexT (s.data.toList.take k)).map u8v ++ [.int .u8 d1.toNat]) rfl (hown'.alloc _) ⟨w3.heap.size, 0, none⟩ 1 1 [.int .u8 d2.toNat] rfl rfl (cell_one_new _ _ _) (fun x hx => by simp at hx; subst hx; rfl) (by omega) (by unfold maxLen; omega) (by omega) (by simp; omega) _ rfl ?_; intro g4 cap4 w4 hown4 hgrow4 hat4 hlt4
             have hb4 : Below w.heap.size w w4 := Below.grown (hb3.alloc hb3s _) hgrow4 (by simp; omega) (fun j hj => (hown'.lt _ hj).1)))
      refine ⟨⟨k + 1, by omega, by go_num, ?_, hb4⟩, by simp [intOf]; omega⟩
      rw [HTK.out]
      exact hown4
    · have hke : k = s.size := by omega
      have htk : s.data.toList.take k = s.data.toList := by rw [hke]; exact List.take_of_length_le (by simp)
      have hlf : (P.hexT s.data.toList).length = 2 * k := by rw [P.hexT_length, hke]; simp
      rw [htk, ← hlf] at hown
      obtain ⟨g, capb, hvb, _, _⟩ := hown.form (by omega)
      subst hvb
      have hcv : (convert 38 9 (.slice (some ⟨g, 0, none⟩) (P.hexT s.data.toList).length capb)).run Tryz.prog wr = .ok (.string ⟨(P.hexT s.data.toList).toArray⟩) wr := by
        have := run_convert_bytes_arg (P := Tryz.prog) wr 38 5 Tryz.underlying38 Tryz.underlying5 g 0 (P.hexT s.data.toList).length capb ((P.hexT s.data.toList).map fun c => (c.toNat : Int)) (by simp) (by
          intro j hj
          rw [Nat.zero_add]
          have := row8_cell hown (k := j) hj
          simpa [List.getD, List.getElem?_eq_getElem hj, u8v] using this) 9 Tryz.underlying9
        rw [this]
        congr 2
        simp [strOfNums, Function.comp_def]
      clear hown hlf htk
      go_wp2_with fail
      go_ret
      exact ⟨rfl, hbe⟩

theorem leval_32 (l : List UInt8) (h : l.length ≤ 4) : P.leval l ≤ 4294967295 := by
  have := P.leval_lt l
  have : 256 ^ l.length ≤ 256 ^ 4 := Nat.pow_le_pow_right (by omega) h
  omega

set_option maxHeartbeats 1000000 in
theorem numberText_any (s : ByteArray) (w : World) (hs : s.size ≤ 4) (B : Nat) (htab : Lib.TabBelow Tryz.prog B w "internal/strconv.uint64pow10" .u64 Lib.pow10Tab) :
    Calls Tryz.prog 90 #[.string s] w fun e w' => e = .returned (.string ⟨(Lib.decDigits (P.leval s.data.toList)).toArray⟩) ∧ Below w.heap.size w w' := by
  have HT : Hid (Lib.TabIs Tryz.prog w "internal/strconv.uint64pow10" .u64 Lib.pow10Tab) := htab.here
  clear htab
  go_enter Tryz.func90, Tryz.ntmps90
  go_wp2_with fail
  go_loopw [3, 4] (fun n i wr => ∃ (k m : Nat) (z : Int), k ≤ s.size ∧ z = (k : Int) - 1 ∧ i = .int .i64 z ∧ n = .int .i64 m ∧ m ≤ 4294967295 ∧ Hid (m = P.leval (s.data.toList.drop k)) ∧ wr = w) (fun _ i _ => (intOf i + 1).toNat)
  case atStart => exact ⟨s.size, 0, (s.size : Int) - 1, Nat.le_refl _, rfl, rfl, rfl, by omega, by unfold Hid; rw [List.drop_of_length_le (by simp)]; rfl, rfl⟩
  case round =>
    obtain ⟨k, m, z, hk, hz, rfl, rfl, hm, HM, rfl⟩ := hrel
    by_cases h0 : 0 ≤ z
    · obtain ⟨j, rfl⟩ := Int.eq_ofNat_of_zero_le h0
      have hj : j < s.size := by omega
      have hkj : k = j + 1 := by omega
      rw [hkj] at HM
      have hd : s.data.toList.drop j = s[j] :: s.data.toList.drop (j + 1) := drop_cons (get_of hj)
      have hnew : P.leval (s.data.toList.drop j) = m * 256 + s[j].toNat := by rw [hd, P.leval, HM.out]
      have hle : P.leval (s.data.toList.drop j) ≤ 4294967295 := leval_32 _ (by simp; omega)
      rw [hnew] at hle
      have HN : Hid (m * 256 + s[j].toNat = P.leval (s.data.toList.drop j)) := hnew.symm
      have hc := s[j].toNat_lt
      clear hd hnew HM hkj hz hk
      go_wp2_with fail
      refine ⟨⟨j, m * 256 + s[j].toNat, (j : Int) - 1, by omega, rfl, by go_num, by go_num, hle, HN, by first | rfl | trivial⟩, by simp [intOf] <;> omega⟩
    · have hk0 : k = 0 := by omega
      have HE : Hid (m = P.leval s.data.toList) := by have h := HM.out; rw [hk0, List.drop_zero] at h; exact h
      clear HM hz hk hk0
      go_wp2_with fail
      refine Calls.mono (Tryz.strconv_Itoa (m : Int) (by omega) (by omega) _ HT.out) ?_
      rintro e w2 ⟨rfl, kk, os, hw2⟩
      have hbe := grow_below hw2
      clear hw2
      go_wp2_with fail
      go_ret
      refine ⟨?_, hbe⟩
      rw [Lib.itoa_nonneg, HE.out]
      rfl
end Go.Proofs.YtghggcehloiemabGreatDoor
namespace Go.Proofs.YtghggcehloiemabGreatDoor
open Go.RowKit
set_option linter.unusedVariables false
set_option maxRecDepth 16000

def TellPost (o : Option (List UInt8)) (w : World) (e : Ending) (w' : World) : Prop :=
  (match o with
    | some bs => e = .returned (.tuple #[.string ⟨bs.toArray⟩, .bool true])
    | none => e = .returned (.tuple #[.string ⟨#[]⟩, .bool false])) ∧ Below w.heap.size w w'

theorem sub_extract (s : ByteArray) (p k : Nat) : (s.extract p (p + k)).data.toList = P.sub s.data.toList p k := by
  unfold P.sub
  rw [ByteArray.data_extract]
  simp
theorem dec_len (n : Nat) (h : n ≤ 4294967295) : (Lib.decDigits n).length ≤ 40 := by
  have := Lib.itoa_length_le (n : Int) (by omega) (by omega)
  rw [Lib.itoa_nonneg] at this
  omega

set_option maxHeartbeats 2000000 in
theorem Tell_any (s : ByteArray) (w : World) (sz st base : Nat) (vP : Value) (ps : List P.Pt) (hown : w.ownsRow base 145 4 vP ps.length (cellsOf ps)) (hsz1 : 1 ≤ sz) (hsz : sz ≤ 32) (hps : ps.length ≤ 80) (hok : ∀ x ∈ ps, P.PtOk sz x) (htab : Lib.TabBelow Tryz.prog w.heap.size w "internal/strconv.uint64pow10" .u64 Lib.pow10Tab) :
    Calls Tryz.prog 48 #[.agg #[.int .i64 sz, .int .i64 st, vP], .string s] w fun e w' => TellPost (if s.size = sz then some (P.tellAll ps s.data.toList) else none) w e w' := by
  obtain ⟨a, N, cap, rfl⟩ := owns_slice hown
  have HOK : Hid (∀ x ∈ ps, P.PtOk sz x) := hok
  clear hok
  have HOWN : Hid (w.ownsRow base 145 4 (.slice a N cap) ps.length (cellsOf ps)) := hown
  clear hown
  have HT : Hid (Lib.TabBelow Tryz.prog w.heap.size w "internal/strconv.uint64pow10" .u64 Lib.pow10Tab) := htab
  clear htab
  by_cases hlen : s.size = sz
  · rw [if_pos hlen]
    have HLEN : Hid (s.size = sz) := hlen
    have hs32 : s.size ≤ 32 := by omega
    subst hlen
    go_enter Tryz.func48, Tryz.ntmps48
    go_wp2_with fail
    have hNl : N = ps.length := by
      rcases HOWN.out.2 with ⟨h, h'⟩ | ⟨g, cap', cur, h, _⟩
      · cases h; omega
      · cases h; rfl
    have HNL : Hid (N = ps.length) := hNl
    have hN80 : N ≤ 80 := by omega
    clear hNl hps
    go_loopw [6, 17] (fun t j wq => ∃ (q : Nat) (tb : ByteArray), q ≤ N ∧ j = .int .i64 q ∧ t = .string tb ∧ tb.size ≤ 40 * q ∧ Hid (tb.data.toList = P.tellAll (ps.take q) s.data.toList) ∧ Below w.heap.size w wq) (fun _ j _ => N - (intOf j).toNat)
    case atStart => exact ⟨0, ⟨#[]⟩, by omega, rfl, rfl, Nat.zero_le _, by unfold Hid P.tellAll; simp, (Below.refl _ _).alloc (Nat.le_refl _) _⟩
    case round =>
      obtain ⟨q, tb, hq, rfl, rfl, htb, HI, hbq⟩ := hrel
      by_cases hqn : q < N
      · obtain ⟨x, hx⟩ : ∃ x, ps[q]? = some x := ⟨_, List.getElem?_eq_getElem (by have := HNL.out; omega)⟩
        obtain ⟨g, cap', hv, _, hgl⟩ := HOWN.out.form (by have := HNL.out; omega)
        have ha : a = some ⟨g, 0, none⟩ := by injection hv
        subst ha
        clear hv
        obtain ⟨d0, d1, d2, d3, hNe, hcp⟩ := part_cell HOWN.out hx
        clear hNe
        rw [← hbq.cell (p := ⟨g, q * 4, none⟩) hgl] at d0
        rw [← hbq.cell (p := ⟨g, q * 4 + 1, none⟩) hgl] at d1
        rw [← hbq.cell (p := ⟨g, q * 4 + 2, none⟩) hgl] at d2
        rw [← hbq.cell (p := ⟨g, q * 4 + 3, none⟩) hgl] at d3
        have HTK : Hid (P.tellAll (ps.take (q + 1)) s.data.toList = P.tellAll (ps.take q) s.data.toList ++ P.tell1 s.data.toList x) := by
          unfold Hid P.tellAll; rw [List.take_add_one, hx]; simp
        have hokx : P.PtOk s.size x := HOK.out x (List.mem_of_getElem? hx)
        clear hx
        obtain ⟨kd, mk, pl, sx⟩ := x
        simp only at d0 d1 d2 d3
        have h0q : (0 : Int) ≤ (q : Int) := by omega
        have hqN : (q : Int) < (N : Int) := by omega
        rcases hokx with ⟨hk, hm0, hs1, hs4, hpl⟩ | ⟨hk, hm0, hs1, hs4, hpl⟩ | ⟨hk, hm0⟩
        · simp only at hk hm0 hs1 hs4 hpl
          subst hk; subst hm0
          have hbp := hbq.size
          go_wp2_with fail
          refine Calls.mono (numberText_any (s.extract pl (pl + sx)) _ (by simp; omega) w.heap.size (HT.out.on (hbq.alloc hbp _))) ?_
          rintro e w2 ⟨rfl, hb2⟩
          have hb : Below w.heap.size w w2 := (hbq.alloc hbp _).trans (hb2.mono (by simp; omega))
          rw [sub_extract]
          obtain ⟨tx, htx⟩ : ∃ tx, Lib.decDigits (P.leval (P.sub s.data.toList pl sx)) = tx := ⟨_, rfl⟩
          rw [htx]
          have HX : Hid (P.tell1 s.data.toList ⟨1, 0, pl, sx⟩ = tx) := by unfold Hid; rw [← htx]; rfl
          have hxl : tx.length ≤ 40 := by rw [← htx]; exact dec_len _ (leval_32 _ (by unfold P.sub; simp; omega))
          clear htx hb2 d0 d1 d2 d3
          go_wp2_with fail
          refine ⟨⟨q + 1, tb ++ ⟨tx.toArray⟩, by omega, by go_num, rfl, ?_, ?_, hb⟩, by simp [intOf]; omega⟩
          · rw [ByteArray.size_append]
            have : (ByteArray.mk tx.toArray).size = tx.length := by simp [ByteArray.size]
            omega
          · unfold Hid
            rw [HTK.out, ← HI.out, HX.out]
            simp
        · simp only at hk hm0 hs1 hs4 hpl
          subst hk; subst hm0
          have hbp := hbq.size
          go_wp2_with fail
          refine Calls.mono (hexText_any (s.extract pl (pl + sx)) _ (by simp; omega) (by simp; omega)) ?_
          rintro e w2 ⟨rfl, hb2⟩
          have hb : Below w.heap.size w w2 := (hbq.alloc hbp _).trans (hb2.mono (by simp; omega))
          rw [sub_extract]
          obtain ⟨tx, htx⟩ : ∃ tx, P.hexT (P.sub s.data.toList pl sx) = tx := ⟨_, rfl⟩
          rw [htx]
          have HX : Hid (P.tell1 s.data.toList ⟨2, 0, pl, sx⟩ = tx) := by unfold Hid; rw [← htx]; rfl
          have hxl : tx.length ≤ 40 := by rw [← htx]; rw [P.hexT_length]; unfold P.sub; simp; omega
          clear htx hb2 d0 d1 d2 d3
          go_wp2_with fail
          refine ⟨⟨q + 1, tb ++ ⟨tx.toArray⟩, by omega, by go_num, rfl, ?_, ?_, hb⟩, by simp [intOf]; omega⟩
          · rw [ByteArray.size_append]
            have : (ByteArray.mk tx.toArray).size = tx.length := by simp [ByteArray.size]
            omega
          · unfold Hid
            rw [HTK.out, ← HI.out, HX.out]
            simp
        · simp only at hk hm0
          subst hk
          have hbp := hbq.size
          have hcv : (convert 38 9 (.slice (some ⟨wr.heap.size + 1, 0, none⟩) 1 1)).run Tryz.prog ((wr.alloc (.cells #[.int .i64 0, .int .u8 mk, .int .i64 pl, .int .i64 sx] 145)).alloc (.cells #[.int .u8 mk] 5)) = .ok (.string ⟨[UInt8.ofNat mk].toArray⟩) ((wr.alloc (.cells #[.int .i64 0, .int .u8 mk, .int .i64 pl, .int .i64 sx] 145)).alloc (.cells #[.int .u8 mk] 5)) := by
            have := run_convert_bytes_arg (P := Tryz.prog) ((wr.alloc (.cells #[.int .i64 0, .int .u8 mk, .int .i64 pl, .int .i64 sx] 145)).alloc (.cells #[.int .u8 mk] 5)) 38 5 Tryz.underlying38 Tryz.underlying5 (wr.heap.size + 1) 0 1 1 [(mk : Int)] (by simp) (by
              intro j hj
              obtain rfl : j = 0 := by omega
              simp) 9 Tryz.underlying9
            rw [this]
            congr 2
          have hb : Below w.heap.size w ((wr.alloc (.cells #[.int .i64 0, .int .u8 mk, .int .i64 pl, .int .i64 sx] 145)).alloc (.cells #[.int .u8 mk] 5)) := (hbq.alloc hbp _).alloc (by simp; omega) _
          go_wp2_with fail
          refine ⟨⟨q + 1, tb ++ ⟨[UInt8.ofNat mk].toArray⟩, by omega, by go_num, rfl, ?_, ?_, hb⟩, by simp [intOf]; omega⟩
          · rw [ByteArray.size_append]
            have : (ByteArray.mk [UInt8.ofNat mk].toArray).size = 1 := by simp [ByteArray.size]
            omega
          · unfold Hid
            rw [HTK.out, ← HI.out]
            simp [P.tell1]
      · have hqe : q = ps.length := by have := HNL.out; omega
        have HE : Hid (tb.data.toList = P.tellAll ps s.data.toList) := by unfold Hid; rw [HI.out, hqe, List.take_length]
        clear hqe HI
        go_wp2_with fail
        go_ret2
        refine ⟨?_, hbq⟩
        rw [← HE.out]
        have e : tb = ⟨tb.data.toList.toArray⟩ := by cases tb; simp
        exact congrArg (fun z => Ending.returned (.tuple #[.string z, .bool true])) e
  · rw [if_neg hlen]
    have hb : ((s.size : Int) == (sz : Int)) = false := by rw [beq_eq_false_iff_ne]; omega
    go_enter Tryz.func48, Tryz.ntmps48
    go_wp2_with fail
    go_ret2
    exact ⟨rfl, (Below.refl _ _).alloc (Nat.le_refl _) _⟩
end Go.Proofs.YtghggcehloiemabGreatDoor
namespace Go.Proofs.YtghggcehloiemabGreatDoor
open Go.RowKit
set_option linter.unusedVariables false
set_option maxRecDepth 16000

namespace P
def decOf (lt bs : List UInt8) : List UInt8 × Nat := match tyOf lt with
  | none => ([], 1)
  | some t => if bs.length = (sz 4 t).1 then (tellAll (parts 4 t) bs, 0) else ([], 3)
end P

set_option maxHeartbeats 1000000 in
theorem decode_any (s v : ByteArray) (w : World) (hs : s.size ≤ maxLen) (htab : Lib.TabIs Tryz.prog w "internal/strconv.uint64pow10" .u64 Lib.pow10Tab) :
    Calls Tryz.prog 23 #[.string s, .string v] w fun e w' => e = .returned (.tuple #[.string ⟨(P.decOf s.data.toList v.data.toList).1.toArray⟩, .int .i64 (P.decOf s.data.toList v.data.toList).2]) ∧ Below w.heap.size w w' := by
  have HTB : Hid (Lib.TabIs Tryz.prog w "internal/strconv.uint64pow10" .u64 Lib.pow10Tab) := htab
  clear htab
  go_enter Tryz.func23, Tryz.ntmps23
  go_wp2_with fail
  refine (parse_any s w hs).mono ?_
  rintro e w1 ⟨hpost, hbe⟩
  cases ht : P.tyOf s.data.toList with
  | none =>
    rw [ht] at hpost
    simp only at hpost
    subst hpost
    have HT : Hid (P.decOf s.data.toList v.data.toList = ([], 1)) := by unfold Hid P.decOf; rw [ht]
    clear ht
    go_wp2_with fail
    go_ret2
    exact ⟨by rw [HT.out]; rfl, hbe.alloc hbe.size _⟩
  | some t =>
    rw [ht] at hpost
    simp only at hpost
    obtain ⟨vv, rfl, hown⟩ := hpost
    obtain ⟨a, N, cap, rfl⟩ := owns_slice hown
    obtain ⟨hrd, hs32, hl80⟩ := tyOf_some ht
    obtain ⟨hfine, hplen⟩ := P.rd_fine 4 _ t [] hrd
    have HT : Hid (P.decOf s.data.toList v.data.toList = if v.size = (P.sz 4 t).1 then (P.tellAll (P.parts 4 t) v.data.toList, 0) else ([], 3)) := by unfold Hid P.decOf; rw [ht]; simp
    obtain ⟨fs, hfs⟩ : ∃ fs, (P.sz 4 t).1 = fs := ⟨_, rfl⟩
    obtain ⟨fp, hfp⟩ : ∃ fp, (P.sz 4 t).2 = fp := ⟨_, rfl⟩
    have hf1 := hfine.2.1
    have hf2 := hfine.2.2
    rw [hfs] at hf1 hf2 hs32 HT
    rw [hfs, hfp]
    have HOK : Hid (∀ x ∈ P.parts 4 t, P.PtOk fs x) := hf2
    have hp80 : (P.parts 4 t).length ≤ 80 := by simp only [List.length_nil, Nat.add_zero] at hplen; omega
    have HOWN : Hid ((w1.alloc (.cells #[.int .i64 fs, .int .i64 fp, .slice a N cap] 62)).ownsRow (w.heap.size + 1) 145 4 (.slice a N cap) (P.parts 4 t).length (cellsOf (P.parts 4 t))) := hown.alloc _
    clear hf2 hrd hfine ht hfs hfp hown hplen hl80
    have hsz1 := hbe.size
    have hbe' : Below w.heap.size w (w1.alloc (.cells #[.int .i64 fs, .int .i64 fp, .slice a N cap] 62)) := hbe.alloc hsz1 _
    have HTB2 : Hid (Lib.TabIs Tryz.prog (w1.alloc (.cells #[.int .i64 fs, .int .i64 fp, .slice a N cap] 62)) "internal/strconv.uint64pow10" .u64 Lib.pow10Tab) := ((Lib.tabBelow_of_tabIs HTB.out).on hbe').here
    go_wp2_with fail
    refine (Tell_any v _ fs fp (w.heap.size + 1) (.slice a N cap) (P.parts 4 t) HOWN.out hf1 hs32 hp80 HOK.out (Lib.tabBelow_of_tabIs HTB2.out)).mono ?_
    rintro e w2 ⟨hpost, hbe2⟩
    have hbe3 : Below w.heap.size w w2 := hbe'.trans (hbe2.mono (by simp; omega))
    by_cases hl : v.size = fs
    · rw [if_pos hl] at hpost
      simp only at hpost
      subst hpost
      have HE : Hid (P.decOf s.data.toList v.data.toList = (P.tellAll (P.parts 4 t) v.data.toList, 0)) := by unfold Hid; rw [HT.out, if_pos hl]
      clear hl hbe2
      go_wp2_with fail
      go_ret2
      exact ⟨by rw [HE.out]; rfl, hbe3⟩
    · rw [if_neg hl] at hpost
      simp only at hpost
      subst hpost
      have HE : Hid (P.decOf s.data.toList v.data.toList = ([], 3)) := by unfold Hid; rw [HT.out, if_neg hl]
      clear hl hbe2
      go_wp2_with fail
      go_ret2
      exact ⟨by rw [HE.out]; rfl, hbe3⟩
end Go.Proofs.YtghggcehloiemabGreatDoor
namespace Go.Proofs.YtghggcehloiemabGreatDoor
open Go.RowKit
set_option linter.unusedVariables false
set_option maxRecDepth 16000

theorem rg_wrap {x : Nat} (h : x < P.W32) : IntKind.i64.wrap (x : Int) = x := by unfold P.W32 at h; exact wrap_id _ (by omega) (by omega)
theorem fuel_left {q fuel : Nat} (h : q < fuel) : fuel - q = (fuel - (q + 1)) + 1 := by omega
theorem next_int {q : Nat} (hw : wrap64 ((q : Int) + 1) = (q : Int) + 1) : Value.int .i64 (wrap64 ((q : Int) + 1)) = .int .i64 ((q + 1 : Nat) : Int) := by rw [hw, Int.natCast_add]; rfl
theorem next_less' {q fuel : Nat} (h : q < fuel) (hw : wrap64 ((q : Int) + 1) = (q : Int) + 1) : fuel - (intOf (.int .i64 (wrap64 ((q : Int) + 1)))).toNat < fuel - (intOf (.int .i64 (q : Int))).toNat := by rw [hw]; simp only [intOf]; omega

set_option maxHeartbeats 4000000 in
theorem mrun_any (l : List UInt8) (hcode : P.IsCode l) (s : ByteArray) (a b c fuel : Nat) (w : World) (g N cap base : Nat) (ha : a < 4294967296) (hb : b < 4294967296) (hc : c < 4294967296) (hf : fuel ≤ 20000) (hs : s.size ≤ 2048)
    (hown : w.ownsRow base 112 4 (.slice (some ⟨g, 0, none⟩) N cap) (P.codeOf l).length (codeCells (P.codeOf l))) :
    Calls Tryz.prog 50 #[.agg #[.slice (some ⟨g, 0, none⟩) N cap], .string s, .agg #[.int .i64 a, .int .i64 b, .int .i64 c, .int .i64 fuel]] w fun e w' => e = .returned (.tuple #[outV (P.go (P.codeOf l) fuel 0 (P.start s.data.toList a b c)), .int .i64 (P.go (P.codeOf l) fuel 0 (P.start s.data.toList a b c)).err]) ∧ Below w.heap.size w w' := by
  have HOWN := hid_m hown
  have HCO := hid_m hcode
  have wa : IntKind.u32.wrap (a : Int) = a := by rw [wrap_u32]; omega
  have wb : IntKind.u32.wrap (b : Int) = b := by rw [wrap_u32]; omega
  have wc : IntKind.u32.wrap (c : Int) = c := by rw [wrap_u32]; omega
  have HFU := hid_m hf
  have HSI := hid_m hs
  have HAB := hid_m (And.intro ha (And.intro hb hc))
  clear hown hcode ha hb hc hf hs
  go_enter Tryz.func50, Tryz.ntmps50
  go_wp2_with fail
  rw [run_bytes_of_string (P := Tryz.prog) _ 9 38 5 s Tryz.underlying9 Tryz.underlying38 Tryz.underlying5]
  generalize grownCap _ s.size 0 5 = cp
  have hd := Hd.make w (.slice (some ⟨g, 0, none⟩) N cap) a b c fuel s cp
  have hsz : (((w.alloc (.cells #[.slice (some ⟨g, 0, none⟩) N cap] 75)).alloc (.cells #[.int .i64 a, .int .i64 b, .int .i64 c, .int .i64 fuel] 101)).alloc (.cells #[.string ⟨#[]⟩, .int .i64 0, .int .i64 0, .int .i64 0] 56)).heap.size = w.heap.size + 1 + 1 + 1 := by simp
  rw [hsz]
  generalize ((((w.alloc (.cells #[.slice (some ⟨g, 0, none⟩) N cap] 75)).alloc (.cells #[.int .i64 a, .int .i64 b, .int .i64 c, .int .i64 fuel] 101)).alloc (.cells #[.string ⟨#[]⟩, .int .i64 0, .int .i64 0, .int .i64 0] 56)).drew.alloc (.cells (bytesRow s cp) 5 ((bytesRow s cp).size, (bytesRow s cp).size + 1))) = wq at hd ⊢
  clear hsz
  have cs0 : wq.cell? ⟨w.heap.size + 1, 0, none⟩ = some (.int .i64 a) := by rw [cell_of_row _ _ _ _ _ _ hd.start]; rfl
  have cs1 : wq.cell? ⟨w.heap.size + 1, 1, none⟩ = some (.int .i64 b) := by rw [cell_of_row _ _ _ _ _ _ hd.start]; rfl
  have cs2 : wq.cell? ⟨w.heap.size + 1, 2, none⟩ = some (.int .i64 c) := by rw [cell_of_row _ _ _ _ _ _ hd.start]; rfl
  have cs3 : wq.cell? ⟨w.heap.size + 1, 3, none⟩ = some (.int .i64 fuel) := by rw [cell_of_row _ _ _ _ _ _ hd.start]; rfl
  have HD := hid_m hd
  have hqs := hd.size
  clear hd
  have q1 : w.heap.size + 1 < wq.heap.size := by omega
  have c0 : ∀ o, (wq.alloc o).cell? ⟨w.heap.size + 1, 0, none⟩ = some (.int .i64 a) := fun o => by rw [← cs0]; exact cell_alloc_old q1
  have c1 : ∀ o, (wq.alloc o).cell? ⟨w.heap.size + 1, 1, none⟩ = some (.int .i64 b) := fun o => by rw [← cs1]; exact cell_alloc_old q1
  have c2 : ∀ o, (wq.alloc o).cell? ⟨w.heap.size + 1, 2, none⟩ = some (.int .i64 c) := fun o => by rw [← cs2]; exact cell_alloc_old q1
  have c3 : ∀ o, (wq.alloc o).cell? ⟨w.heap.size + 1, 3, none⟩ = some (.int .i64 fuel) := fun o => by rw [← cs3]; exact cell_alloc_old q1
  clear hqs cs0 cs1 cs2 cs3 q1
  go_wp2_with fail
  have hd := HD.out
  have hqs := hd.size
  have hcl : (P.codeOf l).length = l.length / 5 := P.codeOf_length l
  obtain ⟨rb, hrb⟩ : ∃ rb, wq.heap.size = rb := ⟨_, rfl⟩
  obtain ⟨mb, hmb⟩ : ∃ mb, w.heap.size + 1 + 1 + 1 = mb := ⟨_, rfl⟩
  have hw0 : ∃ W0, wq.alloc (.cells #[.int .u32 a, .int .u32 b, .int .u32 c, .int .u32 0, .int .u32 0, .int .u32 0, .int .u32 0, .int .u32 0, .int .u32 0, .int .u32 0, .int .u32 0, .int .u32 0, .int .u32 0, .int .u32 0, .int .u32 0, .int .u32 0, .slice (some ⟨w.heap.size + 1 + 1 + 1, 0, none⟩) s.size cp, .int .i64 0] 152) = W0 := ⟨_, rfl⟩
  obtain ⟨W0, hW0⟩ := hw0
  have f1 : Below wq.heap.size wq W0 := by rw [← hW0]; exact (Below.refl _ _).alloc (Nat.le_refl _) _
  have f2 : Below w.heap.size w W0 := hd.bel.trans (f1.mono hd.bel.size)
  have r0 : RL W0 W0 rb mb cp l fuel 0 (P.start s.data.toList a b c) (P.start s.data.toList a b c) := by
    refine ⟨rfl, P.start_ok _ _ _ _ _ HAB.out.1 HAB.out.2.1 HAB.out.2.2 HCO.out.some, rfl, ?_, ?_, Below.refl _ _⟩
    · unfold Rn; rw [← hW0, ← hrb, ← hmb]
      have := heap_alloc_new wq (.cells (rnCells (P.start s.data.toList a b c) (.slice (some ⟨w.heap.size + 1 + 1 + 1, 0, none⟩) s.size cp)) 152)
      have e : (P.start s.data.toList a b c).mem.length = s.size := by simp [P.start]
      rw [e]; exact this
    · rw [← hmb]; exact hd.mm.of (f1.block _ (by omega))
  have k1 : W0.heap[w.heap.size]? = some (.cells #[.slice (some ⟨g, 0, none⟩) N cap] 75 (0, 0)) := by rw [f1.block _ (by omega)]; exact hd.code
  have k2 : W0.heap[w.heap.size + 1]? = some (.cells #[.int .i64 a, .int .i64 b, .int .i64 c, .int .i64 fuel] 101 (0, 0)) := by rw [f1.block _ (by omega)]; exact hd.start
  have k3 : W0.heap[w.heap.size + 1 + 1]? = some (.cells #[.string ⟨#[]⟩, .int .i64 0, .int .i64 0, .int .i64 0] 56 (0, 0)) := by rw [f1.block _ (by omega)]; exact hd.out
  have k4 : W0.ownsRow base 112 4 (.slice (some ⟨g, 0, none⟩) N cap) (P.codeOf l).length (codeCells (P.codeOf l)) := owns_on HOWN.out f2
  have hgl : g < w.heap.size := (HOWN.out.lt g rfl).2
  have hlt1 : w.heap.size < mb ∧ w.heap.size + 1 < mb ∧ w.heap.size + 1 + 1 < mb ∧ g < mb ∧ mb < rb := by omega
  rw [hW0, hrb, hmb]
  have HR0 := hid_m r0
  have HK1 := hid_m k1
  have HK2 := hid_m k2
  have HK3 := hid_m k3
  have HK4 := hid_m k4
  have HF2 := hid_m f2
  have HLT := hid_m hlt1
  have HCL := hid_m hcl
  clear r0 k1 k2 k3 k4 f1 f2 hlt1 hW0 hd hqs hrb hmb hgl hcl c0 c1 c2 c3 wa wb wc HD HOWN
  go_loopw [9] (fun j wr => ∃ (q : Nat) (m : P.M), q ≤ fuel ∧ j = .int .i64 q ∧ Hid (RL W0 wr rb mb cp l fuel q (P.start s.data.toList a b c) m)) (fun j _ => fuel - (intOf j).toNat)
  case atStart => exact ⟨0, _, Nat.zero_le _, rfl, HR0.out⟩
  case round =>
    obtain ⟨q, m, hq, rfl, HL⟩ := hrel
    have e3 : wr.cell? ⟨w.heap.size + 1, 3, none⟩ = some (.int .i64 fuel) := by
      rw [cell_of_row wr _ 3 _ _ _ (by rw [HL.out.bel.block _ HLT.out.2.1]; exact HK2.out)]; rfl
    by_cases hlt : q < fuel
    · obtain ⟨pc, hpc⟩ : ∃ pc, m.pc = pc := ⟨_, rfl⟩
      have hpl : pc < l.length / 5 := by rw [← hpc]; exact HL.out.ok.here
      have ec : wr.cell? ⟨w.heap.size, 0, none⟩ = some (.slice (some ⟨g, 0, none⟩) N cap) := by
        rw [cell_of_row wr _ 0 _ _ _ (by rw [HL.out.bel.block _ HLT.out.1]; exact HK1.out)]; rfl
      have ep : wr.cell? ⟨rb, 17, none⟩ = some (.int .i64 pc) := by rw [HL.out.rn.pc HL.out.ok, hpc]
      have ow : wr.ownsRow base 112 4 (.slice (some ⟨g, 0, none⟩) N cap) (P.codeOf l).length (codeCells (P.codeOf l)) := m_owns_of HK4.out (fun g' hg' => HL.out.bel.block g' (by cases hg'; exact HLT.out.2.2.2.1))
      have hx := P.codeOf_get l pc hpl
      obtain ⟨d0, d1, d2, d3, hN1, hN2⟩ := ins_cell ow rfl hx
      rw [HCL.out] at hN1
      have hpN : pc < N := by omega
      have hok := HCO.out.all pc hpl
      have hkk := (insAt_lt l pc).2.2.2
      obtain ⟨x, hxe⟩ : ∃ x, P.insAt l pc = x := ⟨_, rfl⟩
      rw [hxe] at d0 d1 d2 d3 hx hok hkk
      have HX := hid_m hx
      have HXE := hid_m hxe
      have HOKI := hid_m hok
      have HKK := hid_m hkk
      have HPC := hid_m hpc
      have HPL := hid_m hpl
      obtain ⟨op, ra, rb', k⟩ := x
      simp only at d0 d1 d2 d3
      have i0 : (0 : Int) ≤ (pc : Int) := Int.natCast_nonneg pc
      have i1 : (pc : Int) < (N : Int) := by omega
      clear hx hok hkk hpc hpl ow hN1 hN2 hpN hxe
      by_cases h0 : op = 0
      · subst h0
        have hrl := HL.out.rn.lt
        have em : ∀ o, (wr.alloc o).cell? ⟨rb, 16, none⟩ = some (.slice (some ⟨mb, 0, none⟩) m.mem.length cp) := fun o => by rw [cell_alloc_old hrl, HL.out.len]; exact HL.out.rn.mem HL.out.ok
        have er : ∀ o, (wr.alloc o).cell? ⟨rb, 0, none⟩ = some (.int .u32 (P.rg m 0)) := fun o => by rw [cell_alloc_old hrl]; exact HL.out.rn.reg HL.out.ok (by decide)
        have hml := HL.out.mm.lt
        have hcv : ∀ o, (convert 38 9 (.slice (some ⟨mb, 0, none⟩) m.mem.length cp)).run Tryz.prog (wr.alloc o) = .ok (.string ⟨m.mem.toArray⟩) (wr.alloc o) := fun o => conv_mem (HL.out.mm.of (alloc_old hml))
        have hko : ∀ o, (wr.alloc o).heap[w.heap.size + 1 + 1]? = some (.cells #[.string ⟨#[]⟩, .int .i64 0, .int .i64 0, .int .i64 0] 56 (0, 0)) := fun o => by
          rw [alloc_old (Nat.lt_trans HLT.out.2.2.1 hml), HL.out.bel.block _ HLT.out.2.2.1]; exact HK3.out
        have o0 : ∀ o, (wr.alloc o).cell? ⟨w.heap.size + 1 + 1, 0, none⟩ = some (.string ⟨#[]⟩) := fun o => by rw [cell_of_row _ _ _ _ _ _ (hko o)]; rfl
        have o1 : ∀ o, (wr.alloc o).cell? ⟨w.heap.size + 1 + 1, 1, none⟩ = some (.int .i64 0) := fun o => by rw [cell_of_row _ _ _ _ _ _ (hko o)]; rfl
        have o2 : ∀ o, (wr.alloc o).cell? ⟨w.heap.size + 1 + 1, 2, none⟩ = some (.int .i64 0) := fun o => by rw [cell_of_row _ _ _ _ _ _ (hko o)]; rfl
        have o3 : ∀ o, (wr.alloc o).cell? ⟨w.heap.size + 1 + 1, 3, none⟩ = some (.int .i64 0) := fun o => by rw [cell_of_row _ _ _ _ _ _ (hko o)]; rfl
        have of : ∀ o j, (wr.alloc o).frozen? ⟨w.heap.size + 1 + 1, j, none⟩ = false := fun o j => by simp [World.frozen?, hko o]
        have hqw := w64_next q fuel hlt HFU.out
        have hrw : IntKind.i64.wrap (P.rg m 0 : Int) = P.rg m 0 := rg_wrap (P.rg_lt HL.out.ok 0)
        have HGO : Hid (P.go (P.codeOf l) fuel 0 (P.start s.data.toList a b c) = ⟨m.mem, P.rg m 0, k, q + 1, 0⟩) := by
          unfold Hid; rw [HL.out.inv, fuel_left hlt]; exact P.go_end (by rw [HPC.out]; exact HX.out) rfl
        have HKO := hid_m hko
        have HBF : Hid (∀ o, Below w.heap.size w (wr.alloc o)) := fun o => (HF2.out.trans (HL.out.bel.mono (Nat.le_of_lt HLT.out.1))).alloc (Nat.le_of_lt (Nat.lt_trans HLT.out.1 hml)) _
        clear hrl hml hko
        go_wp2_with fail
        obtain ⟨W4, hW4, z0, z1, z2, z3, hbf⟩ := out_end (.string ⟨m.mem.toArray⟩) (.int .i64 (P.rg m 0)) (.int .i64 k) (.int .i64 ((q : Int) + 1)) (HKO.out _) (HBF.out _) (Nat.le_succ_of_le (Nat.le_succ _))
        rw [hW4]
        refine bodyPost_ret (v := .tuple #[.agg #[.string ⟨m.mem.toArray⟩, .int .i64 (P.rg m 0), .int .i64 k, .int .i64 ((q : Int) + 1)], .int .i64 0]) (by simp [results, Tryz.results50, go_sem, z0, z1, z2, z3]) rfl ?_
        exact ⟨by rw [HGO.out]; rfl, hbf⟩
      · have h0' : ((op : Int) == 0) = false := by rw [beq_eq_false_iff_ne]; omega
        have HO0 := hid_m h0
        clear h0
        go_wp2_with fail
        have hrl := HL.out.rn.lt
        have hml := HL.out.mm.lt
        have hlen := HL.out.len
        have hrn := HL.out.rn
        rw [← hlen] at hrn
        refine (mstep_any ⟨op, ra, rb', k⟩ m rb mb cp mb (l.length / 5) (l.length / 5) _ HO0.out HOKI.out HKK.out HL.out.ok HCO.out.few (Nat.ne_of_gt HLT.out.2.2.2.2) (Nat.le_of_lt HLT.out.2.2.2.2) (Nat.le_refl _) (hrn.of (alloc_old hrl)) (HL.out.mm.of (alloc_old hml))).mono ?_
        rintro e w2 ⟨hpost, hb2⟩
        have hbel : Below mb W0 w2 := (HL.out.bel.alloc (by omega) _).trans hb2
        have HBL := hid_m hbel
        have HHL := hid_m hlen
        clear hb2 hbel hrl hml hrn hlen d0 d1 d2 d3 ec ep
        have hstep : (∃ m', P.step ⟨op, ra, rb', k⟩ m = some m') ∨ P.step ⟨op, ra, rb', k⟩ m = none := by
          cases P.step ⟨op, ra, rb', k⟩ m with
          | none => exact .inr rfl
          | some m' => exact .inl ⟨m', rfl⟩
        rcases hstep with ⟨m', hst⟩ | hst
        · rw [hst] at hpost
          obtain ⟨rfl, hr', hm'⟩ := hpost
          have HRR := hid_m hr'
          have HMM := hid_m hm'
          have HST := hid_m hst
          have hqw := w64_next q fuel hlt HFU.out
          clear hr' hm' hst e3
          go_wp2_with fail
          refine ⟨⟨q + 1, m', hlt, next_int hqw, ?_⟩, next_less' hlt hqw⟩
          refine ⟨?_, P.step_ok HCO.out HPL.out HL.out.ok HPC.out (by rw [HXE.out]; exact HO0.out) (by rw [HXE.out]; exact HST.out), (P.step_mem HST.out).trans HHL.out, by rw [← HHL.out]; exact HRR.out, HMM.out, HBL.out⟩
          rw [HL.out.inv, fuel_left hlt]; exact P.go_step (by rw [HPC.out]; exact HX.out) HO0.out HST.out
        · rw [hst] at hpost
          subst hpost
          have HGO : Hid (P.go (P.codeOf l) fuel 0 (P.start s.data.toList a b c) = ⟨[], 0, 0, 0, 7⟩) := by
            unfold Hid; rw [HL.out.inv, fuel_left hlt]; exact P.go_bad (by rw [HPC.out]; exact HX.out) HO0.out hst
          clear hst e3
          have ko : w2.heap[w.heap.size + 1 + 1]? = some (.cells #[.string ⟨#[]⟩, .int .i64 0, .int .i64 0, .int .i64 0] 56 (0, 0)) := by rw [HBL.out.block _ HLT.out.2.2.1]; exact HK3.out
          have o0 : w2.cell? ⟨w.heap.size + 1 + 1, 0, none⟩ = some (.string ⟨#[]⟩) := by rw [cell_of_row _ _ _ _ _ _ ko]; rfl
          have o1 : w2.cell? ⟨w.heap.size + 1 + 1, 1, none⟩ = some (.int .i64 0) := by rw [cell_of_row _ _ _ _ _ _ ko]; rfl
          have o2 : w2.cell? ⟨w.heap.size + 1 + 1, 2, none⟩ = some (.int .i64 0) := by rw [cell_of_row _ _ _ _ _ _ ko]; rfl
          have o3 : w2.cell? ⟨w.heap.size + 1 + 1, 3, none⟩ = some (.int .i64 0) := by rw [cell_of_row _ _ _ _ _ _ ko]; rfl
          have of : ∀ j, w2.frozen? ⟨w.heap.size + 1 + 1, j, none⟩ = false := fun j => by simp [World.frozen?, ko]
          have HKO := hid_m ko
          have HBF : Hid (Below w.heap.size w w2) := HF2.out.trans (HBL.out.mono (Nat.le_of_lt HLT.out.1))
          clear ko
          go_wp2_with fail
          have z := out4 (.string ⟨#[]⟩) (.int .i64 0) (.int .i64 0) (.int .i64 0) HKO.out
          obtain ⟨W4, hW4⟩ : ∃ W4, ((((w2.setCell ⟨w.heap.size + 1 + 1, 0, none⟩ (.string ⟨#[]⟩)).setCell ⟨w.heap.size + 1 + 1, 1, none⟩ (.int .i64 0)).setCell ⟨w.heap.size + 1 + 1, 2, none⟩ (.int .i64 0)).setCell ⟨w.heap.size + 1 + 1, 3, none⟩ (.int .i64 0)) = W4 := ⟨_, rfl⟩
          have hbf : Below w.heap.size w W4 := by rw [← hW4]; exact out_below _ _ _ _ HBF.out (Nat.le_succ_of_le (Nat.le_succ _))
          rw [hW4] at z ⊢
          have z0 : W4.cell? ⟨w.heap.size + 1 + 1, 0, none⟩ = some (.string ⟨#[]⟩) := by rw [cell_of_row _ _ _ _ _ _ z]; rfl
          have z1 : W4.cell? ⟨w.heap.size + 1 + 1, 1, none⟩ = some (.int .i64 0) := by rw [cell_of_row _ _ _ _ _ _ z]; rfl
          have z2 : W4.cell? ⟨w.heap.size + 1 + 1, 2, none⟩ = some (.int .i64 0) := by rw [cell_of_row _ _ _ _ _ _ z]; rfl
          have z3 : W4.cell? ⟨w.heap.size + 1 + 1, 3, none⟩ = some (.int .i64 0) := by rw [cell_of_row _ _ _ _ _ _ z]; rfl
          refine bodyPost_ret (v := .tuple #[.agg #[.string ⟨#[]⟩, .int .i64 0, .int .i64 0, .int .i64 0], .int .i64 7]) (by simp [results, Tryz.results50, go_sem, z0, z1, z2, z3]) rfl ?_
          exact ⟨by rw [HGO.out]; rfl, hbf⟩
    · have hqf : q = fuel := by omega
      subst hqf
      have HGO : Hid (P.go (P.codeOf l) q 0 (P.start s.data.toList a b c) = ⟨[], 0, 0, 0, 8⟩) := by unfold Hid; rw [HL.out.inv, Nat.sub_self, P.go_zero]
      have ko : wr.heap[w.heap.size + 1 + 1]? = some (.cells #[.string ⟨#[]⟩, .int .i64 0, .int .i64 0, .int .i64 0] 56 (0, 0)) := by rw [HL.out.bel.block _ HLT.out.2.2.1]; exact HK3.out
      have o0 : wr.cell? ⟨w.heap.size + 1 + 1, 0, none⟩ = some (.string ⟨#[]⟩) := by rw [cell_of_row _ _ _ _ _ _ ko]; rfl
      have o1 : wr.cell? ⟨w.heap.size + 1 + 1, 1, none⟩ = some (.int .i64 0) := by rw [cell_of_row _ _ _ _ _ _ ko]; rfl
      have o2 : wr.cell? ⟨w.heap.size + 1 + 1, 2, none⟩ = some (.int .i64 0) := by rw [cell_of_row _ _ _ _ _ _ ko]; rfl
      have o3 : wr.cell? ⟨w.heap.size + 1 + 1, 3, none⟩ = some (.int .i64 0) := by rw [cell_of_row _ _ _ _ _ _ ko]; rfl
      have of : ∀ j, wr.frozen? ⟨w.heap.size + 1 + 1, j, none⟩ = false := fun j => by simp [World.frozen?, ko]
      have HKO := hid_m ko
      have HBF : Hid (Below w.heap.size w wr) := HF2.out.trans (HL.out.bel.mono (Nat.le_of_lt HLT.out.1))
      clear ko
      go_wp2_with fail
      have z := out4 (.string ⟨#[]⟩) (.int .i64 0) (.int .i64 0) (.int .i64 0) HKO.out
      obtain ⟨W4, hW4⟩ : ∃ W4, ((((wr.setCell ⟨w.heap.size + 1 + 1, 0, none⟩ (.string ⟨#[]⟩)).setCell ⟨w.heap.size + 1 + 1, 1, none⟩ (.int .i64 0)).setCell ⟨w.heap.size + 1 + 1, 2, none⟩ (.int .i64 0)).setCell ⟨w.heap.size + 1 + 1, 3, none⟩ (.int .i64 0)) = W4 := ⟨_, rfl⟩
      have hbf : Below w.heap.size w W4 := by rw [← hW4]; exact out_below _ _ _ _ HBF.out (Nat.le_succ_of_le (Nat.le_succ _))
      rw [hW4] at z ⊢
      have z0 : W4.cell? ⟨w.heap.size + 1 + 1, 0, none⟩ = some (.string ⟨#[]⟩) := by rw [cell_of_row _ _ _ _ _ _ z]; rfl
      have z1 : W4.cell? ⟨w.heap.size + 1 + 1, 1, none⟩ = some (.int .i64 0) := by rw [cell_of_row _ _ _ _ _ _ z]; rfl
      have z2 : W4.cell? ⟨w.heap.size + 1 + 1, 2, none⟩ = some (.int .i64 0) := by rw [cell_of_row _ _ _ _ _ _ z]; rfl
      have z3 : W4.cell? ⟨w.heap.size + 1 + 1, 3, none⟩ = some (.int .i64 0) := by rw [cell_of_row _ _ _ _ _ _ z]; rfl
      refine bodyPost_ret (v := .tuple #[.agg #[.string ⟨#[]⟩, .int .i64 0, .int .i64 0, .int .i64 0], .int .i64 8]) (by simp [results, Tryz.results50, go_sem, z0, z1, z2, z3]) rfl ?_
      exact ⟨by rw [HGO.out]; rfl, hbf⟩
end Go.Proofs.YtghggcehloiemabGreatDoor
