import Derived.Test.YtghggcehloiemabGreatDoorTellP
import Derived.Test.YtghggcehloiemabGreatDoorShelf
import Derived.Test.YtghggcehloiemabGreatDoorParseWAll
import Derived.Sort.Grow
import Derived.Lib.AppendIntMem
import Derived.Lib.ItoaLen
namespace Go.Proofs.YtghggcehloiemabGreatDoor
open Go.RowKit
set_option linter.unusedVariables false
set_option maxRecDepth 16000

theorem grow_below {w w' : World} {k : Nat} {os : Array Obj} (h : w' = Go.Sort.grow (w.drewN k) os) : Below w.heap.size w w' := by
  subst h
  have hd : Below w.heap.size w (w.drewN k) := below_drewN (Below.refl _ _) k
  refine ⟨hd.os, hd.tape, hd.output, ?_, ?_⟩
  · simp
  · intro j hj
    rw [Go.Sort.heap_grow_old _ _ (by simpa using hj)]
    exact hd.block j hj

theorem row8_cell {w : World} {base g N cap k : Nat} {bs : List UInt8} (h : w.ownsRow base 5 1 (.slice (some ⟨g, 0, none⟩) N cap) bs.length (bs.map u8v)) (hk : k < bs.length) : w.cell? ⟨g, k, none⟩ = some (u8v bs[k]) := by
  obtain ⟨h1, h2⟩ := h
  rcases h2 with ⟨h2, _⟩ | ⟨g', cap', cur, hv, hb, hg, hn, hm, hsz, htk⟩
  · cases h2
  · cases hv
    rw [cell_of_row w g _ _ _ _ hg]
    have hget : (bs.map u8v)[k]? = some (u8v bs[k]) := by simp [List.getElem?_eq_getElem hk]
    rw [← htk, List.getElem?_take_of_lt (by omega)] at hget
    simpa using hget

set_option maxHeartbeats 400000 in
theorem hexMark_any (n : Nat) (w : World) (hn : n ≤ 15) :
    Calls Tryz.prog 137 #[.int .u8 n] w fun e w' => e = .returned (.int .u8 (P.hx n).toNat) ∧ w' = w := by
  by_cases h : n < 10
  · have HX : Hid (((P.hx n).toNat : Int) = 48 + n) := by unfold Hid P.hx; rw [if_pos h]; simp; omega
    go_enter Tryz.func137, Tryz.ntmps137
    go_wp2
    go_ret
    exact ⟨by rw [HX.out]; rfl, rfl⟩
  · have HX : Hid (((P.hx n).toNat : Int) = 97 + n - 10) := by unfold Hid P.hx; rw [if_neg h]; simp; omega
    go_enter Tryz.func137, Tryz.ntmps137
    go_wp2
    go_ret
    exact ⟨by rw [HX.out]; rfl, rfl⟩

theorem and_15 (a : Nat) (ha : a < 256) : bits .and .u8 (a : Int) 15 = (a : Int) % 16 := by
  have h1 : (BitVec.ofInt 8 (a : Int)).toNat = a := by
    rw [BitVec.ofInt_natCast, BitVec.toNat_ofNat]; exact Nat.mod_eq_of_lt (by omega)
  have h2 : (BitVec.ofInt 8 (15 : Int)).toNat = 15 := by decide
  show IntKind.u8.wrap ((BitVec.ofInt 8 (a : Int) &&& BitVec.ofInt 8 15).toNat : Int) = _
  rw [BitVec.toNat_and, h1, h2, show (15 : Nat) = 2 ^ 4 - 1 from rfl, Nat.and_two_pow_sub_one_eq_mod]
  simp only [IntKind.wrap, IntKind.signed, IntKind.bits]
  simp
  omega

set_option maxHeartbeats 1000000 in
theorem hexText_any (s : ByteArray) (w : World) (hs : s.size ≤ 32) (hs1 : 1 ≤ s.size) :
    Calls Tryz.prog 91 #[.string s] w fun e w' => e = .returned (.string ⟨(P.hexT s.data.toList).toArray⟩) ∧ Below w.heap.size w w' := by
  obtain ⟨i0, hi0, hz0, hz1, hz2⟩ := info_parts Tryz.infoU8
  go_enter Tryz.func91, Tryz.ntmps91
  go_wp2_with fail
  go_loopw [3, 4] (fun b i wr => ∃ k : Nat, k ≤ s.size ∧ i = .int .i64 k ∧ wr.ownsRow w.heap.size 5 1 b (2 * k) ((P.hexT (s.data.toList.take k)).map u8v) ∧ Below w.heap.size w wr) (fun _ i _ => s.size - (intOf i).toNat)
  case atStart => exact ⟨0, by omega, rfl, World.ownsRow_nil _ _ _ _, Below.refl _ _⟩
  case round =>
    obtain ⟨k, hk, rfl, hown, hbe⟩ := hrel
    have hsz := hbe.size
    by_cases hlt : k < s.size
    · have hc := s[k].toNat_lt
      have hand : bits .and .u8 (s[k].toNat : Int) 15 = (s[k].toNat : Int) % 16 := and_15 _ (by omega)
      have HTK : Hid ((P.hexT (s.data.toList.take (k + 1))).map u8v = (P.hexT (s.data.toList.take k)).map u8v ++ [u8v (P.hx (s[k].toNat / 16))] ++ [u8v (P.hx (s[k].toNat % 16))]) := by
        unfold Hid P.hexT; rw [List.take_add_one, get_of hlt]; simp
      have hc2 : (s[k].toNat : Int) ≤ 255 := by omega
      have HM1 : Hid (∀ w0, Calls Tryz.prog 137 #[.int .u8 ((s[k].toNat : Int) / 16)] w0 fun e w' => e = .returned (.int .u8 (P.hx (s[k].toNat / 16)).toNat) ∧ w' = w0) := fun w0 => hexMark_any (s[k].toNat / 16) w0 (by omega)
      have HM2 : Hid (∀ w0, Calls Tryz.prog 137 #[.int .u8 ((s[k].toNat : Int) % 16)] w0 fun e w' => e = .returned (.int .u8 (P.hx (s[k].toNat % 16)).toNat) ∧ w' = w0) := fun w0 => hexMark_any (s[k].toNat % 16) w0 (by omega)
      go_wp2_with fail
      refine Calls.mono (HM1.out _) ?_
      rintro e wr ⟨rfl, rfl⟩
      generalize hd1 : P.hx (s[k].toNat / 16) = d1 at *
      generalize hd2 : P.hx (s[k].toNat % 16) = d2 at *
      have hn1 : (d1.toNat : Int) ≤ 255 := by have := d1.toNat_lt; omega
      have hn2 : (d2.toNat : Int) ≤ 255 := by have := d2.toNat_lt; omega
      clear hd1 hd2
      have hl0 : ((P.hexT (s.data.toList.take k)).map u8v).length = 2 * k := by rw [List.length_map, P.hexT_length, List.length_take]; simp; omega
      go_wp2_with (first
          | (at_builtin; refine wpList_append_lies _ rfl _ _ 38 rfl w.heap.size 5 i0 (.int .u8 0) 1 1 Tryz.underlying38 hi0 hz0 hz1 hz2 rfl (by decide) u3 (2 * k) ((P.hexT (s.data.toList.take k)).map u8v) rfl (hown.alloc _) ⟨wr.heap.size, 0, none⟩ 1 1 [.int .u8 d1.toNat] rfl rfl (cell_one_new _ _ _) (fun x hx => by simp at hx; subst hx; rfl) (by omega) (by unfold maxLen; omega) (by omega) (by simp; omega) _ rfl ?_; intro g cap3 w3 hown' hgrow hat hlt3
             have hb3 : Below w.heap.size w w3 := Below.grown (hbe.alloc hsz _) hgrow (by simp; omega) (fun j hj => (hown.lt _ hj).1)))
      refine Calls.mono (HM2.out _) ?_
      rintro e w3 ⟨rfl, rfl⟩
      have hb3s := hb3.size
      go_wp2_with (first
          | (at_builtin; refine wpList_append_lies _ rfl _ _ 38 rfl w.heap.size 5 i0 (.int .u8 0) 1 1 Tryz.underlying38 hi0 hz0 hz1 hz2 rfl (by decide) (.slice (some ⟨g, 0, none⟩) (2 * k + 1) cap3) (2 * k + 1) ((P.hexT (s.data.toList.take k)).map u8v ++ [.int .u8 d1.toNat]) rfl (hown'.alloc _) ⟨w3.heap.size, 0, none⟩ 1 1 [.int .u8 d2.toNat] rfl rfl (cell_one_new _ _ _) (fun x hx => by simp at hx; subst hx; rfl) (by omega) (by unfold maxLen; omega) (by omega) (by simp; omega) _ rfl ?_; intro g4 cap4 w4 hown4 hgrow4 hat4 hlt4
             have hb4 : Below w.heap.size w w4 := Below.grown (hb3.alloc hb3s _) hgrow4 (by simp; omega) (fun j hj => (hown'.lt _ hj).1)))
      refine ⟨⟨k + 1, by omega, by go_num, ?_, hb4⟩, by simp [intOf]; omega⟩
      rw [HTK.out]
      exact hown4
    · have hke : k = s.size := by omega
      have htk : s.data.toList.take k = s.data.toList := by rw [hke]; exact List.take_of_length_le (by simp)
      have hlf : (P.hexT s.data.toList).length = 2 * k := by rw [P.hexT_length, hke]; simp
      rw [htk, ← hlf] at hown
      obtain ⟨g, capb, hvb, _, _⟩ := hown.form (by omega)
      subst hvb
      have hcv : (convert 38 9 (.slice (some ⟨g, 0, none⟩) (P.hexT s.data.toList).length capb)).run Tryz.prog wr = .ok (.string ⟨(P.hexT s.data.toList).toArray⟩) wr := by
        have := run_convert_bytes_arg (P := Tryz.prog) wr 38 5 Tryz.underlying38 Tryz.underlying5 g 0 (P.hexT s.data.toList).length capb ((P.hexT s.data.toList).map fun c => (c.toNat : Int)) (by simp) (by
          intro j hj
          rw [Nat.zero_add]
          have := row8_cell hown (k := j) hj
          simpa [List.getD, List.getElem?_eq_getElem hj, u8v] using this) 9 Tryz.underlying9
        rw [this]
        congr 2
        simp [strOfNums, Function.comp_def]
      clear hown hlf htk
      go_wp2_with fail
      go_ret
      exact ⟨rfl, hbe⟩

theorem leval_32 (l : List UInt8) (h : l.length ≤ 4) : P.leval l ≤ 4294967295 := by
  have := P.leval_lt l
  have : 256 ^ l.length ≤ 256 ^ 4 := Nat.pow_le_pow_right (by omega) h
  omega

set_option maxHeartbeats 1000000 in
theorem numberText_any (s : ByteArray) (w : World) (hs : s.size ≤ 4) (B : Nat) (htab : Lib.TabBelow Tryz.prog B w "internal/strconv.uint64pow10" .u64 Lib.pow10Tab) :
    Calls Tryz.prog 90 #[.string s] w fun e w' => e = .returned (.string ⟨(Lib.decDigits (P.leval s.data.toList)).toArray⟩) ∧ Below w.heap.size w w' := by
  have HT : Hid (Lib.TabIs Tryz.prog w "internal/strconv.uint64pow10" .u64 Lib.pow10Tab) := htab.here
  clear htab
  go_enter Tryz.func90, Tryz.ntmps90
  go_wp2_with fail
  go_loopw [3, 4] (fun n i wr => ∃ (k m : Nat) (z : Int), k ≤ s.size ∧ z = (k : Int) - 1 ∧ i = .int .i64 z ∧ n = .int .i64 m ∧ m ≤ 4294967295 ∧ Hid (m = P.leval (s.data.toList.drop k)) ∧ wr = w) (fun _ i _ => (intOf i + 1).toNat)
  case atStart => exact ⟨s.size, 0, (s.size : Int) - 1, Nat.le_refl _, rfl, rfl, rfl, by omega, by unfold Hid; rw [List.drop_of_length_le (by simp)]; rfl, rfl⟩
  case round =>
    obtain ⟨k, m, z, hk, hz, rfl, rfl, hm, HM, rfl⟩ := hrel
    by_cases h0 : 0 ≤ z
    · obtain ⟨j, rfl⟩ := Int.eq_ofNat_of_zero_le h0
      have hj : j < s.size := by omega
      have hkj : k = j + 1 := by omega
      rw [hkj] at HM
      have hd : s.data.toList.drop j = s[j] :: s.data.toList.drop (j + 1) := drop_cons (get_of hj)
      have hnew : P.leval (s.data.toList.drop j) = m * 256 + s[j].toNat := by rw [hd, P.leval, HM.out]
      have hle : P.leval (s.data.toList.drop j) ≤ 4294967295 := leval_32 _ (by simp; omega)
      rw [hnew] at hle
      have HN : Hid (m * 256 + s[j].toNat = P.leval (s.data.toList.drop j)) := hnew.symm
      have hc := s[j].toNat_lt
      clear hd hnew HM hkj hz hk
      go_wp2_with fail
      refine ⟨⟨j, m * 256 + s[j].toNat, (j : Int) - 1, by omega, rfl, by go_num, by go_num, hle, HN, by first | rfl | trivial⟩, by simp [intOf] <;> omega⟩
    · have hk0 : k = 0 := by omega
      have HE : Hid (m = P.leval s.data.toList) := by have h := HM.out; rw [hk0, List.drop_zero] at h; exact h
      clear HM hz hk hk0
      go_wp2_with fail
      refine Calls.mono (Tryz.strconv_Itoa (m : Int) (by omega) (by omega) _ HT.out) ?_
      rintro e w2 ⟨rfl, kk, os, hw2⟩
      have hbe := grow_below hw2
      clear hw2
      go_wp2_with fail
      go_ret
      refine ⟨?_, hbe⟩
      rw [Lib.itoa_nonneg, HE.out]
      rfl
end Go.Proofs.YtghggcehloiemabGreatDoor
namespace Go.Proofs.YtghggcehloiemabGreatDoor
open Go.RowKit
set_option linter.unusedVariables false
set_option maxRecDepth 16000

def TellPost (o : Option (List UInt8)) (w : World) (e : Ending) (w' : World) : Prop :=
  (match o with
    | some bs => e = .returned (.tuple #[.string ⟨bs.toArray⟩, .bool true])
    | none => e = .returned (.tuple #[.string ⟨#[]⟩, .bool false])) ∧ Below w.heap.size w w'

theorem sub_extract (s : ByteArray) (p k : Nat) : (s.extract p (p + k)).data.toList = P.sub s.data.toList p k := by
  unfold P.sub
  rw [ByteArray.data_extract]
  simp
theorem dec_len (n : Nat) (h : n ≤ 4294967295) : (Lib.decDigits n).length ≤ 40 := by
  have := Lib.itoa_length_le (n : Int) (by omega) (by omega)
  rw [Lib.itoa_nonneg] at this
  omega

set_option maxHeartbeats 2000000 in
theorem Tell_any (s : ByteArray) (w : World) (sz st base : Nat) (vP : Value) (ps : List P.Pt) (hown : w.ownsRow base 145 4 vP ps.length (cellsOf ps)) (hsz1 : 1 ≤ sz) (hsz : sz ≤ 32) (hps : ps.length ≤ 80) (hok : ∀ x ∈ ps, P.PtOk sz x) (htab : Lib.TabBelow Tryz.prog w.heap.size w "internal/strconv.uint64pow10" .u64 Lib.pow10Tab) :
    Calls Tryz.prog 48 #[.agg #[.int .i64 sz, .int .i64 st, vP], .string s] w fun e w' => TellPost (if s.size = sz then some (P.tellAll ps s.data.toList) else none) w e w' := by
  obtain ⟨a, N, cap, rfl⟩ := owns_slice hown
  have HOK : Hid (∀ x ∈ ps, P.PtOk sz x) := hok
  clear hok
  have HOWN : Hid (w.ownsRow base 145 4 (.slice a N cap) ps.length (cellsOf ps)) := hown
  clear hown
  have HT : Hid (Lib.TabBelow Tryz.prog w.heap.size w "internal/strconv.uint64pow10" .u64 Lib.pow10Tab) := htab
  clear htab
  by_cases hlen : s.size = sz
  · rw [if_pos hlen]
    have HLEN : Hid (s.size = sz) := hlen
    have hs32 : s.size ≤ 32 := by omega
    subst hlen
    go_enter Tryz.func48, Tryz.ntmps48
    go_wp2_with fail
    have hNl : N = ps.length := by
      rcases HOWN.out.2 with ⟨h, h'⟩ | ⟨g, cap', cur, h, _⟩
      · cases h; omega
      · cases h; rfl
    have HNL : Hid (N = ps.length) := hNl
    have hN80 : N ≤ 80 := by omega
    clear hNl hps
    go_loopw [6, 17] (fun t j wq => ∃ (q : Nat) (tb : ByteArray), q ≤ N ∧ j = .int .i64 q ∧ t = .string tb ∧ tb.size ≤ 40 * q ∧ Hid (tb.data.toList = P.tellAll (ps.take q) s.data.toList) ∧ Below w.heap.size w wq) (fun _ j _ => N - (intOf j).toNat)
    case atStart => exact ⟨0, ⟨#[]⟩, by omega, rfl, rfl, Nat.zero_le _, by unfold Hid P.tellAll; simp, (Below.refl _ _).alloc (Nat.le_refl _) _⟩
    case round =>
      obtain ⟨q, tb, hq, rfl, rfl, htb, HI, hbq⟩ := hrel
      by_cases hqn : q < N
      · obtain ⟨x, hx⟩ : ∃ x, ps[q]? = some x := ⟨_, List.getElem?_eq_getElem (by have := HNL.out; omega)⟩
        obtain ⟨g, cap', hv, _, hgl⟩ := HOWN.out.form (by have := HNL.out; omega)
        have ha : a = some ⟨g, 0, none⟩ := by injection hv
        subst ha
        clear hv
        obtain ⟨d0, d1, d2, d3, hNe, hcp⟩ := part_cell HOWN.out hx
        clear hNe
        rw [← hbq.cell (p := ⟨g, q * 4, none⟩) hgl] at d0
        rw [← hbq.cell (p := ⟨g, q * 4 + 1, none⟩) hgl] at d1
        rw [← hbq.cell (p := ⟨g, q * 4 + 2, none⟩) hgl] at d2
        rw [← hbq.cell (p := ⟨g, q * 4 + 3, none⟩) hgl] at d3
        have HTK : Hid (P.tellAll (ps.take (q + 1)) s.data.toList = P.tellAll (ps.take q) s.data.toList ++ P.tell1 s.data.toList x) := by
          unfold Hid P.tellAll; rw [List.take_add_one, hx]; simp
        have hokx : P.PtOk s.size x := HOK.out x (List.mem_of_getElem? hx)
        clear hx
        obtain ⟨kd, mk, pl, sx⟩ := x
        simp only at d0 d1 d2 d3
        have h0q : (0 : Int) ≤ (q : Int) := by omega
        have hqN : (q : Int) < (N : Int) := by omega
        rcases hokx with ⟨hk, hm0, hs1, hs4, hpl⟩ | ⟨hk, hm0, hs1, hs4, hpl⟩ | ⟨hk, hm0⟩
        · simp only at hk hm0 hs1 hs4 hpl
          subst hk; subst hm0
          have hbp := hbq.size
          go_wp2_with fail
          refine Calls.mono (numberText_any (s.extract pl (pl + sx)) _ (by simp; omega) w.heap.size (HT.out.on (hbq.alloc hbp _))) ?_
          rintro e w2 ⟨rfl, hb2⟩
          have hb : Below w.heap.size w w2 := (hbq.alloc hbp _).trans (hb2.mono (by simp; omega))
          rw [sub_extract]
          obtain ⟨tx, htx⟩ : ∃ tx, Lib.decDigits (P.leval (P.sub s.data.toList pl sx)) = tx := ⟨_, rfl⟩
          rw [htx]
          have HX : Hid (P.tell1 s.data.toList ⟨1, 0, pl, sx⟩ = tx) := by unfold Hid; rw [← htx]; rfl
          have hxl : tx.length ≤ 40 := by rw [← htx]; exact dec_len _ (leval_32 _ (by unfold P.sub; simp; omega))
          clear htx hb2 d0 d1 d2 d3
          go_wp2_with fail
          refine ⟨⟨q + 1, tb ++ ⟨tx.toArray⟩, by omega, by go_num, rfl, ?_, ?_, hb⟩, by simp [intOf]; omega⟩
          · rw [ByteArray.size_append]
            have : (ByteArray.mk tx.toArray).size = tx.length := by simp [ByteArray.size]
            omega
          · unfold Hid
            rw [HTK.out, ← HI.out, HX.out]
            simp
        · simp only at hk hm0 hs1 hs4 hpl
          subst hk; subst hm0
          have hbp := hbq.size
          go_wp2_with fail
          refine Calls.mono (hexText_any (s.extract pl (pl + sx)) _ (by simp; omega) (by simp; omega)) ?_
          rintro e w2 ⟨rfl, hb2⟩
          have hb : Below w.heap.size w w2 := (hbq.alloc hbp _).trans (hb2.mono (by simp; omega))
          rw [sub_extract]
          obtain ⟨tx, htx⟩ : ∃ tx, P.hexT (P.sub s.data.toList pl sx) = tx := ⟨_, rfl⟩
          rw [htx]
          have HX : Hid (P.tell1 s.data.toList ⟨2, 0, pl, sx⟩ = tx) := by unfold Hid; rw [← htx]; rfl
          have hxl : tx.length ≤ 40 := by rw [← htx]; rw [P.hexT_length]; unfold P.sub; simp; omega
          clear htx hb2 d0 d1 d2 d3
          go_wp2_with fail
          refine ⟨⟨q + 1, tb ++ ⟨tx.toArray⟩, by omega, by go_num, rfl, ?_, ?_, hb⟩, by simp [intOf]; omega⟩
          · rw [ByteArray.size_append]
            have : (ByteArray.mk tx.toArray).size = tx.length := by simp [ByteArray.size]
            omega
          · unfold Hid
            rw [HTK.out, ← HI.out, HX.out]
            simp
        · simp only at hk hm0
          subst hk
          have hbp := hbq.size
          have hcv : (convert 38 9 (.slice (some ⟨wr.heap.size + 1, 0, none⟩) 1 1)).run Tryz.prog ((wr.alloc (.cells #[.int .i64 0, .int .u8 mk, .int .i64 pl, .int .i64 sx] 145)).alloc (.cells #[.int .u8 mk] 5)) = .ok (.string ⟨[UInt8.ofNat mk].toArray⟩) ((wr.alloc (.cells #[.int .i64 0, .int .u8 mk, .int .i64 pl, .int .i64 sx] 145)).alloc (.cells #[.int .u8 mk] 5)) := by
            have := run_convert_bytes_arg (P := Tryz.prog) ((wr.alloc (.cells #[.int .i64 0, .int .u8 mk, .int .i64 pl, .int .i64 sx] 145)).alloc (.cells #[.int .u8 mk] 5)) 38 5 Tryz.underlying38 Tryz.underlying5 (wr.heap.size + 1) 0 1 1 [(mk : Int)] (by simp) (by
              intro j hj
              obtain rfl : j = 0 := by omega
              simp) 9 Tryz.underlying9
            rw [this]
            congr 2
          have hb : Below w.heap.size w ((wr.alloc (.cells #[.int .i64 0, .int .u8 mk, .int .i64 pl, .int .i64 sx] 145)).alloc (.cells #[.int .u8 mk] 5)) := (hbq.alloc hbp _).alloc (by simp; omega) _
          go_wp2_with fail
          refine ⟨⟨q + 1, tb ++ ⟨[UInt8.ofNat mk].toArray⟩, by omega, by go_num, rfl, ?_, ?_, hb⟩, by simp [intOf]; omega⟩
          · rw [ByteArray.size_append]
            have : (ByteArray.mk [UInt8.ofNat mk].toArray).size = 1 := by simp [ByteArray.size]
            omega
          · unfold Hid
            rw [HTK.out, ← HI.out]
            simp [P.tell1]
      · have hqe : q = ps.length := by have := HNL.out; omega
        have HE : Hid (tb.data.toList = P.tellAll ps s.data.toList) := by unfold Hid; rw [HI.out, hqe, List.take_length]
        clear hqe HI
        go_wp2_with fail
        go_ret2
        refine ⟨?_, hbq⟩
        rw [← HE.out]
        have e : tb = ⟨tb.data.toList.toArray⟩ := by cases tb; simp
        exact congrArg (fun z => Ending.returned (.tuple #[.string z, .bool true])) e
  · rw [if_neg hlen]
    have hb : ((s.size : Int) == (sz : Int)) = false := by rw [beq_eq_false_iff_ne]; omega
    go_enter Tryz.func48, Tryz.ntmps48
    go_wp2_with fail
    go_ret2
    exact ⟨rfl, (Below.refl _ _).alloc (Nat.le_refl _) _⟩
end Go.Proofs.YtghggcehloiemabGreatDoor
