import Derived.Test.YtghggcehloiemaaDoorTellW
import Derived.Lib.ItoaLen
namespace Go.Proofs.YtghggcehloiemaaDoor
open Go.RowKit
set_option linter.unusedVariables false
set_option maxRecDepth 16000

def TellPost (o : Option (List UInt8)) (w : World) (e : Ending) (w' : World) : Prop :=
  (match o with
    | some bs => e = .returned (.tuple #[.string ⟨bs.toArray⟩, .bool true])
    | none => e = .returned (.tuple #[.string ⟨#[]⟩, .bool false])) ∧ Below w.heap.size w w'

theorem sub_extract (s : ByteArray) (p k : Nat) : (s.extract p (p + k)).data.toList = P.sub s.data.toList p k := by
  unfold P.sub
  rw [ByteArray.data_extract]
  simp
theorem dec_len (n : Nat) (h : n ≤ 4294967295) : (Lib.decDigits n).length ≤ 40 := by
  have := Lib.itoa_length_le (n : Int) (by omega) (by omega)
  rw [Lib.itoa_nonneg] at this
  omega

set_option maxHeartbeats 2000000 in
theorem Tell_any (s : ByteArray) (w : World) (sz st base : Nat) (vP : Value) (ps : List P.Pt) (hown : w.ownsRow base 68 4 vP ps.length (cellsOf ps)) (hsz1 : 1 ≤ sz) (hsz : sz ≤ 32) (hps : ps.length ≤ 80) (hok : ∀ x ∈ ps, P.PtOk sz x) (htab : Lib.TabBelow Tryd.prog w.heap.size w "internal/strconv.uint64pow10" .u64 Lib.pow10Tab) :
    Calls Tryd.prog 16 #[.agg #[.int .i64 sz, .int .i64 st, vP], .string s] w fun e w' => TellPost (if s.size = sz then some (P.tellAll ps s.data.toList) else none) w e w' := by
  obtain ⟨a, N, cap, rfl⟩ := owns_slice hown
  have HOK : Hid (∀ x ∈ ps, P.PtOk sz x) := hok
  clear hok
  have HOWN : Hid (w.ownsRow base 68 4 (.slice a N cap) ps.length (cellsOf ps)) := hown
  clear hown
  have HT : Hid (Lib.TabBelow Tryd.prog w.heap.size w "internal/strconv.uint64pow10" .u64 Lib.pow10Tab) := htab
  clear htab
  by_cases hlen : s.size = sz
  · rw [if_pos hlen]
    have HLEN : Hid (s.size = sz) := hlen
    have hs32 : s.size ≤ 32 := by omega
    subst hlen
    go_enter Tryd.func16, Tryd.ntmps16
    go_wp2_with fail
    have hNl : N = ps.length := by
      rcases HOWN.out.2 with ⟨h, h'⟩ | ⟨g, cap', cur, h, _⟩
      · cases h; omega
      · cases h; rfl
    have HNL : Hid (N = ps.length) := hNl
    have hN80 : N ≤ 80 := by omega
    clear hNl hps
    go_loopw [6, 17] (fun t j wq => ∃ (q : Nat) (tb : ByteArray), q ≤ N ∧ j = .int .i64 q ∧ t = .string tb ∧ tb.size ≤ 40 * q ∧ Hid (tb.data.toList = P.tellAll (ps.take q) s.data.toList) ∧ Below w.heap.size w wq) (fun _ j _ => N - (intOf j).toNat)
    case atStart => exact ⟨0, ⟨#[]⟩, by omega, rfl, rfl, Nat.zero_le _, by unfold Hid P.tellAll; simp, (Below.refl _ _).alloc (Nat.le_refl _) _⟩
    case round =>
      obtain ⟨q, tb, hq, rfl, rfl, htb, HI, hbq⟩ := hrel
      by_cases hqn : q < N
      · obtain ⟨x, hx⟩ : ∃ x, ps[q]? = some x := ⟨_, List.getElem?_eq_getElem (by have := HNL.out; omega)⟩
        obtain ⟨g, cap', hv, _, hgl⟩ := HOWN.out.form (by have := HNL.out; omega)
        have ha : a = some ⟨g, 0, none⟩ := by injection hv
        subst ha
        clear hv
        obtain ⟨d0, d1, d2, d3, hNe, hcp⟩ := part_cell HOWN.out hx
        clear hNe
        rw [← hbq.cell (p := ⟨g, q * 4, none⟩) hgl] at d0
        rw [← hbq.cell (p := ⟨g, q * 4 + 1, none⟩) hgl] at d1
        rw [← hbq.cell (p := ⟨g, q * 4 + 2, none⟩) hgl] at d2
        rw [← hbq.cell (p := ⟨g, q * 4 + 3, none⟩) hgl] at d3
        have HTK : Hid (P.tellAll (ps.take (q + 1)) s.data.toList = P.tellAll (ps.take q) s.data.toList ++ P.tell1 s.data.toList x) := by
          unfold Hid P.tellAll; rw [List.take_add_one, hx]; simp
        have hokx : P.PtOk s.size x := HOK.out x (List.mem_of_getElem? hx)
        clear hx
        obtain ⟨kd, mk, pl, sx⟩ := x
        simp only at d0 d1 d2 d3
        have h0q : (0 : Int) ≤ (q : Int) := by omega
        have hqN : (q : Int) < (N : Int) := by omega
        rcases hokx with ⟨hk, hm0, hs1, hs4, hpl⟩ | ⟨hk, hm0, hs1, hs4, hpl⟩ | ⟨hk, hm0⟩
        · simp only at hk hm0 hs1 hs4 hpl
          subst hk; subst hm0
          have hbp := hbq.size
          go_wp2_with fail
          refine Calls.mono (numberText_any (s.extract pl (pl + sx)) _ (by simp; omega) w.heap.size (HT.out.on (hbq.alloc hbp _))) ?_
          rintro e w2 ⟨rfl, hb2⟩
          have hb : Below w.heap.size w w2 := (hbq.alloc hbp _).trans (hb2.mono (by simp; omega))
          rw [sub_extract]
          obtain ⟨tx, htx⟩ : ∃ tx, Lib.decDigits (P.leval (P.sub s.data.toList pl sx)) = tx := ⟨_, rfl⟩
          rw [htx]
          have HX : Hid (P.tell1 s.data.toList ⟨1, 0, pl, sx⟩ = tx) := by unfold Hid; rw [← htx]; rfl
          have hxl : tx.length ≤ 40 := by rw [← htx]; exact dec_len _ (leval_32 _ (by unfold P.sub; simp; omega))
          clear htx hb2 d0 d1 d2 d3
          go_wp2_with fail
          refine ⟨⟨q + 1, tb ++ ⟨tx.toArray⟩, by omega, by go_num, rfl, ?_, ?_, hb⟩, by simp [intOf]; omega⟩
          · rw [ByteArray.size_append]
            have : (ByteArray.mk tx.toArray).size = tx.length := by simp [ByteArray.size]
            omega
          · unfold Hid
            rw [HTK.out, ← HI.out, HX.out]
            simp
        · simp only at hk hm0 hs1 hs4 hpl
          subst hk; subst hm0
          have hbp := hbq.size
          go_wp2_with fail
          refine Calls.mono (hexText_any (s.extract pl (pl + sx)) _ (by simp; omega) (by simp; omega)) ?_
          rintro e w2 ⟨rfl, hb2⟩
          have hb : Below w.heap.size w w2 := (hbq.alloc hbp _).trans (hb2.mono (by simp; omega))
          rw [sub_extract]
          obtain ⟨tx, htx⟩ : ∃ tx, P.hexT (P.sub s.data.toList pl sx) = tx := ⟨_, rfl⟩
          rw [htx]
          have HX : Hid (P.tell1 s.data.toList ⟨2, 0, pl, sx⟩ = tx) := by unfold Hid; rw [← htx]; rfl
          have hxl : tx.length ≤ 40 := by rw [← htx]; rw [P.hexT_length]; unfold P.sub; simp; omega
          clear htx hb2 d0 d1 d2 d3
          go_wp2_with fail
          refine ⟨⟨q + 1, tb ++ ⟨tx.toArray⟩, by omega, by go_num, rfl, ?_, ?_, hb⟩, by simp [intOf]; omega⟩
          · rw [ByteArray.size_append]
            have : (ByteArray.mk tx.toArray).size = tx.length := by simp [ByteArray.size]
            omega
          · unfold Hid
            rw [HTK.out, ← HI.out, HX.out]
            simp
        · simp only at hk hm0
          subst hk
          have hbp := hbq.size
          have hcv : (convert 69 9 (.slice (some ⟨wr.heap.size + 1, 0, none⟩) 1 1)).run Tryd.prog ((wr.alloc (.cells #[.int .i64 0, .int .u8 mk, .int .i64 pl, .int .i64 sx] 68)).alloc (.cells #[.int .u8 mk] 5)) = .ok (.string ⟨[UInt8.ofNat mk].toArray⟩) ((wr.alloc (.cells #[.int .i64 0, .int .u8 mk, .int .i64 pl, .int .i64 sx] 68)).alloc (.cells #[.int .u8 mk] 5)) := by
            have := run_convert_bytes_arg (P := Tryd.prog) ((wr.alloc (.cells #[.int .i64 0, .int .u8 mk, .int .i64 pl, .int .i64 sx] 68)).alloc (.cells #[.int .u8 mk] 5)) 69 5 Tryd.underlying69 Tryd.underlying5 (wr.heap.size + 1) 0 1 1 [(mk : Int)] (by simp) (by
              intro j hj
              obtain rfl : j = 0 := by omega
              simp) 9 Tryd.underlying9
            rw [this]
            congr 2
          have hb : Below w.heap.size w ((wr.alloc (.cells #[.int .i64 0, .int .u8 mk, .int .i64 pl, .int .i64 sx] 68)).alloc (.cells #[.int .u8 mk] 5)) := (hbq.alloc hbp _).alloc (by simp; omega) _
          go_wp2_with fail
          refine ⟨⟨q + 1, tb ++ ⟨[UInt8.ofNat mk].toArray⟩, by omega, by go_num, rfl, ?_, ?_, hb⟩, by simp [intOf]; omega⟩
          · rw [ByteArray.size_append]
            have : (ByteArray.mk [UInt8.ofNat mk].toArray).size = 1 := by simp [ByteArray.size]
            omega
          · unfold Hid
            rw [HTK.out, ← HI.out]
            simp [P.tell1]
      · have hqe : q = ps.length := by have := HNL.out; omega
        have HE : Hid (tb.data.toList = P.tellAll ps s.data.toList) := by unfold Hid; rw [HI.out, hqe, List.take_length]
        clear hqe HI
        go_wp2_with fail
        go_ret2
        refine ⟨?_, hbq⟩
        rw [← HE.out]
        have e : tb = ⟨tb.data.toList.toArray⟩ := by cases tb; simp
        exact congrArg (fun z => Ending.returned (.tuple #[.string z, .bool true])) e
  · rw [if_neg hlen]
    have hb : ((s.size : Int) == (sz : Int)) = false := by rw [beq_eq_false_iff_ne]; omega
    go_enter Tryd.func16, Tryd.ntmps16
    go_wp2_with fail
    go_ret2
    exact ⟨rfl, (Below.refl _ _).alloc (Nat.le_refl _) _⟩
end Go.Proofs.YtghggcehloiemaaDoor
