import Derived.Test.YtghggcehloiemaaMcY
namespace Go.Proofs.Ytghggcehloiemaa
open Go.RowKit
set_option linter.unusedVariables false
set_option maxRecDepth 16000

/-- What a step leaves. -/
def StepPost (x : P.I) (m : P.M) (rb mb cap B : Nat) (w : World) (e : Ending) (w' : World) : Prop :=
  (match P.step x m with
    | some m' => e = .returned (.bool true) ∧ Rn w' rb (.slice (some ⟨mb, 0, none⟩) m.mem.length cap) m' ∧ Mm w' mb m'.mem
    | none => e = .returned (.bool false)) ∧ Below B w w'
theorem StepPost.some {x : P.I} {m m' : P.M} {rb mb cap B : Nat} {w w' : World} {e : Ending} (h : P.step x m = some m') (he : e = .returned (.bool true)) (hr : Rn w' rb (.slice (some ⟨mb, 0, none⟩) m.mem.length cap) m') (hm : Mm w' mb m'.mem) (hb : Below B w w') : StepPost x m rb mb cap B w e w' := by
  unfold StepPost; rw [h]; exact ⟨⟨he, hr, hm⟩, hb⟩
theorem StepPost.none {x : P.I} {m : P.M} {rb mb cap B : Nat} {w w' : World} {e : Ending} (h : P.step x m = none) (he : e = .returned (.bool false)) (hb : Below B w w') : StepPost x m rb mb cap B w e w' := by
  unfold StepPost; rw [h]; exact ⟨he, hb⟩
theorem set_other {w : World} {b o g : Nat} {u : Value} (h : g ≠ b) : (w.setCell ⟨b, o, none⟩ u).heap[g]? = w.heap[g]? := Below.heap_setCell _ _ _ _ (by simpa using h)
theorem alloc_old {w : World} {o : Obj} {g : Nat} (h : g < w.heap.size) : (w.alloc o).heap[g]? = w.heap[g]? := Below.heap_alloc _ _ _ h

theorem w64_id (x : Int) (h0 : -9223372036854775808 ≤ x) (h1 : x ≤ 9223372036854775807) : wrap64 x = x := by unfold wrap64; omega
theorem w64_nat (z : Nat) (h : z < 4294967296) : wrap64 (z : Int) = z := w64_id _ (by omega) (by omega)
theorem w64_sum (z k : Nat) (h : z < 4294967296) (hk : k < 65536) : wrap64 ((z : Int) + k) = (z : Int) + k := w64_id _ (by omega) (by omega)
theorem m_drewN {B : Nat} {w w1 : World} (h : Below B w w1) (n : Nat) : Below B w (w1.drewN n) := ⟨h.os, h.tape, h.output, h.size, h.block⟩
theorem heap_drewN (w : World) (n g : Nat) : (w.drewN n).heap[g]? = w.heap[g]? := by simp
theorem le_cast {z k l : Nat} (h : ¬ z + k < l) : (l : Int) ≤ (z : Int) + k := by omega
theorem lt_cast {z k l : Nat} (h : z + k < l) : (z : Int) + k < l := by omega
theorem nat_cast (z k : Nat) : ((z : Int) + k).toNat = z + k := by omega
theorem drew_below {B : Nat} {w w1 : World} (h : Below B w w1) : Below B w w1.drew := ⟨h.os, h.tape, h.output, h.size, h.block⟩
theorem byte_low (y : Nat) (h : y < 4294967296) : bits .and .u32 (y : Int) 255 = ((UInt8.ofNat y).toNat : Int) := by
  have := bits_and y 255 h (by decide)
  rw [show ((255 : Nat) : Int) = 255 from rfl] at this
  rw [this, show (255 : Nat) = 2 ^ 8 - 1 from rfl, Nat.and_two_pow_sub_one_eq_mod]
  simp
theorem nn_cast (z k : Nat) : (0 : Int) ≤ (z : Int) + k := by omega
set_option maxHeartbeats 4000000 in
theorem reach_bad9 (a b k z y : Nat) (m : P.M) (rb mb cap B n : Nat) (w : World) (hz : P.rg m b = z) (hy : P.rg m a = y) (ha : a < 16) (hb : b < 16) (hk : k < 65536) (hm : P.OkM n m) (hne : rb ≠ mb) (hB1 : B ≤ rb) (hB2 : B ≤ mb)
    (hr : Rn w rb (.slice (some ⟨mb, 0, none⟩) m.mem.length cap) m) (hmm : Mm w mb m.mem) (hge : ¬ z + k < m.mem.length) :
    Calls Try.prog 82 #[.pointer (some ⟨rb, 0, none⟩), .agg #[.int .i64 9, .int .i64 a, .int .i64 b, .int .i64 k]] w fun e w' => e = .returned (.bool false) ∧ Below B w w' := by
  have hal : Below B w (w.alloc (.cells #[.int .i64 9, .int .i64 a, .int .i64 b, .int .i64 k] 104)) := (Below.refl _ _).alloc (by have := hr.lt; omega) _
  have hr' : Rn (w.alloc (.cells #[.int .i64 9, .int .i64 a, .int .i64 b, .int .i64 k] 104)) rb (.slice (some ⟨mb, 0, none⟩) m.mem.length cap) m := hr.of (alloc_old hr.lt)
  have hm' : Mm (w.alloc (.cells #[.int .i64 9, .int .i64 a, .int .i64 b, .int .i64 k] 104)) mb m.mem := hmm.of (alloc_old hmm.lt)
  have cb := hr'.reg hm hb
  have ca := hr'.reg hm ha
  have cm := hr'.mem hm
  have hgb := P.rg_lt hm b
  have hga := P.rg_lt hm a
  unfold P.W32 at hgb hga
  rw [hz] at cb hgb
  rw [hy] at ca hga
  have HR := hid_m hr'
  have HM := hid_m hm'
  have HAL := hid_m hal
  have HOK := hid_m hm
  have HHA := hid_m ha
  have b0 : (0 : Int) ≤ (b : Int) := Int.natCast_nonneg b
  have b1 : (b : Int) < 16 := by omega
  have a0 : (0 : Int) ≤ (a : Int) := Int.natCast_nonneg a
  have a1 : (a : Int) < 16 := by omega
  have h0 : (0 : Int) ≤ (z : Int) + k := nn_cast z k
  have HNE := hid_m hne
  have HHB1 := hid_m hB1
  have HHB2 := hid_m hB2
  have HHK := hid_m hk
  have wz := w64_nat z hgb
  have wzk := w64_sum z k hgb hk
  have HGA := hid_m hga
  have HY0 := hid_m hy
  clear hr hmm hr' hm' hal hm hz hy ha hb hgb hga hk hne hB1 hB2
  have hge' := le_cast hge
  clear hge
  go_enter Try.func82, Try.ntmps82
  go_wp2_with fail
  go_quiet (fail)
  go_wp2_with fail
  go_ret
  exact ⟨rfl, m_drewN HAL.out _⟩
set_option maxHeartbeats 4000000 in
theorem reach_bad10 (a b k z y : Nat) (m : P.M) (rb mb cap B n : Nat) (w : World) (hz : P.rg m b = z) (hy : P.rg m a = y) (ha : a < 16) (hb : b < 16) (hk : k < 65536) (hm : P.OkM n m) (hne : rb ≠ mb) (hB1 : B ≤ rb) (hB2 : B ≤ mb)
    (hr : Rn w rb (.slice (some ⟨mb, 0, none⟩) m.mem.length cap) m) (hmm : Mm w mb m.mem) (hge : ¬ z + k < m.mem.length) :
    Calls Try.prog 82 #[.pointer (some ⟨rb, 0, none⟩), .agg #[.int .i64 10, .int .i64 a, .int .i64 b, .int .i64 k]] w fun e w' => e = .returned (.bool false) ∧ Below B w w' := by
  have hal : Below B w (w.alloc (.cells #[.int .i64 10, .int .i64 a, .int .i64 b, .int .i64 k] 104)) := (Below.refl _ _).alloc (by have := hr.lt; omega) _
  have hr' : Rn (w.alloc (.cells #[.int .i64 10, .int .i64 a, .int .i64 b, .int .i64 k] 104)) rb (.slice (some ⟨mb, 0, none⟩) m.mem.length cap) m := hr.of (alloc_old hr.lt)
  have hm' : Mm (w.alloc (.cells #[.int .i64 10, .int .i64 a, .int .i64 b, .int .i64 k] 104)) mb m.mem := hmm.of (alloc_old hmm.lt)
  have cb := hr'.reg hm hb
  have ca := hr'.reg hm ha
  have cm := hr'.mem hm
  have hgb := P.rg_lt hm b
  have hga := P.rg_lt hm a
  unfold P.W32 at hgb hga
  rw [hz] at cb hgb
  rw [hy] at ca hga
  have HR := hid_m hr'
  have HM := hid_m hm'
  have HAL := hid_m hal
  have HOK := hid_m hm
  have HHA := hid_m ha
  have b0 : (0 : Int) ≤ (b : Int) := Int.natCast_nonneg b
  have b1 : (b : Int) < 16 := by omega
  have a0 : (0 : Int) ≤ (a : Int) := Int.natCast_nonneg a
  have a1 : (a : Int) < 16 := by omega
  have h0 : (0 : Int) ≤ (z : Int) + k := nn_cast z k
  have HNE := hid_m hne
  have HHB1 := hid_m hB1
  have HHB2 := hid_m hB2
  have HHK := hid_m hk
  have wz := w64_nat z hgb
  have wzk := w64_sum z k hgb hk
  have HGA := hid_m hga
  have HY0 := hid_m hy
  clear hr hmm hr' hm' hal hm hz hy ha hb hgb hga hk hne hB1 hB2
  have hge' := le_cast hge
  clear hge
  go_enter Try.func82, Try.ntmps82
  go_wp2_with fail
  go_quiet (fail)
  go_wp2_with fail
  go_ret
  exact ⟨rfl, m_drewN HAL.out _⟩
set_option maxHeartbeats 4000000 in
theorem reach_load (a b k z y : Nat) (m : P.M) (rb mb cap B n : Nat) (w : World) (hz : P.rg m b = z) (hy : P.rg m a = y) (ha : a < 16) (hb : b < 16) (hk : k < 65536) (hm : P.OkM n m) (hne : rb ≠ mb) (hB1 : B ≤ rb) (hB2 : B ≤ mb)
    (hr : Rn w rb (.slice (some ⟨mb, 0, none⟩) m.mem.length cap) m) (hmm : Mm w mb m.mem) (c : UInt8) (hc : m.mem[z + k]? = some c) :
    Calls Try.prog 82 #[.pointer (some ⟨rb, 0, none⟩), .agg #[.int .i64 9, .int .i64 a, .int .i64 b, .int .i64 k]] w fun e w' => e = .returned (.bool true) ∧ Rn w' rb (.slice (some ⟨mb, 0, none⟩) m.mem.length cap) { m with reg := m.reg.set a c.toNat } ∧ Mm w' mb m.mem ∧ Below B w w' := by
  have hal : Below B w (w.alloc (.cells #[.int .i64 9, .int .i64 a, .int .i64 b, .int .i64 k] 104)) := (Below.refl _ _).alloc (by have := hr.lt; omega) _
  have hr' : Rn (w.alloc (.cells #[.int .i64 9, .int .i64 a, .int .i64 b, .int .i64 k] 104)) rb (.slice (some ⟨mb, 0, none⟩) m.mem.length cap) m := hr.of (alloc_old hr.lt)
  have hm' : Mm (w.alloc (.cells #[.int .i64 9, .int .i64 a, .int .i64 b, .int .i64 k] 104)) mb m.mem := hmm.of (alloc_old hmm.lt)
  have cb := hr'.reg hm hb
  have ca := hr'.reg hm ha
  have cm := hr'.mem hm
  have hgb := P.rg_lt hm b
  have hga := P.rg_lt hm a
  unfold P.W32 at hgb hga
  rw [hz] at cb hgb
  rw [hy] at ca hga
  have HR := hid_m hr'
  have HM := hid_m hm'
  have HAL := hid_m hal
  have HOK := hid_m hm
  have HHA := hid_m ha
  have b0 : (0 : Int) ≤ (b : Int) := Int.natCast_nonneg b
  have b1 : (b : Int) < 16 := by omega
  have a0 : (0 : Int) ≤ (a : Int) := Int.natCast_nonneg a
  have a1 : (a : Int) < 16 := by omega
  have h0 : (0 : Int) ≤ (z : Int) + k := nn_cast z k
  have HNE := hid_m hne
  have HHB1 := hid_m hB1
  have HHB2 := hid_m hB2
  have HHK := hid_m hk
  have wz := w64_nat z hgb
  have wzk := w64_sum z k hgb hk
  have HGA := hid_m hga
  have HY0 := hid_m hy
  clear hr hmm hr' hm' hal hm hz hy ha hb hgb hga hk hne hB1 hB2
  have hlt : z + k < m.mem.length := (List.getElem?_eq_some_iff.1 hc).1
  have hlt' := lt_cast hlt
  have hzk := nat_cast z k
  have HC := hid_m hc
  clear hc hlt
  go_enter Try.func82, Try.ntmps82
  go_wp2_with fail
  go_quiet (fail)
  go_wp2_with fail
  obtain ⟨wq, hwq⟩ : ∃ wq, (w.alloc (.cells #[.int .i64 9, .int .i64 a, .int .i64 b, .int .i64 k] 104)).drewN nq = wq := ⟨_, rfl⟩
  have hr2 : Rn wq rb (.slice (some ⟨mb, 0, none⟩) m.mem.length cap) m := by rw [← hwq]; exact HR.out.of (heap_drewN _ _ _)
  have hm2 : Mm wq mb m.mem := by rw [← hwq]; exact HM.out.of (heap_drewN _ _ _)
  have hb2 : Below B w wq := by rw [← hwq]; exact m_drewN HAL.out _
  have hi2 : wq.heap[w.heap.size]? = some (.cells #[.int .i64 9, .int .i64 a, .int .i64 b, .int .i64 k] 104 (0, 0)) := by rw [← hwq, heap_drewN]; exact heap_alloc_new w _
  rw [hwq]
  clear hwq cb ca cm wz wzk
  have ca := hr2.reg HOK.out HHA.out
  rw [HY0.out] at ca
  have cm := hr2.mem HOK.out
  have n1 : wq.cell? ⟨w.heap.size, 1, none⟩ = some (.int .i64 a) := by rw [cell_of_row _ _ _ _ _ _ hi2]; rfl
  have HR2 := hid_m hr2
  have HM2 := hid_m hm2
  have HB2 := hid_m hb2
  have cc := hm2.cell HC.out
  have ff := hr2.fz a
  have wc : IntKind.u32.wrap (c.toNat : Int) = c.toNat := by rw [wrap_u32]; have := UInt8.toNat_lt c; omega
  clear hi2 hr2 hm2 hb2
  go_region
  go_wp2_with fail
  go_ret
  refine ⟨rfl, ?_, ?_, ?_⟩
  · exact (HR2.out.setReg HOK.out.sixteen HHA.out c.toNat).of rfl
  · exact (HM2.out.of (set_other (fun h => HNE.out h.symm))).of rfl
  · exact drew_below (HB2.out.setCell HHB1.out _)
set_option maxHeartbeats 4000000 in
theorem reach_store (a b k z y : Nat) (m : P.M) (rb mb cap B n : Nat) (w : World) (hz : P.rg m b = z) (hy : P.rg m a = y) (ha : a < 16) (hb : b < 16) (hk : k < 65536) (hm : P.OkM n m) (hne : rb ≠ mb) (hB1 : B ≤ rb) (hB2 : B ≤ mb)
    (hr : Rn w rb (.slice (some ⟨mb, 0, none⟩) m.mem.length cap) m) (hmm : Mm w mb m.mem) (hlt : z + k < m.mem.length) :
    Calls Try.prog 82 #[.pointer (some ⟨rb, 0, none⟩), .agg #[.int .i64 10, .int .i64 a, .int .i64 b, .int .i64 k]] w fun e w' => e = .returned (.bool true) ∧ Rn w' rb (.slice (some ⟨mb, 0, none⟩) m.mem.length cap) m ∧ Mm w' mb (m.mem.set (z + k) (UInt8.ofNat y)) ∧ Below B w w' := by
  have hal : Below B w (w.alloc (.cells #[.int .i64 10, .int .i64 a, .int .i64 b, .int .i64 k] 104)) := (Below.refl _ _).alloc (by have := hr.lt; omega) _
  have hr' : Rn (w.alloc (.cells #[.int .i64 10, .int .i64 a, .int .i64 b, .int .i64 k] 104)) rb (.slice (some ⟨mb, 0, none⟩) m.mem.length cap) m := hr.of (alloc_old hr.lt)
  have hm' : Mm (w.alloc (.cells #[.int .i64 10, .int .i64 a, .int .i64 b, .int .i64 k] 104)) mb m.mem := hmm.of (alloc_old hmm.lt)
  have cb := hr'.reg hm hb
  have ca := hr'.reg hm ha
  have cm := hr'.mem hm
  have hgb := P.rg_lt hm b
  have hga := P.rg_lt hm a
  unfold P.W32 at hgb hga
  rw [hz] at cb hgb
  rw [hy] at ca hga
  have HR := hid_m hr'
  have HM := hid_m hm'
  have HAL := hid_m hal
  have HOK := hid_m hm
  have HHA := hid_m ha
  have b0 : (0 : Int) ≤ (b : Int) := Int.natCast_nonneg b
  have b1 : (b : Int) < 16 := by omega
  have a0 : (0 : Int) ≤ (a : Int) := Int.natCast_nonneg a
  have a1 : (a : Int) < 16 := by omega
  have h0 : (0 : Int) ≤ (z : Int) + k := nn_cast z k
  have HNE := hid_m hne
  have HHB1 := hid_m hB1
  have HHB2 := hid_m hB2
  have HHK := hid_m hk
  have wz := w64_nat z hgb
  have wzk := w64_sum z k hgb hk
  have HGA := hid_m hga
  have HY0 := hid_m hy
  clear hr hmm hr' hm' hal hm hz hy ha hb hgb hga hk hne hB1 hB2
  have hlt' := lt_cast hlt
  have hzk := nat_cast z k
  have HLT := hid_m hlt
  clear hlt
  go_enter Try.func82, Try.ntmps82
  go_wp2_with fail
  go_quiet (fail)
  go_wp2_with fail
  obtain ⟨wq, hwq⟩ : ∃ wq, (w.alloc (.cells #[.int .i64 10, .int .i64 a, .int .i64 b, .int .i64 k] 104)).drewN nq = wq := ⟨_, rfl⟩
  have hr2 : Rn wq rb (.slice (some ⟨mb, 0, none⟩) m.mem.length cap) m := by rw [← hwq]; exact HR.out.of (heap_drewN _ _ _)
  have hm2 : Mm wq mb m.mem := by rw [← hwq]; exact HM.out.of (heap_drewN _ _ _)
  have hb2 : Below B w wq := by rw [← hwq]; exact m_drewN HAL.out _
  have hi2 : wq.heap[w.heap.size]? = some (.cells #[.int .i64 10, .int .i64 a, .int .i64 b, .int .i64 k] 104 (0, 0)) := by rw [← hwq, heap_drewN]; exact heap_alloc_new w _
  rw [hwq]
  clear hwq cb ca cm wz wzk
  have ca := hr2.reg HOK.out HHA.out
  rw [HY0.out] at ca
  have cm := hr2.mem HOK.out
  have n1 : wq.cell? ⟨w.heap.size, 1, none⟩ = some (.int .i64 a) := by rw [cell_of_row _ _ _ _ _ _ hi2]; rfl
  have HR2 := hid_m hr2
  have HM2 := hid_m hm2
  have HB2 := hid_m hb2
  obtain ⟨c, hc⟩ : ∃ c, m.mem[z + k]? = some c := ⟨_, List.getElem?_eq_getElem HLT.out⟩
  have cc := hm2.cell hc
  have ff := hm2.fz HLT.out
  have wb := byte_low y HGA.out
  clear hc
  clear hi2 hr2 hm2 hb2
  go_region
  go_wp2_with fail
  go_ret
  have hv : (y : Int) % 256 = ((UInt8.ofNat y).toNat : Int) := by simp
  refine ⟨rfl, ?_, ?_, ?_⟩
  · exact (HR2.out.of (set_other (fun h => HNE.out h))).of rfl
  · have := (HM2.out.set HLT.out (UInt8.ofNat y)).of (w' := (wq.setCell ⟨mb, z + k, none⟩ (.int .u8 (UInt8.ofNat y).toNat)).drew) rfl
    rw [← hv] at this
    exact this
  · exact drew_below (HB2.out.setCell HHB2.out _)
end Go.Proofs.Ytghggcehloiemaa
