import Derived.Test.YtghggcehloiemabGreatDoorMcTR
import Derived.Test.YtghggcehloiemabGreatDoorMcFAll
namespace Go.Proofs.YtghggcehloiemabGreatDoor
open Go.RowKit
set_option linter.unusedVariables false
set_option maxRecDepth 16000

theorem conv_row2 {w : World} {g cp : Nat} {l : List UInt8} {F : Nat × Nat} (h : w.heap[g]? = some (.cells (l.map byteV).toArray 5 F)) : (convert 38 9 (.slice (some ⟨g, 0, none⟩) l.length cp)).run Tryz.prog w = .ok (.string ⟨l.toArray⟩) w := by
  refine run_convert_bytes_back (P := Tryz.prog) w 38 9 5 ⟨g, 0, none⟩ cp l Tryz.underlying38 Tryz.underlying5 Tryz.underlying9 ?_
  intro j hj
  rw [show (⟨g, 0, none⟩ : Addr).add j = ⟨g, j, none⟩ from by simp [Addr.add]; intro e; rw [e]]
  rw [cell_of_row _ _ _ _ _ _ h]
  simp [List.getElem?_eq_getElem hj, byteV]
theorem two_conv (w : World) (z : Nat) (hz : z < 800) : (convert 38 9 (.slice (some ⟨w.heap.size, 0, none⟩) 2 2)).run Tryz.prog (w.alloc (.cells #[.int .u8 ((z : Int) % 256), .int .u8 ((z : Int) / 256)] 5)) = .ok (.string ⟨#[UInt8.ofNat z, UInt8.ofNat (z / 256)]⟩) (w.alloc (.cells #[.int .u8 ((z : Int) % 256), .int .u8 ((z : Int) / 256)] 5)) := by
  have e3 : ((UInt8.ofNat z).toNat : Int) = (z : Int) % 256 := by simp
  have e4 : ((UInt8.ofNat (z / 256)).toNat : Int) = (z : Int) / 256 := by rw [P.ofNat_toNat' (by omega)]; omega
  have hrow : (#[.int .u8 ((z : Int) % 256), .int .u8 ((z : Int) / 256)] : Array Value) = ([UInt8.ofNat z, UInt8.ofNat (z / 256)].map byteV).toArray := by
    simp only [byteV, List.map_cons, List.map_nil, e3, e4]
  rw [hrow]
  exact conv_row2 (l := [UInt8.ofNat z, UInt8.ofNat (z / 256)]) (heap_alloc_new w _)
theorem slice_ins {l : List UInt8} {t : Nat} {x : P.I} (hc : P.IsCode l) (hx : (P.codeOf l)[t]? = some x) : (l.drop (5 * t)).take 5 = P.bytesI x := by
  have hl : (P.bytesI x).length = 5 := rfl
  have key : ∀ j, j < 5 → l[5 * t + j]? = (P.bytesI x)[j]? := by
    intro j hj
    have := P.text_byte (P.codeOf l) t j x hx hj
    rw [P.text_codeOf hc] at this
    exact this
  apply List.ext_getElem?
  intro j
  rcases Nat.lt_or_ge j 5 with h | h
  · rw [List.getElem?_take_of_lt h, List.getElem?_drop]; exact key j h
  · rw [List.getElem?_eq_none (by rw [List.length_take]; omega), List.getElem?_eq_none (by rw [hl]; exact h)]
theorem ext_list (s : ByteArray) (a b : Nat) : (s.extract a (a + b)).data.toList = (s.data.toList.drop a).take b := by
  rw [ByteArray.data_extract, Array.toList_extract, List.extract_eq_take_drop, Nat.add_sub_cancel_left]

set_option maxHeartbeats 4000000 in
theorem rtrim_any (s : ByteArray) (w : World) (hs : s.size ≤ maxLen) :
    Calls Tryz.prog 125 #[.string s] w fun e w' => (∃ r er, TrimOf s.data.toList r er ∧ e = .returned (.tuple #[.string ⟨r.toArray⟩, .int .i64 er])) ∧ Below w.heap.size w w' := by
  have HS := hid_m hs
  clear hs
  go_enter Tryz.func125, Tryz.ntmps125
  go_wp2_with fail
  refine (risCode_any s _ HS.out).mono ?_
  rintro e w1 ⟨rfl, hb1⟩
  have HB1 := hid_m hb1
  clear hb1
  by_cases hc : P.IsCode s.data.toList
  · rw [decide_eq_true hc]
    have HC := hid_m hc
    have hsl := tl_len' s
    have h5 := hc.five
    have hf := hc.few
    have h1 := hc.some
    obtain ⟨n, hn⟩ : ∃ n, s.size / 5 = n := ⟨_, rfl⟩
    rw [hsl, hn] at h5 hf h1
    have hcl : (P.codeOf s.data.toList).length = n := by rw [P.codeOf_length, hsl, hn]
    have HRC := hid_m (fun w => rreached_any s hc w)
    rw [hn] at HRC
    have HSL := hid_m (And.intro hsl h5)
    have HCL := hid_m hcl
    clear hc hsl h5 hcl hn
    go_wp2_with fail
    refine (HRC.out _).mono ?_
    rintro e w2 ⟨⟨fl, hfl, rfl, hfw⟩, hb2⟩
    obtain ⟨fb, hfb⟩ : ∃ fb, w1.heap.size = fb := ⟨_, rfl⟩
    rw [hfb] at hfw ⊢
    have HFL := hid_m hfl
    have HFW := hid_m hfw
    have HB2 := hid_m (HB1.out.trans (hb2.mono HB1.out.size))
    clear hfl hfw hb2 hfb
    go_wp2_with fail
    go_loopw [6, 7] (fun sv iv wr => ∃ (t : Nat) (tb : ByteArray), t ≤ n ∧ iv = .int .i64 t ∧ sv = .string tb ∧ tb.size ≤ 5 * t ∧ Hid (tb.data.toList = P.text (P.trimTo fl (P.codeOf s.data.toList) t)) ∧ Hid (Below w2.heap.size w2 wr)) (fun _ iv _ => n - (intOf iv).toNat)
    case atStart => exact ⟨0, ⟨#[]⟩, Nat.zero_le _, rfl, rfl, Nat.le_refl _, by unfold Hid; rw [P.trimTo_zero]; rfl, Below.refl _ _⟩
    case round =>
      obtain ⟨t, tb, ht, rfl, rfl, htz, HTB, HBR⟩ := hrel
      by_cases hlt : t < n
      · have hql : t < s.data.toList.length / 5 := by have := HSL.out.1; have := HSL.out.2; omega
        have hx := P.codeOf_get s.data.toList t hql
        have hok := HC.out.all t hql
        have h5 : 5 * t + 5 ≤ s.size := by have := HSL.out.2; omega
        have hs6 : s.size ≤ 1000000 := by have := HSL.out.2; omega
        have hat := fun w => rat_go s t w h5 hs6
        obtain ⟨bt, hbt⟩ : ∃ b, fl[t]? = some b := ⟨_, List.getElem?_eq_getElem (by rw [HFL.out.len, HCL.out]; exact hlt)⟩
        obtain ⟨x, hxe⟩ : ∃ x, P.insAt s.data.toList t = x := ⟨_, rfl⟩
        have HXE := hid_m hxe
        rw [hxe] at hx hok hat
        have hts := P.trimTo_succ HFL.out.len hx hbt
        have HTS := hid_m hts
        have hflr : Fl wr fb fl := HFW.out.of (HBR.out.block _ HFW.out.lt)
        have cf := hflr.cell hbt
        have HFR := hid_m hflr
        have HX := hid_m hx
        have HOK := hid_m hok
        have HAT := hid_m hat
        have j0 : (0 : Int) ≤ (t : Int) := Int.natCast_nonneg t
        have j1 : (t : Int) < (n : Int) := by omega
        have HTW : Hid (wrap64 ((t : Int) + 1) = (t : Int) + 1) := w64_id _ (by omega) (by omega)
        have HTN : Hid (t + 1 ≤ n) := hlt
        have H5 := hid_m (And.intro h5 hs6)
        have HTZ := hid_m htz
        obtain ⟨op, xa, xb, k⟩ := x
        clear hql hx hok h5 hs6 hat hbt hts hflr ht hlt hxe htz
        cases bt with
        | false =>
          go_wp2_with fail
          exact ⟨⟨t + 1, tb, HTN.out, by first | (rw [HTW.out]; exact next_t) | exact next_t, rfl, by have := HTZ.out; omega, by unfold Hid; rw [HTS.out, if_neg (by simp), List.append_nil]; exact HTB.out, HBR.out⟩, by first | (rw [HTW.out]; exact less_t HTN.out) | exact less_t HTN.out⟩
        | true =>
          go_wp2_with fail
          refine (HAT.out _).mono ?_
          rintro e w3 ⟨rfl, hb3⟩
          go_wp2_with fail
          refine (rgoes_any op xa xb k _).mono ?_
          rintro e w4 ⟨rfl, hb4⟩
          have hb3a : Below wr.heap.size wr (w3.alloc (.cells #[.int .i64 op, .int .i64 xa, .int .i64 xb, .int .i64 k] 194)) := hb3.alloc hb3.size _
          have hb34 : Below wr.heap.size wr w4 := hb3a.trans (hb4.mono hb3a.size)
          have hnew : w4.heap[w3.heap.size]? = some (.cells #[.int .i64 op, .int .i64 xa, .int .i64 xb, .int .i64 k] 194 (0, 0)) := by rw [hb4.block _ (by simp)]; exact heap_alloc_new _ _
          have n3 : w4.cell? ⟨w3.heap.size, 3, none⟩ = some (.int .i64 k) := by rw [cell_of_row _ _ _ _ _ _ hnew]; rfl
          have hbw4 : Below w2.heap.size w2 w4 := HBR.out.trans (hb34.mono HBR.out.size)
          have hf4 : Fl w4 fb fl := HFR.out.of (hb34.block _ HFR.out.lt)
          have HB4 := hid_m hbw4
          have HF4 := hid_m hf4
          have h14 : op ≤ 14 := HOK.out.1
          have w5t : wrap64 (5 * (t : Int)) = 5 * (t : Int) := w64_id _ (by omega) (by have := H5.out; omega)
          have w5t3 : wrap64 (5 * (t : Int) + 3) = 5 * (t : Int) + 3 := w64_id _ (by omega) (by have := H5.out; omega)
          have w5t5 : wrap64 (5 * (t : Int) + 5) = 5 * (t : Int) + 5 := w64_id _ (by omega) (by have := H5.out; omega)
          have HW5 := hid_m (And.intro w5t (And.intro w5t3 w5t5))
          clear hb3 hb3a hb34 hb4 hnew hbw4 hf4 w5t w5t3 w5t5
          by_cases h11 : 11 ≤ op
          · rw [decide_eq_true (And.intro h11 h14)]
            have hkn : k < n := by have := HOK.out.2.2.2.1 h11; have h2 := HCL.out; rw [P.codeOf_length] at h2; simp only at this; omega
            have HCN := hid_m (rcount_any fl fb n k w4 (by rw [HFL.out.len, HCL.out]) hf (Nat.le_of_lt hkn) HF4.out)
            have HTU : Hid (P.turned fl ⟨op, xa, xb, k⟩ = ⟨op, xa, xb, P.cnt fl k⟩) := by unfold Hid P.turned; rw [if_pos h11]
            have hcl : P.cnt fl k ≤ k := P.cnt_le fl k
            obtain ⟨z, hz⟩ : ∃ z, P.cnt fl k = z := ⟨_, rfl⟩
            rw [hz] at HCN HTU hcl
            have hz8 : z < 800 := by omega
            clear h11 h14 hcl hz hkn
            go_wp2_with fail
            refine HCN.out.mono ?_
            rintro e w5 ⟨rfl, hw5⟩
            subst w5
            obtain ⟨w5t, w5t3, w5t5⟩ := HW5.out
            have h5a : 5 * t + 5 ≤ s.size := H5.out.1
            have htz := HTZ.out
            go_wp2_with fail
            have hcv1 : (convert 38 9 (.slice (some ⟨w4.heap.size, 0, none⟩) 2 2)).run Tryz.prog (w4.drew.alloc (.cells #[.int .u8 ((z : Int) % 256), .int .u8 ((z : Int) / 256)] 5)) = .ok (.string ⟨#[UInt8.ofNat z, UInt8.ofNat (z / 256)]⟩) (w4.drew.alloc (.cells #[.int .u8 ((z : Int) % 256), .int .u8 ((z : Int) / 256)] 5)) := two_conv w4.drew z hz8
            have hcv2 : (convert 38 9 (.slice (some ⟨w4.heap.size, 0, none⟩) 2 2)).run Tryz.prog (w4.alloc (.cells #[.int .u8 ((z : Int) % 256), .int .u8 ((z : Int) / 256)] 5)).drew = .ok (.string ⟨#[UInt8.ofNat z, UInt8.ofNat (z / 256)]⟩) (w4.alloc (.cells #[.int .u8 ((z : Int) % 256), .int .u8 ((z : Int) / 256)] 5)).drew := two_conv w4.drew z hz8
            go_region
            go_wp2_with fail
            refine ⟨⟨t + 1, _, HTN.out, by first | (rw [HTW.out]; exact next_t) | exact next_t, rfl, ?_, ?_, drew_below (HB4.out.alloc HB4.out.size _)⟩, by first | (rw [HTW.out]; exact less_t HTN.out) | exact less_t HTN.out⟩
            · rw [ByteArray.size_append, ByteArray.size_append, ByteArray.size_extract]
              have := HTZ.out
              have e2 : (⟨#[UInt8.ofNat z, UInt8.ofNat (z / 256)]⟩ : ByteArray).size = 2 := rfl
              omega
            · have h3 : (s.data.toList.drop (5 * t)).take 3 = [UInt8.ofNat op, UInt8.ofNat xa, UInt8.ofNat xb] := by
                have := slice_ins HC.out HX.out
                have e := congrArg (List.take 3) this
                rw [List.take_take] at e
                exact e
              unfold Hid
              rw [HTS.out, if_pos (by simp), HTU.out, P.text_append, P.text_cons, ← HTB.out, ByteArray.data_append, Array.toList_append, ByteArray.data_append, Array.toList_append, ext_list, h3, List.append_assoc]
              simp [P.text, P.bytesI]
          · rw [decide_eq_false (fun h => h11 h.1)]
            have HTU : Hid (P.turned fl ⟨op, xa, xb, k⟩ = ⟨op, xa, xb, k⟩) := P.turned_other h11
            obtain ⟨w5t, w5t3, w5t5⟩ := HW5.out
            have h5a : 5 * t + 5 ≤ s.size := H5.out.1
            have htz := HTZ.out
            clear h11 h14
            go_wp2_with fail
            refine ⟨⟨t + 1, _, HTN.out, by first | (rw [HTW.out]; exact next_t) | exact next_t, rfl, ?_, ?_, HB4.out⟩, by first | (rw [HTW.out]; exact less_t HTN.out) | exact less_t HTN.out⟩
            · rw [ByteArray.size_append, ByteArray.size_extract]
              have := HTZ.out
              omega
            · unfold Hid
              rw [HTS.out, if_pos (by simp), HTU.out, P.text_append, P.text_cons, ← HTB.out, ByteArray.data_append, Array.toList_append, ext_list, slice_ins HC.out HX.out]
              simp [P.text]
      · have hte : t = n := by omega
        subst hte
        have HT : Hid (TrimOf s.data.toList tb.data.toList 0) := by
          refine .inl ⟨HC.out, ⟨fl, HFL.out, ?_⟩, rfl⟩
          rw [HTB.out, ← HCL.out, P.trimTo_all HFL.out.len]
        go_wp2_with fail
        go_ret2
        exact ⟨⟨_, _, HT.out, by simp⟩, HB2.out.trans (HBR.out.mono HB2.out.size)⟩
  · rw [decide_eq_false hc]
    have HT : Hid (TrimOf s.data.toList [] 4) := .inr ⟨hc, rfl, rfl⟩
    clear hc
    go_wp2_with fail
    go_ret2
    exact ⟨⟨_, _, HT.out, rfl⟩, HB1.out⟩
end Go.Proofs.YtghggcehloiemabGreatDoor
