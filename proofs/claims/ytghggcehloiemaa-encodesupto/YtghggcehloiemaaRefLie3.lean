import Derived.Test.YtghggcehloiemaaRefLie2
namespace Go.Proofs.Ytghggcehloiemaa
open Go.RowKit
set_option linter.unusedVariables false
set_option maxRecDepth 16000

theorem hexI_some {s : ByteArray} {i : Nat} (hi : i < s.size) {x : Nat} (h : P.hexv s[i] = some x) : hexAt s i = some x ∧ P.hexI s[i] = x ∧ x ≤ 15 := by
  refine ⟨by simp [hexAt, get_of hi, h], by simp [P.hexI, h], P.hexv_lt h⟩
theorem hexI_none {s : ByteArray} {i : Nat} (hi : i < s.size) (h : P.hexv s[i] = none) : hexAt s i = none ∧ P.hexI s[i] = -1 := by
  refine ⟨by simp [hexAt, get_of hi, h], by simp [P.hexI, h]⟩
theorem rhex_eq (c : UInt8) (w : World) {x : Int} (h : P.hexI c = x) : Calls Try.prog 80 #[.int .u8 c.toNat] w fun e w' => e = .returned (.int .i64 x) ∧ w' = w := by
  have := rhex_any c w; rw [h] at this; exact this

set_option maxHeartbeats 2000000 in
theorem lie_bytes (k : Nat) (s : ByteArray) (w : World) (hk : k ≤ 16) (hs : s.size ≤ maxLen) :
    Calls Try.prog 54 #[typV (false, k), .string s] w fun e w' => LiePost (P.lieLeaf (false, k) s.data.toList) w e w' := by
  obtain ⟨i1, hi1, hy0, hy1, hy2⟩ := info_parts Try.infoInt
  have hlen := tl_len s
  unfold typV
  simp only [P.lsz, Bool.false_eq_true, if_false]
  rw [show ((1 : Nat) : Int) = 1 from rfl]
  by_cases hl : s.size = 2 * k
  · have hnb : ((s.size : Int) != 2 * (k : Int)) = false := by rw [bne_eq_false_iff_eq]; omega
    have HL : Hid (P.lieLeaf (false, k) s.data.toList = (P.rdhex k s.data.toList).map (·.map some)) := by
      unfold Hid P.lieLeaf; simp [hl]
    have HS : Hid (s.size = 2 * k) := hl
    have hs32 : s.size ≤ 32 := by omega
    clear hl hlen
    go_enter Try.func54, Try.ntmps54
    go_wp2_with fail
    go_loopw [6, 9] (fun v i wr => ∃ (q p : Nat) (xs : List UInt8), q ≤ k ∧ p = 2 * q ∧ i = .int .i64 p ∧ Hid (xs.length = q ∧ P.rdhex k s.data.toList = (P.rdhex (k - q) (s.data.toList.drop p)).map (xs ++ ·)) ∧ wr.ownsRow (w.heap.size + 1) 3 1 v q (xs.map fun c => i64v (c.toNat : Int)) ∧ wr.heap[w.heap.size]? = some (.cells #[.int .u8 98, .int .i64 k, .int .i64 1, .slice none 0 0, .slice none 0 0] 60 (0, 0)) ∧ Below w.heap.size w wr) (fun _ i _ => s.size - (intOf i).toNat)
    case atStart => exact ⟨0, 0, [], by omega, rfl, rfl, ⟨rfl, by simp⟩, World.ownsRow_nil _ _ _ _, heap_alloc_new w _, (Below.refl _ _).alloc (Nat.le_refl _) _⟩
    case round =>
      obtain ⟨q, p, xs, hq, hp, rfl, HX, hown, hbx, hbe⟩ := hrel
      obtain ⟨c0, c1, c2, c3, c4⟩ := cells5 hbx
      have HP : Hid (p = 2 * q) := hp
      have hsz := hbe.size
      have hwl := blk_lt hbx
      by_cases hlt : p < s.size
      · have hlt1 : p + 1 < s.size := by have := HS.out; omega
        have hqk : q + 1 ≤ k := by have := HS.out; omega
        clear hp
        cases hv1 : P.hexv s[p] with
        | none =>
          obtain ⟨e1, e2⟩ := hexI_none hlt hv1
          have HR : Hid (P.lieLeaf (false, k) s.data.toList = none) := by
            unfold Hid; rw [HL.out, HX.out.2, show k - q = (k - (q + 1)) + 1 by omega, rdhex_no (Or.inl e1)]; rfl
          have H1 : Hid (P.hexI s[p] = -1) := e2
          clear hv1 e1 e2
          cases hv2 : P.hexv s[p + 1] with
          | none =>
            have H2 : Hid (P.hexI s[p + 1] = -1) := (hexI_none hlt1 hv2).2
            clear hv2
            go_wp2_with fail
            refine (rhex_eq _ _ H1.out).mono ?_
            rintro e w5 ⟨rfl, rfl⟩
            go_wp2_with fail
            refine (rhex_eq _ _ H2.out).mono ?_
            rintro e w6 ⟨rfl, rfl⟩
            go_wp2_with fail
            go_ret2
            exact LiePost.no HR.out rfl hbe
          | some y =>
            have H2 : Hid (P.hexI s[p + 1] = y) := (hexI_some hlt1 hv2).2.1
            clear hv2
            go_wp2_with fail
            refine (rhex_eq _ _ H1.out).mono ?_
            rintro e w5 ⟨rfl, rfl⟩
            go_wp2_with fail
            refine (rhex_eq _ _ H2.out).mono ?_
            rintro e w6 ⟨rfl, rfl⟩
            go_wp2_with fail
            go_ret2
            exact LiePost.no HR.out rfl hbe
        | some x =>
          obtain ⟨e1, e2, hx15⟩ := hexI_some hlt hv1
          have H1 : Hid (P.hexI s[p] = x) := e2
          have HA : Hid (hexAt s p = some x) := e1
          clear hv1 e1 e2
          cases hv2 : P.hexv s[p + 1] with
          | none =>
            obtain ⟨e1, e2⟩ := hexI_none hlt1 hv2
            have HR : Hid (P.lieLeaf (false, k) s.data.toList = none) := by
              unfold Hid; rw [HL.out, HX.out.2, show k - q = (k - (q + 1)) + 1 by omega, rdhex_no (Or.inr e1)]; rfl
            have H2 : Hid (P.hexI s[p + 1] = -1) := e2
            clear hv2 e1 e2
            go_wp2_with fail
            refine (rhex_eq _ _ H1.out).mono ?_
            rintro e w5 ⟨rfl, rfl⟩
            go_wp2_with fail
            refine (rhex_eq _ _ H2.out).mono ?_
            rintro e w6 ⟨rfl, rfl⟩
            go_wp2_with fail
            go_ret2
            exact LiePost.no HR.out rfl hbe
          | some y =>
            obtain ⟨e1, e2, hy15⟩ := hexI_some hlt1 hv2
            have H2 : Hid (P.hexI s[p + 1] = y) := e2
            have HE : Hid ((xs ++ [UInt8.ofNat (x * 16 + y)]).length = q + 1 ∧ P.rdhex k s.data.toList = (P.rdhex (k - (q + 1)) (s.data.toList.drop (p + 2))).map ((xs ++ [UInt8.ofNat (x * 16 + y)]) ++ ·)) := by
              refine ⟨by simp [HX.out.1], ?_⟩
              rw [HX.out.2, show k - q = (k - (q + 1)) + 1 by omega, rdhex_step HA.out e1]
              cases P.rdhex (k - (q + 1)) (s.data.toList.drop (p + 2)) <;> simp
            have HV : Hid (xs.map (fun c => i64v (c.toNat : Int)) ++ [.int .i64 (16 * (x : Int) + y)] = (xs ++ [UInt8.ofNat (x * 16 + y)]).map fun c => i64v (c.toNat : Int)) := by
              unfold Hid
              rw [List.map_append]
              congr 1
              simp [i64v]
              omega
            clear hv2 e1 e2
            go_wp2_with fail
            refine (rhex_eq _ _ H1.out).mono ?_
            rintro e w5 ⟨rfl, rfl⟩
            go_wp2_with fail
            refine (rhex_eq _ _ H2.out).mono ?_
            rintro e w6 ⟨rfl, rfl⟩
            go_wp2_with (first
              | (at_builtin; refine wpList_append_lies _ rfl _ _ 47 rfl (w.heap.size + 1) 3 i1 (.int .i64 0) 1 8 Try.underlying47 hi1 hy0 hy1 hy2 rfl (by decide) u6 q (xs.map fun c => i64v (c.toNat : Int)) rfl (hown.alloc _) ⟨w6.heap.size, 0, none⟩ 1 1 [.int .i64 (16 * (x : Int) + y)] rfl rfl (cell_one_new _ _ _) (fun x hx => by simp at hx; subst hx; rfl) (by omega) (by unfold maxLen; omega) (by omega) (by simp; omega) _ rfl ?_; intro g cap3 w3 hown' hgrow hat hlt3
                 have hbx3 := grown_blk hown hgrow (Nat.lt_succ_self _) hbx
                 have hbe3 := grown_below hbe hown hgrow (Nat.le_succ _)))
            rw [HV.out] at hown'
            exact ⟨⟨q + 1, p + 2, _, by omega, by have := HP.out; omega, by go_num, HE, hown', hbx3, hbe3⟩, by simp [intOf]; omega⟩
      · have hqe : q = k := by have := HS.out; omega
        have HR : Hid (P.lieLeaf (false, k) s.data.toList = some (xs.map some)) := by
          unfold Hid; rw [HL.out, HX.out.2, hqe, Nat.sub_self]; simp [P.rdhex]
        have hxl := HX.out.1
        have HOW : Hid (wr.ownsRow (w.heap.size + 1) 3 1 u6 xs.length (xs.map fun c => i64v (c.toNat : Int))) := by
          rw [hxl]; exact hown
        obtain ⟨a, N, cap, rfl⟩ := owns_form hown
        clear hqe hown hxl hp
        go_wp2_with fail
        go_ret2
        refine LiePost.yes HR.out rfl ?_ hbe
        have := own_base HOW.out (Nat.le_succ _)
        simpa [gapI, Function.comp_def] using this
  · have hnb : ((s.size : Int) != 2 * (k : Int)) = true := by rw [bne_iff_ne]; omega
    have HR : Hid (P.lieLeaf (false, k) s.data.toList = none) := by
      unfold Hid P.lieLeaf; simp [hl]
    clear hl
    go_enter Try.func54, Try.ntmps54
    go_wp2_with fail
    go_ret2
    exact LiePost.no HR.out rfl ((Below.refl _ _).alloc (Nat.le_refl _) _)
end Go.Proofs.Ytghggcehloiemaa
