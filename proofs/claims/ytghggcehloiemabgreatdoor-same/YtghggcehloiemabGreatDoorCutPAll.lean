import Derived.Test.YtghggcehloiemabGreatDoorPureAll
import Derived.Test.YtghggcehloiemabGreatDoorRefNumAll
import Derived.Deep.AppendLies
namespace Go.Proofs.YtghggcehloiemabGreatDoor.P

def dl (c : UInt8) : Int := if c = 123 then 1 else if c = 125 then -1 else 0
def cutGo : Int → List UInt8 → List UInt8 → Option (List (List UInt8))
  | _, _, [] => some []
  | d, cur, c :: r => if d < 0 then none else if r = [] then (if d = 0 then some [cur] else none)
    else if d = 0 ∧ c = 44 then (cutGo 0 [] r).map (cur :: ·) else cutGo (d + dl c) (cur ++ [c]) r
def cut (l : List UInt8) : Option (List (List UInt8)) := if 2 ≤ l.length ∧ l.head? = some 123 ∧ l.getLast? = some 125 then cutGo 0 [] (l.drop 1) else none

def CutInv (l : List UInt8) (i f : Nat) (d : Int) (ps : List (List UInt8)) : Prop := cut l = (cutGo d ((l.take i).drop f) (l.drop i)).map (ps ++ ·)

theorem drop_at {l : List UInt8} {i : Nat} {c : UInt8} (hc : l[i]? = some c) : l.drop i = c :: l.drop (i + 1) := by
  obtain ⟨hl, he⟩ := List.getElem?_eq_some_iff.1 hc
  rw [List.drop_eq_getElem_cons hl, he]
theorem ci_neg {l : List UInt8} {i f : Nat} {d : Int} {ps : List (List UInt8)} {c : UInt8} (h : CutInv l i f d ps) (hc : l[i]? = some c) (hd : d < 0) : cut l = none := by
  unfold CutInv at h; rw [h, drop_at hc, cutGo, if_pos hd]; rfl
theorem ci_last_bad {l : List UInt8} {i f : Nat} {d : Int} {ps : List (List UInt8)} {c : UInt8} (h : CutInv l i f d ps) (hc : l[i]? = some c) (hl : i + 1 = l.length) (hd : 0 ≤ d) (hd0 : d ≠ 0) : cut l = none := by
  unfold CutInv at h; rw [h, drop_at hc, cutGo, if_neg (by omega), if_pos (List.drop_eq_nil_of_le (by omega)), if_neg hd0]; rfl
theorem ci_last {l : List UInt8} {i f : Nat} {d d' : Int} {ps : List (List UInt8)} {c : UInt8} (h : CutInv l i f d ps) (hc : l[i]? = some c) (hl : i + 1 = l.length) (hd0 : d = 0) : CutInv l (i + 1) (i + 1) d' (ps ++ [(l.take i).drop f]) := by
  unfold CutInv at *
  rw [h, drop_at hc, cutGo, if_neg (by omega), if_pos (List.drop_eq_nil_of_le (by omega)), if_pos hd0, List.drop_eq_nil_of_le (show l.length ≤ i + 1 by omega)]
  simp [cutGo]
theorem ci_comma {l : List UInt8} {i f : Nat} {d : Int} {ps : List (List UInt8)} {c : UInt8} (h : CutInv l i f d ps) (hc : l[i]? = some c) (hl : i + 1 < l.length) (hd0 : d = 0) (h44 : c = 44) : CutInv l (i + 1) (i + 1) 0 (ps ++ [(l.take i).drop f]) := by
  unfold CutInv at *
  have hne : l.drop (i + 1) ≠ [] := by simp; omega
  rw [h, drop_at hc, cutGo, if_neg (by omega), if_neg hne, if_pos ⟨hd0, h44⟩]
  have e : (l.take (i + 1)).drop (i + 1) = [] := List.drop_eq_nil_of_le (by rw [List.length_take]; omega)
  rw [e]
  cases cutGo 0 [] (l.drop (i + 1)) <;> simp
theorem ci_else {l : List UInt8} {i f : Nat} {d : Int} {ps : List (List UInt8)} {c : UInt8} (h : CutInv l i f d ps) (hc : l[i]? = some c) (hl : i + 1 < l.length) (hd0 : 0 ≤ d) (h44 : ¬ (d = 0 ∧ c = 44)) (hf : f ≤ i) : CutInv l (i + 1) f (d + dl c) ps := by
  unfold CutInv at *
  have hne : l.drop (i + 1) ≠ [] := by simp; omega
  rw [h, drop_at hc, cutGo, if_neg (by omega), if_neg hne, if_neg h44]
  have e : (l.take (i + 1)).drop f = (l.take i).drop f ++ [c] := by
    rw [take_next hc, List.drop_append_of_le_length (by rw [List.length_take]; omega)]
  rw [e]
theorem ci_end {l : List UInt8} {i f : Nat} {d : Int} {ps : List (List UInt8)} (h : CutInv l i f d ps) (hi : l.length ≤ i) : cut l = some ps := by
  unfold CutInv at h; rw [h, List.drop_eq_nil_of_le hi]; simp [cutGo]
theorem ci_start {l : List UInt8} (h : 2 ≤ l.length ∧ l.head? = some 123 ∧ l.getLast? = some 125) : CutInv l 1 1 0 [] := by
  unfold CutInv cut
  rw [if_pos h]
  have e : (l.take 1).drop 1 = [] := List.drop_eq_nil_of_le (by rw [List.length_take]; omega)
  rw [e]
  cases cutGo 0 [] (l.drop 1) <;> simp

end Go.Proofs.YtghggcehloiemabGreatDoor.P
namespace Go.Proofs.YtghggcehloiemabGreatDoor
open Go.RowKit
set_option linter.unusedVariables false
set_option maxRecDepth 16000

theorem Tryz.infoString : (Tryz.prog.info? 9).map (fun i => (i.zero, i.size, i.bytes)) = some (some (.string ByteArray.empty), 1, 16) := by kernel_rfl

/-- A list of strings that the call owns. -/
def Strs (w : World) (base : Nat) (v : Value) (ss : List ByteArray) : Prop := w.ownsRow base 9 1 v ss.length (ss.map Value.string)

def CutPost (s : ByteArray) (w : World) (e : Ending) (w' : World) : Prop :=
  (match P.cut s.data.toList with
    | some ps => ∃ ss v, e = .returned (.tuple #[v, .bool true]) ∧ ss.map (fun x => x.data.toList) = ps ∧ Strs w' w.heap.size v ss
    | none => e = .returned (.tuple #[.slice none 0 0, .bool false])) ∧ Below w.heap.size w w'
theorem CutPost.no {s : ByteArray} {w w' : World} {e : Ending} (h : P.cut s.data.toList = none) (he : e = .returned (.tuple #[.slice none 0 0, .bool false])) (hb : Below w.heap.size w w') : CutPost s w e w' := by
  unfold CutPost; rw [h]; exact ⟨he, hb⟩
theorem CutPost.yes {s : ByteArray} {w w' : World} {e : Ending} {ps : List (List UInt8)} {ss : List ByteArray} {v : Value} (h : P.cut s.data.toList = some ps) (he : e = .returned (.tuple #[v, .bool true])) (hss : ss.map (fun x => x.data.toList) = ps) (ho : Strs w' w.heap.size v ss) (hb : Below w.heap.size w w') : CutPost s w e w' := by
  unfold CutPost; rw [h]; exact ⟨⟨ss, v, he, hss, ho⟩, hb⟩

theorem piece {s : ByteArray} {f i : Nat} : (s.extract f i).data.toList = (s.data.toList.take i).drop f := by
  simp [ByteArray.data_extract, List.drop_take]

/-- At the head of each round. -/
structure CInv (s : ByteArray) (w : World) (i f : Nat) (d : Int) (ss : List ByteArray) (v : Value) (wr : World) : Prop where
  inv : P.CutInv s.data.toList i f d (ss.map (fun x => x.data.toList))
  own : Strs wr w.heap.size v ss
  below : Below w.heap.size w wr
  f1 : f ≤ i
  i1 : i ≤ s.size
  few : ss.length ≤ i
  d1 : -(i : Int) ≤ d
  d2 : d ≤ i

theorem owns_slice' {w : World} {base : Nat} {v : Value} {ss : List ByteArray} (h : Strs w base v ss) : ∃ a N cap, v = .slice a N cap := by
  rcases h.2 with ⟨h, _⟩ | ⟨g, cap, cur, h, _⟩
  · exact ⟨_, _, _, h⟩
  · exact ⟨_, _, _, h⟩
theorem strs_grown {w wr w3 : World} {v v' : Value} {ss : List ByteArray} {x : ByteArray} {o : Obj} (hb : Below w.heap.size w wr) (hown : Strs wr w.heap.size v ss) (hg : (wr.alloc o).grownBy w3 v.ownBlock)
    (hown' : w3.ownsRow w.heap.size 9 1 v' (ss.length + 1) (ss.map Value.string ++ [.string x])) : Strs w3 w.heap.size v' (ss ++ [x]) ∧ Below w.heap.size w w3 := by
  have hsz := hb.size
  refine ⟨by unfold Strs; simpa using hown', ?_⟩
  exact Below.grown (hb.alloc (by omega) o) hg (by simp; omega) (fun j hj => (hown.lt _ hj).1)

set_option maxHeartbeats 4000000 in
theorem cut_any (s : ByteArray) (w : World) (hs : s.size ≤ 1099511627776) :
    Calls Tryz.prog 145 #[.string s] w fun e w' => CutPost s w e w' := by
  obtain ⟨i0, hi0, hz0, hz1, hz2⟩ := info_parts Tryz.infoString
  have hlen := tl_len s
  by_cases h2 : s.size < 2
  · have HR : Hid (P.cut s.data.toList = none) := by unfold Hid P.cut; rw [if_neg (by omega)]
    go_enter Tryz.func145, Tryz.ntmps145
    go_wp2_with fail
    go_ret2
    exact CutPost.no HR.out rfl (Below.refl _ _)
  · have hhead : s.data.toList.head? = some (s[0]'(by omega)) := by rw [List.head?_eq_getElem?, get_of (by omega)]
    have hlast : s.data.toList.getLast? = some (s[s.size - 1]'(by omega)) := by rw [List.getLast?_eq_getElem?, hlen, get_of (by omega)]
    by_cases h123 : s[0]'(by omega) = 123
    · have hq : (((s[0]'(by omega)).toNat : Int) != 123) = false := by rw [h123]; rfl
      by_cases h125 : s[s.size - 1]'(by omega) = 125
      · have hq2 : (((s[s.size - 1]'(by omega)).toNat : Int) != 125) = false := by rw [h125]; rfl
        have HST : Hid (P.CutInv s.data.toList 1 1 0 []) := P.ci_start ⟨by omega, by rw [hhead, h123], by rw [hlast, h125]⟩
        have H125 : Hid (s[s.size - 1]'(by omega) = 125) := h125
        have hd2 : decide ((s.size : Int) < 2) = false := by simp; omega
        clear hhead hlast h123 h125
        go_enter Tryz.func145, Tryz.ntmps145
        go_wp2_with fail
        go_loopw [4, 5, 6, 7] (fun x y z i wr => ∃ (k f : Nat) (d : Int) (ss : List ByteArray), y = .int .i64 d ∧ z = .int .i64 f ∧ i = .int .i64 k ∧ CInv s w k f d ss x wr) (fun _ _ _ i _ => s.size - (intOf i).toNat)
        case atStart => exact ⟨1, 1, 0, [], rfl, rfl, rfl, ⟨HST.out, World.ownsRow_nil _ _ _ _, Below.refl _ _, Nat.le_refl _, by omega, by simp, by omega, by omega⟩⟩
        case round =>
          obtain ⟨k, f, d, ss, rfl, rfl, rfl, hinv⟩ := hrel
          have hf1 := hinv.f1
          have hi1 := hinv.i1
          have hfew := hinv.few
          have hd1 := hinv.d1
          have hd2' := hinv.d2
          have hsz := hinv.below.size
          by_cases hlt : k < s.size
          · have hget := get_of hlt
            have HG : Hid (s.data.toList[k]? = some s[k]) := hget
            clear hget
            by_cases hneg : d < 0
            · have HR : Hid (P.cut s.data.toList = none) := P.ci_neg hinv.inv HG.out hneg
              go_wp2_with fail
              go_ret2
              exact CutPost.no HR.out rfl hinv.below
            · by_cases hl : k + 1 = s.size
              · have hlb : ((k : Int) == (s.size : Int) - 1) = true := by rw [beq_iff_eq]; omega
                by_cases hd0 : d = 0
                · have HL : Hid (∀ d', P.CutInv s.data.toList (k + 1) (k + 1) d' (ss.map (fun x => x.data.toList) ++ [(s.data.toList.take k).drop f])) := fun d' => P.ci_last hinv.inv HG.out (by omega) hd0
                  have hdb : (d != 0) = false := by rw [hd0]; rfl
                  have hdb2 : (d == 0) = true := by rw [hd0]; rfl
                  have HD0 : Hid (d = 0) := hd0
                  have hk5 : s[k] = 125 := by have e : k = s.size - 1 := by omega
                                              subst e; exact H125.out
                  have hb1 : ((s[k].toNat : Int) == 123) = false := by rw [hk5]; rfl
                  have hb2 : ((s[k].toNat : Int) == 125) = true := by rw [hk5]; rfl
                  clear hd0 hk5 hl
                  go_wp2_with (first
                    | (at_builtin; refine wpList_append_lies _ rfl _ _ 35 rfl w.heap.size 9 i0 (.string ByteArray.empty) 1 16 Tryz.underlying35 hi0 hz0 hz1 hz2 rfl (by decide) u4 ss.length (ss.map Value.string) rfl (hinv.own.alloc _) ⟨wr.heap.size, 0, none⟩ 1 1 [.string (s.extract f k)] rfl rfl (cell_one_new _ _ _) (fun x hx => by simp at hx; subst hx; rfl) (by omega) (by unfold maxLen; omega) (by omega) (by simp; omega) _ rfl ?_; intro g cap w3 hown' hgrow hat hlt3
                       have X := strs_grown hinv.below hinv.own hgrow hown'))
                  refine ⟨⟨k + 1, k + 1, d - 1, ss ++ [s.extract f k], by go_num, by go_num, by go_num, ⟨by rw [List.map_append, List.map_cons, List.map_nil, piece]; exact HL.out _, X.1, X.2, Nat.le_refl _, by omega, by simp; omega, by omega, by omega⟩⟩, by simp [intOf]; omega⟩
                · have HR : Hid (P.cut s.data.toList = none) := P.ci_last_bad hinv.inv HG.out (by omega) (by omega) hd0
                  have hdb : (d != 0) = true := by rw [bne_iff_ne]; exact hd0
                  clear hd0
                  go_wp2_with fail
                  go_ret2
                  exact CutPost.no HR.out rfl hinv.below
              · have hlb : ((k : Int) == (s.size : Int) - 1) = false := by rw [beq_eq_false_iff_ne]; omega
                have HE0 : Hid (¬ (d = 0 ∧ s[k] = 44) → P.CutInv s.data.toList (k + 1) f (d + P.dl s[k]) (ss.map (fun x => x.data.toList))) := fun h => P.ci_else hinv.inv HG.out (by omega) (by omega) h hf1
                by_cases hb3 : s[k] = 123
                · have hx1 : ((s[k].toNat : Int) == 123) = true := by rw [hb3]; rfl
                  have hx2 : ((s[k].toNat : Int) == 125) = false := by rw [hb3]; rfl
                  have hx3 : ((s[k].toNat : Int) == 44) = false := by rw [hb3]; rfl
                  have HE : Hid (P.CutInv s.data.toList (k + 1) f (d + 1) (ss.map (fun x => x.data.toList))) := by
                    have := HE0.out (by rw [hb3]; rintro ⟨_, h⟩; cases h)
                    rw [hb3] at this; exact this
                  clear hb3 HE0
                  by_cases hd0 : d = 0
                  · have hdb2 : (d == 0) = true := by rw [hd0]; rfl
                    clear hd0
                    go_wp2_with fail
                    refine ⟨⟨k + 1, f, d + 1, ss, by go_num, rfl, by go_num, ⟨HE.out, hinv.own, hinv.below, by omega, by omega, by omega, by omega, by omega⟩⟩, by simp [intOf]; omega⟩
                  · have hdb2 : (d == 0) = false := by rw [beq_eq_false_iff_ne]; exact hd0
                    clear hd0
                    go_wp2_with fail
                    refine ⟨⟨k + 1, f, d + 1, ss, by go_num, rfl, by go_num, ⟨HE.out, hinv.own, hinv.below, by omega, by omega, by omega, by omega, by omega⟩⟩, by simp [intOf]; omega⟩
                · have hx1 : ((s[k].toNat : Int) == 123) = false := by rw [beq_eq_false_iff_ne]; intro h; exact hb3 (u8_of (k := 123) h)
                  by_cases hb5 : s[k] = 125
                  · have hx2 : ((s[k].toNat : Int) == 125) = true := by rw [hb5]; rfl
                    have hx3 : ((s[k].toNat : Int) == 44) = false := by rw [hb5]; rfl
                    have HE : Hid (P.CutInv s.data.toList (k + 1) f (d - 1) (ss.map (fun x => x.data.toList))) := by
                      have := HE0.out (by rw [hb5]; rintro ⟨_, h⟩; cases h)
                      rw [hb5] at this; exact this
                    clear hb3 HE0 hb5
                    by_cases hd0 : d = 0
                    · have hdb2 : (d == 0) = true := by rw [hd0]; rfl
                      clear hd0
                      go_wp2_with fail
                      refine ⟨⟨k + 1, f, d - 1, ss, by go_num, rfl, by go_num, ⟨HE.out, hinv.own, hinv.below, by omega, by omega, by omega, by omega, by omega⟩⟩, by simp [intOf]; omega⟩
                    · have hdb2 : (d == 0) = false := by rw [beq_eq_false_iff_ne]; exact hd0
                      clear hd0
                      go_wp2_with fail
                      refine ⟨⟨k + 1, f, d - 1, ss, by go_num, rfl, by go_num, ⟨HE.out, hinv.own, hinv.below, by omega, by omega, by omega, by omega, by omega⟩⟩, by simp [intOf]; omega⟩
                  · have hx2 : ((s[k].toNat : Int) == 125) = false := by rw [beq_eq_false_iff_ne]; intro h; exact hb5 (u8_of (k := 125) h)
                    have hdl : d + P.dl s[k] = d := by simp [P.dl, hb3, hb5]
                    by_cases hd0 : d = 0
                    · have hdb2 : (d == 0) = true := by rw [hd0]; rfl
                      by_cases hb4 : s[k] = 44
                      · have hx3 : ((s[k].toNat : Int) == 44) = true := by rw [hb4]; rfl
                        have HL : Hid (P.CutInv s.data.toList (k + 1) (k + 1) 0 (ss.map (fun x => x.data.toList) ++ [(s.data.toList.take k).drop f])) := P.ci_comma hinv.inv HG.out (by omega) hd0 hb4
                        have HD0 : Hid (d = 0) := hd0
                        clear hb3 hb4 hb5 HE0 hdl hd0
                        go_wp2_with (first
                          | (at_builtin; refine wpList_append_lies _ rfl _ _ 35 rfl w.heap.size 9 i0 (.string ByteArray.empty) 1 16 Tryz.underlying35 hi0 hz0 hz1 hz2 rfl (by decide) u4 ss.length (ss.map Value.string) rfl (hinv.own.alloc _) ⟨wr.heap.size, 0, none⟩ 1 1 [.string (s.extract f k)] rfl rfl (cell_one_new _ _ _) (fun x hx => by simp at hx; subst hx; rfl) (by omega) (by unfold maxLen; omega) (by omega) (by simp; omega) _ rfl ?_; intro g cap w3 hown' hgrow hat hlt3
                             have X := strs_grown hinv.below hinv.own hgrow hown'))
                        refine ⟨⟨k + 1, k + 1, d, ss ++ [s.extract f k], by go_num, by go_num, by go_num, ⟨by rw [List.map_append, List.map_cons, List.map_nil, piece]; exact (by have := HL.out; rw [HD0.out]; exact this), X.1, X.2, Nat.le_refl _, by omega, by simp; omega, by omega, by omega⟩⟩, by simp [intOf]; omega⟩
                      · have hx3 : ((s[k].toNat : Int) == 44) = false := by rw [beq_eq_false_iff_ne]; intro h; exact hb4 (u8_of (k := 44) h)
                        have HE : Hid (P.CutInv s.data.toList (k + 1) f d (ss.map (fun x => x.data.toList))) := by
                          have := HE0.out (fun h => hb4 h.2)
                          rw [hdl] at this; exact this
                        clear hb3 hb4 hb5 HE0 hdl hd0
                        go_wp2_with fail
                        refine ⟨⟨k + 1, f, d, ss, by go_num, rfl, by go_num, ⟨HE.out, hinv.own, hinv.below, by omega, by omega, by omega, by omega, by omega⟩⟩, by simp [intOf]; omega⟩
                    · have hdb2 : (d == 0) = false := by rw [beq_eq_false_iff_ne]; exact hd0
                      have HE : Hid (P.CutInv s.data.toList (k + 1) f d (ss.map (fun x => x.data.toList))) := by
                        have := HE0.out (fun h => hd0 h.1)
                        rw [hdl] at this; exact this
                      clear hb3 hb5 HE0 hdl hd0
                      go_wp2_with fail
                      refine ⟨⟨k + 1, f, d, ss, by go_num, rfl, by go_num, ⟨HE.out, hinv.own, hinv.below, by omega, by omega, by omega, by omega, by omega⟩⟩, by simp [intOf]; omega⟩
          · have HR : Hid (P.cut s.data.toList = some (ss.map (fun x => x.data.toList))) := P.ci_end hinv.inv (by omega)
            obtain ⟨a, N, cap, rfl⟩ := owns_slice' hinv.own
            go_wp2_with fail
            go_ret2
            exact CutPost.yes HR.out rfl rfl hinv.own hinv.below
      · have hq2 : (((s[s.size - 1]'(by omega)).toNat : Int) != 125) = true := by
          rw [bne_iff_ne]; intro h; exact h125 (u8_of (k := 125) h)
        have HR : Hid (P.cut s.data.toList = none) := by
          unfold Hid P.cut; rw [if_neg]; rintro ⟨_, _, h⟩; rw [hlast] at h; exact h125 (by simpa using h)
        clear hhead hlast h123 h125
        go_enter Tryz.func145, Tryz.ntmps145
        go_wp2_with fail
        go_ret2
        exact CutPost.no HR.out rfl (Below.refl _ _)
    · have hq : (((s[0]'(by omega)).toNat : Int) != 123) = true := by
        rw [bne_iff_ne]; intro h; exact h123 (u8_of (k := 123) h)
      have HR : Hid (P.cut s.data.toList = none) := by
        unfold Hid P.cut; rw [if_neg]; rintro ⟨_, h, _⟩; rw [hhead] at h; exact h123 (by simpa using h)
      clear hhead hlast h123
      go_enter Tryz.func145, Tryz.ntmps145
      go_wp2_with fail
      go_ret2
      exact CutPost.no HR.out rfl (Below.refl _ _)
end Go.Proofs.YtghggcehloiemabGreatDoor
