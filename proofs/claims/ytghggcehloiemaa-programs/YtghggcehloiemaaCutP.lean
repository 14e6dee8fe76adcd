import Derived.Test.YtghggcehloiemaaNumberAll
namespace Go.Proofs.Ytghggcehloiemaa.P

def dl (c : UInt8) : Int := if c = 123 then 1 else if c = 125 then -1 else 0
def cutGo : Int → List UInt8 → List UInt8 → Option (List (List UInt8))
  | _, _, [] => some []
  | d, cur, c :: r => if d < 0 then none else if r = [] then (if d = 0 then some [cur] else none)
    else if d = 0 ∧ c = 44 then (cutGo 0 [] r).map (cur :: ·) else cutGo (d + dl c) (cur ++ [c]) r
def cut (l : List UInt8) : Option (List (List UInt8)) := if 2 ≤ l.length ∧ l.head? = some 123 ∧ l.getLast? = some 125 then cutGo 0 [] (l.drop 1) else none

def CutInv (l : List UInt8) (i f : Nat) (d : Int) (ps : List (List UInt8)) : Prop := cut l = (cutGo d ((l.take i).drop f) (l.drop i)).map (ps ++ ·)

theorem drop_at {l : List UInt8} {i : Nat} {c : UInt8} (hc : l[i]? = some c) : l.drop i = c :: l.drop (i + 1) := by
  obtain ⟨hl, he⟩ := List.getElem?_eq_some_iff.1 hc
  rw [List.drop_eq_getElem_cons hl, he]
theorem ci_neg {l : List UInt8} {i f : Nat} {d : Int} {ps : List (List UInt8)} {c : UInt8} (h : CutInv l i f d ps) (hc : l[i]? = some c) (hd : d < 0) : cut l = none := by
  unfold CutInv at h; rw [h, drop_at hc, cutGo, if_pos hd]; rfl
theorem ci_last_bad {l : List UInt8} {i f : Nat} {d : Int} {ps : List (List UInt8)} {c : UInt8} (h : CutInv l i f d ps) (hc : l[i]? = some c) (hl : i + 1 = l.length) (hd : 0 ≤ d) (hd0 : d ≠ 0) : cut l = none := by
  unfold CutInv at h; rw [h, drop_at hc, cutGo, if_neg (by omega), if_pos (List.drop_eq_nil_of_le (by omega)), if_neg hd0]; rfl
theorem ci_last {l : List UInt8} {i f : Nat} {d d' : Int} {ps : List (List UInt8)} {c : UInt8} (h : CutInv l i f d ps) (hc : l[i]? = some c) (hl : i + 1 = l.length) (hd0 : d = 0) : CutInv l (i + 1) (i + 1) d' (ps ++ [(l.take i).drop f]) := by
  unfold CutInv at *
  rw [h, drop_at hc, cutGo, if_neg (by omega), if_pos (List.drop_eq_nil_of_le (by omega)), if_pos hd0, List.drop_eq_nil_of_le (show l.length ≤ i + 1 by omega)]
  simp [cutGo]
theorem ci_comma {l : List UInt8} {i f : Nat} {d : Int} {ps : List (List UInt8)} {c : UInt8} (h : CutInv l i f d ps) (hc : l[i]? = some c) (hl : i + 1 < l.length) (hd0 : d = 0) (h44 : c = 44) : CutInv l (i + 1) (i + 1) 0 (ps ++ [(l.take i).drop f]) := by
  unfold CutInv at *
  have hne : l.drop (i + 1) ≠ [] := by simp; omega
  rw [h, drop_at hc, cutGo, if_neg (by omega), if_neg hne, if_pos ⟨hd0, h44⟩]
  have e : (l.take (i + 1)).drop (i + 1) = [] := List.drop_eq_nil_of_le (by rw [List.length_take]; omega)
  rw [e]
  cases cutGo 0 [] (l.drop (i + 1)) <;> simp
theorem ci_else {l : List UInt8} {i f : Nat} {d : Int} {ps : List (List UInt8)} {c : UInt8} (h : CutInv l i f d ps) (hc : l[i]? = some c) (hl : i + 1 < l.length) (hd0 : 0 ≤ d) (h44 : ¬ (d = 0 ∧ c = 44)) (hf : f ≤ i) : CutInv l (i + 1) f (d + dl c) ps := by
  unfold CutInv at *
  have hne : l.drop (i + 1) ≠ [] := by simp; omega
  rw [h, drop_at hc, cutGo, if_neg (by omega), if_neg hne, if_neg h44]
  have e : (l.take (i + 1)).drop f = (l.take i).drop f ++ [c] := by
    rw [take_next hc, List.drop_append_of_le_length (by rw [List.length_take]; omega)]
  rw [e]
theorem ci_end {l : List UInt8} {i f : Nat} {d : Int} {ps : List (List UInt8)} (h : CutInv l i f d ps) (hi : l.length ≤ i) : cut l = some ps := by
  unfold CutInv at h; rw [h, List.drop_eq_nil_of_le hi]; simp [cutGo]
theorem ci_start {l : List UInt8} (h : 2 ≤ l.length ∧ l.head? = some 123 ∧ l.getLast? = some 125) : CutInv l 1 1 0 [] := by
  unfold CutInv cut
  rw [if_pos h]
  have e : (l.take 1).drop 1 = [] := List.drop_eq_nil_of_le (by rw [List.length_take]; omega)
  rw [e]
  cases cutGo 0 [] (l.drop 1) <;> simp

end Go.Proofs.Ytghggcehloiemaa.P
