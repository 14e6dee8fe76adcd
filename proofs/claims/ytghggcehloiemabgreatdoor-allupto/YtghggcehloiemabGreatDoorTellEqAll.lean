import Derived.Test.YtghggcehloiemabGreatDoorRefValS
import Derived.Test.YtghggcehloiemabGreatDoorRefEncAll
import Derived.Test.YtghggcehloiemabGreatDoorRefLieSAll
namespace Go.Proofs.YtghggcehloiemabGreatDoor.P
set_option linter.unusedVariables false

theorem tell_shift (bs : List UInt8) (p m : Nat) (x : Pt) (hok : PtOk m x) (h : p + m ≤ bs.length) : tell1 bs (x.sh p) = tell1 (sub bs p m) x := by
  unfold tell1 Pt.sh
  rcases hok with ⟨h1, _, _, _, h5⟩ | ⟨h1, _, _, _, h5⟩ | ⟨h1, h2⟩
  · simp only [h1, if_true]
    rw [sub_sub _ _ _ _ _ h5, Nat.add_comm]
  · simp only [h1, if_true]
    rw [sub_sub _ _ _ _ _ h5, Nat.add_comm]
  · simp [h1]
theorem tellAll_shift (bs : List UInt8) (p m : Nat) (l : List Pt) (hok : ∀ x ∈ l, PtOk m x) (h : p + m ≤ bs.length) : tellAll (l.map (Pt.sh p)) bs = tellAll l (sub bs p m) := by
  induction l with
  | nil => rfl
  | cons x l ih =>
    have h1 := tell_shift bs p m x (hok x (by simp)) h
    have h2 := ih (fun y hy => hok y (by simp [hy]))
    unfold tellAll at *
    rw [List.map_cons, List.flatMap_cons, List.flatMap_cons, h1, h2]
theorem tell_leaf (l : Bool × Nat) (b : List UInt8) (hb : b.length = l.2) : tellAll [lpart l] b = valLeaf l b := by
  obtain ⟨num, k⟩ := l
  have hs : sub b 0 k = b := sub_all b k hb
  cases num <;> simp [tellAll, tell1, lpart, valLeaf, hs]

/-- Each field's text, a comma behind each. -/
def cbody : List (List UInt8) → List UInt8
  | [] => []
  | x :: r => x ++ 44 :: cbody r
theorem cbody_commas : ∀ (l : List (List UInt8)) (x : List UInt8), (cbody (x :: l)).dropLast = commas true (x :: l) := by
  intro l
  induction l with
  | nil => intro x; simp [cbody, commas]
  | cons y l ih =>
    intro x
    have h := ih y
    rw [cbody]
    have hne : cbody (y :: l) ≠ [] := by simp [cbody]
    rw [List.dropLast_append_of_ne_nil (by simp), List.dropLast_cons_of_ne_nil hne, h]
    simp [commas]

theorem tell_body {n : Nat} (ts : List (Ty n)) (bs : List UInt8) (ih : ∀ t ∈ ts, ∀ b : List UInt8, b.length = (sz n t).1 → tellAll (parts n t) b = valueP n t b) (hok : ∀ t ∈ ts, 1 ≤ (sz n t).2 ∧ (sz n t).2 ≤ 4 ∧ ∀ x ∈ parts n t, PtOk (sz n t).1 x) :
    ∀ a : Nat × Nat, 1 ≤ a.2 → a.2 ≤ 4 → ((ts.map (sz n)).foldl lay1 a).1 ≤ bs.length → tellAll (body a (ts.map fun t => (parts n t, sz n t))) bs = cbody (List.zipWith (fun t p => valueP n t (sub bs p (sz n t).1)) ts (places a (ts.map (sz n)))) := by
  induction ts with
  | nil => intro a _ _ _; rfl
  | cons t ts ihs =>
    intro a h1 h2 hle
    have ht := hok t (by simp)
    have hm : 1 ≤ (lay1 a (sz n t)).2 ∧ (lay1 a (sz n t)).2 ≤ 4 := by simp only [lay1]; omega
    rw [List.map_cons, List.foldl_cons] at hle
    have hmono := fold_step (l := ts.map (sz n)) (fun z hz => by
      obtain ⟨u, hu, rfl⟩ := List.mem_map.1 hz
      exact ⟨(hok u (by simp [hu])).1, (hok u (by simp [hu])).2.1⟩) (lay1 a (sz n t)) hm.1 hm.2
    have hl1 : (lay1 a (sz n t)).1 = up a.1 (sz n t).2 + (sz n t).1 := rfl
    have hrec := ihs (fun u hu => ih u (by simp [hu])) (fun u hu => hok u (by simp [hu])) _ hm.1 hm.2 hle
    simp only [List.map_cons, body, places, List.zipWith_cons_cons, cbody]
    rw [tellAll_append, tellAll_shift bs _ _ _ ht.2.2 (by omega), ih t (by simp) _ (sub_length _ _ _ (by omega))]
    congr 1
    have e : tellAll (markP 44 :: body (lay1 a (sz n t)) (ts.map fun t => (parts n t, sz n t))) bs = 44 :: tellAll (body (lay1 a (sz n t)) (ts.map fun t => (parts n t, sz n t))) bs := by
      simp [tellAll, tell1, markP]
    rw [e, hrec]

theorem fine_leaf (n : Nat) (l : Bool × Nat) (h : 1 ≤ l.2 ∧ l.2 ≤ 16) (h4 : l.1 = true → l.2 ≤ 4) : Fine n (lf n l) := by
  unfold Fine Good
  rw [sz_lf, parts_lf]
  obtain ⟨num, k⟩ := l
  cases num with
  | true =>
    have := h4 rfl
    refine ⟨⟨by simp [lsz]; exact h.1, by simp [lsz]; exact this, ?_⟩, h.1, ?_⟩
    · intro x hx; simp at hx; subst hx; simp [lpart]
    · intro x hx; simp at hx; subst hx; exact Or.inl ⟨rfl, rfl, h.1, this, by simp [lpart, lsz]⟩
  | false =>
    refine ⟨⟨by simp [lsz], by simp [lsz], ?_⟩, h.1, ?_⟩
    · intro x hx; simp at hx; subst hx; simp [lpart]
    · intro x hx; simp at hx; subst hx; exact Or.inr (Or.inl ⟨rfl, rfl, h.1, h.2, by simp [lpart, lsz]⟩)
theorem fine_of : ∀ (n : Nat) (t : Ty n), Sm n t → Nm n t → Fine n t := by
  intro n
  induction n with
  | zero => intro t hs hn; exact fine_leaf 0 t hs hn
  | succ n ih =>
    intro t hs hn
    cases t with
    | inl l => exact fine_leaf (n + 1) l hs hn
    | inr ts => exact fine_struct hs.2.2.1 (fun t ht => ih t (hs.2.2.2 t ht).1 (hn t ht))

theorem tell_value : ∀ (n : Nat) (t : Ty n) (b : List UInt8), Sm n t → Nm n t → b.length = (sz n t).1 → tellAll (parts n t) b = valueP n t b := by
  intro n
  induction n with
  | zero => intro t b hs hn hb; exact tell_leaf t b hb
  | succ n ih =>
    intro t b hs hn hb
    cases t with
    | inl l => exact tell_leaf l b hb
    | inr ts =>
      have hfine : ∀ t ∈ ts, Fine n t := fun t ht => fine_of n t (hs.2.2.2 t ht).1 (hn t ht)
      have hst : ∀ x ∈ ts.map (sz n), 1 ≤ x.2 ∧ x.2 ≤ 4 := by
        intro x hx
        obtain ⟨t, ht, rfl⟩ := List.mem_map.1 hx
        exact (hs.2.2.2 t ht).2
      obtain ⟨g1, _, _⟩ := fold_step hst (0, 1) (by simp) (by simp)
      have hup := le_up (fold (ts.map (sz n))).1 (fold (ts.map (sz n))).2 g1
      have hb2 : b.length = up (fold (ts.map (sz n))).1 (fold (ts.map (sz n))).2 := hb
      have hbody := tell_body ts b (fun t ht b' hb' => ih t b' (hs.2.2.2 t ht).1 (hn t ht) hb') (fun t ht => ⟨(hs.2.2.2 t ht).2.1, (hs.2.2.2 t ht).2.2, (hfine t ht).2.2⟩) (0, 1) (by simp) (by simp) (by rw [hb2]; exact hup)
      rw [valueP_struct]
      have hbl : (body (0, 1) (ts.map fun t => (parts n t, sz n t))) = (body (0, 1) (ts.map fun t => (parts n t, sz n t))).dropLast ++ [markP 44] := by
        obtain ⟨us, u, rfl⟩ : ∃ us u, ts = us ++ [u] := ⟨ts.dropLast, ts.getLast hs.2.2.1, (List.dropLast_concat_getLast hs.2.2.1).symm⟩
        rw [List.map_append, List.map_cons, List.map_nil, body_snoc, List.dropLast_concat]
      have hv : (vals n ts b) ≠ [] := by
        intro h
        have := congrArg List.length h
        unfold vals at this
        rw [List.length_zipWith, places_length] at this
        simp at this
        exact hs.2.2.1 this
      have hcore : tellAll (body (0, 1) (ts.map fun t => (parts n t, sz n t))).dropLast b = commas true (vals n ts b) := by
        have e1 : tellAll (body (0, 1) (ts.map fun t => (parts n t, sz n t))) b = tellAll (body (0, 1) (ts.map fun t => (parts n t, sz n t))).dropLast b ++ [44] := by
          rw [hbl, tellAll_append]
          simp [tellAll, tell1, markP]
        rw [hbody] at e1
        have e2 := congrArg List.dropLast e1
        rw [List.dropLast_concat] at e2
        rw [← e2]
        obtain ⟨x, l, hxl⟩ := List.exists_cons_of_ne_nil hv
        show (cbody (vals n ts b)).dropLast = _
        rw [hxl]
        exact cbody_commas l x
      have e : parts (n + 1) (.inr ts) = [markP 123] ++ (body (0, 1) (ts.map fun t => (parts n t, sz n t))).dropLast ++ [markP 125] := by simp [parts]
      rw [e, tellAll_append, tellAll_append, hcore]
      simp [tellAll, tell1, markP]
end Go.Proofs.YtghggcehloiemabGreatDoor.P
namespace Go.Proofs.YtghggcehloiemabGreatDoor
open Go.RowKit
set_option linter.unusedVariables false
set_option maxRecDepth 16000

namespace P
def rdecOf (lt bs : List UInt8) : List UInt8 × Nat := match rtyOf lt with
  | none => ([], 1)
  | some t => if bs.length = (sz 4 t).1 then (valueP 4 t bs, 0) else ([], 3)
end P

set_option maxHeartbeats 1000000 in
theorem rdecode_any (s v : ByteArray) (w : World) (hs : s.size ≤ maxLen) :
    Calls Tryz.prog 121 #[.string s, .string v] w fun e w' => e = .returned (.tuple #[.string ⟨(P.rdecOf s.data.toList v.data.toList).1.toArray⟩, .int .i64 (P.rdecOf s.data.toList v.data.toList).2]) ∧ Below w.heap.size w w' := by
  go_enter Tryz.func121, Tryz.ntmps121
  go_wp2_with fail
  refine (rParse_any s w hs).mono ?_
  rintro e w1 ⟨hpost, hbe⟩
  cases ht : P.rtyOf s.data.toList with
  | none =>
    rw [ht] at hpost
    obtain ⟨vv, rfl, a1, a2, a3, x', n1, k1, y, m1, j1, rfl⟩ := hpost
    have HT : Hid (P.rdecOf s.data.toList v.data.toList = ([], 1)) := by unfold Hid P.rdecOf; rw [ht]
    clear ht
    go_wp2_with fail
    go_ret2
    exact ⟨by rw [HT.out]; rfl, hbe.alloc hbe.size _⟩
  | some t =>
    rw [ht] at hpost
    obtain ⟨vv, S, rfl, hT, hS⟩ := hpost
    have hrp : P.rp 4 s.data.toList = some t := by
      unfold P.rtyOf at ht
      split at ht
      · cases ht
      · exact ht
    have hsm := P.rp_sm 4 _ t hrp
    have hnm := P.rp_nm 4 _ t hrp
    obtain ⟨a0, x', n1, k1, y, m1, j1, rfl⟩ := hT.is
    have HT : Hid (P.rdecOf s.data.toList v.data.toList = if v.size = (P.sz 4 t).1 then (P.valueP 4 t v.data.toList, 0) else ([], 3)) := by unfold Hid P.rdecOf; rw [ht]; simp
    obtain ⟨f1, hf1⟩ : ∃ f1, (P.sz 4 t).1 = f1 := ⟨_, rfl⟩
    obtain ⟨f2, hf2⟩ : ∃ f2, (P.sz 4 t).2 = f2 := ⟨_, rfl⟩
    have HF1 : Hid ((P.sz 4 t).1 = f1) := hf1
    rw [hf1] at HT
    rw [hf1, hf2] at hT ⊢
    have hsz1 := hbe.size
    have hT2 : TypAt (w1.alloc (.cells #[.int .u8 a0, .int .i64 f1, .int .i64 f2, .slice x' n1 k1, .slice y m1 j1] 121)) 4 t (.agg #[.int .u8 a0, .int .i64 f1, .int .i64 f2, .slice x' n1 k1, .slice y m1 j1]) S := hT.of (fun g hg => Below.heap_alloc _ _ _ (hS g hg).2) (fun g hg => hg)
    have hS2 : ∀ g, S g → g < w1.heap.size := fun g hg => (hS g hg).2
    by_cases hl : v.size = f1
    · have HC : Hid (Calls Tryz.prog 149 #[.agg #[.int .u8 a0, .int .i64 f1, .int .i64 f2, .slice x' n1 k1, .slice y m1 j1], .string v] (w1.alloc (.cells #[.int .u8 a0, .int .i64 f1, .int .i64 f2, .slice x' n1 k1, .slice y m1 j1] 121)) fun e w' => e = .returned (.string ⟨(P.valueP 4 t v.data.toList).toArray⟩) ∧ Below (w1.alloc (.cells #[.int .u8 a0, .int .i64 f1, .int .i64 f2, .slice x' n1 k1, .slice y m1 j1] 121)).heap.size (w1.alloc (.cells #[.int .u8 a0, .int .i64 f1, .int .i64 f2, .slice x' n1 k1, .slice y m1 j1] 121)) w') :=
        value_all 4 t _ S v _ hsm hnm hT2 (fun g hg => by have := hS2 g hg; simp; omega) (by rw [hf1]; exact hl) (by omega)
      have HE : Hid (P.rdecOf s.data.toList v.data.toList = (P.valueP 4 t v.data.toList, 0)) := by unfold Hid; rw [HT.out, if_pos hl]
      have hlb : ((v.size : Int) == (f1 : Int)) = true := by rw [beq_iff_eq]; omega
      clear hT hT2 hS hf1 hf2 ht hrp hsm hnm hS2
      go_wp2_with fail
      refine Calls.mono HC.out ?_
      rintro e w2 ⟨rfl, hbe2⟩
      have hbe3 : Below w.heap.size w w2 := (hbe.alloc hsz1 _).trans (hbe2.mono (by simp; omega))
      go_wp2_with fail
      go_ret2
      exact ⟨by rw [HE.out]; rfl, hbe3⟩
    · have HE : Hid (P.rdecOf s.data.toList v.data.toList = ([], 3)) := by unfold Hid; rw [HT.out, if_neg hl]
      have hlb : ((v.size : Int) == (f1 : Int)) = false := by rw [beq_eq_false_iff_ne]; omega
      have hb2 : Below w.heap.size w (w1.alloc (.cells #[.int .u8 a0, .int .i64 f1, .int .i64 f2, .slice x' n1 k1, .slice y m1 j1] 121)) := hbe.alloc hsz1 _
      clear hT hT2 hS hf1 hf2 ht hrp hsm hnm hS2
      go_wp2_with fail
      go_ret2
      exact ⟨by rw [HE.out]; rfl, hb2⟩
end Go.Proofs.YtghggcehloiemabGreatDoor
