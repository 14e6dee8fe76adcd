import Derived.Test.YtghggcehloiemabHexAll
import Derived.Test.YtghggcehloiemabGoodAll
import Derived.Laws.BytesArg
import Derived.Test.YtghggcehloiemabParseW
namespace Go.Proofs.Ytghggcehloiemab
open Go.RowKit
set_option linter.unusedVariables false
set_option maxRecDepth 16000

namespace P
/-- One part of a value: how much of the text it takes, the bytes behind it. -/
def stepP (x : Pt) (l bs : List UInt8) : Option (Nat × List UInt8) :=
  if x.kind = 1 then (rdnum (256 ^ x.size - 1) l).map (fun y => (y.2, put bs x.place (le x.size y.1)))
  else if x.kind = 2 then (rdhex x.size l).map (fun xs => (2 * x.size, put bs x.place xs))
  else match l with
    | [] => none
    | c :: _ => if c.toNat = x.mark then some (1, bs) else none
def layAll : List Pt → List UInt8 → List UInt8 → Option (List UInt8 × List UInt8)
  | [], l, bs => some (l, bs)
  | x :: xs, l, bs => match stepP x l bs with
    | none => none
    | some (k, bs') => layAll xs (l.drop k) bs'
def PtOk (n : Nat) (x : Pt) : Prop := (x.kind = 1 ∧ x.mark = 0 ∧ 1 ≤ x.size ∧ x.size ≤ 4 ∧ x.place + x.size ≤ n) ∨ (x.kind = 2 ∧ x.mark = 0 ∧ 1 ≤ x.size ∧ x.size ≤ 16 ∧ x.place + x.size ≤ n) ∨ (x.kind = 0 ∧ x.mark < 256)
theorem stepP_length {x : Pt} {l bs bs' : List UInt8} {k : Nat} (hok : PtOk bs.length x) (h : stepP x l bs = some (k, bs')) : bs'.length = bs.length := by
  unfold stepP at h
  rcases hok with ⟨h1, _, _, _, h5⟩ | ⟨h1, _, _, _, h5⟩ | ⟨h1, _⟩
  · rw [if_pos h1] at h
    cases hr : rdnum (256 ^ x.size - 1) l with
    | none => rw [hr] at h; cases h
    | some y => rw [hr] at h; simp at h; obtain ⟨_, rfl⟩ := h; exact put_length _ _ _ (by rw [le_length]; omega)
  · rw [if_neg (by omega), if_pos h1] at h
    cases hr : rdhex x.size l with
    | none => rw [hr] at h; cases h
    | some y => rw [hr] at h; simp at h; obtain ⟨_, rfl⟩ := h; exact put_length _ _ _ (by rw [rdhex_length _ _ _ hr]; omega)
  · rw [if_neg (by omega), if_neg (by omega)] at h
    cases l with
    | nil => cases h
    | cons c r =>
      simp only at h
      split at h
      · cases h; rfl
      · cases h
end P

theorem hit_drop {s : ByteArray} {i : Nat} {m : UInt8} (h : hit s i m = true) : s.data.toList.drop i = m :: s.data.toList.drop (i + 1) := by
  have h' : s.data.toList[i]? = some m := by simpa [hit] using h
  obtain ⟨hl, he⟩ := List.getElem?_eq_some_iff.1 h'
  rw [List.drop_eq_getElem_cons hl, he]

end Go.Proofs.Ytghggcehloiemab
namespace Go.Proofs.Ytghggcehloiemab
open Go.RowKit
set_option linter.unusedVariables false

theorem Try.infoU8 : (Try.prog.info? 5).map (fun i => (i.zero, i.size, i.bytes)) = some (some (.int .u8 0), 1, 1) := by kernel_rfl

theorem part_cell {w : World} {base g N cap k : Nat} {ps : List P.Pt} {x : P.Pt} (h : w.ownsRow base 129 4 (.slice (some ⟨g, 0, none⟩) N cap) ps.length (cellsOf ps)) (hx : ps[k]? = some x) :
    w.cell? ⟨g, k * 4, none⟩ = some (.int .i64 x.kind) ∧ w.cell? ⟨g, k * 4 + 1, none⟩ = some (.int .u8 x.mark) ∧ w.cell? ⟨g, k * 4 + 2, none⟩ = some (.int .i64 x.place) ∧ w.cell? ⟨g, k * 4 + 3, none⟩ = some (.int .i64 x.size) ∧ N = ps.length ∧ N ≤ cap := by
  obtain ⟨h1, h2⟩ := h
  rcases h2 with ⟨h2, _⟩ | ⟨g', cap', cur, hv, hb, hg, hn, hm, hsz, htk⟩
  · cases h2
  · cases hv
    have hk : k < ps.length := (List.getElem?_eq_some_iff.1 hx).1
    have key : ∀ j, j < 4 → w.cell? ⟨g, k * 4 + j, none⟩ = (ptCells x)[j]? := by
      intro j hj
      rw [cell_of_row w g _ _ _ _ hg]
      have hget := cellsOf_get ps k j x hx hj
      rw [← htk, List.getElem?_take_of_lt (by omega)] at hget
      simpa using hget
    exact ⟨key 0 (by omega), key 1 (by omega), key 2 (by omega), key 3 (by omega), rfl, hn⟩

theorem drop_cons {α : Type} {l : List α} {i : Nat} {c : α} (hc : l[i]? = some c) : l.drop i = c :: l.drop (i + 1) := by
  obtain ⟨hl, he⟩ := List.getElem?_eq_some_iff.1 hc
  rw [List.drop_eq_getElem_cons hl, he]
/-- What 'Lay' answers. -/
def LayPost (o : Option (List UInt8 × List UInt8)) (w : World) (e : Ending) (w' : World) : Prop :=
  (match o with
    | some ([], bs) => e = .returned (.tuple #[.string ⟨bs.toArray⟩, .bool true])
    | _ => e = .returned (.tuple #[.string ⟨#[]⟩, .bool false])) ∧ Below w.heap.size w w'

end Go.Proofs.Ytghggcehloiemab
namespace Go.Proofs.Ytghggcehloiemab.P
set_option linter.unusedVariables false

theorem ptOk_sh {m n p : Nat} {x : Pt} (h : PtOk m x) (hn : m + p ≤ n) : PtOk n (x.sh p) := by
  rcases h with ⟨h1, h2, h3, h4, h5⟩ | ⟨h1, h2, h3, h4, h5⟩ | ⟨h1, h2⟩
  · exact Or.inl ⟨h1, h2, h3, h4, by simp only [Pt.sh]; omega⟩
  · exact Or.inr (Or.inl ⟨h1, h2, h3, h4, by simp only [Pt.sh]; omega⟩)
  · exact Or.inr (Or.inr ⟨h1, h2⟩)
theorem ptOk_mono {m n : Nat} {x : Pt} (h : PtOk m x) (hn : m ≤ n) : PtOk n x := by
  rcases h with ⟨h1, h2, h3, h4, h5⟩ | ⟨h1, h2, h3, h4, h5⟩ | ⟨h1, h2⟩
  · exact Or.inl ⟨h1, h2, h3, h4, by omega⟩
  · exact Or.inr (Or.inl ⟨h1, h2, h3, h4, by omega⟩)
  · exact Or.inr (Or.inr ⟨h1, h2⟩)
theorem ptOk_mark (n c : Nat) (h : c < 256) : PtOk n (markP c) := Or.inr (Or.inr ⟨rfl, h⟩)

theorem body_ok (xs : List (List Pt × (Nat × Nat))) : (∀ y ∈ xs, 1 ≤ y.2.2 ∧ y.2.2 ≤ 4 ∧ ∀ z ∈ y.1, PtOk y.2.1 z) → ∀ a : Nat × Nat, 1 ≤ a.2 → a.2 ≤ 4 → ∀ z ∈ body a xs, PtOk ((xs.map (·.2)).foldl lay1 a).1 z := by
  induction xs with
  | nil => intro _ a _ _ z hz; simp [body] at hz
  | cons x xs ih =>
    intro h a h1 h2 z hz
    have hx := h x (by simp)
    have hl := lay1_le (a := a) hx.1 hx.2.1
    have hm2 : 1 ≤ (lay1 a x.2).2 ∧ (lay1 a x.2).2 ≤ 4 := by simp only [lay1]; omega
    have hmono := fold_step (l := xs.map (·.2)) (by
      intro y hy
      obtain ⟨q, hq, rfl⟩ := List.mem_map.1 hy
      have := h q (by simp [hq]); exact ⟨this.1, this.2.1⟩) (lay1 a x.2) hm2.1 hm2.2
    simp only [List.map_cons, List.foldl_cons]
    rw [body, List.mem_append, List.mem_cons] at hz
    rcases hz with hz | rfl | hz
    · obtain ⟨q, hq, rfl⟩ := List.mem_map.1 hz
      exact ptOk_sh (hx.2.2 q hq) (by omega)
    · exact ptOk_mark _ _ (by omega)
    · exact ih (fun y hy => h y (by simp [hy])) _ hm2.1 hm2.2 z hz

def Fine (n : Nat) (t : Ty n) : Prop := Good n t ∧ 1 ≤ (sz n t).1 ∧ ∀ x ∈ parts n t, PtOk (sz n t).1 x

theorem fine_struct {n : Nat} {ts : List (Ty n)} (hne : ts ≠ []) (h : ∀ t ∈ ts, Fine n t) : Fine (n + 1) (.inr ts) := by
  have hg := good_struct (fun t ht => (h t ht).1)
  have hs : ∀ x ∈ ts.map (sz n), 1 ≤ x.2 ∧ x.2 ≤ 4 := by
    intro x hx
    obtain ⟨t, ht, rfl⟩ := List.mem_map.1 hx
    exact ⟨(h t ht).1.1, (h t ht).1.2.1⟩
  obtain ⟨h1, h2, _⟩ := fold_step hs (0, 1) (by simp) (by simp)
  have e : (ts.map (fun t => (parts n t, sz n t))).map (·.2) = ts.map (sz n) := by simp [Function.comp_def]
  have hup := le_up (fold (ts.map (sz n))).1 (fold (ts.map (sz n))).2 h1
  have hb : ∀ z ∈ body (0, 1) (ts.map fun t => (parts n t, sz n t)), PtOk (fold (ts.map (sz n))).1 z := by
    have := body_ok (ts.map fun t => (parts n t, sz n t)) (by
      intro y hy
      obtain ⟨t, ht, rfl⟩ := List.mem_map.1 hy
      exact ⟨(h t ht).1.1, (h t ht).1.2.1, (h t ht).2.2⟩) (0, 1) (by simp) (by simp)
    rw [e] at this; exact this
  refine ⟨hg, ?_, ?_⟩
  · cases ts with
    | nil => exact absurd rfl hne
    | cons t ts =>
      have ht := h t (by simp)
      have hl := lay1_le (a := (0, 1)) ht.1.1 ht.1.2.1
      have hm2 : 1 ≤ (lay1 (0, 1) (sz n t)).2 ∧ (lay1 (0, 1) (sz n t)).2 ≤ 4 := by have := ht.1.1; have := ht.1.2.1; simp only [lay1]; omega
      have hmono := fold_step (l := ts.map (sz n)) (fun x hx => hs x (by simp at hx ⊢; exact Or.inr hx)) (lay1 (0, 1) (sz n t)) hm2.1 hm2.2
      have e2 : fold ((t :: ts).map (sz n)) = (ts.map (sz n)).foldl lay1 (lay1 (0, 1) (sz n t)) := rfl
      simp only [sz, closed]
      have h1' := ht.2.1
      rw [e2] at hup ⊢
      omega
  · intro x hx
    simp only [parts, List.mem_cons, List.mem_append] at hx
    simp only [sz, closed]
    rcases hx with rfl | hx | hx
    · exact ptOk_mark _ _ (by omega)
    · exact ptOk_mono (hb x (List.dropLast_subset _ hx)) hup
    · simp at hx; subst hx; exact ptOk_mark _ _ (by omega)

theorem body_len (xs : List (List Pt × (Nat × Nat))) (x : List Pt × (Nat × Nat)) (a : Nat × Nat) : (body a (xs ++ [x])).length = (body a xs).length + x.1.length + 1 := by
  rw [body_snoc]; simp; omega

theorem rdF_fine {n : Nat} (ih : ∀ l t r, rd n l = some (t, r) → Fine n t ∧ (parts n t).length + r.length ≤ l.length) :
    ∀ (k : Nat) (acc : List (Ty n)) (s : List UInt8) (ts : List (Ty n)) (r : List UInt8) (M : Nat), rdF (rd n) k acc s = some (ts, r) → (∀ t ∈ acc, Fine n t) → (body (0, 1) (acc.map fun t => (parts n t, sz n t))).length + s.length ≤ M →
    (∀ t ∈ ts, Fine n t) ∧ ts ≠ [] ∧ (body (0, 1) (ts.map fun t => (parts n t, sz n t))).length + r.length ≤ M := by
  intro k
  induction k with
  | zero => intro acc s ts r M h; simp [rdF] at h
  | succ k ihk =>
    intro acc s ts r M h hacc hM
    rw [rdF] at h
    split at h
    · cases h
    · cases h
    · rename_i t c r' hf
      obtain ⟨hg, hle⟩ := ih _ _ _ hf
      have hgs : ∀ x ∈ acc ++ [t], Fine n x := by
        intro x hx
        rcases List.mem_append.1 hx with hx | hx
        · exact hacc x hx
        · simp at hx; subst hx; exact hg
      have hbl : (body (0, 1) ((acc ++ [t]).map fun t => (parts n t, sz n t))).length = (body (0, 1) (acc.map fun t => (parts n t, sz n t))).length + (parts n t).length + 1 := by
        rw [List.map_append, List.map_cons, List.map_nil, body_len]
      simp only [List.length_cons] at hle
      split at h
      · cases h
        exact ⟨hgs, by simp, by rw [hbl]; omega⟩
      · split at h
        · exact ihk _ _ _ _ M h hgs (by rw [hbl]; omega)
        · cases h

theorem rd_fine : ∀ (n : Nat) (l : List UInt8) (t : Ty n) (r : List UInt8), rd n l = some (t, r) → Fine n t ∧ (parts n t).length + r.length ≤ l.length := by
  intro n
  have leafcase : ∀ (n : Nat) (l : List UInt8) (t : Ty n) (r : List UInt8), rd n l = some (t, r) → (rdLeaf l).map (fun x => (lf n x.1, x.2)) = some (t, r) → Fine n t ∧ (parts n t).length + r.length ≤ l.length := by
    intro n l t r h0 h
    have hgood := (rd_good n l t r h0).1
    cases hx : rdLeaf l with
    | none => rw [hx] at h; cases h
    | some x =>
      rw [hx] at h
      simp at h
      obtain ⟨rfl, rfl⟩ := h
      have hg := rdLeaf_good hx
      refine ⟨⟨hgood, by rw [sz_lf]; exact hg.2.2.2.1, ?_⟩, by rw [parts_lf]; simp; omega⟩
      rw [parts_lf, sz_lf]
      intro y hy
      simp at hy; subst hy
      obtain ⟨⟨num, k⟩, r⟩ := x
      cases num with
      | true => exact Or.inl ⟨rfl, rfl, hg.2.2.2.1, hg.2.1, by simp [lpart, lsz]⟩
      | false => exact Or.inr (Or.inl ⟨rfl, rfl, hg.2.2.2.1, hg.2.2.1, by simp [lpart, lsz]⟩)
  induction n with
  | zero =>
    intro l t r h
    by_cases hl : leafy l = true
    · exact leafcase 0 l t r h (by rw [← rd_leafy _ _ hl]; exact h)
    · simp [rd, hl] at h
  | succ n ih =>
    intro l t r h
    by_cases hl : leafy l = true
    · exact leafcase _ l t r h (by rw [← rd_leafy _ _ hl]; exact h)
    · rw [rd_else _ _ (by simpa using hl)] at h
      cases l with
      | nil => simp [rdS] at h
      | cons c s =>
        simp only [rdS] at h
        split at h
        · cases hx : rdF (rd n) 8 [] s with
          | none => rw [hx] at h; cases h
          | some x =>
            obtain ⟨ts, r'⟩ := x
            rw [hx] at h
            simp at h
            obtain ⟨rfl, rfl⟩ := h
            obtain ⟨hg, hne, hle⟩ := rdF_fine ih 8 [] s ts _ s.length hx (by simp) (by simp [body])
            refine ⟨fine_struct hne hg, ?_⟩
            have hpos : 1 ≤ (body (0, 1) (ts.map fun t => (parts n t, sz n t))).length := by
              cases ts with
              | nil => exact absurd rfl hne
              | cons t ts => simp [body]; omega
            simp only [parts, List.length_cons, List.length_append, List.length_dropLast, List.length_nil]
            omega
        · cases h

end Go.Proofs.Ytghggcehloiemab.P
