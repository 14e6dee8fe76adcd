import Derived.Test.YtghggcehloiemaaRefStruct
import Derived.Test.YtghggcehloiemaaEquiv2
namespace Go.Proofs.Ytghggcehloiemaa
open Go.RowKit
set_option linter.unusedVariables false
set_option maxRecDepth 16000

namespace P
def Sm : (n : Nat) → Ty n → Prop
  | 0, l => 1 ≤ l.2 ∧ l.2 ≤ 16
  | _ + 1, .inl l => 1 ≤ l.2 ∧ l.2 ≤ 16
  | n + 1, .inr ts => (sz (n + 1) (.inr ts)).1 ≤ 32 ∧ ts.length ≤ 8 ∧ ts ≠ [] ∧ ∀ t ∈ ts, Sm n t ∧ 1 ≤ (sz n t).2 ∧ (sz n t).2 ≤ 4

theorem rleaf_sm {l : List UInt8} {x : Bool × Nat} (h : rleaf l = some x) : 1 ≤ x.2 ∧ x.2 ≤ 16 := by
  unfold rleaf at h
  cases l with
  | nil => cases h
  | cons c r =>
    simp only at h
    split at h
    · split at h
      · cases h; simp only; omega
      · cases h
    · split at h
      · split at h
        · cases h; simp only; omega
        · cases h
      · cases h
theorem sm_lf (n : Nat) (l : Bool × Nat) (h : 1 ≤ l.2 ∧ l.2 ≤ 16) : Sm n (lf n l) := by cases n <;> exact h

theorem cutGo_ne : ∀ (r : List UInt8) (d : Int) (cur : List UInt8) (ps : List (List UInt8)), cutGo d cur r = some ps → r ≠ [] → ps ≠ [] := by
  intro r
  induction r with
  | nil => intro d cur ps _ h; exact absurd rfl h
  | cons c r ih =>
    intro d cur ps h _
    rw [cutGo] at h
    split at h
    · cases h
    · split at h
      · split at h
        · cases h; simp
        · cases h
      · rename_i hr
        split at h
        · cases hx : cutGo 0 [] r with
          | none => rw [hx] at h; cases h
          | some qs => rw [hx] at h; simp at h; subst h; simp
        · exact ih _ _ ps h hr
theorem cut_ne {l : List UInt8} {ps : List (List UInt8)} (h : cut l = some ps) : ps ≠ [] := by
  unfold cut at h
  split at h
  · rename_i hc
    refine cutGo_ne _ _ _ _ h (fun e => ?_)
    have := congrArg List.length e
    simp only [List.length_drop, List.length_nil] at this
    omega
  · cases h
theorem allM_length {α β : Type} {f : α → Option β} : ∀ {l : List α} {ys : List β}, allM f l = some ys → ys.length = l.length := by
  intro l
  induction l with
  | nil => intro ys h; simp [allM] at h; subst h; rfl
  | cons a l ih =>
    intro ys h
    rw [allM] at h
    cases ha : f a with
    | none => rw [ha] at h; cases h
    | some b =>
      rw [ha] at h
      cases hl : allM f l with
      | none => rw [hl] at h; cases h
      | some bs => rw [hl] at h; simp at h; subst h; simp [ih hl]

theorem rp_sm : ∀ (n : Nat) (l : List UInt8) (t : Ty n), rp n l = some t → Sm n t := by
  intro n
  induction n with
  | zero =>
    intro l t h
    rw [rp] at h
    split at h
    · cases h
    · cases hx : rleaf l with
      | none => rw [hx] at h; cases h
      | some x => rw [hx] at h; simp at h; subst h; exact sm_lf 0 x (rleaf_sm hx)
  | succ n ih =>
    intro l t h
    have hg := rp_good _ _ _ h
    rw [rp] at h
    split at h
    · split at h
      · cases h
      · rename_i ps hcut
        split at h
        · cases h
        · rename_i h8
          split at h
          · cases h
          · rename_i ts hts
            split at h
            · rename_i hle
              cases h
              have hlen := allM_length hts
              refine ⟨hle, by omega, ?_, ?_⟩
              · intro e
                subst e
                have := cut_ne hcut
                apply this
                exact List.eq_nil_of_length_eq_zero (by simpa using hlen.symm)
              · intro t ht
                obtain ⟨y, _, hy⟩ := allM_mem hts t ht
                have h1 := rp_good _ _ _ hy
                exact ⟨ih _ _ hy, h1.1, h1.2.1⟩
            · cases h
    · cases hx : rleaf l with
      | none => rw [hx] at h; cases h
      | some x => rw [hx] at h; simp at h; subst h; exact sm_lf _ x (rleaf_sm hx)

theorem sm_size : ∀ (n : Nat) (t : Ty n), Sm n t → 1 ≤ (sz n t).1 ∧ (sz n t).1 ≤ 32 := by
  intro n
  induction n with
  | zero => intro t h; have h' : 1 ≤ t.2 ∧ t.2 ≤ 16 := h; exact ⟨h'.1, by have := h'.2; show t.2 ≤ 32; omega⟩
  | succ n ih =>
    intro t h
    cases t with
    | inl l => have h' : 1 ≤ l.2 ∧ l.2 ≤ 16 := h; exact ⟨h'.1, by have := h'.2; show l.2 ≤ 32; omega⟩
    | inr ts =>
      obtain ⟨h1, h2, h3, h4⟩ := h
      refine ⟨?_, h1⟩
      have hst : ∀ x ∈ ts.map (sz n), 1 ≤ x.2 ∧ x.2 ≤ 4 := by
        intro x hx
        obtain ⟨t, ht, rfl⟩ := List.mem_map.1 hx
        exact (h4 t ht).2
      obtain ⟨g1, _, _⟩ := fold_step hst (0, 1) (by simp) (by simp)
      have hup := le_up (fold (ts.map (sz n))).1 (fold (ts.map (sz n))).2 g1
      cases ts with
      | nil => exact absurd rfl h3
      | cons t ts =>
        have hge := fold_ge hst (0, 1) (by simp) (by simp) (sz n t) (by simp)
        have := (ih t (h4 t (by simp)).1).1
        have e : (fold ((t :: ts).map (sz n))) = ((t :: ts).map (sz n)).foldl lay1 (0, 1) := rfl
        simp only [sz, closed]
        rw [e] at hup ⊢
        omega
theorem places_bd : ∀ (xs : List (Nat × Nat)) (a : Nat × Nat), (∀ x ∈ xs, 1 ≤ x.2 ∧ x.2 ≤ 4) → 1 ≤ a.2 → a.2 ≤ 4 → ∀ p ∈ places a xs, p ≤ (xs.foldl lay1 a).1 := by
  intro xs
  induction xs with
  | nil => intro a _ _ _ p hp; simp [places] at hp
  | cons x xs ih =>
    intro a h h1 h2 p hp
    have hx := h x (by simp)
    have hl := lay1_le (a := a) hx.1 hx.2
    have hm : 1 ≤ (lay1 a x).2 ∧ (lay1 a x).2 ≤ 4 := by simp only [lay1]; omega
    have hm2 := fold_step (l := xs) (fun z hz => h z (by simp [hz])) (lay1 a x) hm.1 hm.2
    rw [List.foldl_cons]
    simp only [places, List.mem_cons] at hp
    rcases hp with rfl | hp
    · omega
    · exact ih _ (fun z hz => h z (by simp [hz])) hm.1 hm.2 p hp

def Nm : (n : Nat) → Ty n → Prop
  | 0, l => l.1 = true → l.2 ≤ 4
  | _ + 1, .inl l => l.1 = true → l.2 ≤ 4
  | n + 1, .inr ts => ∀ t ∈ ts, Nm n t
theorem rleaf_nm {l : List UInt8} {x : Bool × Nat} (h : rleaf l = some x) : x.1 = true → x.2 ≤ 4 := by
  unfold rleaf at h
  cases l with
  | nil => cases h
  | cons c r =>
    simp only at h
    split at h
    · split at h
      · cases h; intro _; simp only; omega
      · cases h
    · split at h
      · split at h
        · cases h; intro h; cases h
        · cases h
      · cases h
theorem nm_lf (n : Nat) (l : Bool × Nat) (h : l.1 = true → l.2 ≤ 4) : Nm n (lf n l) := by cases n <;> exact h
theorem rp_nm : ∀ (n : Nat) (l : List UInt8) (t : Ty n), rp n l = some t → Nm n t := by
  intro n
  induction n with
  | zero =>
    intro l t h
    rw [rp] at h
    split at h
    · cases h
    · cases hx : rleaf l with
      | none => rw [hx] at h; cases h
      | some x => rw [hx] at h; simp at h; subst h; exact nm_lf 0 x (rleaf_nm hx)
  | succ n ih =>
    intro l t h
    rw [rp] at h
    split at h
    · split at h
      · cases h
      · split at h
        · cases h
        · split at h
          · cases h
          · rename_i ts hts
            split at h
            · cases h
              intro t ht
              obtain ⟨y, _, hy⟩ := allM_mem hts t ht
              exact ih _ _ hy
            · cases h
    · cases hx : rleaf l with
      | none => rw [hx] at h; cases h
      | some x => rw [hx] at h; simp at h; subst h; exact nm_lf _ x (rleaf_nm hx)

end P

theorem int_cell {w : World} {base g N cap i : Nat} {xs : List Value} {x : Value} (h : w.ownsRow base 3 1 (.slice (some ⟨g, 0, none⟩) N cap) xs.length xs) (hx : xs[i]? = some x) : w.cell? ⟨g, i, none⟩ = some x ∧ N ≤ cap := by
  obtain ⟨h1, h2⟩ := h
  rcases h2 with ⟨h2, _⟩ | ⟨g', cap', cur, hv, hb, hg, hn, hm, hsz, htk⟩
  · cases h2
  · cases hv
    refine ⟨?_, hn⟩
    rw [cell_of_row w g _ _ _ _ hg]
    have hl : i < xs.length := (List.getElem?_eq_some_iff.1 hx).1
    rw [← htk, List.getElem?_take_of_lt (by omega)] at hx
    simpa using hx
theorem flat_get : ∀ (fs : List (Array Value)) (i k : Nat) (c : Array Value), (∀ x ∈ fs, x.size = 5) → fs[i]? = some c → k < 5 → (fs.flatMap Array.toList)[i * 5 + k]? = c.toList[k]? := by
  intro fs
  induction fs with
  | nil => intro i k c _ h; simp at h
  | cons y fs ih =>
    intro i k c hall h hk
    have hl : y.toList.length = 5 := by simpa using hall y (by simp)
    rw [List.flatMap_cons]
    cases i with
    | zero =>
      simp at h; subst h
      rw [List.getElem?_append_left (by omega)]; simp
    | succ i =>
      simp at h
      rw [List.getElem?_append_right (by omega), hl, show (i + 1) * 5 + k - 5 = i * 5 + k by omega]
      exact ih i k c (fun x hx => hall x (by simp [hx])) h hk
theorem typ_cell {w : World} {base g N cap i n : Nat} {fs : List (Array Value)} {a b c d e : Value} (h : w.ownsRow base 60 5 (.slice (some ⟨g, 0, none⟩) N cap) n (fs.flatMap Array.toList)) (hall : ∀ x ∈ fs, x.size = 5) (hn : fs.length = n) (hx : fs[i]? = some #[a, b, c, d, e]) :
    w.cell? ⟨g, i * 5, none⟩ = some a ∧ w.cell? ⟨g, i * 5 + 1, none⟩ = some b ∧ w.cell? ⟨g, i * 5 + 2, none⟩ = some c ∧ w.cell? ⟨g, i * 5 + 3, none⟩ = some d ∧ w.cell? ⟨g, i * 5 + 4, none⟩ = some e ∧ N ≤ cap := by
  obtain ⟨h1, h2⟩ := h
  rcases h2 with ⟨h2, _⟩ | ⟨g', cap', cur, hv, hb, hg, hnn, hm, hsz, htk⟩
  · cases h2
  · cases hv
    have hk : i < fs.length := (List.getElem?_eq_some_iff.1 hx).1
    have key : ∀ j, j < 5 → w.cell? ⟨g, i * 5 + j, none⟩ = [a, b, c, d, e][j]? := by
      intro j hj
      rw [cell_of_row w g _ _ _ _ hg]
      have hget := flat_get fs i j _ hall hx hj
      rw [← htk, List.getElem?_take_of_lt (by omega)] at hget
      simpa using hget
    exact ⟨key 0 (by omega), key 1 (by omega), key 2 (by omega), key 3 (by omega), key 4 (by omega), hnn⟩

end Go.Proofs.Ytghggcehloiemaa
