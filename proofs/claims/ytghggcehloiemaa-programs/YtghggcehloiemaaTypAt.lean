import Derived.Test.YtghggcehloiemaaRefCut
import Derived.Test.YtghggcehloiemaaNumberAll
namespace Go.Proofs.Ytghggcehloiemaa
open Go.RowKit
set_option linter.unusedVariables false
set_option maxRecDepth 16000

namespace P
def allM {α β : Type} (f : α → Option β) : List α → Option (List β)
  | [] => some []
  | x :: xs => match f x with
    | none => none
    | some y => (allM f xs).map (y :: ·)
/-- The reference's reading of a type. -/
def rp : (n : Nat) → List UInt8 → Option (Ty n)
  | 0, l => if l.head? = some 123 then none else (rleaf l).map (lf 0)
  | n + 1, l => if l.head? = some 123 then (match cut l with
      | none => none
      | some ps => if 8 < ps.length then none else (match allM (rp n) ps with
        | none => none
        | some ts => if (sz (n + 1) (.inr ts)).1 ≤ 32 then some (.inr ts) else none)) else (rleaf l).map (lf (n + 1))

def places (a : Nat × Nat) : List (Nat × Nat) → List Nat
  | [] => []
  | x :: xs => up a.1 x.2 :: places (lay1 a x) xs
theorem places_snoc (xs : List (Nat × Nat)) (x : Nat × Nat) : ∀ a, places a (xs ++ [x]) = places a xs ++ [up (xs.foldl lay1 a).1 x.2] := by
  induction xs with
  | nil => intro a; rfl
  | cons y ys ih => intro a; simp [places, ih]
theorem places_length (xs : List (Nat × Nat)) : ∀ a, (places a xs).length = xs.length := by
  induction xs with
  | nil => intro a; rfl
  | cons y ys ih => intro a; simp [places, ih]

theorem rleaf_good {l : List UInt8} {x : Bool × Nat} (h : rleaf l = some x) : 1 ≤ (lsz x).2 ∧ (lsz x).2 ≤ 4 ∧ (lsz x).1 ≤ 32 := by
  unfold rleaf at h
  cases l with
  | nil => cases h
  | cons c r =>
    simp only at h
    split at h
    · split at h
      · cases h; simp only [lsz, if_true]; omega
      · cases h
    · split at h
      · split at h
        · cases h; simp only [lsz]; simp; omega
        · cases h
      · cases h
theorem allM_mem {α β : Type} {f : α → Option β} : ∀ {l : List α} {ys : List β}, allM f l = some ys → ∀ y ∈ ys, ∃ x ∈ l, f x = some y := by
  intro l
  induction l with
  | nil => intro ys h y hy; simp [allM] at h; subst h; simp at hy
  | cons a l ih =>
    intro ys h y hy
    rw [allM] at h
    cases ha : f a with
    | none => rw [ha] at h; cases h
    | some b =>
      rw [ha] at h
      cases hl : allM f l with
      | none => rw [hl] at h; cases h
      | some bs =>
        rw [hl] at h
        simp at h
        subst h
        rcases List.mem_cons.1 hy with rfl | hy
        · exact ⟨a, by simp, ha⟩
        · obtain ⟨x, hx, hf⟩ := ih hl y hy
          exact ⟨x, by simp [hx], hf⟩
theorem rp_good : ∀ (n : Nat) (l : List UInt8) (t : Ty n), rp n l = some t → 1 ≤ (sz n t).2 ∧ (sz n t).2 ≤ 4 ∧ (sz n t).1 ≤ 32 := by
  intro n
  have leafcase : ∀ (n : Nat) (l : List UInt8) (t : Ty n), (rleaf l).map (lf n) = some t → 1 ≤ (sz n t).2 ∧ (sz n t).2 ≤ 4 ∧ (sz n t).1 ≤ 32 := by
    intro n l t h
    cases hx : rleaf l with
    | none => rw [hx] at h; cases h
    | some x => rw [hx] at h; simp at h; subst h; rw [sz_lf]; exact rleaf_good hx
  induction n with
  | zero =>
    intro l t h
    rw [rp] at h
    split at h
    · cases h
    · exact leafcase 0 l t h
  | succ n ih =>
    intro l t h
    rw [rp] at h
    split at h
    · split at h
      · cases h
      · split at h
        · cases h
        · split at h
          · cases h
          · rename_i ts hts
            split at h
            · rename_i hle
              cases h
              obtain ⟨h1, h2, _⟩ := fold_step (l := ts.map (sz n)) (by
                intro x hx
                obtain ⟨t, ht, rfl⟩ := List.mem_map.1 hx
                obtain ⟨y, _, hy⟩ := allM_mem hts t ht
                have := ih _ _ hy
                exact ⟨this.1, this.2.1⟩) (0, 1) (by simp) (by simp)
              exact ⟨h1, h2, hle⟩
            · cases h
    · exact leafcase _ l t h
end P

/-- A row that lies in blocks of S. -/
def RowIn (w : World) (e : TypeId) (size : Nat) (v : Value) (n : Nat) (xs : List Value) (S : Nat → Prop) : Prop := w.ownsRow 0 e size v n xs ∧ ∀ g, v.ownBlock = some g → S g

/-- The value v is the type t, told in w, all that it holds in blocks of S. -/
def TypAt (w : World) : (n : Nat) → P.Ty n → Value → (Nat → Prop) → Prop
  | 0, l, v, _ => v = typV l
  | _ + 1, .inl l, v, _ => v = typV l
  | n + 1, .inr ts, v, S => ∃ (vF vA : Value) (fs : List (Array Value)), v = .agg #[.int .u8 123, .int .i64 (P.sz (n + 1) (.inr ts)).1, .int .i64 (P.sz (n + 1) (.inr ts)).2, vF, vA] ∧
      RowIn w 60 5 vF ts.length (fs.flatMap Array.toList) S ∧ RowIn w 3 1 vA ts.length ((P.places (0, 1) (ts.map (P.sz n))).map fun x : Nat => Value.int .i64 (x : Int)) S ∧ fs.length = ts.length ∧
      ∀ (i : Nat) (t : P.Ty n) (c : Array Value), ts[i]? = some t → fs[i]? = some c → c.size = 5 ∧ TypAt w n t (.agg c) S

theorem owns_of {w w' : World} {base : Nat} {e : TypeId} {size n : Nat} {v : Value} {xs : List Value} (h : w.ownsRow base e size v n xs) (hs : ∀ g, v.ownBlock = some g → w'.heap[g]? = w.heap[g]?) : w'.ownsRow base e size v n xs := by
  obtain ⟨h1, h2⟩ := h
  refine ⟨h1, ?_⟩
  rcases h2 with h2 | ⟨g, cap, cur, rfl, hb, hg, hr⟩
  · exact .inl h2
  · exact .inr ⟨g, cap, cur, rfl, hb, by rw [hs g rfl]; exact hg, hr⟩
theorem RowIn.of {w w' : World} {e : TypeId} {size n : Nat} {v : Value} {xs : List Value} {S S' : Nat → Prop} (h : RowIn w e size v n xs S) (hs : ∀ g, S g → w'.heap[g]? = w.heap[g]?) (hS : ∀ g, S g → S' g) : RowIn w' e size v n xs S' :=
  ⟨owns_of h.1 (fun g hg => hs g (h.2 g hg)), fun g hg => hS g (h.2 g hg)⟩
theorem TypAt.of {w w' : World} : ∀ {n : Nat} {t : P.Ty n} {v : Value} {S S' : Nat → Prop}, TypAt w n t v S → (∀ g, S g → w'.heap[g]? = w.heap[g]?) → (∀ g, S g → S' g) → TypAt w' n t v S' := by
  intro n
  induction n with
  | zero => intro t v S S' h _ _; exact h
  | succ n ih =>
    intro t v S S' h hs hS
    cases t with
    | inl l => exact h
    | inr ts =>
      obtain ⟨vF, vA, fs, hv, hF, hA, hl, hc⟩ := h
      exact ⟨vF, vA, fs, hv, hF.of hs hS, hA.of hs hS, hl, fun i t c ht hc' => ⟨(hc i t c ht hc').1, ih (hc i t c ht hc').2 hs hS⟩⟩

/-- What a value of type Typ looks like. -/
def IsTyp (v : Value) : Prop := ∃ (a b c : Int) (x : Option Addr) (n k : Nat) (y : Option Addr) (m j : Nat), v = .agg #[.int .u8 a, .int .i64 b, .int .i64 c, .slice x n k, .slice y m j]
theorem isTyp_leaf (l : Bool × Nat) : IsTyp (typV l) := ⟨_, _, _, _, _, _, _, _, _, rfl⟩
theorem isTyp_zero : IsTyp zeroTyp := ⟨_, _, _, _, _, _, _, _, _, rfl⟩
theorem owns_form {w : World} {base : Nat} {e : TypeId} {size n : Nat} {v : Value} {xs : List Value} (h : w.ownsRow base e size v n xs) : ∃ a N cap, v = .slice a N cap := by
  rcases h.2 with ⟨h, _⟩ | ⟨g, cap, cur, h, _⟩
  · exact ⟨_, _, _, h⟩
  · exact ⟨_, _, _, h⟩
theorem TypAt.is {w : World} {n : Nat} {t : P.Ty n} {v : Value} {S : Nat → Prop} (h : TypAt w n t v S) : ∃ (a : Int) (x : Option Addr) (n' k : Nat) (y : Option Addr) (m j : Nat), v = .agg #[.int .u8 a, .int .i64 (P.sz n t).1, .int .i64 (P.sz n t).2, .slice x n' k, .slice y m j] := by
  cases n with
  | zero => cases h; exact ⟨_, _, _, _, _, _, _, rfl⟩
  | succ n =>
    cases t with
    | inl l => cases h; exact ⟨_, _, _, _, _, _, _, rfl⟩
    | inr ts =>
      obtain ⟨vF, vA, fs, hv, hF, hA, hl, hc⟩ := h
      obtain ⟨a, N, cap, rfl⟩ := owns_form hF.1
      obtain ⟨a', N', cap', rfl⟩ := owns_form hA.1
      exact ⟨_, _, _, _, _, _, _, hv⟩

end Go.Proofs.Ytghggcehloiemaa
