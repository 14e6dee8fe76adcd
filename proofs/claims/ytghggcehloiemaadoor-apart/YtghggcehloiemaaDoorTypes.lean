import Derived.Test.YtghggcehloiemaaDoorPure
namespace Go.Proofs.YtghggcehloiemaaDoor.P
set_option linter.unusedVariables false

/-- A part of a type, as the reader gathers them. -/
structure Pt where
  kind : Nat
  mark : Nat
  place : Nat
  size : Nat
def Pt.sh (p : Nat) (x : Pt) : Pt := { x with place := x.place + p }

/-- Types, at most so many structs deep: a leaf (a number?, its bytes), or a struct. -/
def Ty : Nat → Type
  | 0 => Bool × Nat
  | n + 1 => (Bool × Nat) ⊕ List (Ty n)
def lf : (n : Nat) → Bool × Nat → Ty n
  | 0, l => l
  | _ + 1, l => .inl l

def up (e p : Nat) : Nat := (e + p - 1) / p * p
theorem up_le (e p : Nat) (hp : 1 ≤ p) : up e p ≤ e + p - 1 := by unfold up; exact Nat.div_mul_le_self _ _
theorem le_up (e p : Nat) (hp : 1 ≤ p) : e ≤ up e p := by
  unfold up
  have h := Nat.div_add_mod (e + p - 1) p
  have h2 := Nat.mod_lt (e + p - 1) (show 0 < p by omega)
  rw [Nat.mul_comm]; omega

def lsz (l : Bool × Nat) : Nat × Nat := (l.2, if l.1 then l.2 else 1)
def lay1 (a b : Nat × Nat) : Nat × Nat := (up a.1 b.2 + b.1, max a.2 b.2)
def fold (l : List (Nat × Nat)) : Nat × Nat := l.foldl lay1 (0, 1)
def closed (a : Nat × Nat) : Nat × Nat := (up a.1 a.2, a.2)
theorem fold_snoc (l : List (Nat × Nat)) (x : Nat × Nat) : fold (l ++ [x]) = lay1 (fold l) x := by simp [fold]
def sz : (n : Nat) → Ty n → Nat × Nat
  | 0, l => lsz l
  | _ + 1, .inl l => lsz l
  | n + 1, .inr ts => closed (fold (ts.map (sz n)))

def lpart (l : Bool × Nat) : Pt := ⟨if l.1 then 1 else 2, 0, 0, l.2⟩
def markP (c : Nat) : Pt := ⟨0, c, 0, 0⟩
/-- The fields' parts, each at its place, a comma behind each. -/
def body (a : Nat × Nat) : List (List Pt × (Nat × Nat)) → List Pt
  | [] => []
  | x :: xs => x.1.map (Pt.sh (up a.1 x.2.2)) ++ markP 44 :: body (lay1 a x.2) xs
def parts : (n : Nat) → Ty n → List Pt
  | 0, l => [lpart l]
  | _ + 1, .inl l => [lpart l]
  | n + 1, .inr ts => markP 123 :: ((body (0, 1) (ts.map fun t => (parts n t, sz n t))).dropLast ++ [markP 125])

theorem body_snoc (xs : List (List Pt × (Nat × Nat))) (x : List Pt × (Nat × Nat)) : ∀ a, body a (xs ++ [x]) = body a xs ++ x.1.map (Pt.sh (up ((xs.map (·.2)).foldl lay1 a).1 x.2.2)) ++ [markP 44] := by
  induction xs with
  | nil => intro a; simp [body]
  | cons y ys ih => intro a; simp [body, ih]

theorem sz_lf (n : Nat) (l : Bool × Nat) : sz n (lf n l) = lsz l := by cases n <;> rfl
theorem parts_lf (n : Nat) (l : Bool × Nat) : parts n (lf n l) = [lpart l] := by cases n <;> rfl
theorem parts_struct (n : Nat) (ts : List (Ty n)) (t : Ty n) :
    parts (n + 1) (.inr (ts ++ [t])) = markP 123 :: body (0, 1) (ts.map fun t => (parts n t, sz n t)) ++ (parts n t).map (Pt.sh (up (fold (ts.map (sz n))).1 (sz n t).2)) ++ [markP 125] := by
  have e : (ts.map (fun t => (parts n t, sz n t))).map (·.2) = ts.map (sz n) := by simp [Function.comp_def]
  simp only [parts, List.map_append, List.map_cons, List.map_nil, body_snoc]
  rw [List.dropLast_concat]
  rw [e]
  simp [fold]

/-- A leaf, read off a text's head. -/
def rdLeaf (l : List UInt8) : Option ((Bool × Nat) × List UInt8) := match l with
  | [] => none
  | c :: r => if c = 117 then (match rdnum 4 r with
      | some (k, m) => if k = 0 ∨ k = 3 then none else some ((true, k), r.drop m)
      | none => none)
    else (match rdnum 16 r with
      | some (k, m) => if k = 0 then none else some ((false, k), r.drop m)
      | none => none)
def leafy (l : List UInt8) : Bool := l.head? == some 117 || l.head? == some 98

def rdF {α : Type} (f : List UInt8 → Option (α × List UInt8)) : Nat → List α → List UInt8 → Option (List α × List UInt8)
  | 0, _, _ => none
  | k + 1, acc, s => match f s with
    | none => none
    | some (_, []) => none
    | some (t, c :: r) => if c = 125 then some (acc ++ [t], r) else if c = 44 then rdF f k (acc ++ [t]) r else none

def rd : (n : Nat) → List UInt8 → Option (Ty n × List UInt8)
  | 0, l => if leafy l = true then (rdLeaf l).map (fun x => (lf 0 x.1, x.2)) else none
  | n + 1, l => if leafy l = true then (rdLeaf l).map (fun x => (lf (n + 1) x.1, x.2)) else (match l with
    | [] => none
    | c :: r => if c = 123 then (rdF (rd n) 8 [] r).map (fun x => (.inr x.1, x.2)) else none)
def rdS : (n : Nat) → List UInt8 → Option (Ty n × List UInt8)
  | 0, _ => none
  | n + 1, l => match l with
    | [] => none
    | c :: r => if c = 123 then (rdF (rd n) 8 [] r).map (fun x => (.inr x.1, x.2)) else none
theorem rd_leafy (n : Nat) (l : List UInt8) (h : leafy l = true) : rd n l = (rdLeaf l).map (fun x => (lf n x.1, x.2)) := by
  cases n <;> simp [rd, h]
theorem rd_else (n : Nat) (l : List UInt8) (h : leafy l = false) : rd n l = rdS n l := by
  cases n <;> simp [rd, rdS, h]

end Go.Proofs.YtghggcehloiemaaDoor.P
