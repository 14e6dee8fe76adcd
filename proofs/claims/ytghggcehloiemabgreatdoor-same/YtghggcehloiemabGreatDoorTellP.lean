import Derived.Test.YtghggcehloiemabGreatDoorWriterAll
import Derived.Lib.ItoaNum
namespace Go.Proofs.YtghggcehloiemabGreatDoor.P
set_option linter.unusedVariables false

/-- The number that lies in bytes, the lowest first. -/
def leval : List UInt8 → Nat
  | [] => 0
  | c :: r => leval r * 256 + c.toNat
def hx (n : Nat) : UInt8 := if n < 10 then UInt8.ofNat (48 + n) else UInt8.ofNat (87 + n)
def hexT (l : List UInt8) : List UInt8 := l.flatMap fun c => [hx (c.toNat / 16), hx (c.toNat % 16)]
def sub (bs : List UInt8) (p k : Nat) : List UInt8 := (bs.drop p).take k
def tell1 (bs : List UInt8) (x : Pt) : List UInt8 :=
  if x.kind = 1 then Lib.decDigits (leval (sub bs x.place x.size)) else if x.kind = 2 then hexT (sub bs x.place x.size) else [UInt8.ofNat x.mark]
def tellAll (ps : List Pt) (bs : List UInt8) : List UInt8 := ps.flatMap (tell1 bs)

theorem hexT_length (l : List UInt8) : (hexT l).length = 2 * l.length := by
  induction l with
  | nil => rfl
  | cons c r ih => unfold hexT at *; rw [List.flatMap_cons, List.length_append, ih]; simp; omega

theorem leval_lt (l : List UInt8) : leval l < 256 ^ l.length := by
  induction l with
  | nil => simp [leval]
  | cons c r ih =>
    have := c.toNat_lt
    rw [leval, List.length_cons, Nat.pow_succ]
    omega
theorem sub_sub (bs : List UInt8) (p q k m : Nat) (h : q + k ≤ m) : sub (sub bs p m) q k = sub bs (p + q) k := by
  unfold sub
  rw [List.drop_take, List.drop_drop, List.take_take, Nat.min_eq_left (by omega)]
theorem sub_all (bs : List UInt8) (k : Nat) (h : bs.length = k) : sub bs 0 k = bs := by
  unfold sub; rw [List.drop_zero, List.take_of_length_le (by omega)]

theorem tellAll_append (A B : List Pt) (bs : List UInt8) : tellAll (A ++ B) bs = tellAll A bs ++ tellAll B bs := by simp [tellAll]
theorem tell_mark (bs : List UInt8) (c : Nat) (p : Nat) : tell1 bs ((markP c).sh p) = [UInt8.ofNat c] := by simp [tell1, markP, Pt.sh]
end Go.Proofs.YtghggcehloiemabGreatDoor.P
