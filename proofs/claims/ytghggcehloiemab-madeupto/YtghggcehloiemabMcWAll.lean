import Derived.Test.YtghggcehloiemabMcPAll
import Derived.Test.YtghggcehloiemabPureAll
import Derived.Deep.AppendLies
import Derived.RegionTactic
import Derived.Deep.RegionHeld3
import Derived.BigRegion
import Derived.Handy
namespace Go.Proofs.Ytghggcehloiemab
open Go.RowKit
set_option linter.unusedVariables false
set_option maxRecDepth 16000

set_option maxHeartbeats 400000 in
theorem saysWhere_any (op a b k : Nat) (w : World) : Calls Try.prog 75 #[.agg #[.int .i64 op, .int .i64 a, .int .i64 b, .int .i64 k]] w fun e w' => e = .returned (.bool (decide (11 ≤ op))) ∧ Below w.heap.size w w' := by
  go_enter Try.func75, Try.ntmps75
  go_wp2_with fail
  go_ret
  exact ⟨by simp; omega, (Below.refl _ _).alloc (Nat.le_refl _) _⟩

theorem wrap_id (x : Int) (h0 : -9223372036854775808 ≤ x) (h1 : x ≤ 9223372036854775807) : IntKind.i64.wrap x = x := by
  simp only [IntKind.wrap, IntKind.signed, IntKind.bits]
  simp
  omega
end Go.Proofs.Ytghggcehloiemab
namespace Go.Proofs.Ytghggcehloiemab
open Go.RowKit
set_option linter.unusedVariables false
set_option maxRecDepth 16000

theorem bget_of {s : ByteArray} {i : Nat} (h : i < s.size) : s[i]? = some s[i] := getElem?_pos s i h
theorem byteAt_of {s : ByteArray} {i : Nat} (h : i < s.size) : P.byteAt s.data.toList i = s[i].toNat := by
  unfold P.byteAt
  rw [get_of h]; rfl
end Go.Proofs.Ytghggcehloiemab
