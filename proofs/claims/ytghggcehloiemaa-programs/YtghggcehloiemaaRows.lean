/-
  No cell of these rows narrows 'for every input' (looked for: loops, veiled, ifaces, maps, wideKeys, modest, calm, conditions, laid).
  DERIVED. THE GIVEN ROWS OF THIS SEAT. 9 by the template 'for every input the law returns true; each argument reads behind the call as it read before'; 0 by the template 'total and deterministic' (their statements: YtghggcehloiemaaTotals.lean).
  GIVEN WITH THE SEED: the statements are not yours to turn. If you find one false, say at which input.
  Laid BY PROGRAM, IN A SANDBOX (cutbox-rows.mjs): the forced cells as the released guide's own fill.sh prints them over the translation 289f76e6fb772af7… (all of the seat's roots in one cut). By AI agents, Wed Nov 11 2026. No macro, syntax, notation, axiom, sorry.
-/
import Derived.Test.YtghggcehloiemaaChecked
import GoSem.Claim
import GoSem.ClaimJoined
import GoSem.ClaimMapViews
import Derived.JoinedTies
import Derived.KernelRfl
namespace Go.Proofs.Ytghggcehloiemaa
/- THE CELL 'sum', in the pinned program and in every row, IS THE sha256 OF THE DUMP (.gsa) THAT YtghggcehloiemaaProg.lean LOADS. Nothing in Lean hashes anything: it is a label: what it is worth is what the hold of that sum in a sandbox is worth. -/
noncomputable def Try.pinned : Pinned := { name := "ytghggcehloiemaa", sum := "289f76e6fb772af7e79c46e2cff4720d1bd6cdd627af1996196a9534b6128dbc", checked := Try.checked }
namespace Rows
def none {H : Type} : Left H := { results := [], args := [] }

/-- 'bespokelaw.Sizes': WHATEVER THE INPUT: true; the input reads as it did. -/
def sizesSpec : ChangeSpec := { name := "sizes", fn := fun _ => fun
  | [d] => { results := [.lit (.bool true)], args := [d] }
  | _ => none }
def sizesRow : OpenClaim := { program := "ytghggcehloiemaa", sum := "289f76e6fb772af7e79c46e2cff4720d1bd6cdd627af1996196a9534b6128dbc", func := "bespoke/bespokelaw.Sizes", spec := "sizes", recurses := true, apart := false }
def SizesSaid : Prop := sizesRow.holds Try.pinned (OpenSpec.ofChange sizesSpec)

/-- ITS FALSE NEIGHBOUR: 'it returns false'. Refute it at one input. -/
def sizesWrong : ChangeSpec := { name := "sizes", fn := fun _ => fun
  | [d] => { results := [.lit (.bool false)], args := [d] }
  | _ => none }
def SizesWrongFalsely : Prop := sizesRow.holds Try.pinned (OpenSpec.ofChange sizesWrong)

/-- 'bespokelaw.Encodes': WHATEVER THE INPUT: true; the input reads as it did. -/
def encodesSpec : ChangeSpec := { name := "encodes", fn := fun _ => fun
  | [d1, d2, d3] => { results := [.lit (.bool true)], args := [d1, d2, d3] }
  | _ => none }
def encodesRow : OpenClaim := { program := "ytghggcehloiemaa", sum := "289f76e6fb772af7e79c46e2cff4720d1bd6cdd627af1996196a9534b6128dbc", func := "bespoke/bespokelaw.Encodes", spec := "encodes", recurses := true, apart := false }
def EncodesSaid : Prop := encodesRow.holds Try.pinned (OpenSpec.ofChange encodesSpec)

/-- ITS FALSE NEIGHBOUR: 'it returns false'. Refute it at one input. -/
def encodesWrong : ChangeSpec := { name := "encodes", fn := fun _ => fun
  | [d1, d2, d3] => { results := [.lit (.bool false)], args := [d1, d2, d3] }
  | _ => none }
def EncodesWrongFalsely : Prop := encodesRow.holds Try.pinned (OpenSpec.ofChange encodesWrong)

/-- 'bespokelaw.Checks': WHATEVER THE INPUT: true; the input reads as it did. -/
def checksSpec : ChangeSpec := { name := "checks", fn := fun _ => fun
  | [d] => { results := [.lit (.bool true)], args := [d] }
  | _ => none }
def checksRow : OpenClaim := { program := "ytghggcehloiemaa", sum := "289f76e6fb772af7e79c46e2cff4720d1bd6cdd627af1996196a9534b6128dbc", func := "bespoke/bespokelaw.Checks", spec := "checks", apart := false }
def ChecksSaid : Prop := checksRow.holds Try.pinned (OpenSpec.ofChange checksSpec)

/-- ITS FALSE NEIGHBOUR: 'it returns false'. Refute it at one input. -/
def checksWrong : ChangeSpec := { name := "checks", fn := fun _ => fun
  | [d] => { results := [.lit (.bool false)], args := [d] }
  | _ => none }
def ChecksWrongFalsely : Prop := checksRow.holds Try.pinned (OpenSpec.ofChange checksWrong)

/-- 'bespokelaw.Runs': WHATEVER THE INPUT: true; the input reads as it did. -/
def runsSpec : ChangeSpec := { name := "runs", fn := fun _ => fun
  | [d1, d2, d3, d4, d5, d6] => { results := [.lit (.bool true)], args := [d1, d2, d3, d4, d5, d6] }
  | _ => none }
def runsRow : OpenClaim := { program := "ytghggcehloiemaa", sum := "289f76e6fb772af7e79c46e2cff4720d1bd6cdd627af1996196a9534b6128dbc", func := "bespoke/bespokelaw.Runs", spec := "runs", apart := false }
def RunsSaid : Prop := runsRow.holds Try.pinned (OpenSpec.ofChange runsSpec)

/-- ITS FALSE NEIGHBOUR: 'it returns false'. Refute it at one input. -/
def runsWrong : ChangeSpec := { name := "runs", fn := fun _ => fun
  | [d1, d2, d3, d4, d5, d6] => { results := [.lit (.bool false)], args := [d1, d2, d3, d4, d5, d6] }
  | _ => none }
def RunsWrongFalsely : Prop := runsRow.holds Try.pinned (OpenSpec.ofChange runsWrong)

/-- 'bespokelaw.Trims': WHATEVER THE INPUT: true; the input reads as it did. -/
def trimsSpec : ChangeSpec := { name := "trims", fn := fun _ => fun
  | [d] => { results := [.lit (.bool true)], args := [d] }
  | _ => none }
def trimsRow : OpenClaim := { program := "ytghggcehloiemaa", sum := "289f76e6fb772af7e79c46e2cff4720d1bd6cdd627af1996196a9534b6128dbc", func := "bespoke/bespokelaw.Trims", spec := "trims", apart := false }
def TrimsSaid : Prop := trimsRow.holds Try.pinned (OpenSpec.ofChange trimsSpec)

/-- ITS FALSE NEIGHBOUR: 'it returns false'. Refute it at one input. -/
def trimsWrong : ChangeSpec := { name := "trims", fn := fun _ => fun
  | [d] => { results := [.lit (.bool false)], args := [d] }
  | _ => none }
def TrimsWrongFalsely : Prop := trimsRow.holds Try.pinned (OpenSpec.ofChange trimsWrong)

/-- 'bespokekeep.Sums': WHATEVER THE INPUT: true; the input reads as it did. -/
def sumsSpec : ChangeSpec := { name := "sums", fn := fun _ => fun
  | [d1, d2, d3] => { results := [.lit (.bool true)], args := [d1, d2, d3] }
  | _ => none }
def sumsRow : OpenClaim := { program := "ytghggcehloiemaa", sum := "289f76e6fb772af7e79c46e2cff4720d1bd6cdd627af1996196a9534b6128dbc", func := "bespoke/bespokekeep.Sums", spec := "sums", apart := false }
def SumsSaid : Prop := sumsRow.holds Try.pinned (OpenSpec.ofChange sumsSpec)

/-- ITS FALSE NEIGHBOUR: 'it returns false'. Refute it at one input. -/
def sumsWrong : ChangeSpec := { name := "sums", fn := fun _ => fun
  | [d1, d2, d3] => { results := [.lit (.bool false)], args := [d1, d2, d3] }
  | _ => none }
def SumsWrongFalsely : Prop := sumsRow.holds Try.pinned (OpenSpec.ofChange sumsWrong)

/-- 'bespokekeep.Trimmed': WHATEVER THE INPUT: true; the input reads as it did. -/
def trimmedSpec : ChangeSpec := { name := "trimmed", fn := fun _ => fun
  | [d1, d2, d3, d4, d5, d6] => { results := [.lit (.bool true)], args := [d1, d2, d3, d4, d5, d6] }
  | _ => none }
def trimmedRow : OpenClaim := { program := "ytghggcehloiemaa", sum := "289f76e6fb772af7e79c46e2cff4720d1bd6cdd627af1996196a9534b6128dbc", func := "bespoke/bespokekeep.Trimmed", spec := "trimmed", apart := false }
def TrimmedSaid : Prop := trimmedRow.holds Try.pinned (OpenSpec.ofChange trimmedSpec)

/-- ITS FALSE NEIGHBOUR: 'it returns false'. Refute it at one input. -/
def trimmedWrong : ChangeSpec := { name := "trimmed", fn := fun _ => fun
  | [d1, d2, d3, d4, d5, d6] => { results := [.lit (.bool false)], args := [d1, d2, d3, d4, d5, d6] }
  | _ => none }
def TrimmedWrongFalsely : Prop := trimmedRow.holds Try.pinned (OpenSpec.ofChange trimmedWrong)

/-- 'bespokekeep.Fuelled': WHATEVER THE INPUT: true; the input reads as it did. -/
def fuelledSpec : ChangeSpec := { name := "fuelled", fn := fun _ => fun
  | [d1, d2, d3, d4, d5, d6] => { results := [.lit (.bool true)], args := [d1, d2, d3, d4, d5, d6] }
  | _ => none }
def fuelledRow : OpenClaim := { program := "ytghggcehloiemaa", sum := "289f76e6fb772af7e79c46e2cff4720d1bd6cdd627af1996196a9534b6128dbc", func := "bespoke/bespokekeep.Fuelled", spec := "fuelled", apart := false }
def FuelledSaid : Prop := fuelledRow.holds Try.pinned (OpenSpec.ofChange fuelledSpec)

/-- ITS FALSE NEIGHBOUR: 'it returns false'. Refute it at one input. -/
def fuelledWrong : ChangeSpec := { name := "fuelled", fn := fun _ => fun
  | [d1, d2, d3, d4, d5, d6] => { results := [.lit (.bool false)], args := [d1, d2, d3, d4, d5, d6] }
  | _ => none }
def FuelledWrongFalsely : Prop := fuelledRow.holds Try.pinned (OpenSpec.ofChange fuelledWrong)

/-- 'bespokelaw.Programs': WHATEVER THE INPUT: true; the input reads as it did. -/
def programsSpec : ChangeSpec := { name := "programs", fn := fun _ => fun
  | [d1, d2, d3] => { results := [.lit (.bool true)], args := [d1, d2, d3] }
  | _ => none }
def programsRow : OpenClaim := { program := "ytghggcehloiemaa", sum := "289f76e6fb772af7e79c46e2cff4720d1bd6cdd627af1996196a9534b6128dbc", func := "bespoke/bespokelaw.Programs", spec := "programs", recurses := true, apart := false }
def ProgramsSaid : Prop := programsRow.holds Try.pinned (OpenSpec.ofChange programsSpec)

/-- ITS FALSE NEIGHBOUR: 'it returns false'. Refute it at one input. -/
def programsWrong : ChangeSpec := { name := "programs", fn := fun _ => fun
  | [d1, d2, d3] => { results := [.lit (.bool false)], args := [d1, d2, d3] }
  | _ => none }
def ProgramsWrongFalsely : Prop := programsRow.holds Try.pinned (OpenSpec.ofChange programsWrong)

/- THE SECOND FORM. 'bulk': how many values and letters a reading holds, each counted each time it is reached (what is shared counts as often as it is met; a slice's spare places count too). A statement '..UptoSaid' is the law's where the arguments, and the package variables that the reading takes, are together of bulk at most 1048576: NARROWER than '..Said'. Prove '..Said' where nothing that the law and all that it calls make is longer than what came in: it says more and counts as full. Else prove '..UptoSaid'. A law counts once. -/
mutual
def uptoBulk {H : Type} : DataW H → Nat
  | .lit (.string bytes) => bytes.length + 1
  | .lit _ => 1
  | .nil => 1
  | .ptr d => uptoBulk d + 1
  | .slice elems spare => uptoBulkAll elems + uptoBulkAll spare + 1
  | .agg parts => uptoBulkAll parts + 1
  | .iface _ d => uptoBulk d + 1
  | .map entries => uptoBulkEntries entries + 1
  | .held _ => 1
def uptoBulkAll {H : Type} : List (DataW H) → Nat
  | [] => 0
  | d :: r => uptoBulk d + uptoBulkAll r
def uptoBulkEntries {H : Type} : List (Lit × DataW H) → Nat
  | [] => 0
  | x :: r => uptoBulkEntry x + uptoBulkEntries r
def uptoBulkEntry {H : Type} : Lit × DataW H → Nat
  | (.string bytes, d) => bytes.length + uptoBulk d + 1
  | (_, d) => uptoBulk d + 1
 end
def uptoSmall : (H : Type) → List (DataW H) → Bool := fun _ ds => decide (uptoBulkAll ds ≤ 1048576)
def OpenSpec.upto (s : _root_.Go.ChangeSpec) : _root_.Go.OpenSpec := { _root_.Go.OpenSpec.ofChange s with cond := some uptoSmall }

/-- 'bespokelaw.Sizes', WHERE WHAT IT READS IS OF BULK AT MOST 1048576: true; the input reads as it did. -/
def sizesUptoRow : OpenClaim := { program := "ytghggcehloiemaa", sum := "289f76e6fb772af7e79c46e2cff4720d1bd6cdd627af1996196a9534b6128dbc", func := "bespoke/bespokelaw.Sizes", spec := "sizes", recurses := true, apart := false, narrowed := true }
def SizesUptoSaid : Prop := sizesUptoRow.holds Try.pinned (OpenSpec.upto sizesSpec)

/-- 'bespokelaw.Encodes', WHERE WHAT IT READS IS OF BULK AT MOST 1048576: true; the input reads as it did. -/
def encodesUptoRow : OpenClaim := { program := "ytghggcehloiemaa", sum := "289f76e6fb772af7e79c46e2cff4720d1bd6cdd627af1996196a9534b6128dbc", func := "bespoke/bespokelaw.Encodes", spec := "encodes", recurses := true, apart := false, narrowed := true }
def EncodesUptoSaid : Prop := encodesUptoRow.holds Try.pinned (OpenSpec.upto encodesSpec)

/-- 'bespokelaw.Checks', WHERE WHAT IT READS IS OF BULK AT MOST 1048576: true; the input reads as it did. -/
def checksUptoRow : OpenClaim := { program := "ytghggcehloiemaa", sum := "289f76e6fb772af7e79c46e2cff4720d1bd6cdd627af1996196a9534b6128dbc", func := "bespoke/bespokelaw.Checks", spec := "checks", apart := false, narrowed := true }
def ChecksUptoSaid : Prop := checksUptoRow.holds Try.pinned (OpenSpec.upto checksSpec)

/-- 'bespokelaw.Runs', WHERE WHAT IT READS IS OF BULK AT MOST 1048576: true; the input reads as it did. -/
def runsUptoRow : OpenClaim := { program := "ytghggcehloiemaa", sum := "289f76e6fb772af7e79c46e2cff4720d1bd6cdd627af1996196a9534b6128dbc", func := "bespoke/bespokelaw.Runs", spec := "runs", apart := false, narrowed := true }
def RunsUptoSaid : Prop := runsUptoRow.holds Try.pinned (OpenSpec.upto runsSpec)

/-- 'bespokelaw.Trims', WHERE WHAT IT READS IS OF BULK AT MOST 1048576: true; the input reads as it did. -/
def trimsUptoRow : OpenClaim := { program := "ytghggcehloiemaa", sum := "289f76e6fb772af7e79c46e2cff4720d1bd6cdd627af1996196a9534b6128dbc", func := "bespoke/bespokelaw.Trims", spec := "trims", apart := false, narrowed := true }
def TrimsUptoSaid : Prop := trimsUptoRow.holds Try.pinned (OpenSpec.upto trimsSpec)

/-- 'bespokekeep.Sums', WHERE WHAT IT READS IS OF BULK AT MOST 1048576: true; the input reads as it did. -/
def sumsUptoRow : OpenClaim := { program := "ytghggcehloiemaa", sum := "289f76e6fb772af7e79c46e2cff4720d1bd6cdd627af1996196a9534b6128dbc", func := "bespoke/bespokekeep.Sums", spec := "sums", apart := false, narrowed := true }
def SumsUptoSaid : Prop := sumsUptoRow.holds Try.pinned (OpenSpec.upto sumsSpec)

/-- 'bespokekeep.Trimmed', WHERE WHAT IT READS IS OF BULK AT MOST 1048576: true; the input reads as it did. -/
def trimmedUptoRow : OpenClaim := { program := "ytghggcehloiemaa", sum := "289f76e6fb772af7e79c46e2cff4720d1bd6cdd627af1996196a9534b6128dbc", func := "bespoke/bespokekeep.Trimmed", spec := "trimmed", apart := false, narrowed := true }
def TrimmedUptoSaid : Prop := trimmedUptoRow.holds Try.pinned (OpenSpec.upto trimmedSpec)

/-- 'bespokekeep.Fuelled', WHERE WHAT IT READS IS OF BULK AT MOST 1048576: true; the input reads as it did. -/
def fuelledUptoRow : OpenClaim := { program := "ytghggcehloiemaa", sum := "289f76e6fb772af7e79c46e2cff4720d1bd6cdd627af1996196a9534b6128dbc", func := "bespoke/bespokekeep.Fuelled", spec := "fuelled", apart := false, narrowed := true }
def FuelledUptoSaid : Prop := fuelledUptoRow.holds Try.pinned (OpenSpec.upto fuelledSpec)

/-- 'bespokelaw.Programs', WHERE WHAT IT READS IS OF BULK AT MOST 1048576: true; the input reads as it did. -/
def programsUptoRow : OpenClaim := { program := "ytghggcehloiemaa", sum := "289f76e6fb772af7e79c46e2cff4720d1bd6cdd627af1996196a9534b6128dbc", func := "bespoke/bespokelaw.Programs", spec := "programs", recurses := true, apart := false, narrowed := true }
def ProgramsUptoSaid : Prop := programsUptoRow.holds Try.pinned (OpenSpec.upto programsSpec)

end Rows
end Go.Proofs.Ytghggcehloiemaa
