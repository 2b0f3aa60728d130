/-
  No cell of these rows narrows 'for every input' (looked for: loops, veiled, ifaces, maps, wideKeys, modest, calm, conditions, laid).
  DERIVED. THE GIVEN ROWS OF THIS SEAT. 6 by the template 'for every input the law returns true; each argument reads behind the call as it read before'; 0 by the template 'total and deterministic' (their statements: YtbhbacphiinpeaaTotals.lean).
  GIVEN WITH THE SEED: the statements are not yours to turn. If you find one false, say at which input.
  Laid BY PROGRAM, IN A SANDBOX (cutbox-rows.mjs): the forced cells as the released guide's own fill.sh prints them over the translation 267de5a9e8e59630… (all of the seat's roots in one cut). By AI agents, Wed Nov 11 2026. No macro, syntax, notation, axiom, sorry.
-/
import Derived.Test.YtbhbacphiinpeaaChecked
import GoSem.Claim
import GoSem.ClaimJoined
import GoSem.ClaimMapViews
import Derived.JoinedTies
import Derived.KernelRfl
namespace Go.Proofs.Ytbhbacphiinpeaa
/- THE CELL 'sum', in the pinned program and in every row, IS THE sha256 OF THE DUMP (.gsa) THAT YtbhbacphiinpeaaProg.lean LOADS. Nothing in Lean hashes anything: it is a label: what it is worth is what the hold of that sum in a sandbox is worth. -/
noncomputable def Try.pinned : Pinned := { name := "ytbhbacphiinpeaa", sum := "267de5a9e8e59630ddc1cb6f94aee16162150eb632bab5796c9321a03365a11d", checked := Try.checked }
namespace Rows
def none {H : Type} : Left H := { results := [], args := [] }

/-- 'loomkeep.Coded': WHATEVER THE INPUT: true; the input reads as it did. -/
def codedSpec : ChangeSpec := { name := "coded", fn := fun _ => fun
  | [d1, d2] => { results := [.lit (.bool true)], args := [d1, d2] }
  | _ => none }
def codedRow : OpenClaim := { program := "ytbhbacphiinpeaa", sum := "267de5a9e8e59630ddc1cb6f94aee16162150eb632bab5796c9321a03365a11d", func := "loom/loomkeep.Coded", spec := "coded", apart := false }
def CodedSaid : Prop := codedRow.holds Try.pinned (OpenSpec.ofChange codedSpec)

/-- ITS FALSE NEIGHBOUR: 'it returns false'. Refute it at one input. -/
def codedWrong : ChangeSpec := { name := "coded", fn := fun _ => fun
  | [d1, d2] => { results := [.lit (.bool false)], args := [d1, d2] }
  | _ => none }
def CodedWrongFalsely : Prop := codedRow.holds Try.pinned (OpenSpec.ofChange codedWrong)

/-- 'loomkeep.Passed': WHATEVER THE INPUT: true; the input reads as it did. -/
def passedSpec : ChangeSpec := { name := "passed", fn := fun _ => fun
  | [d1, d2, d3] => { results := [.lit (.bool true)], args := [d1, d2, d3] }
  | _ => none }
def passedRow : OpenClaim := { program := "ytbhbacphiinpeaa", sum := "267de5a9e8e59630ddc1cb6f94aee16162150eb632bab5796c9321a03365a11d", func := "loom/loomkeep.Passed", spec := "passed", apart := false }
def PassedSaid : Prop := passedRow.holds Try.pinned (OpenSpec.ofChange passedSpec)

/-- ITS FALSE NEIGHBOUR: 'it returns false'. Refute it at one input. -/
def passedWrong : ChangeSpec := { name := "passed", fn := fun _ => fun
  | [d1, d2, d3] => { results := [.lit (.bool false)], args := [d1, d2, d3] }
  | _ => none }
def PassedWrongFalsely : Prop := passedRow.holds Try.pinned (OpenSpec.ofChange passedWrong)

/-- 'loomkeep.Alone': WHATEVER THE INPUT: true; the input reads as it did. -/
def aloneSpec : ChangeSpec := { name := "alone", fn := fun _ => fun
  | [d1, d2, d3, d4, d5] => { results := [.lit (.bool true)], args := [d1, d2, d3, d4, d5] }
  | _ => none }
def aloneRow : OpenClaim := { program := "ytbhbacphiinpeaa", sum := "267de5a9e8e59630ddc1cb6f94aee16162150eb632bab5796c9321a03365a11d", func := "loom/loomkeep.Alone", spec := "alone", apart := false }
def AloneSaid : Prop := aloneRow.holds Try.pinned (OpenSpec.ofChange aloneSpec)

/-- ITS FALSE NEIGHBOUR: 'it returns false'. Refute it at one input. -/
def aloneWrong : ChangeSpec := { name := "alone", fn := fun _ => fun
  | [d1, d2, d3, d4, d5] => { results := [.lit (.bool false)], args := [d1, d2, d3, d4, d5] }
  | _ => none }
def AloneWrongFalsely : Prop := aloneRow.holds Try.pinned (OpenSpec.ofChange aloneWrong)

/-- 'loomkeep.Ordered': WHATEVER THE INPUT: true; the input reads as it did. -/
def orderedSpec : ChangeSpec := { name := "ordered", fn := fun _ => fun
  | [d1, d2, d3, d4, d5, d6] => { results := [.lit (.bool true)], args := [d1, d2, d3, d4, d5, d6] }
  | _ => none }
def orderedRow : OpenClaim := { program := "ytbhbacphiinpeaa", sum := "267de5a9e8e59630ddc1cb6f94aee16162150eb632bab5796c9321a03365a11d", func := "loom/loomkeep.Ordered", spec := "ordered", apart := false }
def OrderedSaid : Prop := orderedRow.holds Try.pinned (OpenSpec.ofChange orderedSpec)

/-- ITS FALSE NEIGHBOUR: 'it returns false'. Refute it at one input. -/
def orderedWrong : ChangeSpec := { name := "ordered", fn := fun _ => fun
  | [d1, d2, d3, d4, d5, d6] => { results := [.lit (.bool false)], args := [d1, d2, d3, d4, d5, d6] }
  | _ => none }
def OrderedWrongFalsely : Prop := orderedRow.holds Try.pinned (OpenSpec.ofChange orderedWrong)

/-- 'loomkeep.Together': WHATEVER THE INPUT: true; the input reads as it did. -/
def togetherSpec : ChangeSpec := { name := "together", fn := fun _ => fun
  | [d1, d2, d3, d4] => { results := [.lit (.bool true)], args := [d1, d2, d3, d4] }
  | _ => none }
def togetherRow : OpenClaim := { program := "ytbhbacphiinpeaa", sum := "267de5a9e8e59630ddc1cb6f94aee16162150eb632bab5796c9321a03365a11d", func := "loom/loomkeep.Together", spec := "together", apart := false }
def TogetherSaid : Prop := togetherRow.holds Try.pinned (OpenSpec.ofChange togetherSpec)

/-- ITS FALSE NEIGHBOUR: 'it returns false'. Refute it at one input. -/
def togetherWrong : ChangeSpec := { name := "together", fn := fun _ => fun
  | [d1, d2, d3, d4] => { results := [.lit (.bool false)], args := [d1, d2, d3, d4] }
  | _ => none }
def TogetherWrongFalsely : Prop := togetherRow.holds Try.pinned (OpenSpec.ofChange togetherWrong)

/-- 'loomkeep.Summed': WHATEVER THE INPUT: true; the input reads as it did. -/
def summedSpec : ChangeSpec := { name := "summed", fn := fun _ => fun
  | [d1, d2, d3] => { results := [.lit (.bool true)], args := [d1, d2, d3] }
  | _ => none }
def summedRow : OpenClaim := { program := "ytbhbacphiinpeaa", sum := "267de5a9e8e59630ddc1cb6f94aee16162150eb632bab5796c9321a03365a11d", func := "loom/loomkeep.Summed", spec := "summed", apart := false }
def SummedSaid : Prop := summedRow.holds Try.pinned (OpenSpec.ofChange summedSpec)

/-- ITS FALSE NEIGHBOUR: 'it returns false'. Refute it at one input. -/
def summedWrong : ChangeSpec := { name := "summed", fn := fun _ => fun
  | [d1, d2, d3] => { results := [.lit (.bool false)], args := [d1, d2, d3] }
  | _ => none }
def SummedWrongFalsely : Prop := summedRow.holds Try.pinned (OpenSpec.ofChange summedWrong)

/- THE SECOND FORM. 'bulk': how many values and letters a reading holds, each counted each time it is reached (what is shared counts as often as it is met; a slice's spare places count too). A statement '..UptoSaid' is the law's where the arguments, and the package variables that the reading takes, are together of bulk at most 1048576: NARROWER than '..Said'. Prove '..Said' where nothing that the law and all that it calls make is longer than what came in: it says more and counts as full. Else prove '..UptoSaid'. A law counts once. -/
mutual
def uptoBulk {H : Type} : DataW H → Nat
  | .lit (.string bytes) => bytes.length + 1
  | .lit _ => 1
  | .nil => 1
  | .ptr d => uptoBulk d + 1
  | .slice elems spare => uptoBulkAll elems + uptoBulkAll spare + 1
  | .agg parts => uptoBulkAll parts + 1
  | .iface _ d => uptoBulk d + 1
  | .map entries => uptoBulkEntries entries + 1
  | .held _ => 1
def uptoBulkAll {H : Type} : List (DataW H) → Nat
  | [] => 0
  | d :: r => uptoBulk d + uptoBulkAll r
def uptoBulkEntries {H : Type} : List (Lit × DataW H) → Nat
  | [] => 0
  | x :: r => uptoBulkEntry x + uptoBulkEntries r
def uptoBulkEntry {H : Type} : Lit × DataW H → Nat
  | (.string bytes, d) => bytes.length + uptoBulk d + 1
  | (_, d) => uptoBulk d + 1
 end
def uptoSmall : (H : Type) → List (DataW H) → Bool := fun _ ds => decide (uptoBulkAll ds ≤ 1048576)
def OpenSpec.upto (s : _root_.Go.ChangeSpec) : _root_.Go.OpenSpec := { _root_.Go.OpenSpec.ofChange s with cond := some uptoSmall }

/-- 'loomkeep.Coded', WHERE WHAT IT READS IS OF BULK AT MOST 1048576: true; the input reads as it did. -/
def codedUptoRow : OpenClaim := { program := "ytbhbacphiinpeaa", sum := "267de5a9e8e59630ddc1cb6f94aee16162150eb632bab5796c9321a03365a11d", func := "loom/loomkeep.Coded", spec := "coded", apart := false, narrowed := true }
def CodedUptoSaid : Prop := codedUptoRow.holds Try.pinned (OpenSpec.upto codedSpec)

/-- 'loomkeep.Passed', WHERE WHAT IT READS IS OF BULK AT MOST 1048576: true; the input reads as it did. -/
def passedUptoRow : OpenClaim := { program := "ytbhbacphiinpeaa", sum := "267de5a9e8e59630ddc1cb6f94aee16162150eb632bab5796c9321a03365a11d", func := "loom/loomkeep.Passed", spec := "passed", apart := false, narrowed := true }
def PassedUptoSaid : Prop := passedUptoRow.holds Try.pinned (OpenSpec.upto passedSpec)

/-- 'loomkeep.Alone', WHERE WHAT IT READS IS OF BULK AT MOST 1048576: true; the input reads as it did. -/
def aloneUptoRow : OpenClaim := { program := "ytbhbacphiinpeaa", sum := "267de5a9e8e59630ddc1cb6f94aee16162150eb632bab5796c9321a03365a11d", func := "loom/loomkeep.Alone", spec := "alone", apart := false, narrowed := true }
def AloneUptoSaid : Prop := aloneUptoRow.holds Try.pinned (OpenSpec.upto aloneSpec)

/-- 'loomkeep.Ordered', WHERE WHAT IT READS IS OF BULK AT MOST 1048576: true; the input reads as it did. -/
def orderedUptoRow : OpenClaim := { program := "ytbhbacphiinpeaa", sum := "267de5a9e8e59630ddc1cb6f94aee16162150eb632bab5796c9321a03365a11d", func := "loom/loomkeep.Ordered", spec := "ordered", apart := false, narrowed := true }
def OrderedUptoSaid : Prop := orderedUptoRow.holds Try.pinned (OpenSpec.upto orderedSpec)

/-- 'loomkeep.Together', WHERE WHAT IT READS IS OF BULK AT MOST 1048576: true; the input reads as it did. -/
def togetherUptoRow : OpenClaim := { program := "ytbhbacphiinpeaa", sum := "267de5a9e8e59630ddc1cb6f94aee16162150eb632bab5796c9321a03365a11d", func := "loom/loomkeep.Together", spec := "together", apart := false, narrowed := true }
def TogetherUptoSaid : Prop := togetherUptoRow.holds Try.pinned (OpenSpec.upto togetherSpec)

/-- 'loomkeep.Summed', WHERE WHAT IT READS IS OF BULK AT MOST 1048576: true; the input reads as it did. -/
def summedUptoRow : OpenClaim := { program := "ytbhbacphiinpeaa", sum := "267de5a9e8e59630ddc1cb6f94aee16162150eb632bab5796c9321a03365a11d", func := "loom/loomkeep.Summed", spec := "summed", apart := false, narrowed := true }
def SummedUptoSaid : Prop := summedUptoRow.holds Try.pinned (OpenSpec.upto summedSpec)

end Rows
end Go.Proofs.Ytbhbacphiinpeaa
