/-
  No cell of these rows narrows 'for every input' (looked for: loops, veiled, ifaces, maps, wideKeys, modest, calm, conditions, laid).
  DERIVED. THE GIVEN ROWS OF THIS SEAT. 4 by the template 'for every input the law returns true; each argument reads behind the call as it read before'; 0 by the template 'total and deterministic' (their statements: YthlcmjmjkacjaaaTotals.lean).
  GIVEN WITH THE SEED: the statements are not yours to turn. If you find one false, say at which input.
  Laid BY PROGRAM, IN A SANDBOX (cutbox-rows.mjs): the forced cells as the released guide's own fill.sh prints them over the translation 867e3bae6ff8c81f… (all of the seat's roots in one cut). By AI agents, Wed Nov 11 2026. No macro, syntax, notation, axiom, sorry.
-/
import Derived.Test.YthlcmjmjkacjaaaChecked
import GoSem.Claim
import GoSem.ClaimJoined
import GoSem.ClaimMapViews
import Derived.JoinedTies
import Derived.KernelRfl
namespace Go.Proofs.Ythlcmjmjkacjaaa
/- THE CELL 'sum', in the pinned program and in every row, IS THE sha256 OF THE DUMP (.gsa) THAT YthlcmjmjkacjaaaProg.lean LOADS. Nothing in Lean hashes anything: it is a label: what it is worth is what the hold of that sum in a sandbox is worth. -/
noncomputable def Try.pinned : Pinned := { name := "ythlcmjmjkacjaaa", sum := "867e3bae6ff8c81ff987f7b0944c6e225b5f2e41586e800b40f434dcd3adfdff", checked := Try.checked }
namespace Rows
def none {H : Type} : Left H := { results := [], args := [] }

/-- 'loomlaw.Codes': WHATEVER THE INPUT: true; the input reads as it did. -/
def codesSpec : ChangeSpec := { name := "codes", fn := fun _ => fun
  | [d] => { results := [.lit (.bool true)], args := [d] }
  | _ => none }
def codesRow : OpenClaim := { program := "ythlcmjmjkacjaaa", sum := "867e3bae6ff8c81ff987f7b0944c6e225b5f2e41586e800b40f434dcd3adfdff", func := "loom/loomlaw.Codes", spec := "codes", recurses := true, apart := false }
def CodesSaid : Prop := codesRow.holds Try.pinned (OpenSpec.ofChange codesSpec)

/-- ITS FALSE NEIGHBOUR: 'it returns false'. Refute it at one input. -/
def codesWrong : ChangeSpec := { name := "codes", fn := fun _ => fun
  | [d] => { results := [.lit (.bool false)], args := [d] }
  | _ => none }
def CodesWrongFalsely : Prop := codesRow.holds Try.pinned (OpenSpec.ofChange codesWrong)

/-- 'loomlaw.Joinings': WHATEVER THE INPUT: true; the input reads as it did. -/
def joiningsSpec : ChangeSpec := { name := "joinings", fn := fun _ => fun
  | [d] => { results := [.lit (.bool true)], args := [d] }
  | _ => none }
def joiningsRow : OpenClaim := { program := "ythlcmjmjkacjaaa", sum := "867e3bae6ff8c81ff987f7b0944c6e225b5f2e41586e800b40f434dcd3adfdff", func := "loom/loomlaw.Joinings", spec := "joinings", recurses := true, apart := false }
def JoiningsSaid : Prop := joiningsRow.holds Try.pinned (OpenSpec.ofChange joiningsSpec)

/-- ITS FALSE NEIGHBOUR: 'it returns false'. Refute it at one input. -/
def joiningsWrong : ChangeSpec := { name := "joinings", fn := fun _ => fun
  | [d] => { results := [.lit (.bool false)], args := [d] }
  | _ => none }
def JoiningsWrongFalsely : Prop := joiningsRow.holds Try.pinned (OpenSpec.ofChange joiningsWrong)

/-- 'loomkeep.Coded': WHATEVER THE INPUT: true; the input reads as it did. -/
def codedSpec : ChangeSpec := { name := "coded", fn := fun _ => fun
  | [d1, d2] => { results := [.lit (.bool true)], args := [d1, d2] }
  | _ => none }
def codedRow : OpenClaim := { program := "ythlcmjmjkacjaaa", sum := "867e3bae6ff8c81ff987f7b0944c6e225b5f2e41586e800b40f434dcd3adfdff", func := "loom/loomkeep.Coded", spec := "coded", apart := false }
def CodedSaid : Prop := codedRow.holds Try.pinned (OpenSpec.ofChange codedSpec)

/-- ITS FALSE NEIGHBOUR: 'it returns false'. Refute it at one input. -/
def codedWrong : ChangeSpec := { name := "coded", fn := fun _ => fun
  | [d1, d2] => { results := [.lit (.bool false)], args := [d1, d2] }
  | _ => none }
def CodedWrongFalsely : Prop := codedRow.holds Try.pinned (OpenSpec.ofChange codedWrong)

/-- 'loomkeep.Passed': WHATEVER THE INPUT: true; the input reads as it did. -/
def passedSpec : ChangeSpec := { name := "passed", fn := fun _ => fun
  | [d1, d2, d3] => { results := [.lit (.bool true)], args := [d1, d2, d3] }
  | _ => none }
def passedRow : OpenClaim := { program := "ythlcmjmjkacjaaa", sum := "867e3bae6ff8c81ff987f7b0944c6e225b5f2e41586e800b40f434dcd3adfdff", func := "loom/loomkeep.Passed", spec := "passed", apart := false }
def PassedSaid : Prop := passedRow.holds Try.pinned (OpenSpec.ofChange passedSpec)

/-- ITS FALSE NEIGHBOUR: 'it returns false'. Refute it at one input. -/
def passedWrong : ChangeSpec := { name := "passed", fn := fun _ => fun
  | [d1, d2, d3] => { results := [.lit (.bool false)], args := [d1, d2, d3] }
  | _ => none }
def PassedWrongFalsely : Prop := passedRow.holds Try.pinned (OpenSpec.ofChange passedWrong)

/- THE SECOND FORM. 'bulk': how many values and letters a reading holds, each counted each time it is reached (what is shared counts as often as it is met; a slice's spare places count too). A statement '..UptoSaid' is the law's where the arguments, and the package variables that the reading takes, are together of bulk at most 1048576: NARROWER than '..Said'. Prove '..Said' where nothing that the law and all that it calls make is longer than what came in: it says more and counts as full. Else prove '..UptoSaid'. A law counts once. -/
mutual
def uptoBulk {H : Type} : DataW H → Nat
  | .lit (.string bytes) => bytes.length + 1
  | .lit _ => 1
  | .nil => 1
  | .ptr d => uptoBulk d + 1
  | .slice elems spare => uptoBulkAll elems + uptoBulkAll spare + 1
  | .agg parts => uptoBulkAll parts + 1
  | .iface _ d => uptoBulk d + 1
  | .map entries => uptoBulkEntries entries + 1
  | .held _ => 1
def uptoBulkAll {H : Type} : List (DataW H) → Nat
  | [] => 0
  | d :: r => uptoBulk d + uptoBulkAll r
def uptoBulkEntries {H : Type} : List (Lit × DataW H) → Nat
  | [] => 0
  | x :: r => uptoBulkEntry x + uptoBulkEntries r
def uptoBulkEntry {H : Type} : Lit × DataW H → Nat
  | (.string bytes, d) => bytes.length + uptoBulk d + 1
  | (_, d) => uptoBulk d + 1
 end
def uptoSmall : (H : Type) → List (DataW H) → Bool := fun _ ds => decide (uptoBulkAll ds ≤ 1048576)
def OpenSpec.upto (s : _root_.Go.ChangeSpec) : _root_.Go.OpenSpec := { _root_.Go.OpenSpec.ofChange s with cond := some uptoSmall }

/-- 'loomlaw.Codes', WHERE WHAT IT READS IS OF BULK AT MOST 1048576: true; the input reads as it did. -/
def codesUptoRow : OpenClaim := { program := "ythlcmjmjkacjaaa", sum := "867e3bae6ff8c81ff987f7b0944c6e225b5f2e41586e800b40f434dcd3adfdff", func := "loom/loomlaw.Codes", spec := "codes", recurses := true, apart := false, narrowed := true }
def CodesUptoSaid : Prop := codesUptoRow.holds Try.pinned (OpenSpec.upto codesSpec)

/-- 'loomlaw.Joinings', WHERE WHAT IT READS IS OF BULK AT MOST 1048576: true; the input reads as it did. -/
def joiningsUptoRow : OpenClaim := { program := "ythlcmjmjkacjaaa", sum := "867e3bae6ff8c81ff987f7b0944c6e225b5f2e41586e800b40f434dcd3adfdff", func := "loom/loomlaw.Joinings", spec := "joinings", recurses := true, apart := false, narrowed := true }
def JoiningsUptoSaid : Prop := joiningsUptoRow.holds Try.pinned (OpenSpec.upto joiningsSpec)

/-- 'loomkeep.Coded', WHERE WHAT IT READS IS OF BULK AT MOST 1048576: true; the input reads as it did. -/
def codedUptoRow : OpenClaim := { program := "ythlcmjmjkacjaaa", sum := "867e3bae6ff8c81ff987f7b0944c6e225b5f2e41586e800b40f434dcd3adfdff", func := "loom/loomkeep.Coded", spec := "coded", apart := false, narrowed := true }
def CodedUptoSaid : Prop := codedUptoRow.holds Try.pinned (OpenSpec.upto codedSpec)

/-- 'loomkeep.Passed', WHERE WHAT IT READS IS OF BULK AT MOST 1048576: true; the input reads as it did. -/
def passedUptoRow : OpenClaim := { program := "ythlcmjmjkacjaaa", sum := "867e3bae6ff8c81ff987f7b0944c6e225b5f2e41586e800b40f434dcd3adfdff", func := "loom/loomkeep.Passed", spec := "passed", apart := false, narrowed := true }
def PassedUptoSaid : Prop := passedUptoRow.holds Try.pinned (OpenSpec.upto passedSpec)

end Rows
end Go.Proofs.Ythlcmjmjkacjaaa
