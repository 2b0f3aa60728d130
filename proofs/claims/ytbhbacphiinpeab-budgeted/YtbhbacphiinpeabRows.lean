/-
  No cell of these rows narrows 'for every input' (looked for: loops, veiled, ifaces, maps, wideKeys, modest, calm, conditions, laid).
  DERIVED. THE GIVEN ROWS OF THIS SEAT. 4 by the template 'for every input the law returns true; each argument reads behind the call as it read before'; 0 by the template 'total and deterministic' (their statements: YtbhbacphiinpeabTotals.lean).
  GIVEN WITH THE SEED: the statements are not yours to turn. If you find one false, say at which input.
  Laid BY PROGRAM, IN A SANDBOX (cutbox-rows.mjs): the forced cells as the released guide's own fill.sh prints them over the translation b26b969ab540815a… (all of the seat's roots in one cut). By AI agents, Wed Nov 11 2026. No macro, syntax, notation, axiom, sorry.
-/
import Derived.Test.YtbhbacphiinpeabChecked
import GoSem.Claim
import GoSem.ClaimJoined
import GoSem.ClaimMapViews
import Derived.JoinedTies
import Derived.KernelRfl
namespace Go.Proofs.Ytbhbacphiinpeab
/- THE CELL 'sum', in the pinned program and in every row, IS THE sha256 OF THE DUMP (.gsa) THAT YtbhbacphiinpeabProg.lean LOADS. Nothing in Lean hashes anything: it is a label: what it is worth is what the hold of that sum in a sandbox is worth. -/
noncomputable def Try.pinned : Pinned := { name := "ytbhbacphiinpeab", sum := "b26b969ab540815a5ef9117f7030549f34026ccea2ab09e3ff1496ded6e58212", checked := Try.checked }
namespace Rows
def none {H : Type} : Left H := { results := [], args := [] }

/-- 'loomkeep.Met': WHATEVER THE INPUT: true; the input reads as it did. -/
def metSpec : ChangeSpec := { name := "met", fn := fun _ => fun
  | [d1, d2, d3] => { results := [.lit (.bool true)], args := [d1, d2, d3] }
  | _ => none }
def metRow : OpenClaim := { program := "ytbhbacphiinpeab", sum := "b26b969ab540815a5ef9117f7030549f34026ccea2ab09e3ff1496ded6e58212", func := "loom/loomkeep.Met", spec := "met", apart := false }
def MetSaid : Prop := metRow.holds Try.pinned (OpenSpec.ofChange metSpec)

/-- ITS FALSE NEIGHBOUR: 'it returns false'. Refute it at one input. -/
def metWrong : ChangeSpec := { name := "met", fn := fun _ => fun
  | [d1, d2, d3] => { results := [.lit (.bool false)], args := [d1, d2, d3] }
  | _ => none }
def MetWrongFalsely : Prop := metRow.holds Try.pinned (OpenSpec.ofChange metWrong)

/-- 'loomkeep.Spread': WHATEVER THE INPUT: true; the input reads as it did. -/
def spreadSpec : ChangeSpec := { name := "spread", fn := fun _ => fun
  | [d1, d2, d3] => { results := [.lit (.bool true)], args := [d1, d2, d3] }
  | _ => none }
def spreadRow : OpenClaim := { program := "ytbhbacphiinpeab", sum := "b26b969ab540815a5ef9117f7030549f34026ccea2ab09e3ff1496ded6e58212", func := "loom/loomkeep.Spread", spec := "spread", apart := false }
def SpreadSaid : Prop := spreadRow.holds Try.pinned (OpenSpec.ofChange spreadSpec)

/-- ITS FALSE NEIGHBOUR: 'it returns false'. Refute it at one input. -/
def spreadWrong : ChangeSpec := { name := "spread", fn := fun _ => fun
  | [d1, d2, d3] => { results := [.lit (.bool false)], args := [d1, d2, d3] }
  | _ => none }
def SpreadWrongFalsely : Prop := spreadRow.holds Try.pinned (OpenSpec.ofChange spreadWrong)

/-- 'loomkeep.Struck': WHATEVER THE INPUT: true; the input reads as it did. -/
def struckSpec : ChangeSpec := { name := "struck", fn := fun _ => fun
  | [d1, d2] => { results := [.lit (.bool true)], args := [d1, d2] }
  | _ => none }
def struckRow : OpenClaim := { program := "ytbhbacphiinpeab", sum := "b26b969ab540815a5ef9117f7030549f34026ccea2ab09e3ff1496ded6e58212", func := "loom/loomkeep.Struck", spec := "struck", apart := false }
def StruckSaid : Prop := struckRow.holds Try.pinned (OpenSpec.ofChange struckSpec)

/-- ITS FALSE NEIGHBOUR: 'it returns false'. Refute it at one input. -/
def struckWrong : ChangeSpec := { name := "struck", fn := fun _ => fun
  | [d1, d2] => { results := [.lit (.bool false)], args := [d1, d2] }
  | _ => none }
def StruckWrongFalsely : Prop := struckRow.holds Try.pinned (OpenSpec.ofChange struckWrong)

/-- 'loomkeep.Budgeted': WHATEVER THE INPUT: true; the input reads as it did. -/
def budgetedSpec : ChangeSpec := { name := "budgeted", fn := fun _ => fun
  | [d1, d2, d3, d4, d5] => { results := [.lit (.bool true)], args := [d1, d2, d3, d4, d5] }
  | _ => none }
def budgetedRow : OpenClaim := { program := "ytbhbacphiinpeab", sum := "b26b969ab540815a5ef9117f7030549f34026ccea2ab09e3ff1496ded6e58212", func := "loom/loomkeep.Budgeted", spec := "budgeted", apart := false }
def BudgetedSaid : Prop := budgetedRow.holds Try.pinned (OpenSpec.ofChange budgetedSpec)

/-- ITS FALSE NEIGHBOUR: 'it returns false'. Refute it at one input. -/
def budgetedWrong : ChangeSpec := { name := "budgeted", fn := fun _ => fun
  | [d1, d2, d3, d4, d5] => { results := [.lit (.bool false)], args := [d1, d2, d3, d4, d5] }
  | _ => none }
def BudgetedWrongFalsely : Prop := budgetedRow.holds Try.pinned (OpenSpec.ofChange budgetedWrong)

/- THE SECOND FORM. 'bulk': how many values and letters a reading holds, each counted each time it is reached (what is shared counts as often as it is met; a slice's spare places count too). A statement '..UptoSaid' is the law's where the arguments, and the package variables that the reading takes, are together of bulk at most 1048576: NARROWER than '..Said'. Prove '..Said' where nothing that the law and all that it calls make is longer than what came in: it says more and counts as full. Else prove '..UptoSaid'. A law counts once. -/
mutual
def uptoBulk {H : Type} : DataW H → Nat
  | .lit (.string bytes) => bytes.length + 1
  | .lit _ => 1
  | .nil => 1
  | .ptr d => uptoBulk d + 1
  | .slice elems spare => uptoBulkAll elems + uptoBulkAll spare + 1
  | .agg parts => uptoBulkAll parts + 1
  | .iface _ d => uptoBulk d + 1
  | .map entries => uptoBulkEntries entries + 1
  | .held _ => 1
def uptoBulkAll {H : Type} : List (DataW H) → Nat
  | [] => 0
  | d :: r => uptoBulk d + uptoBulkAll r
def uptoBulkEntries {H : Type} : List (Lit × DataW H) → Nat
  | [] => 0
  | x :: r => uptoBulkEntry x + uptoBulkEntries r
def uptoBulkEntry {H : Type} : Lit × DataW H → Nat
  | (.string bytes, d) => bytes.length + uptoBulk d + 1
  | (_, d) => uptoBulk d + 1
 end
def uptoSmall : (H : Type) → List (DataW H) → Bool := fun _ ds => decide (uptoBulkAll ds ≤ 1048576)
def OpenSpec.upto (s : _root_.Go.ChangeSpec) : _root_.Go.OpenSpec := { _root_.Go.OpenSpec.ofChange s with cond := some uptoSmall }

/-- 'loomkeep.Met', WHERE WHAT IT READS IS OF BULK AT MOST 1048576: true; the input reads as it did. -/
def metUptoRow : OpenClaim := { program := "ytbhbacphiinpeab", sum := "b26b969ab540815a5ef9117f7030549f34026ccea2ab09e3ff1496ded6e58212", func := "loom/loomkeep.Met", spec := "met", apart := false, narrowed := true }
def MetUptoSaid : Prop := metUptoRow.holds Try.pinned (OpenSpec.upto metSpec)

/-- 'loomkeep.Spread', WHERE WHAT IT READS IS OF BULK AT MOST 1048576: true; the input reads as it did. -/
def spreadUptoRow : OpenClaim := { program := "ytbhbacphiinpeab", sum := "b26b969ab540815a5ef9117f7030549f34026ccea2ab09e3ff1496ded6e58212", func := "loom/loomkeep.Spread", spec := "spread", apart := false, narrowed := true }
def SpreadUptoSaid : Prop := spreadUptoRow.holds Try.pinned (OpenSpec.upto spreadSpec)

/-- 'loomkeep.Struck', WHERE WHAT IT READS IS OF BULK AT MOST 1048576: true; the input reads as it did. -/
def struckUptoRow : OpenClaim := { program := "ytbhbacphiinpeab", sum := "b26b969ab540815a5ef9117f7030549f34026ccea2ab09e3ff1496ded6e58212", func := "loom/loomkeep.Struck", spec := "struck", apart := false, narrowed := true }
def StruckUptoSaid : Prop := struckUptoRow.holds Try.pinned (OpenSpec.upto struckSpec)

/-- 'loomkeep.Budgeted', WHERE WHAT IT READS IS OF BULK AT MOST 1048576: true; the input reads as it did. -/
def budgetedUptoRow : OpenClaim := { program := "ytbhbacphiinpeab", sum := "b26b969ab540815a5ef9117f7030549f34026ccea2ab09e3ff1496ded6e58212", func := "loom/loomkeep.Budgeted", spec := "budgeted", apart := false, narrowed := true }
def BudgetedUptoSaid : Prop := budgetedUptoRow.holds Try.pinned (OpenSpec.upto budgetedSpec)

end Rows
end Go.Proofs.Ytbhbacphiinpeab
