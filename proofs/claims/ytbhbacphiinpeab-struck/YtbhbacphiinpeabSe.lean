/- The plain run of Struck's kernel, for each of its 136 inputs. -/
import Derived.Test.YtbhbacphiinpeabSg
namespace Go.Proofs.Ytbhbacphiinpeab
open Go.RowKit

def kSt (v : Int) : List Ins := [⟨8, 0, 0, 0⟩, ⟨1, 1, v, 0⟩, ⟨3, 0, 0, 1⟩, ⟨1, 2, 77, 0⟩, ⟨5, 2, 2, 0⟩, ⟨0, 0, 0, 0⟩]
/-- What register 2 of thread i holds behind the run. -/
def wantS (v i : Nat) : Int := if i < v then Int.tdiv 77 ((i : Int) - (v : Int)) else if v / 4 < i / 4 then 0 else 77
def stB (n v : Nat) : Bool :=
  match goP [] 200 0 (newP (kSt v) [] n 0 [5]) (rn0 ((n + 3) / 4)) with
  | none => false
  | some (m, r) => (m.st == 2) && (r.last.fault == 1) && (r.last.fpc == 4) && (r.last.fth == (v : Int)) && (r.last.warp == ((v / 4 : Nat) : Int)) && (r.last.steps == 5) && (m.ts.length == n) &&
    ((List.range n).all fun i => ((m.ts.getD i thr0).regs.getD 2 0 == wantS v i) && (isDone m.ts i == decide (i / 4 < v / 4)) && ((m.ts.getD i thr0).regs.length == 4))

theorem st_all : ∀ n < 17, ∀ v < n, stB n v = true := by decide +kernel
theorem st_chk : ∀ v < 16, chk (kSt (v : Nat)) = (0, 0) := by decide +kernel

end Go.Proofs.Ytbhbacphiinpeab
