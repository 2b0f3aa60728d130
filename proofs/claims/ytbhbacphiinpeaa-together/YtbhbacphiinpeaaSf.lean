/- What loomkeep's run answers: the words of its contract. -/
import Derived.Test.YtbhbacphiinpeaaSg
namespace Go.Proofs.Ytbhbacphiinpeaa
open Go.RowKit

/-- The logs of a run in memory: a row of lists in block bL, theirs from block base on. -/
structure LogsAt (w : World) (bL base c : Nat) (logs : List (List (Int × Int))) (vs : List Value) : Prop where
  len : logs.length = c
  vl : vs.length = c
  row : w.heap[bL]? = some (.cells vs.toArray 47)
  own : ∀ (i : Nat) l v, logs[i]? = some l → vs[i]? = some v → w.ownsRow base 64 2 v l.length (flatL l)
  apart : ∀ (i j : Nat) vi vj g, vs[i]? = some vi → vs[j]? = some vj → vi.ownBlock = some g → vj.ownBlock = some g → i = j

def ranC (bL c : Nat) (st : Int) (r : Rn) (tv : Value) : Array Value := #[.slice (some ⟨bL, 0, none⟩) c c, .int .i64 r.steps, .int .i64 st, .int .i64 r.last.warp, .int .i64 r.last.steps, .int .i64 r.last.segs, .int .i64 r.last.fault, .int .i64 r.last.fpc, .int .i64 r.last.fth, tv]

/-- The contract of loomkeep's run (run_any). -/
def RunAny : Prop := ∀ {w0 w : World} {L : XM} {m : PM} {x : QM} (_ : XAt w L m x) (_ : PMok m) {vp : Value} {picks : List Int} (_ : SeesI w0 vp picks) (_ : Below w0.heap.size w0 w) (_ : w0.heap.size ≤ L.bX) (t c : Nat) (_ : (t + 3) / 4 = c) (_ : t ≤ 16) {m' : PM} {R : Rn} (_ : goP picks 200 0 m (rn0 c) = some (m', R)),
    Calls Try.prog 20 #[.pointer (some ⟨L.bX, 0, none⟩), .int .i64 t, vp] w fun e w' => ∃ tv vs, (∃ ta tn tc, tv = .slice ta tn tc) ∧ e = .returned (.tuple #[.agg (ranC (w.heap.size + 1) c m'.st R tv), .bool true]) ∧ LogsAt w' (w.heap.size + 1) (w.heap.size + 3) c R.logs vs ∧ (∃ x', XAt w' L m' x') ∧ PMok m' ∧ Chg [L.bX] w w'

end Go.Proofs.Ytbhbacphiinpeaa
