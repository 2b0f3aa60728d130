/- What the document's 'next' and 'reaches' answer. -/
import Derived.Test.YtbhbacphiinpeaaRows
import Derived.Test.YtbhbacphiinpeaaGr
import Derived.Test.YtbhbacphiinpeaaAp
import Derived.Test.YtbhbacphiinpeaaMk
import Derived.Deep.LoopGhost
namespace Go.Proofs.Ytbhbacphiinpeaa
open Go.RowKit

theorem Try.info3 : (Try.prog.info? 3).map (fun i => (i.zero, i.size, i.bytes)) = some (some (.int .i64 0), 1, 8) := by kernel_rfl
theorem Try.info4 : (Try.prog.info? 4).map (fun i => (i.zero, i.size, i.bytes)) = some (some (.bool false), 1, 1) := by kernel_rfl

/-- Numbers of instructions as cells. -/
def natVals (l : List Nat) : List Value := l.map fun (m : Nat) => Value.int .i64 (m : Int)

/-- Which of n instructions have been come to, as cells. -/
def seenVals (n : Nat) (L : List Nat) : List Value := (List.range n).map fun x => Value.bool (decide (x ∈ L))

theorem seen_at {n m : Nat} (L : List Nat) (h : m < n) : (seenVals n L)[m]? = some (.bool (decide (m ∈ L))) := by simp [seenVals, List.getElem?_map, List.getElem?_range h]
theorem seen_set {n m : Nat} (L : List Nat) : (seenVals n L).set m (.bool true) = seenVals n (L ++ [m]) := by
  apply List.ext_getElem?
  intro i
  by_cases hi : i < n
  · rw [seen_at _ hi]
    by_cases e : m = i
    · subst e
      rw [List.getElem?_set_self (by simpa [seenVals] using hi)]
      simp
    · rw [List.getElem?_set_ne e, seen_at _ hi]
      have : i ≠ m := fun e2 => e e2.symm
      simp [this]
  · rw [List.getElem?_eq_none (by simp [seenVals]; omega), List.getElem?_eq_none (by simp [seenVals]; omega)]
theorem seen_none (n : Nat) : List.replicate n (Value.bool false) = seenVals n [] := by
  apply List.ext_getElem?
  intro i
  by_cases hi : i < n
  · rw [seen_at _ hi, List.getElem?_replicate, if_pos hi]; simp
  · rw [List.getElem?_eq_none (by simp; omega), List.getElem?_eq_none (by simp [seenVals]; omega)]
theorem nat_at {L : List Nat} {i x : Nat} (h : L[i]? = some x) : (natVals L)[i]? = some (.int .i64 x) := by simp [natVals, List.getElem?_map, h]
theorem nat_snoc (L : List Nat) (m : Nat) : natVals (L ++ [m]) = natVals L ++ [.int .i64 m] := by simp [natVals]

theorem foldl_snoc {wo : Int} {ms : List Nat} {j m : Nat} (L : List Nat) (h : ms[j]? = some m) : (ms.take (j + 1)).foldl (visit wo) L = visit wo ((ms.take j).foldl (visit wo) L) m := by
  have hj := (List.getElem?_eq_some_iff.1 h).1
  have e : ms[j] = m := by rw [List.getElem?_eq_getElem hj] at h; exact Option.some.inj h
  rw [List.take_succ_eq_append_getElem hj, e, List.foldl_append]
  rfl

end Go.Proofs.Ytbhbacphiinpeaa
