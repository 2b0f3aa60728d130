/- Plain facts on the end of a block of a kernel that is being made; nothing of the program is in this text. -/
import Derived.Test.YtbhbacphiinpeaaMk
import Derived.WalkSmall
namespace Go.Proofs.Ytbhbacphiinpeaa
open Go.RowKit

theorem flatB_last (l : List Blk) (b : Blk) : (flatB (l ++ [b]))[l.length * 3]? = some (.int .i64 b.at0) ∧ (flatB (l ++ [b]))[l.length * 3 + 1]? = some (.bool b.loop) ∧ (flatB (l ++ [b]))[l.length * 3 + 2]? = some (.bool b.sides) := by
  rw [flatB_append, flatB_one]
  have hl := flatB_length l
  refine ⟨?_, ?_, ?_⟩
  · rw [List.getElem?_append_right (by omega), hl, show l.length * 3 - l.length * 3 = 0 by omega]; rfl
  · rw [List.getElem?_append_right (by omega), hl, show l.length * 3 + 1 - l.length * 3 = 1 by omega]; rfl
  · rw [List.getElem?_append_right (by omega), hl, show l.length * 3 + 2 - l.length * 3 = 2 by omega]; rfl

theorem flat_cons (x : Ins) (l : List Ins) : flat (x :: l) = x.vals ++ flat l := by simp [flat]

theorem flat_modify : ∀ (l : List Ins) (i : Nat) (n : Int), i < l.length → flat (l.modify i fun x => { x with b := n }) = (flat l).set (i * 4 + 2) (.int .i64 n)
  | [], i, n, h => by simp at h
  | x :: l, 0, n, _ => by
    rw [List.modify_zero_cons, flat_cons, flat_cons]
    simp [Ins.vals]
  | x :: l, i + 1, n, h => by
    rw [List.modify_succ_cons, flat_cons, flat_cons, flat_modify l i n (by simpa using h), List.set_append_right _ _ (by simp [Ins.vals]; omega)]
    have e : (i + 1) * 4 + 2 - x.vals.length = i * 4 + 2 := by simp [Ins.vals]; omega
    rw [e]

theorem close_eq {s : St} {ops : List Blk} {b : Blk} (h : s.op = ops ++ [b]) (second : Bool) : s.close second = (((({ s with op := ops } : St).ends b).other b second)).aim b.at0 := by
  unfold St.close
  rw [h]
  simp

end Go.Proofs.Ytbhbacphiinpeaa
