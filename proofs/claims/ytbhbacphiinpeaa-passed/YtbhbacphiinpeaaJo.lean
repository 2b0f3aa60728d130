/- The contract of the program's Joins (JoinsOk); the document's own Joins keeps it. -/
import Derived.Test.YtbhbacphiinpeaaG4
import Derived.Test.YtbhbacphiinpeaaQ1
namespace Go.Proofs.Ytbhbacphiinpeaa
open Go.RowKit

/-- What a Joins of the text s answers: a list of the caller's own, the error, the place. -/
def JoinsAns (s : ByteArray) (w : World) (e : Ending) (w' : World) : Prop :=
  ∃ v J, e = .returned (.tuple #[v, .int .i64 (dchk s).1, .int .i64 (dchk s).2]) ∧ Below w.heap.size w w' ∧ w'.ownsRow w.heap.size 3 1 v J.length (zVals J) ∧ ((dchk s).1 = 0 → JoinsAre (decL s) J) ∧ ((dchk s).1 ≠ 0 → J = [] ∧ v = .slice none 0 0)

def JoinsOk : Prop := ∀ (s : ByteArray), s.size ≤ 140737488355328 → ∀ w : World, Calls Try.prog 13 #[.string s] w (JoinsAns s w)

theorem dchk_zero {s : ByteArray} (h : (dchk s).1 = 0) : dchk s = (0, 0) := by
  have g := (dec_good h).1
  have e : dchk s = chk (decL s) := by
    unfold decL
    rw [if_pos h]
    unfold dchk at h ⊢
    split
    · next h2 => rw [if_pos h2] at h; simp at h
    · rfl
  rw [e, g]

theorem slice_ofN {w : World} {base : Nat} {t : TypeId} {sz n : Nat} {v : Value} {xs : List Value} (h : w.ownsRow base t sz v n xs) : ∃ ao cap, v = .slice ao n cap := by
  rcases h.2 with ⟨rfl, h0⟩ | ⟨g, cap, cur, rfl, -⟩
  · exact ⟨none, 0, by rw [h0]⟩
  · exact ⟨_, cap, rfl⟩

theorem joins_len {s : ByteArray} {J : List Int} (h1 : (dchk s).1 = 0 → JoinsAre (decL s) J) (h2 : (dchk s).1 ≠ 0 → J = [] ∧ True) : J.length ≤ 40 := by
  by_cases h : (dchk s).1 = 0
  · rw [(h1 h).1]; exact (dec_good h).2.2
  · rw [(h2 h).1]; simp

end Go.Proofs.Ytbhbacphiinpeaa
