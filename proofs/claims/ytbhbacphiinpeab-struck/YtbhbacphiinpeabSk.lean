/- What loomkeep's Struck answers: true. -/
import Derived.Test.YtbhbacphiinpeabSf
import Derived.Test.YtbhbacphiinpeabSe
import Derived.Test.YtbhbacphiinpeabSc
import Derived.Deep.Cut
namespace Go.Proofs.Ytbhbacphiinpeab
open Go.RowKit

theorem st_go (J : List Int) {n v : Nat} (hn : n < 17) (hv : v < n) :
    ∃ m' R, goP [] 200 0 (newP (kSt v) J n 0 [5]) (rn0 ((n + 3) / 4)) = some (m', R) ∧ m'.st = 2 ∧ R.last.fault = 1 ∧ R.last.fpc = 4 ∧ R.last.fth = (v : Int) ∧ R.last.warp = ((v / 4 : Nat) : Int) ∧ R.last.steps = 5 ∧ m'.ts.length = n ∧
      ∀ i, i < n → (m'.ts.getD i thr0).regs.getD 2 0 = wantS v i ∧ isDone m'.ts i = decide (i / 4 < v / 4) ∧ (m'.ts.getD i thr0).regs.length = 4 := by
  have h := st_all n hn v hv
  unfold stB at h
  have hj : newP (kSt v) J n 0 [5] = setJ (newP (kSt v) [] n 0 [5]) J := rfl
  have hk : ∀ x ∈ (newP (kSt v) [] n 0 [5]).k, x.o ≠ 13 := by
    intro x hx
    simp [newP, kSt] at hx
    rcases hx with rfl | rfl | rfl | rfl | rfl | rfl <;> simp
  rw [hj, go_setJ [] J 200 0 _ _ hk]
  cases hg : goP [] 200 0 (newP (kSt v) [] n 0 [5]) (rn0 ((n + 3) / 4)) with
  | none => rw [hg] at h; simp at h
  | some x =>
    rw [hg] at h
    obtain ⟨m, r⟩ := x
    simp only [Bool.and_eq_true, beq_iff_eq, List.all_eq_true, List.mem_range] at h
    obtain ⟨⟨⟨⟨⟨⟨⟨h1, h2⟩, h3⟩, h4⟩, h5⟩, h6⟩, h7⟩, h8⟩ := h
    exact ⟨_, _, rfl, h1, h2, h3, h4, h5, h6, h7, fun i hi => ⟨(h8 i hi).1.1, (h8 i hi).1.2, (h8 i hi).2⟩⟩

end Go.Proofs.Ytbhbacphiinpeab
