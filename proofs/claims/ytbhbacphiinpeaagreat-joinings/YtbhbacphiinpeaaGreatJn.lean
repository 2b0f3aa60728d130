/- What 'Joinings' answers, if the program's Joins keeps its contract (JoinsOk). -/
import Derived.Test.YtbhbacphiinpeaaGreatY3
namespace Go.Proofs.YtbhbacphiinpeaaGreat
open Go.RowKit

set_option maxHeartbeats 400000 in
theorem joinings_any (HJ : JoinsOk) {w : World} {v : Value} {l : List Opv} (h : SeesO2 w v l) :
    Calls Tryz.prog 4 #[v] w fun e w' => e = .returned (.bool true) ∧ Below w.heap.size w w' := by
  have HS := hyd (h.up ((Below.refl _ w).alloc (Nat.le_refl _) (.cells #[.int .i64 3] 3)))
  have HK := hyd (keeps3 HJ)
  clear h HJ
  go_enter Tryz.func4, Tryz.ntmps4
  go_wp2_with fail
  refine (plays_gen (ks := [3]) HK.out (by decide) HS.out (kb := w.heap.size) (kcap := 1) (by simp) (fun j x hx => ?_)).mono ?_
  · cases j with
    | zero =>
      simp at hx
      subst hx
      rw [cell_of_row _ w.heap.size 0 _ 3 (0, 0) (heap_alloc_new w _)]
      rfl
    | succ j => simp at hx
  rintro e w1 ⟨rfl, hb1⟩
  have HB : Hid (Below w.heap.size w w1) := ((Below.refl _ w).alloc (Nat.le_refl _) _).trans (hb1.mono (by simp))
  clear hb1
  go_wp2
  go_ret
  exact ⟨rfl, HB.out⟩

end Go.Proofs.YtbhbacphiinpeaaGreat
