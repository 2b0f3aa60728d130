/- What the document's 'reaches' answers. -/
import Derived.Test.YtbhbacphiinpeaaG1
namespace Go.Proofs.Ytbhbacphiinpeaa
open Go.RowKit

theorem fold_len (wo : Int) : ∀ (ms : List Nat) (L : List Nat), L.length ≤ (ms.foldl (visit wo) L).length
  | [], L => Nat.le_refl _
  | m :: ms, L => by
    have h := fold_len wo ms (visit wo L m)
    obtain ⟨q, hq⟩ := visit_prefix wo L m
    have h2 : L.length ≤ (visit wo L m).length := by rw [hq]; simp
    exact Nat.le_trans h2 h

theorem set_size (w : World) (a : Addr) (v : Value) : (w.setCell a v).heap.size = w.heap.size := by simp [World.setCell]

end Go.Proofs.Ytbhbacphiinpeaa
