/- Lists that are written out in the program, as they lie in memory. -/
import Derived.Test.YtbhbacphiinpeaaBs
import Derived.Deep.Cut
namespace Go.Proofs.Ytbhbacphiinpeaa
open Go.RowKit

theorem lit_sees {w : World} {b : Nat} {k : List Ins} {cap n : Nat} (h : w.heap[b]? = some (.cells (flat k).toArray 31)) (hn : k.length = n) (hl : n ≤ 40) : Sees w (.slice (some ⟨b, 0, none⟩) n cap) k := by
  subst hn
  refine ⟨by omega, .inr ⟨b, 0, cap, rfl, blk_lt h, fun i x hx => ?_⟩⟩
  obtain ⟨a1, a2, a3, a4⟩ := flat_at hx
  refine ⟨?_, ?_, ?_, ?_⟩
  · rw [cell_of_row w b _ _ 31 _ h, List.getElem?_toArray, Nat.zero_add]; exact a1
  · rw [cell_of_row w b _ _ 31 _ h, List.getElem?_toArray, Nat.zero_add]; exact a2
  · rw [cell_of_row w b _ _ 31 _ h, List.getElem?_toArray, Nat.zero_add]; exact a3
  · rw [cell_of_row w b _ _ 31 _ h, List.getElem?_toArray, Nat.zero_add]; exact a4

theorem Sees.up {w w' : World} {v : Value} {l : List Ins} (h : Sees w v l) (hb : Below w.heap.size w w') : Sees w' v l :=
  h.later hb fun b off cap n hv hn => by
    rcases h.2 with ⟨-, ao, cap', hv'⟩ | ⟨b', off', cap', hv', hlt, -⟩
    · rw [hv'] at hv; cases hv; omega
    · rw [hv'] at hv; cases hv; exact hlt

theorem words_nil : wordsP [] = List.replicate 32 0 := by decide
theorem sees_nil (w : World) : SeesI w (.slice none 0 0) [] := ⟨by simp, fun i x hx => by simp at hx, .inl ⟨rfl, none, 0, rfl⟩⟩

theorem news_seesZ {w : World} {b : Nat} {x : Int} (h : w.heap[b]? = some (.cells #[.int .i64 x] 3)) (cap : Nat) : SeesZ w (.slice (some ⟨b, 0, none⟩) 1 cap) [x] := by
  refine ⟨by simp, .inr ⟨b, 0, cap, rfl, blk_lt h, fun i y hy => ?_⟩⟩
  have : i = 0 := by have := (List.getElem?_eq_some_iff.1 hy).1; simp at this; omega
  subst this
  simp at hy
  subst hy
  rw [cell_of_row w b _ _ 3 _ h]
  rfl

end Go.Proofs.Ytbhbacphiinpeaa
