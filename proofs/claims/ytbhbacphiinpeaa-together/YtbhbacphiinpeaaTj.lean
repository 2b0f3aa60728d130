/- What loomkeep's sameInts does with lists of numbers. -/
import Derived.Test.YtbhbacphiinpeaaBs
namespace Go.Proofs.Ytbhbacphiinpeaa
open Go.RowKit

set_option maxHeartbeats 400000 in
theorem sameI_none (a0 a1 : Option Addr) (c0 c1 : Nat) (w : World) :
    Calls Try.prog 22 #[.slice a0 0 c0, .slice a1 0 c1] w fun e w' => e = .returned (.bool true) ∧ Below w.heap.size w w' := by
  go_enter Try.func22, Try.ntmps22
  go_wp2_with fail
  go_loop [5] (fun i => i = .int .i64 0) (fun _ => 0)
  case atStart => rfl
  case round =>
    subst hrel
    go_wp2
    go_ret
    exact ⟨rfl, Below.refl _ _⟩

set_option maxHeartbeats 1000000 in
set_option maxRecDepth 100000 in
theorem sameI_some (b0 o0 b1 o1 c0 c1 n : Nat) (l : List Int) (hl : l.length = n) (hn : n ≤ 17592186044416) (w : World) (hb0 : b0 < w.heap.size) (hb1 : b1 < w.heap.size)
    (hc0 : ∀ (i : Nat) x, l[i]? = some x → w.cell? ⟨b0, o0 + i, none⟩ = some (.int .i64 x)) (hc1 : ∀ (i : Nat) x, l[i]? = some x → w.cell? ⟨b1, o1 + i, none⟩ = some (.int .i64 x)) :
    Calls Try.prog 22 #[.slice (some ⟨b0, o0, none⟩) n c0, .slice (some ⟨b1, o1, none⟩) n c1] w fun e w' => e = .returned (.bool true) ∧ Below w.heap.size w w' := by
  have Hl := hyd hl
  have H0 := hyd hc0
  have H1 := hyd hc1
  clear hl hc0 hc1
  have hn2 : (n : Int) ≤ 17592186044416 := by omega
  go_enter Try.func22, Try.ntmps22
  go_wp2_with fail
  go_loopw [5] (fun i wr => ∃ k : Nat, k ≤ n ∧ i = .int .i64 k ∧ Below w.heap.size w wr) (fun i _ => n - (intOf i).toNat)
  case atStart => exact ⟨0, Nat.zero_le _, rfl, Below.refl _ _⟩
  case round =>
    obtain ⟨k, hk, rfl, hb⟩ := hrel
    by_cases hkn : k < n
    · obtain ⟨x, hx⟩ : ∃ x, l[k]? = some x := ⟨_, List.getElem?_eq_getElem (by rw [Hl.out]; exact hkn)⟩
      have d0 := (hb.cell (p := ⟨b0, o0 + k, none⟩) hb0).trans (H0.out k x hx)
      have d4 := (hb.cell (p := ⟨b1, o1 + k, none⟩) hb1).trans (H1.out k x hx)
      clear hx
      have i1 : (0 : Int) ≤ (k : Int) := by omega
      have i2 : (k : Int) < (n : Int) := by omega
      go_wp2_with fail
      go_quiet (fail)
      go_wp2
      go_roundw
      case rel => exact ⟨k + 1, by omega, by go_num, below_drewN hb _⟩
      case measure => simp [intOf]; omega
    · go_wp2
      go_ret
      exact ⟨rfl, hb⟩

theorem sameI {w : World} {v0 v1 : Value} {l : List Int} (h0 : SeesZ w v0 l) (h1 : SeesZ w v1 l) :
    Calls Try.prog 22 #[v0, v1] w fun e w' => e = .returned (.bool true) ∧ Below w.heap.size w w' := by
  by_cases hl : l = []
  · have kk : ∀ {v : Value}, SeesZ w v l → ∃ ao cap, v = .slice ao 0 cap := fun h => by
      rcases h.2 with ⟨-, h⟩ | ⟨b, off, cap, rfl, -⟩
      · exact h
      · exact ⟨some ⟨b, off, none⟩, cap, by rw [hl]; rfl⟩
    obtain ⟨a0, c0, rfl⟩ := kk h0
    obtain ⟨a1, c1, rfl⟩ := kk h1
    exact sameI_none a0 a1 c0 c1 w
  · rcases h0.2 with ⟨h, -⟩ | ⟨b0, o0, c0, rfl, hb0, hc0⟩
    · exact absurd h hl
    · rcases h1.2 with ⟨h, -⟩ | ⟨b1, o1, c1, rfl, hb1, hc1⟩
      · exact absurd h hl
      · exact sameI_some b0 o0 b1 o1 c0 c1 l.length l rfl h0.1 w hb0 hb1 hc0 hc1

end Go.Proofs.Ytbhbacphiinpeaa
