/- What 'sameCode' answers of two slices that read alike. -/
import Derived.Test.YtbhbacphiinpeaaGreatRows
import Derived.Test.YtbhbacphiinpeaaGreatView
import Derived.Deep.QuietTactic
import Derived.BigQuiet
import Derived.WalkSmall
namespace Go.Proofs.YtbhbacphiinpeaaGreat
open Go.RowKit

set_option maxHeartbeats 400000 in
theorem same_none (a0 a1 : Option Addr) (c0 c1 : Nat) (w : World) :
    Calls Tryz.prog 27 #[.slice a0 0 c0, .slice a1 0 c1] w fun e w' => e = .returned (.bool true) ∧ Below w.heap.size w w' := by
  go_enter Tryz.func27, Tryz.ntmps27
  go_wp2_with fail
  go_loop [5] (fun i => i = .int .i64 0) (fun _ => 0)
  case atStart => rfl
  case round =>
    subst hrel
    go_wp2
    go_ret
    exact ⟨rfl, Below.refl _ _⟩

set_option maxHeartbeats 1000000 in
set_option maxRecDepth 100000 in
theorem same_some (b0 o0 b1 o1 c0 c1 n : Nat) (l : List Ins) (hl : l.length = n) (hn : n ≤ 4398046511104) (w : World) (hb0 : b0 < w.heap.size) (hb1 : b1 < w.heap.size)
    (hc0 : ∀ (i : Nat) x, l[i]? = some x → w.cell? ⟨b0, o0 + i * 4, none⟩ = some (.int .i64 x.o) ∧ w.cell? ⟨b0, o0 + i * 4 + 1, none⟩ = some (.int .i64 x.a) ∧ w.cell? ⟨b0, o0 + i * 4 + 2, none⟩ = some (.int .i64 x.b) ∧ w.cell? ⟨b0, o0 + i * 4 + 3, none⟩ = some (.int .i64 x.c))
    (hc1 : ∀ (i : Nat) x, l[i]? = some x → w.cell? ⟨b1, o1 + i * 4, none⟩ = some (.int .i64 x.o) ∧ w.cell? ⟨b1, o1 + i * 4 + 1, none⟩ = some (.int .i64 x.a) ∧ w.cell? ⟨b1, o1 + i * 4 + 2, none⟩ = some (.int .i64 x.b) ∧ w.cell? ⟨b1, o1 + i * 4 + 3, none⟩ = some (.int .i64 x.c)) :
    Calls Tryz.prog 27 #[.slice (some ⟨b0, o0, none⟩) n c0, .slice (some ⟨b1, o1, none⟩) n c1] w fun e w' => e = .returned (.bool true) ∧ Below w.heap.size w w' := by
  have Hl : Hid (l.length = n) := hl
  have H0 : Hid (∀ (i : Nat) x, l[i]? = some x → w.cell? ⟨b0, o0 + i * 4, none⟩ = some (.int .i64 x.o) ∧ w.cell? ⟨b0, o0 + i * 4 + 1, none⟩ = some (.int .i64 x.a) ∧ w.cell? ⟨b0, o0 + i * 4 + 2, none⟩ = some (.int .i64 x.b) ∧ w.cell? ⟨b0, o0 + i * 4 + 3, none⟩ = some (.int .i64 x.c)) := hc0
  have H1 : Hid (∀ (i : Nat) x, l[i]? = some x → w.cell? ⟨b1, o1 + i * 4, none⟩ = some (.int .i64 x.o) ∧ w.cell? ⟨b1, o1 + i * 4 + 1, none⟩ = some (.int .i64 x.a) ∧ w.cell? ⟨b1, o1 + i * 4 + 2, none⟩ = some (.int .i64 x.b) ∧ w.cell? ⟨b1, o1 + i * 4 + 3, none⟩ = some (.int .i64 x.c)) := hc1
  clear hl hc0 hc1
  have hn2 : (n : Int) ≤ 4398046511104 := by omega
  go_enter Tryz.func27, Tryz.ntmps27
  go_wp2_with fail
  go_loopw [5] (fun i wr => ∃ k : Nat, k ≤ n ∧ i = .int .i64 k ∧ Below w.heap.size w wr) (fun i _ => n - (intOf i).toNat)
  case atStart => exact ⟨0, Nat.zero_le _, rfl, Below.refl _ _⟩
  case round =>
    obtain ⟨k, hk, rfl, hb⟩ := hrel
    by_cases hkn : k < n
    · obtain ⟨x, hx⟩ : ∃ x, l[k]? = some x := ⟨_, List.getElem?_eq_getElem (by rw [Hl.out]; exact hkn)⟩
      obtain ⟨c0, c1, c2, c3⟩ := H0.out k x hx
      obtain ⟨c4, c5, c6, c7⟩ := H1.out k x hx
      have d0 := (hb.cell (p := ⟨b0, o0 + k * 4, none⟩) hb0).trans c0
      have d1 := (hb.cell (p := ⟨b0, o0 + k * 4 + 1, none⟩) hb0).trans c1
      have d2 := (hb.cell (p := ⟨b0, o0 + k * 4 + 2, none⟩) hb0).trans c2
      have d3 := (hb.cell (p := ⟨b0, o0 + k * 4 + 3, none⟩) hb0).trans c3
      have d4 := (hb.cell (p := ⟨b1, o1 + k * 4, none⟩) hb1).trans c4
      have d5 := (hb.cell (p := ⟨b1, o1 + k * 4 + 1, none⟩) hb1).trans c5
      have d6 := (hb.cell (p := ⟨b1, o1 + k * 4 + 2, none⟩) hb1).trans c6
      have d7 := (hb.cell (p := ⟨b1, o1 + k * 4 + 3, none⟩) hb1).trans c7
      clear c0 c1 c2 c3 c4 c5 c6 c7 hx
      have i1 : (0 : Int) ≤ (k : Int) := by omega
      have i2 : (k : Int) < (n : Int) := by omega
      go_wp2_with fail
      go_quiet (fail)
      go_wp2
      go_roundw
      case rel => exact ⟨k + 1, by omega, by go_num, below_drewN hb _⟩
      case measure => simp [intOf]; omega
    · go_wp2
      go_ret
      exact ⟨rfl, hb⟩

theorem same_any {w : World} {v0 v1 : Value} {l : List Ins} (h0 : Sees w v0 l) (h1 : Sees w v1 l) :
    Calls Tryz.prog 27 #[v0, v1] w fun e w' => e = .returned (.bool true) ∧ Below w.heap.size w w' := by
  have key : ∀ {v : Value}, Sees w v l → (l = [] ∧ ∃ ao cap, v = .slice ao 0 cap) ∨ ∃ b off cap, v = .slice (some ⟨b, off, none⟩) l.length cap ∧ b < w.heap.size ∧ ∀ (i : Nat) x, l[i]? = some x →
      w.cell? ⟨b, off + i * 4, none⟩ = some (.int .i64 x.o) ∧ w.cell? ⟨b, off + i * 4 + 1, none⟩ = some (.int .i64 x.a) ∧ w.cell? ⟨b, off + i * 4 + 2, none⟩ = some (.int .i64 x.b) ∧ w.cell? ⟨b, off + i * 4 + 3, none⟩ = some (.int .i64 x.c) := fun h => h.2
  by_cases hl : l = []
  · have kk : ∀ {v : Value}, Sees w v l → ∃ ao cap, v = .slice ao 0 cap := fun h => by
      rcases key h with ⟨-, h⟩ | ⟨b, off, cap, rfl, -⟩
      · exact h
      · exact ⟨some ⟨b, off, none⟩, cap, by rw [hl]; rfl⟩
    obtain ⟨a0, c0, rfl⟩ := kk h0
    obtain ⟨a1, c1, rfl⟩ := kk h1
    exact same_none a0 a1 c0 c1 w
  · rcases key h0 with ⟨h, -⟩ | ⟨b0, o0, c0, rfl, hb0, hc0⟩
    · exact absurd h hl
    · rcases key h1 with ⟨h, -⟩ | ⟨b1, o1, c1, rfl, hb1, hc1⟩
      · exact absurd h hl
      · exact same_some b0 o0 b1 o1 c0 c1 l.length l rfl h0.1 w hb0 hb1 hc0 hc1

end Go.Proofs.YtbhbacphiinpeaaGreat
