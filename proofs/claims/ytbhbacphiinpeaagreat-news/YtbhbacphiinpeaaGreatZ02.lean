/- SC A B Enc Mk: joined. -/
import Derived.Test.YtbhbacphiinpeaaGreatRows
import Derived.Test.YtbhbacphiinpeaaGreatZ01
import Derived.Deep.QuietTactic
import Derived.BigQuiet
import Derived.WalkSmall
import Derived.WalkKit
import Derived.WalkSpells
import Derived.WalkLawsBesides
import Derived.BigGuardPart
import Derived.Deep.AppendLies

/- What 'sameCode' answers of two slices that read alike. -/
namespace Go.Proofs.YtbhbacphiinpeaaGreat
open Go.RowKit

set_option maxHeartbeats 400000 in
theorem same_none (a0 a1 : Option Addr) (c0 c1 : Nat) (w : World) :
    Calls Tryz.prog 27 #[.slice a0 0 c0, .slice a1 0 c1] w fun e w' => e = .returned (.bool true) ∧ Below w.heap.size w w' := by
  go_enter Tryz.func27, Tryz.ntmps27
  go_wp2_with fail
  go_loop [5] (fun i => i = .int .i64 0) (fun _ => 0)
  case atStart => rfl
  case round =>
    subst hrel
    go_wp2
    go_ret
    exact ⟨rfl, Below.refl _ _⟩

set_option maxHeartbeats 1000000 in
set_option maxRecDepth 100000 in
theorem same_some (b0 o0 b1 o1 c0 c1 n : Nat) (l : List Ins) (hl : l.length = n) (hn : n ≤ 4398046511104) (w : World) (hb0 : b0 < w.heap.size) (hb1 : b1 < w.heap.size)
    (hc0 : ∀ (i : Nat) x, l[i]? = some x → w.cell? ⟨b0, o0 + i * 4, none⟩ = some (.int .i64 x.o) ∧ w.cell? ⟨b0, o0 + i * 4 + 1, none⟩ = some (.int .i64 x.a) ∧ w.cell? ⟨b0, o0 + i * 4 + 2, none⟩ = some (.int .i64 x.b) ∧ w.cell? ⟨b0, o0 + i * 4 + 3, none⟩ = some (.int .i64 x.c))
    (hc1 : ∀ (i : Nat) x, l[i]? = some x → w.cell? ⟨b1, o1 + i * 4, none⟩ = some (.int .i64 x.o) ∧ w.cell? ⟨b1, o1 + i * 4 + 1, none⟩ = some (.int .i64 x.a) ∧ w.cell? ⟨b1, o1 + i * 4 + 2, none⟩ = some (.int .i64 x.b) ∧ w.cell? ⟨b1, o1 + i * 4 + 3, none⟩ = some (.int .i64 x.c)) :
    Calls Tryz.prog 27 #[.slice (some ⟨b0, o0, none⟩) n c0, .slice (some ⟨b1, o1, none⟩) n c1] w fun e w' => e = .returned (.bool true) ∧ Below w.heap.size w w' := by
  have Hl : Hid (l.length = n) := hl
  have H0 : Hid (∀ (i : Nat) x, l[i]? = some x → w.cell? ⟨b0, o0 + i * 4, none⟩ = some (.int .i64 x.o) ∧ w.cell? ⟨b0, o0 + i * 4 + 1, none⟩ = some (.int .i64 x.a) ∧ w.cell? ⟨b0, o0 + i * 4 + 2, none⟩ = some (.int .i64 x.b) ∧ w.cell? ⟨b0, o0 + i * 4 + 3, none⟩ = some (.int .i64 x.c)) := hc0
  have H1 : Hid (∀ (i : Nat) x, l[i]? = some x → w.cell? ⟨b1, o1 + i * 4, none⟩ = some (.int .i64 x.o) ∧ w.cell? ⟨b1, o1 + i * 4 + 1, none⟩ = some (.int .i64 x.a) ∧ w.cell? ⟨b1, o1 + i * 4 + 2, none⟩ = some (.int .i64 x.b) ∧ w.cell? ⟨b1, o1 + i * 4 + 3, none⟩ = some (.int .i64 x.c)) := hc1
  clear hl hc0 hc1
  have hn2 : (n : Int) ≤ 4398046511104 := by omega
  go_enter Tryz.func27, Tryz.ntmps27
  go_wp2_with fail
  go_loopw [5] (fun i wr => ∃ k : Nat, k ≤ n ∧ i = .int .i64 k ∧ Below w.heap.size w wr) (fun i _ => n - (intOf i).toNat)
  case atStart => exact ⟨0, Nat.zero_le _, rfl, Below.refl _ _⟩
  case round =>
    obtain ⟨k, hk, rfl, hb⟩ := hrel
    by_cases hkn : k < n
    · obtain ⟨x, hx⟩ : ∃ x, l[k]? = some x := ⟨_, List.getElem?_eq_getElem (by rw [Hl.out]; exact hkn)⟩
      obtain ⟨c0, c1, c2, c3⟩ := H0.out k x hx
      obtain ⟨c4, c5, c6, c7⟩ := H1.out k x hx
      have d0 := (hb.cell (p := ⟨b0, o0 + k * 4, none⟩) hb0).trans c0
      have d1 := (hb.cell (p := ⟨b0, o0 + k * 4 + 1, none⟩) hb0).trans c1
      have d2 := (hb.cell (p := ⟨b0, o0 + k * 4 + 2, none⟩) hb0).trans c2
      have d3 := (hb.cell (p := ⟨b0, o0 + k * 4 + 3, none⟩) hb0).trans c3
      have d4 := (hb.cell (p := ⟨b1, o1 + k * 4, none⟩) hb1).trans c4
      have d5 := (hb.cell (p := ⟨b1, o1 + k * 4 + 1, none⟩) hb1).trans c5
      have d6 := (hb.cell (p := ⟨b1, o1 + k * 4 + 2, none⟩) hb1).trans c6
      have d7 := (hb.cell (p := ⟨b1, o1 + k * 4 + 3, none⟩) hb1).trans c7
      clear c0 c1 c2 c3 c4 c5 c6 c7 hx
      have i1 : (0 : Int) ≤ (k : Int) := by omega
      have i2 : (k : Int) < (n : Int) := by omega
      go_wp2_with fail
      go_quiet (fail)
      go_wp2
      go_roundw
      case rel => exact ⟨k + 1, by omega, by go_num, below_drewN hb _⟩
      case measure => simp [intOf]; omega
    · go_wp2
      go_ret
      exact ⟨rfl, hb⟩

theorem same_any {w : World} {v0 v1 : Value} {l : List Ins} (h0 : Sees w v0 l) (h1 : Sees w v1 l) :
    Calls Tryz.prog 27 #[v0, v1] w fun e w' => e = .returned (.bool true) ∧ Below w.heap.size w w' := by
  have key : ∀ {v : Value}, Sees w v l → (l = [] ∧ ∃ ao cap, v = .slice ao 0 cap) ∨ ∃ b off cap, v = .slice (some ⟨b, off, none⟩) l.length cap ∧ b < w.heap.size ∧ ∀ (i : Nat) x, l[i]? = some x →
      w.cell? ⟨b, off + i * 4, none⟩ = some (.int .i64 x.o) ∧ w.cell? ⟨b, off + i * 4 + 1, none⟩ = some (.int .i64 x.a) ∧ w.cell? ⟨b, off + i * 4 + 2, none⟩ = some (.int .i64 x.b) ∧ w.cell? ⟨b, off + i * 4 + 3, none⟩ = some (.int .i64 x.c) := fun h => h.2
  by_cases hl : l = []
  · have kk : ∀ {v : Value}, Sees w v l → ∃ ao cap, v = .slice ao 0 cap := fun h => by
      rcases key h with ⟨-, h⟩ | ⟨b, off, cap, rfl, -⟩
      · exact h
      · exact ⟨some ⟨b, off, none⟩, cap, by rw [hl]; rfl⟩
    obtain ⟨a0, c0, rfl⟩ := kk h0
    obtain ⟨a1, c1, rfl⟩ := kk h1
    exact same_none a0 a1 c0 c1 w
  · rcases key h0 with ⟨h, -⟩ | ⟨b0, o0, c0, rfl, hb0, hc0⟩
    · exact absurd h hl
    · rcases key h1 with ⟨h, -⟩ | ⟨b1, o1, c1, rfl, hb1, hc1⟩
      · exact absurd h hl
      · exact same_some b0 o0 b1 o1 c0 c1 l.length l rfl h0.1 w hb0 hb1 hc0 hc1

end Go.Proofs.YtbhbacphiinpeaaGreat

/- What 'below' and 'mayBe' answer. -/
namespace Go.Proofs.YtbhbacphiinpeaaGreat
open Go.RowKit

set_option maxHeartbeats 400000 in
theorem below_any (n m : Int) (w : World) :
    Calls Tryz.prog 102 #[.int .i64 n, .int .i64 m] w fun e w' => e = .returned (.bool (bel n m)) ∧ w' = w := by
  by_cases h0 : 0 ≤ n
  · by_cases h1 : n < m
    · go_enter Tryz.func102, Tryz.ntmps102
      go_wp2
      go_ret
      exact ⟨by simp [bel, h0, h1], rfl⟩
    · go_enter Tryz.func102, Tryz.ntmps102
      go_wp2
      go_ret
      exact ⟨by simp [bel, h0, h1], rfl⟩
  · have h2 : decide (0 ≤ n) = false := by simpa using h0
    go_enter Tryz.func102, Tryz.ntmps102
    go_wp2
    go_ret
    exact ⟨by simp [bel, h2], rfl⟩

set_option maxHeartbeats 400000 in
theorem mayBe_0 (a b c n : Int) (w : World) :
    Calls Tryz.prog 82 #[.agg #[.int .i64 0, .int .i64 a, .int .i64 b, .int .i64 c], .int .i64 n] w fun e w' => e = .returned (.bool (okB n ⟨0, a, b, c⟩)) ∧ w' = w.alloc (.cells #[.int .i64 0, .int .i64 a, .int .i64 b, .int .i64 c] 92) := by
  have hok : okB n ⟨0, a, b, c⟩ = (a == 0 && b == 0 && c == 0) := by simp [okB]
  rw [hok]
  clear hok
  go_enter Tryz.func82, Tryz.ntmps82
  go_wp2_with (go_at_call 102; refine (below_any _ _ _).mono ?_; rintro e w' ⟨rfl, rfl⟩)
  all_goals (go_ret; refine ⟨by simp [*], ?_⟩; first | rfl | simp [*])

set_option maxHeartbeats 400000 in
theorem mayBe_1 (a b c n : Int) (w : World) :
    Calls Tryz.prog 82 #[.agg #[.int .i64 1, .int .i64 a, .int .i64 b, .int .i64 c], .int .i64 n] w fun e w' => e = .returned (.bool (okB n ⟨1, a, b, c⟩)) ∧ w' = w.alloc (.cells #[.int .i64 1, .int .i64 a, .int .i64 b, .int .i64 c] 92) := by
  have hok : okB n ⟨1, a, b, c⟩ = (bel a 4 && bel b 256 && c == 0) := by simp [okB]
  rw [hok]
  clear hok
  go_enter Tryz.func82, Tryz.ntmps82
  go_wp2_with (go_at_call 102; refine (below_any _ _ _).mono ?_; rintro e w' ⟨rfl, rfl⟩)
  all_goals (go_ret; refine ⟨by simp [*], ?_⟩; first | rfl | simp [*])

set_option maxHeartbeats 400000 in
theorem mayBe_2 (a b c n : Int) (w : World) :
    Calls Tryz.prog 82 #[.agg #[.int .i64 2, .int .i64 a, .int .i64 b, .int .i64 c], .int .i64 n] w fun e w' => e = .returned (.bool (okB n ⟨2, a, b, c⟩)) ∧ w' = w.alloc (.cells #[.int .i64 2, .int .i64 a, .int .i64 b, .int .i64 c] 92) := by
  have hok : okB n ⟨2, a, b, c⟩ = (bel a 4 && bel b 4 && bel c 4) := by simp [okB]
  rw [hok]
  clear hok
  go_enter Tryz.func82, Tryz.ntmps82
  go_wp2_with (go_at_call 102; refine (below_any _ _ _).mono ?_; rintro e w' ⟨rfl, rfl⟩)
  all_goals (go_ret; refine ⟨by simp [*], ?_⟩; first | rfl | simp [*])

set_option maxHeartbeats 400000 in
theorem mayBe_3 (a b c n : Int) (w : World) :
    Calls Tryz.prog 82 #[.agg #[.int .i64 3, .int .i64 a, .int .i64 b, .int .i64 c], .int .i64 n] w fun e w' => e = .returned (.bool (okB n ⟨3, a, b, c⟩)) ∧ w' = w.alloc (.cells #[.int .i64 3, .int .i64 a, .int .i64 b, .int .i64 c] 92) := by
  have hok : okB n ⟨3, a, b, c⟩ = (bel a 4 && bel b 4 && bel c 4) := by simp [okB]
  rw [hok]
  clear hok
  go_enter Tryz.func82, Tryz.ntmps82
  go_wp2_with (go_at_call 102; refine (below_any _ _ _).mono ?_; rintro e w' ⟨rfl, rfl⟩)
  all_goals (go_ret; refine ⟨by simp [*], ?_⟩; first | rfl | simp [*])

set_option maxHeartbeats 400000 in
theorem mayBe_4 (a b c n : Int) (w : World) :
    Calls Tryz.prog 82 #[.agg #[.int .i64 4, .int .i64 a, .int .i64 b, .int .i64 c], .int .i64 n] w fun e w' => e = .returned (.bool (okB n ⟨4, a, b, c⟩)) ∧ w' = w.alloc (.cells #[.int .i64 4, .int .i64 a, .int .i64 b, .int .i64 c] 92) := by
  have hok : okB n ⟨4, a, b, c⟩ = (bel a 4 && bel b 4 && bel c 4) := by simp [okB]
  rw [hok]
  clear hok
  go_enter Tryz.func82, Tryz.ntmps82
  go_wp2_with (go_at_call 102; refine (below_any _ _ _).mono ?_; rintro e w' ⟨rfl, rfl⟩)
  all_goals (go_ret; refine ⟨by simp [*], ?_⟩; first | rfl | simp [*])

set_option maxHeartbeats 400000 in
theorem mayBe_5 (a b c n : Int) (w : World) :
    Calls Tryz.prog 82 #[.agg #[.int .i64 5, .int .i64 a, .int .i64 b, .int .i64 c], .int .i64 n] w fun e w' => e = .returned (.bool (okB n ⟨5, a, b, c⟩)) ∧ w' = w.alloc (.cells #[.int .i64 5, .int .i64 a, .int .i64 b, .int .i64 c] 92) := by
  have hok : okB n ⟨5, a, b, c⟩ = (bel a 4 && bel b 4 && bel c 4) := by simp [okB]
  rw [hok]
  clear hok
  go_enter Tryz.func82, Tryz.ntmps82
  go_wp2_with (go_at_call 102; refine (below_any _ _ _).mono ?_; rintro e w' ⟨rfl, rfl⟩)
  all_goals (go_ret; refine ⟨by simp [*], ?_⟩; first | rfl | simp [*])

set_option maxHeartbeats 400000 in
theorem mayBe_6 (a b c n : Int) (w : World) :
    Calls Tryz.prog 82 #[.agg #[.int .i64 6, .int .i64 a, .int .i64 b, .int .i64 c], .int .i64 n] w fun e w' => e = .returned (.bool (okB n ⟨6, a, b, c⟩)) ∧ w' = w.alloc (.cells #[.int .i64 6, .int .i64 a, .int .i64 b, .int .i64 c] 92) := by
  have hok : okB n ⟨6, a, b, c⟩ = (bel a 4 && bel b 4 && bel c 4) := by simp [okB]
  rw [hok]
  clear hok
  go_enter Tryz.func82, Tryz.ntmps82
  go_wp2_with (go_at_call 102; refine (below_any _ _ _).mono ?_; rintro e w' ⟨rfl, rfl⟩)
  all_goals (go_ret; refine ⟨by simp [*], ?_⟩; first | rfl | simp [*])

set_option maxHeartbeats 400000 in
theorem mayBe_7 (a b c n : Int) (w : World) :
    Calls Tryz.prog 82 #[.agg #[.int .i64 7, .int .i64 a, .int .i64 b, .int .i64 c], .int .i64 n] w fun e w' => e = .returned (.bool (okB n ⟨7, a, b, c⟩)) ∧ w' = w.alloc (.cells #[.int .i64 7, .int .i64 a, .int .i64 b, .int .i64 c] 92) := by
  have hok : okB n ⟨7, a, b, c⟩ = (bel a 4 && bel b 4 && bel c 4) := by simp [okB]
  rw [hok]
  clear hok
  go_enter Tryz.func82, Tryz.ntmps82
  go_wp2_with (go_at_call 102; refine (below_any _ _ _).mono ?_; rintro e w' ⟨rfl, rfl⟩)
  all_goals (go_ret; refine ⟨by simp [*], ?_⟩; first | rfl | simp [*])

set_option maxHeartbeats 400000 in
theorem mayBe_8 (a b c n : Int) (w : World) :
    Calls Tryz.prog 82 #[.agg #[.int .i64 8, .int .i64 a, .int .i64 b, .int .i64 c], .int .i64 n] w fun e w' => e = .returned (.bool (okB n ⟨8, a, b, c⟩)) ∧ w' = w.alloc (.cells #[.int .i64 8, .int .i64 a, .int .i64 b, .int .i64 c] 92) := by
  have hok : okB n ⟨8, a, b, c⟩ = (bel a 4 && b == 0 && c == 0) := by simp [okB]
  rw [hok]
  clear hok
  go_enter Tryz.func82, Tryz.ntmps82
  go_wp2_with (go_at_call 102; refine (below_any _ _ _).mono ?_; rintro e w' ⟨rfl, rfl⟩)
  all_goals (go_ret; refine ⟨by simp [*], ?_⟩; first | rfl | simp [*])

set_option maxHeartbeats 400000 in
theorem mayBe_9 (a b c n : Int) (w : World) :
    Calls Tryz.prog 82 #[.agg #[.int .i64 9, .int .i64 a, .int .i64 b, .int .i64 c], .int .i64 n] w fun e w' => e = .returned (.bool (okB n ⟨9, a, b, c⟩)) ∧ w' = w.alloc (.cells #[.int .i64 9, .int .i64 a, .int .i64 b, .int .i64 c] 92) := by
  have hok : okB n ⟨9, a, b, c⟩ = (bel a 4 && bel b 4 && bel c 32) := by simp [okB]
  rw [hok]
  clear hok
  go_enter Tryz.func82, Tryz.ntmps82
  go_wp2_with (go_at_call 102; refine (below_any _ _ _).mono ?_; rintro e w' ⟨rfl, rfl⟩)
  all_goals (go_ret; refine ⟨by simp [*], ?_⟩; first | rfl | simp [*])

set_option maxHeartbeats 400000 in
theorem mayBe_10 (a b c n : Int) (w : World) :
    Calls Tryz.prog 82 #[.agg #[.int .i64 10, .int .i64 a, .int .i64 b, .int .i64 c], .int .i64 n] w fun e w' => e = .returned (.bool (okB n ⟨10, a, b, c⟩)) ∧ w' = w.alloc (.cells #[.int .i64 10, .int .i64 a, .int .i64 b, .int .i64 c] 92) := by
  have hok : okB n ⟨10, a, b, c⟩ = (bel a 4 && bel b 4 && bel c 32) := by simp [okB]
  rw [hok]
  clear hok
  go_enter Tryz.func82, Tryz.ntmps82
  go_wp2_with (go_at_call 102; refine (below_any _ _ _).mono ?_; rintro e w' ⟨rfl, rfl⟩)
  all_goals (go_ret; refine ⟨by simp [*], ?_⟩; first | rfl | simp [*])

set_option maxHeartbeats 400000 in
theorem mayBe_11 (a b c n : Int) (w : World) :
    Calls Tryz.prog 82 #[.agg #[.int .i64 11, .int .i64 a, .int .i64 b, .int .i64 c], .int .i64 n] w fun e w' => e = .returned (.bool (okB n ⟨11, a, b, c⟩)) ∧ w' = w.alloc (.cells #[.int .i64 11, .int .i64 a, .int .i64 b, .int .i64 c] 92) := by
  have hok : okB n ⟨11, a, b, c⟩ = (bel a 4 && bel b 4 && bel c 32) := by simp [okB]
  rw [hok]
  clear hok
  go_enter Tryz.func82, Tryz.ntmps82
  go_wp2_with (go_at_call 102; refine (below_any _ _ _).mono ?_; rintro e w' ⟨rfl, rfl⟩)
  all_goals (go_ret; refine ⟨by simp [*], ?_⟩; first | rfl | simp [*])

set_option maxHeartbeats 400000 in
theorem mayBe_12 (a b c n : Int) (w : World) :
    Calls Tryz.prog 82 #[.agg #[.int .i64 12, .int .i64 a, .int .i64 b, .int .i64 c], .int .i64 n] w fun e w' => e = .returned (.bool (okB n ⟨12, a, b, c⟩)) ∧ w' = w.alloc (.cells #[.int .i64 12, .int .i64 a, .int .i64 b, .int .i64 c] 92) := by
  have hok : okB n ⟨12, a, b, c⟩ = (a == 0 && bel b n && c == 0) := by simp [okB]
  rw [hok]
  clear hok
  go_enter Tryz.func82, Tryz.ntmps82
  go_wp2_with (go_at_call 102; refine (below_any _ _ _).mono ?_; rintro e w' ⟨rfl, rfl⟩)
  all_goals (go_ret; refine ⟨by simp [*], ?_⟩; first | rfl | simp [*])

set_option maxHeartbeats 400000 in
theorem mayBe_13 (a b c n : Int) (w : World) :
    Calls Tryz.prog 82 #[.agg #[.int .i64 13, .int .i64 a, .int .i64 b, .int .i64 c], .int .i64 n] w fun e w' => e = .returned (.bool (okB n ⟨13, a, b, c⟩)) ∧ w' = w.alloc (.cells #[.int .i64 13, .int .i64 a, .int .i64 b, .int .i64 c] 92) := by
  have hok : okB n ⟨13, a, b, c⟩ = (bel a 4 && bel b n && c == 0) := by simp [okB]
  rw [hok]
  clear hok
  go_enter Tryz.func82, Tryz.ntmps82
  go_wp2_with (go_at_call 102; refine (below_any _ _ _).mono ?_; rintro e w' ⟨rfl, rfl⟩)
  all_goals (go_ret; refine ⟨by simp [*], ?_⟩; first | rfl | simp [*])

set_option maxHeartbeats 400000 in
theorem mayBe_14 (a b c n : Int) (w : World) :
    Calls Tryz.prog 82 #[.agg #[.int .i64 14, .int .i64 a, .int .i64 b, .int .i64 c], .int .i64 n] w fun e w' => e = .returned (.bool (okB n ⟨14, a, b, c⟩)) ∧ w' = w.alloc (.cells #[.int .i64 14, .int .i64 a, .int .i64 b, .int .i64 c] 92) := by
  have hok : okB n ⟨14, a, b, c⟩ = (a == 0 && b == 0 && c == 0) := by simp [okB]
  rw [hok]
  clear hok
  go_enter Tryz.func82, Tryz.ntmps82
  go_wp2_with (go_at_call 102; refine (below_any _ _ _).mono ?_; rintro e w' ⟨rfl, rfl⟩)
  all_goals (go_ret; refine ⟨by simp [*], ?_⟩; first | rfl | simp [*])

set_option maxHeartbeats 400000 in
theorem mayBe_no (o a b c n : Int) (h : o < 0 ∨ 14 < o) (w : World) :
    Calls Tryz.prog 82 #[.agg #[.int .i64 o, .int .i64 a, .int .i64 b, .int .i64 c], .int .i64 n] w fun e w' => e = .returned (.bool (okB n ⟨o, a, b, c⟩)) ∧ w' = w.alloc (.cells #[.int .i64 o, .int .i64 a, .int .i64 b, .int .i64 c] 92) := by
  have hok : okB n ⟨o, a, b, c⟩ = false := by
    unfold okB
    rw [if_neg (by dsimp only; omega), if_neg (by dsimp only; omega), if_neg (by dsimp only; omega), if_neg (by dsimp only; omega), if_neg (by dsimp only; omega), if_neg (by dsimp only; omega), if_neg (by dsimp only; omega)]
  rw [hok]
  clear hok
  rcases h with h | h
  all_goals
    go_enter Tryz.func82, Tryz.ntmps82
    go_wp2
    go_ret
    exact ⟨rfl, rfl⟩

theorem mayBe_any (x : Ins) (n : Int) (w : World) :
    Calls Tryz.prog 82 #[.agg #[.int .i64 x.o, .int .i64 x.a, .int .i64 x.b, .int .i64 x.c], .int .i64 n] w fun e w' => e = .returned (.bool (okB n x)) ∧ w' = w.alloc (.cells #[.int .i64 x.o, .int .i64 x.a, .int .i64 x.b, .int .i64 x.c] 92) := by
  obtain ⟨o, a, b, c⟩ := x
  by_cases h : o < 0 ∨ 14 < o
  · exact mayBe_no o a b c n h w
  · have hc : o = 0 ∨ o = 1 ∨ o = 2 ∨ o = 3 ∨ o = 4 ∨ o = 5 ∨ o = 6 ∨ o = 7 ∨ o = 8 ∨ o = 9 ∨ o = 10 ∨ o = 11 ∨ o = 12 ∨ o = 13 ∨ o = 14 := by omega
    rcases hc with rfl | rfl | rfl | rfl | rfl | rfl | rfl | rfl | rfl | rfl | rfl | rfl | rfl | rfl | rfl
    · exact mayBe_0 a b c n w
    · exact mayBe_1 a b c n w
    · exact mayBe_2 a b c n w
    · exact mayBe_3 a b c n w
    · exact mayBe_4 a b c n w
    · exact mayBe_5 a b c n w
    · exact mayBe_6 a b c n w
    · exact mayBe_7 a b c n w
    · exact mayBe_8 a b c n w
    · exact mayBe_9 a b c n w
    · exact mayBe_10 a b c n w
    · exact mayBe_11 a b c n w
    · exact mayBe_12 a b c n w
    · exact mayBe_13 a b c n w
    · exact mayBe_14 a b c n w

end Go.Proofs.YtbhbacphiinpeaaGreat

/- What 'check' answers. -/
namespace Go.Proofs.YtbhbacphiinpeaaGreat
open Go.RowKit

set_option maxHeartbeats 400000 in
theorem check_size0 (ao : Option Addr) (n cap : Nat) (h : n < 1 ∨ 40 < n) (hn : n ≤ 4398046511104) (w : World) :
    Calls Tryz.prog 66 #[.slice ao n cap] w fun e w' => e = .returned (.tuple #[.int .i64 1, .int .i64 0]) ∧ w' = w := by
  rcases h with h | h
  · go_enter Tryz.func66, Tryz.ntmps66
    go_wp2
    go_ret2
    exact ⟨rfl, rfl⟩
  · have g : decide ((n : Int) < 1) = false := by simp; omega
    go_enter Tryz.func66, Tryz.ntmps66
    go_wp2
    go_ret2
    exact ⟨rfl, rfl⟩

set_option maxHeartbeats 400000 in
theorem check_loop (b off n cap : Nat) (l : List Ins) (hl : l.length = n) (h1 : 1 ≤ n) (h2 : n ≤ 40) (w : World) (hlt : b < w.heap.size)
    (hc : ∀ (i : Nat) x, l[i]? = some x → w.cell? ⟨b, off + i * 4, none⟩ = some (.int .i64 x.o) ∧ w.cell? ⟨b, off + i * 4 + 1, none⟩ = some (.int .i64 x.a) ∧ w.cell? ⟨b, off + i * 4 + 2, none⟩ = some (.int .i64 x.b) ∧ w.cell? ⟨b, off + i * 4 + 3, none⟩ = some (.int .i64 x.c)) :
    Calls Tryz.prog 66 #[.slice (some ⟨b, off, none⟩) n cap] w fun e w' => e = .returned (.tuple #[.int .i64 (chk l).1, .int .i64 (chk l).2]) ∧ Below w.heap.size w w' := by
  have Hl : Hid (l.length = n) := hl
  clear hl
  have g1 : decide ((n : Int) < 1) = false := by simp; omega
  have g2 : decide ((40 : Int) < (n : Int)) = false := by simp; omega
  go_enter Tryz.func66, Tryz.ntmps66
  go_wp2
  go_loopw [18] (fun i wr => ∃ k : Nat, k ≤ n ∧ i = .int .i64 k ∧ (∀ (j : Nat) y, j < k → l[j]? = some y → okB n y = true) ∧ Below w.heap.size w wr) (fun i _ => n - (intOf i).toNat)
  case atStart => exact ⟨0, Nat.zero_le _, rfl, fun j y hj => by omega, Below.refl _ _⟩
  case round =>
    obtain ⟨k, hk, rfl, hall, hb⟩ := hrel
    have Hall : Hid (∀ (j : Nat) y, j < k → l[j]? = some y → okB n y = true) := hall
    clear hall
    by_cases hkn : k < n
    · obtain ⟨x, hx⟩ : ∃ x, l[k]? = some x := ⟨_, List.getElem?_eq_getElem (by rw [Hl.out]; exact hkn)⟩
      obtain ⟨c0, c1, c2, c3⟩ := hc k x hx
      have d0 := (hb.cell (p := ⟨b, off + k * 4, none⟩) hlt).trans c0
      have d1 := (hb.cell (p := ⟨b, off + k * 4 + 1, none⟩) hlt).trans c1
      have d2 := (hb.cell (p := ⟨b, off + k * 4 + 2, none⟩) hlt).trans c2
      have d3 := (hb.cell (p := ⟨b, off + k * 4 + 3, none⟩) hlt).trans c3
      have Hx : Hid (l[k]? = some x) := hx
      have Hc : Hid (∀ (i : Nat) x, l[i]? = some x → w.cell? ⟨b, off + i * 4, none⟩ = some (.int .i64 x.o) ∧ w.cell? ⟨b, off + i * 4 + 1, none⟩ = some (.int .i64 x.a) ∧ w.cell? ⟨b, off + i * 4 + 2, none⟩ = some (.int .i64 x.b) ∧ w.cell? ⟨b, off + i * 4 + 3, none⟩ = some (.int .i64 x.c)) := hc
      clear c0 c1 c2 c3 hc hx
      cases hok : okB n x
      · go_wp2_with (go_at_call 82; refine (mayBe_any x _ _).mono ?_; rintro e w' ⟨rfl, rfl⟩)
        go_ret2
        refine ⟨?_, ?_⟩
        · rw [chk_bad (by rw [Hl.out]; exact h1) (by rw [Hl.out]; exact h2) Hx.out (by rw [Hl.out]; exact hok) (by rw [Hl.out]; exact Hall.out)]; rfl
        · exact (hb.alloc hb.size _).alloc (by have := hb.size; simp; omega) _
      · go_wp2_with (go_at_call 82; refine (mayBe_any x _ _).mono ?_; rintro e w' ⟨rfl, rfl⟩)
        go_roundw
        case rel =>
          refine ⟨k + 1, by omega, by go_num, fun j y hj hy => ?_, ?_⟩
          · by_cases hjk : j < k
            · exact Hall.out j y hjk hy
            · have : j = k := by omega
              subst this
              have e := Hx.out.symm.trans hy
              cases e
              exact hok
          · exact (hb.alloc hb.size _).alloc (by have := hb.size; simp; omega) _
        case measure => simp [intOf]; omega
    · have hkn' : k = n := by omega
      subst hkn'
      obtain ⟨x, hx⟩ : ∃ x, l[k - 1]? = some x := ⟨_, List.getElem?_eq_getElem (by rw [Hl.out]; omega)⟩
      obtain ⟨c0, -⟩ := hc (k - 1) x hx
      have d0 := (hb.cell (p := ⟨b, off + (k - 1) * 4, none⟩) hlt).trans c0
      have Hx : Hid (l[k - 1]? = some x) := hx
      clear hc hx c0
      have Hk : Hid (∀ (j : Nat) y, l[j]? = some y → okB l.length y = true) := by
        rw [Hl.out]
        intro j y hy
        exact Hall.out j y (by have := (List.getElem?_eq_some_iff.1 hy).1; rw [Hl.out] at this; exact this) hy
      have Hx2 : Hid (l[l.length - 1]? = some x) := by rw [Hl.out]; exact Hx.out
      by_cases e0 : x.o = 0
      · have t0 : (x.o != 0) = false := by rw [e0]; rfl
        have E0 : Hid (x.o = 0) := e0
        clear e0
        go_wp2
        go_ret2
        refine ⟨?_, hb⟩
        rw [chk_ok (by rw [Hl.out]; exact h1) (by rw [Hl.out]; exact h2) Hk.out Hx2.out (.inl E0.out)]; rfl
      · have t0 : (x.o != 0) = true := by simpa using e0
        by_cases e1 : x.o = 12
        · have t1 : (x.o != 12) = false := by rw [e1]; rfl
          have E1 : Hid (x.o = 12) := e1
          clear e1 e0
          go_wp2
          go_ret2
          refine ⟨?_, hb⟩
          rw [chk_ok (by rw [Hl.out]; exact h1) (by rw [Hl.out]; exact h2) Hk.out Hx2.out (.inr E1.out)]; rfl
        · have t1 : (x.o != 12) = true := by simpa using e1
          go_wp2
          go_ret2
          refine ⟨?_, hb⟩
          rw [chk_flow (by rw [Hl.out]; exact h1) (by rw [Hl.out]; exact h2) Hk.out Hx2.out e0 e1, Hl.out]; rfl

/-- For whatever list of instructions the slice reads as. -/
theorem check_any {w : World} {v : Value} {l : List Ins} (h : Sees w v l) :
    Calls Tryz.prog 66 #[v] w fun e w' => e = .returned (.tuple #[.int .i64 (chk l).1, .int .i64 (chk l).2]) ∧ Below w.heap.size w w' := by
  obtain ⟨hm, h⟩ := h
  rcases h with ⟨rfl, ao, cap, rfl⟩ | ⟨b, off, cap, rfl, hlt, hc⟩
  · refine (check_size0 ao 0 cap (.inl (by omega)) (by omega) w).mono ?_
    rintro e w' ⟨rfl, rfl⟩
    exact ⟨by rw [chk_size (by simp)], Below.refl _ _⟩
  · by_cases hs : l.length < 1 ∨ 40 < l.length
    · refine (check_size0 _ l.length cap hs hm w).mono ?_
      rintro e w' ⟨rfl, rfl⟩
      exact ⟨by rw [chk_size hs], Below.refl _ _⟩
    · exact check_loop b off l.length cap l rfl (by omega) (by omega) w hlt hc

end Go.Proofs.YtbhbacphiinpeaaGreat

/- The bytes of a kernel: plain facts; nothing of the program is in this text. -/
namespace Go.Proofs.YtbhbacphiinpeaaGreat
open Go.RowKit

def Ins.nums (x : Ins) : List Int := [x.o, x.a, x.b, x.c]
def nums (l : List Ins) : List Int := l.flatMap Ins.nums
def encR (l : List Ins) : ByteArray := if (chk l).1 = 0 then strOfNums (nums l) else ⟨#[]⟩

theorem nums_length (l : List Ins) : (nums l).length = 4 * l.length := by
  induction l with
  | nil => rfl
  | cons x l ih => simp only [nums, List.flatMap_cons, List.length_append, List.length_cons] at ih ⊢; rw [ih]; simp [Ins.nums]; omega

theorem nums_snoc {l : List Ins} {k : Nat} {x : Ins} (h : l[k]? = some x) : nums (l.take (k + 1)) = nums (l.take k) ++ x.nums := by
  have hk : k < l.length := (List.getElem?_eq_some_iff.1 h).1
  have e : l[k] = x := by rw [List.getElem?_eq_getElem hk] at h; exact Option.some.inj h
  rw [List.take_succ_eq_append_getElem hk, e]
  simp [nums]

theorem bel_bd {n m : Int} (h : bel n m = true) : 0 ≤ n ∧ n < m := by simpa [bel] using h

theorem okB_bd {n : Int} {x : Ins} (hn : n ≤ 40) (h : okB n x = true) : (0 ≤ x.o ∧ x.o ≤ 255) ∧ (0 ≤ x.a ∧ x.a ≤ 255) ∧ (0 ≤ x.b ∧ x.b ≤ 255) ∧ (0 ≤ x.c ∧ x.c ≤ 255) := by
  unfold okB at h
  split at h
  · simp only [Bool.and_eq_true, beq_iff_eq] at h; omega
  split at h
  · simp only [Bool.and_eq_true, beq_iff_eq] at h
    have := bel_bd h.1.1; have := bel_bd h.1.2; omega
  split at h
  · simp only [Bool.and_eq_true] at h
    have := bel_bd h.1.1; have := bel_bd h.1.2; have := bel_bd h.2; omega
  split at h
  · simp only [Bool.and_eq_true, beq_iff_eq] at h
    have := bel_bd h.1.1; omega
  split at h
  · simp only [Bool.and_eq_true] at h
    have := bel_bd h.1.1; have := bel_bd h.1.2; have := bel_bd h.2; omega
  split at h
  · simp only [Bool.and_eq_true, beq_iff_eq] at h
    have := bel_bd h.1.2; omega
  split at h
  · simp only [Bool.and_eq_true, beq_iff_eq] at h
    have := bel_bd h.1.1; have := bel_bd h.1.2; omega
  · cases h

/-- What a right kernel is. -/
theorem chk_zero {l : List Ins} (h : (chk l).1 = 0) : chk l = (0, 0) ∧ 1 ≤ l.length ∧ l.length ≤ 40 ∧ ∀ (j : Nat) y, l[j]? = some y → okB l.length y = true := by
  unfold chk at h ⊢
  by_cases hs : l.length < 1 ∨ 40 < l.length
  · rw [if_pos hs] at h; simp at h
  · rw [if_neg hs] at h ⊢
    cases hb : badAt l.length l with
    | some i => rw [hb] at h; simp at h
    | none =>
      rw [hb] at h
      refine ⟨?_, by omega, by omega, ?_⟩
      · dsimp only at h ⊢
        by_cases hf : lastOp l ≠ 0 ∧ lastOp l ≠ 12
        · rw [if_pos hf] at h; simp at h
        · rw [if_neg hf]
      · intro j y hy
        unfold badAt at hb
        rw [List.findIdx?_eq_none_iff] at hb
        have := hb y (List.mem_of_getElem? hy)
        simpa using this

/-- What an image is refused with, and the kernel that it is the image of. -/
def dchk (s : ByteArray) : Int × Int := if s.size % 4 ≠ 0 ∨ 160 < s.size then (1, 0) else chk (unp s (s.size / 4))
def decL (s : ByteArray) : List Ins := if (dchk s).1 = 0 then unp s (s.size / 4) else []

end Go.Proofs.YtbhbacphiinpeaaGreat

/- A kernel that is being made, as plain lists; and how it lies in memory; nothing of the program is in this text. -/
namespace Go.Proofs.YtbhbacphiinpeaaGreat
open Go.RowKit

structure Blk where
  at0 : Nat
  loop : Bool
  sides : Bool

structure St where
  k : List Ins
  op : List Blk
  lp : Bool
  al : Bool

def St.put (s : St) (x : Ins) : St := { s with k := s.k ++ [x] }
def St.opn (s : St) (b : Blk) : St := { s with op := s.op ++ [b] }
def St.names (s : St) (r : Int) : St := s.put (if s.al then ⟨1, r, 3, 0⟩ else ⟨8, r, 0, 0⟩)
def St.enters (s : St) (loop : Bool) : St :=
  if loop && !s.lp then ((({ s with lp := true } : St).names 3).opn ⟨s.k.length + 1, true, false⟩).put ⟨13, 3, 0, 0⟩
  else (s.opn ⟨s.k.length, false, true⟩).put ⟨13, 1, 0, 0⟩
def St.aim (s : St) (i : Nat) : St := { s with k := s.k.modify i fun x => { x with b := (s.k.length : Int) } }
def St.ends (s : St) (b : Blk) : St := if b.loop then ((s.put ⟨1, 1, 1, 0⟩).put ⟨3, 3, 3, 1⟩).put ⟨12, 0, b.at0, 0⟩ else s
def St.other (s : St) (b : Blk) (second : Bool) : St :=
  if second && b.sides && !b.loop then (s.put ⟨12, 0, 0, 0⟩).opn ⟨s.k.length, false, false⟩ else s
def St.close (s : St) (second : Bool) : St := match s.op.getLast? with
  | none => s
  | some b => (((({ s with op := s.op.dropLast } : St).ends b).other b second)).aim b.at0

def Blk.vals (b : Blk) : List Value := [.int .i64 b.at0, .bool b.loop, .bool b.sides]
def flatB (l : List Blk) : List Value := l.flatMap Blk.vals

theorem flatB_length (l : List Blk) : (flatB l).length = l.length * 3 := by
  induction l with
  | nil => rfl
  | cons x l ih => simp only [flatB, List.flatMap_cons, List.length_append, List.length_cons] at ih ⊢; rw [ih]; simp [Blk.vals]; omega

theorem flatB_append (l m : List Blk) : flatB (l ++ m) = flatB l ++ flatB m := by simp [flatB]
theorem flatB_one (x : Blk) : flatB [x] = x.vals := by simp [flatB]
theorem oneCell_valsB (x : Blk) : ∀ u ∈ x.vals, u.oneCell' = true := by
  intro u hu
  simp only [Blk.vals, List.mem_cons, List.not_mem_nil, or_false] at hu
  rcases hu with rfl | rfl | rfl <;> rfl

theorem oneCell_vals (x : Ins) : ∀ u ∈ x.vals, u.oneCell' = true := by
  intro u hu
  simp only [Ins.vals, List.mem_cons, List.not_mem_nil, or_false] at hu
  rcases hu with rfl | rfl | rfl | rfl <;> rfl

theorem blk_cells {w : World} {B : Nat} {a b c d : Value} {t : TypeId} (h : w.heap[B]? = some (.cells #[a, b, c, d] t)) :
    w.cell? ⟨B, 0, none⟩ = some a ∧ w.cell? ⟨B, 1, none⟩ = some b ∧ w.cell? ⟨B, 2, none⟩ = some c ∧ w.cell? ⟨B, 3, none⟩ = some d ∧
    (w.frozen? ⟨B, 0, none⟩ = false ∧ w.frozen? ⟨B, 1, none⟩ = false ∧ w.frozen? ⟨B, 2, none⟩ = false ∧ w.frozen? ⟨B, 3, none⟩ = false) :=
  ⟨by rw [cell_of_row w B 0 _ t _ h]; rfl, by rw [cell_of_row w B 1 _ t _ h]; rfl, by rw [cell_of_row w B 2 _ t _ h]; rfl, by rw [cell_of_row w B 3 _ t _ h]; rfl,
   frozen_of_row w B 0 _ t h, frozen_of_row w B 1 _ t h, frozen_of_row w B 2 _ t h, frozen_of_row w B 3 _ t h⟩

theorem blk_lt {w : World} {B : Nat} {o : Obj} (h : w.heap[B]? = some o) : B < w.heap.size := (Array.getElem?_eq_some_iff.1 h).1

/-- Two rows of different element types are two rows. -/
theorem rows_apart {w : World} {base base' : Nat} {e e' : TypeId} {s s' : Nat} {v v' : Value} {n n' : Nat} {xs xs' : List Value} (h : w.ownsRow base e s v n xs) (h' : w.ownsRow base' e' s' v' n' xs') (hne : e ≠ e') : v.ownBlock = none ∨ v.ownBlock ≠ v'.ownBlock := by
  rcases h.2 with ⟨rfl, -⟩ | ⟨g, cap, cur, rfl, -, hg, -⟩
  · exact .inl rfl
  · right
    rcases h'.2 with ⟨rfl, -⟩ | ⟨g', cap', cur', rfl, -, hg', -⟩
    · simp [Value.ownBlock]
    · intro e0
      simp only [Value.ownBlock, Option.some.injEq] at e0
      subst e0
      rw [hg] at hg'
      simp only [Option.some.injEq, Obj.cells.injEq] at hg'
      exact hne hg'.2.1

/-- What is owned stays owned while a cell of another block is written. -/
theorem owns_setCell {w : World} {base : Nat} {e : TypeId} {size : Nat} {v : Value} {n : Nat} {xs : List Value} (h : w.ownsRow base e size v n xs) {a : Addr} (ha : ∀ g, v.ownBlock = some g → g ≠ a.block) (u : Value) : (w.setCell a u).ownsRow base e size v n xs := by
  obtain ⟨h1, h2⟩ := h
  refine ⟨h1, ?_⟩
  rcases h2 with h2 | ⟨g, cap, cur, hv, hg, hh, r⟩
  · exact Or.inl h2
  · exact Or.inr ⟨g, cap, cur, hv, hg, by rw [Below.heap_setCell _ _ _ _ (ha g (by rw [hv]; rfl))]; exact hh, r⟩

theorem owns_ne {w : World} {base : Nat} {e : TypeId} {size : Nat} {v : Value} {n : Nat} {xs : List Value} (h : w.ownsRow base e size v n xs) {B : Nat} (hB : B < base) : some B ≠ v.ownBlock ∧ ∀ g, v.ownBlock = some g → g ≠ B := by
  refine ⟨fun e0 => ?_, fun g hg => ?_⟩
  · have := (h.lt B e0.symm).1; omega
  · have := (h.lt g hg).1; omega

end Go.Proofs.YtbhbacphiinpeaaGreat

