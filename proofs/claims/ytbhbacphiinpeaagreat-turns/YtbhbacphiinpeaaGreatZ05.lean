/- RA RB RE: joined. -/
import Derived.Test.YtbhbacphiinpeaaGreatRows
import Derived.Test.YtbhbacphiinpeaaGreatZ01
import Derived.BigGuardPart
import Derived.Test.YtbhbacphiinpeaaGreatZ03
import Derived.Test.YtbhbacphiinpeaaGreatZ02
import Derived.Deep.RegionHeld3

/- What the document's 'reg' and 'fits' answer. -/
namespace Go.Proofs.YtbhbacphiinpeaaGreat
open Go.RowKit

set_option maxHeartbeats 400000 in
theorem reg_any (n : Int) (w : World) :
    Calls Tryz.prog 83 #[.int .i64 n] w fun e w' => e = .returned (.bool (bel n 4)) ∧ w' = w := by
  by_cases h0 : 0 ≤ n
  · by_cases h1 : n < 4
    · go_enter Tryz.func83, Tryz.ntmps83
      go_wp2
      go_ret
      exact ⟨by simp [bel, h0, h1], rfl⟩
    · go_enter Tryz.func83, Tryz.ntmps83
      go_wp2
      go_ret
      exact ⟨by simp [bel, h0, h1], rfl⟩
  · have h2 : decide (0 ≤ n) = false := by simpa using h0
    go_enter Tryz.func83, Tryz.ntmps83
    go_wp2
    go_ret
    exact ⟨by simp [bel, h2], rfl⟩

set_option maxHeartbeats 400000 in
theorem fits_0 (a b c n : Int) (w : World) :
    Calls Tryz.prog 67 #[.agg #[.int .i64 0, .int .i64 a, .int .i64 b, .int .i64 c], .int .i64 n] w fun e w' => e = .returned (.bool (okB n ⟨0, a, b, c⟩)) ∧ w' = w.alloc (.cells #[.int .i64 0, .int .i64 a, .int .i64 b, .int .i64 c] 92) := by
  have hok : okB n ⟨0, a, b, c⟩ = (a == 0 && b == 0 && c == 0) := by simp [okB]
  rw [hok]
  clear hok
  go_enter Tryz.func67, Tryz.ntmps67
  go_wp2_with (go_at_call 83; refine (reg_any _ _).mono ?_; rintro e w' ⟨rfl, rfl⟩)
  all_goals (go_ret; refine ⟨?_, ?_⟩)
  all_goals first | rfl | (simp [*, bel]; done) | (simp_all [bel]; done) | (simp_all [bel]; omega)

set_option maxHeartbeats 400000 in
theorem fits_1 (a b c n : Int) (w : World) :
    Calls Tryz.prog 67 #[.agg #[.int .i64 1, .int .i64 a, .int .i64 b, .int .i64 c], .int .i64 n] w fun e w' => e = .returned (.bool (okB n ⟨1, a, b, c⟩)) ∧ w' = w.alloc (.cells #[.int .i64 1, .int .i64 a, .int .i64 b, .int .i64 c] 92) := by
  have hok : okB n ⟨1, a, b, c⟩ = (bel a 4 && bel b 256 && c == 0) := by simp [okB]
  rw [hok]
  clear hok
  go_enter Tryz.func67, Tryz.ntmps67
  go_wp2_with (go_at_call 83; refine (reg_any _ _).mono ?_; rintro e w' ⟨rfl, rfl⟩)
  all_goals (go_ret; refine ⟨?_, ?_⟩)
  all_goals first | rfl | (simp [*, bel]; done) | (simp_all [bel]; done) | (simp_all [bel]; omega)

set_option maxHeartbeats 400000 in
theorem fits_2 (a b c n : Int) (w : World) :
    Calls Tryz.prog 67 #[.agg #[.int .i64 2, .int .i64 a, .int .i64 b, .int .i64 c], .int .i64 n] w fun e w' => e = .returned (.bool (okB n ⟨2, a, b, c⟩)) ∧ w' = w.alloc (.cells #[.int .i64 2, .int .i64 a, .int .i64 b, .int .i64 c] 92) := by
  have hok : okB n ⟨2, a, b, c⟩ = (bel a 4 && bel b 4 && bel c 4) := by simp [okB]
  rw [hok]
  clear hok
  go_enter Tryz.func67, Tryz.ntmps67
  go_wp2_with (go_at_call 83; refine (reg_any _ _).mono ?_; rintro e w' ⟨rfl, rfl⟩)
  all_goals (go_ret; refine ⟨?_, ?_⟩)
  all_goals first | rfl | (simp [*, bel]; done) | (simp_all [bel]; done) | (simp_all [bel]; omega)

set_option maxHeartbeats 400000 in
theorem fits_3 (a b c n : Int) (w : World) :
    Calls Tryz.prog 67 #[.agg #[.int .i64 3, .int .i64 a, .int .i64 b, .int .i64 c], .int .i64 n] w fun e w' => e = .returned (.bool (okB n ⟨3, a, b, c⟩)) ∧ w' = w.alloc (.cells #[.int .i64 3, .int .i64 a, .int .i64 b, .int .i64 c] 92) := by
  have hok : okB n ⟨3, a, b, c⟩ = (bel a 4 && bel b 4 && bel c 4) := by simp [okB]
  rw [hok]
  clear hok
  go_enter Tryz.func67, Tryz.ntmps67
  go_wp2_with (go_at_call 83; refine (reg_any _ _).mono ?_; rintro e w' ⟨rfl, rfl⟩)
  all_goals (go_ret; refine ⟨?_, ?_⟩)
  all_goals first | rfl | (simp [*, bel]; done) | (simp_all [bel]; done) | (simp_all [bel]; omega)

set_option maxHeartbeats 400000 in
theorem fits_4 (a b c n : Int) (w : World) :
    Calls Tryz.prog 67 #[.agg #[.int .i64 4, .int .i64 a, .int .i64 b, .int .i64 c], .int .i64 n] w fun e w' => e = .returned (.bool (okB n ⟨4, a, b, c⟩)) ∧ w' = w.alloc (.cells #[.int .i64 4, .int .i64 a, .int .i64 b, .int .i64 c] 92) := by
  have hok : okB n ⟨4, a, b, c⟩ = (bel a 4 && bel b 4 && bel c 4) := by simp [okB]
  rw [hok]
  clear hok
  go_enter Tryz.func67, Tryz.ntmps67
  go_wp2_with (go_at_call 83; refine (reg_any _ _).mono ?_; rintro e w' ⟨rfl, rfl⟩)
  all_goals (go_ret; refine ⟨?_, ?_⟩)
  all_goals first | rfl | (simp [*, bel]; done) | (simp_all [bel]; done) | (simp_all [bel]; omega)

set_option maxHeartbeats 400000 in
theorem fits_5 (a b c n : Int) (w : World) :
    Calls Tryz.prog 67 #[.agg #[.int .i64 5, .int .i64 a, .int .i64 b, .int .i64 c], .int .i64 n] w fun e w' => e = .returned (.bool (okB n ⟨5, a, b, c⟩)) ∧ w' = w.alloc (.cells #[.int .i64 5, .int .i64 a, .int .i64 b, .int .i64 c] 92) := by
  have hok : okB n ⟨5, a, b, c⟩ = (bel a 4 && bel b 4 && bel c 4) := by simp [okB]
  rw [hok]
  clear hok
  go_enter Tryz.func67, Tryz.ntmps67
  go_wp2_with (go_at_call 83; refine (reg_any _ _).mono ?_; rintro e w' ⟨rfl, rfl⟩)
  all_goals (go_ret; refine ⟨?_, ?_⟩)
  all_goals first | rfl | (simp [*, bel]; done) | (simp_all [bel]; done) | (simp_all [bel]; omega)

set_option maxHeartbeats 400000 in
theorem fits_6 (a b c n : Int) (w : World) :
    Calls Tryz.prog 67 #[.agg #[.int .i64 6, .int .i64 a, .int .i64 b, .int .i64 c], .int .i64 n] w fun e w' => e = .returned (.bool (okB n ⟨6, a, b, c⟩)) ∧ w' = w.alloc (.cells #[.int .i64 6, .int .i64 a, .int .i64 b, .int .i64 c] 92) := by
  have hok : okB n ⟨6, a, b, c⟩ = (bel a 4 && bel b 4 && bel c 4) := by simp [okB]
  rw [hok]
  clear hok
  go_enter Tryz.func67, Tryz.ntmps67
  go_wp2_with (go_at_call 83; refine (reg_any _ _).mono ?_; rintro e w' ⟨rfl, rfl⟩)
  all_goals (go_ret; refine ⟨?_, ?_⟩)
  all_goals first | rfl | (simp [*, bel]; done) | (simp_all [bel]; done) | (simp_all [bel]; omega)

set_option maxHeartbeats 400000 in
theorem fits_7 (a b c n : Int) (w : World) :
    Calls Tryz.prog 67 #[.agg #[.int .i64 7, .int .i64 a, .int .i64 b, .int .i64 c], .int .i64 n] w fun e w' => e = .returned (.bool (okB n ⟨7, a, b, c⟩)) ∧ w' = w.alloc (.cells #[.int .i64 7, .int .i64 a, .int .i64 b, .int .i64 c] 92) := by
  have hok : okB n ⟨7, a, b, c⟩ = (bel a 4 && bel b 4 && bel c 4) := by simp [okB]
  rw [hok]
  clear hok
  go_enter Tryz.func67, Tryz.ntmps67
  go_wp2_with (go_at_call 83; refine (reg_any _ _).mono ?_; rintro e w' ⟨rfl, rfl⟩)
  all_goals (go_ret; refine ⟨?_, ?_⟩)
  all_goals first | rfl | (simp [*, bel]; done) | (simp_all [bel]; done) | (simp_all [bel]; omega)

set_option maxHeartbeats 400000 in
theorem fits_8 (a b c n : Int) (w : World) :
    Calls Tryz.prog 67 #[.agg #[.int .i64 8, .int .i64 a, .int .i64 b, .int .i64 c], .int .i64 n] w fun e w' => e = .returned (.bool (okB n ⟨8, a, b, c⟩)) ∧ w' = w.alloc (.cells #[.int .i64 8, .int .i64 a, .int .i64 b, .int .i64 c] 92) := by
  have hok : okB n ⟨8, a, b, c⟩ = (bel a 4 && b == 0 && c == 0) := by simp [okB]
  rw [hok]
  clear hok
  go_enter Tryz.func67, Tryz.ntmps67
  go_wp2_with (go_at_call 83; refine (reg_any _ _).mono ?_; rintro e w' ⟨rfl, rfl⟩)
  all_goals (go_ret; refine ⟨?_, ?_⟩)
  all_goals first | rfl | (simp [*, bel]; done) | (simp_all [bel]; done) | (simp_all [bel]; omega)

set_option maxHeartbeats 400000 in
theorem fits_9 (a b c n : Int) (w : World) :
    Calls Tryz.prog 67 #[.agg #[.int .i64 9, .int .i64 a, .int .i64 b, .int .i64 c], .int .i64 n] w fun e w' => e = .returned (.bool (okB n ⟨9, a, b, c⟩)) ∧ w' = w.alloc (.cells #[.int .i64 9, .int .i64 a, .int .i64 b, .int .i64 c] 92) := by
  have hok : okB n ⟨9, a, b, c⟩ = (bel a 4 && bel b 4 && bel c 32) := by simp [okB]
  rw [hok]
  clear hok
  go_enter Tryz.func67, Tryz.ntmps67
  go_wp2_with (go_at_call 83; refine (reg_any _ _).mono ?_; rintro e w' ⟨rfl, rfl⟩)
  all_goals (go_ret; refine ⟨?_, ?_⟩)
  all_goals first | rfl | (simp [*, bel]; done) | (simp_all [bel]; done) | (simp_all [bel]; omega)

set_option maxHeartbeats 400000 in
theorem fits_10 (a b c n : Int) (w : World) :
    Calls Tryz.prog 67 #[.agg #[.int .i64 10, .int .i64 a, .int .i64 b, .int .i64 c], .int .i64 n] w fun e w' => e = .returned (.bool (okB n ⟨10, a, b, c⟩)) ∧ w' = w.alloc (.cells #[.int .i64 10, .int .i64 a, .int .i64 b, .int .i64 c] 92) := by
  have hok : okB n ⟨10, a, b, c⟩ = (bel a 4 && bel b 4 && bel c 32) := by simp [okB]
  rw [hok]
  clear hok
  go_enter Tryz.func67, Tryz.ntmps67
  go_wp2_with (go_at_call 83; refine (reg_any _ _).mono ?_; rintro e w' ⟨rfl, rfl⟩)
  all_goals (go_ret; refine ⟨?_, ?_⟩)
  all_goals first | rfl | (simp [*, bel]; done) | (simp_all [bel]; done) | (simp_all [bel]; omega)

set_option maxHeartbeats 400000 in
theorem fits_11 (a b c n : Int) (w : World) :
    Calls Tryz.prog 67 #[.agg #[.int .i64 11, .int .i64 a, .int .i64 b, .int .i64 c], .int .i64 n] w fun e w' => e = .returned (.bool (okB n ⟨11, a, b, c⟩)) ∧ w' = w.alloc (.cells #[.int .i64 11, .int .i64 a, .int .i64 b, .int .i64 c] 92) := by
  have hok : okB n ⟨11, a, b, c⟩ = (bel a 4 && bel b 4 && bel c 32) := by simp [okB]
  rw [hok]
  clear hok
  go_enter Tryz.func67, Tryz.ntmps67
  go_wp2_with (go_at_call 83; refine (reg_any _ _).mono ?_; rintro e w' ⟨rfl, rfl⟩)
  all_goals (go_ret; refine ⟨?_, ?_⟩)
  all_goals first | rfl | (simp [*, bel]; done) | (simp_all [bel]; done) | (simp_all [bel]; omega)

set_option maxHeartbeats 400000 in
theorem fits_12 (a b c n : Int) (w : World) :
    Calls Tryz.prog 67 #[.agg #[.int .i64 12, .int .i64 a, .int .i64 b, .int .i64 c], .int .i64 n] w fun e w' => e = .returned (.bool (okB n ⟨12, a, b, c⟩)) ∧ w' = w.alloc (.cells #[.int .i64 12, .int .i64 a, .int .i64 b, .int .i64 c] 92) := by
  have hok : okB n ⟨12, a, b, c⟩ = (a == 0 && bel b n && c == 0) := by simp [okB]
  rw [hok]
  clear hok
  go_enter Tryz.func67, Tryz.ntmps67
  go_wp2_with (go_at_call 83; refine (reg_any _ _).mono ?_; rintro e w' ⟨rfl, rfl⟩)
  all_goals (go_ret; refine ⟨?_, ?_⟩)
  all_goals first | rfl | (simp [*, bel]; done) | (simp_all [bel]; done) | (simp_all [bel]; omega)

set_option maxHeartbeats 400000 in
theorem fits_13 (a b c n : Int) (w : World) :
    Calls Tryz.prog 67 #[.agg #[.int .i64 13, .int .i64 a, .int .i64 b, .int .i64 c], .int .i64 n] w fun e w' => e = .returned (.bool (okB n ⟨13, a, b, c⟩)) ∧ w' = w.alloc (.cells #[.int .i64 13, .int .i64 a, .int .i64 b, .int .i64 c] 92) := by
  have hok : okB n ⟨13, a, b, c⟩ = (bel a 4 && bel b n && c == 0) := by simp [okB]
  rw [hok]
  clear hok
  go_enter Tryz.func67, Tryz.ntmps67
  go_wp2_with (go_at_call 83; refine (reg_any _ _).mono ?_; rintro e w' ⟨rfl, rfl⟩)
  all_goals (go_ret; refine ⟨?_, ?_⟩)
  all_goals first | rfl | (simp [*, bel]; done) | (simp_all [bel]; done) | (simp_all [bel]; omega)

set_option maxHeartbeats 400000 in
theorem fits_14 (a b c n : Int) (w : World) :
    Calls Tryz.prog 67 #[.agg #[.int .i64 14, .int .i64 a, .int .i64 b, .int .i64 c], .int .i64 n] w fun e w' => e = .returned (.bool (okB n ⟨14, a, b, c⟩)) ∧ w' = w.alloc (.cells #[.int .i64 14, .int .i64 a, .int .i64 b, .int .i64 c] 92) := by
  have hok : okB n ⟨14, a, b, c⟩ = (a == 0 && b == 0 && c == 0) := by simp [okB]
  rw [hok]
  clear hok
  go_enter Tryz.func67, Tryz.ntmps67
  go_wp2_with (go_at_call 83; refine (reg_any _ _).mono ?_; rintro e w' ⟨rfl, rfl⟩)
  all_goals (go_ret; refine ⟨?_, ?_⟩)
  all_goals first | rfl | (simp [*, bel]; done) | (simp_all [bel]; done) | (simp_all [bel]; omega)

set_option maxHeartbeats 400000 in
theorem fits_no (o a b c n : Int) (h : o < 0 ∨ 14 < o) (w : World) :
    Calls Tryz.prog 67 #[.agg #[.int .i64 o, .int .i64 a, .int .i64 b, .int .i64 c], .int .i64 n] w fun e w' => e = .returned (.bool (okB n ⟨o, a, b, c⟩)) ∧ w' = w.alloc (.cells #[.int .i64 o, .int .i64 a, .int .i64 b, .int .i64 c] 92) := by
  have hok : okB n ⟨o, a, b, c⟩ = false := by
    unfold okB
    rw [if_neg (by dsimp only; omega), if_neg (by dsimp only; omega), if_neg (by dsimp only; omega), if_neg (by dsimp only; omega), if_neg (by dsimp only; omega), if_neg (by dsimp only; omega), if_neg (by dsimp only; omega)]
  rw [hok]
  clear hok
  rcases h with h | h
  all_goals
    go_enter Tryz.func67, Tryz.ntmps67
    go_wp2_with (go_at_call 83; refine (reg_any _ _).mono ?_; rintro e w' ⟨rfl, rfl⟩)
    go_ret
    exact ⟨rfl, rfl⟩

theorem fits_any (x : Ins) (n : Int) (w : World) :
    Calls Tryz.prog 67 #[.agg #[.int .i64 x.o, .int .i64 x.a, .int .i64 x.b, .int .i64 x.c], .int .i64 n] w fun e w' => e = .returned (.bool (okB n x)) ∧ w' = w.alloc (.cells #[.int .i64 x.o, .int .i64 x.a, .int .i64 x.b, .int .i64 x.c] 92) := by
  obtain ⟨o, a, b, c⟩ := x
  by_cases h : o < 0 ∨ 14 < o
  · exact fits_no o a b c n h w
  · have hc : o = 0 ∨ o = 1 ∨ o = 2 ∨ o = 3 ∨ o = 4 ∨ o = 5 ∨ o = 6 ∨ o = 7 ∨ o = 8 ∨ o = 9 ∨ o = 10 ∨ o = 11 ∨ o = 12 ∨ o = 13 ∨ o = 14 := by omega
    rcases hc with rfl | rfl | rfl | rfl | rfl | rfl | rfl | rfl | rfl | rfl | rfl | rfl | rfl | rfl | rfl
    · exact fits_0 a b c n w
    · exact fits_1 a b c n w
    · exact fits_2 a b c n w
    · exact fits_3 a b c n w
    · exact fits_4 a b c n w
    · exact fits_5 a b c n w
    · exact fits_6 a b c n w
    · exact fits_7 a b c n w
    · exact fits_8 a b c n w
    · exact fits_9 a b c n w
    · exact fits_10 a b c n w
    · exact fits_11 a b c n w
    · exact fits_12 a b c n w
    · exact fits_13 a b c n w
    · exact fits_14 a b c n w

end Go.Proofs.YtbhbacphiinpeaaGreat

/- What the document's 'Check' answers. -/
namespace Go.Proofs.YtbhbacphiinpeaaGreat
open Go.RowKit

set_option maxHeartbeats 400000 in
theorem rcheck_size0 (ao : Option Addr) (n cap : Nat) (h : n < 1 ∨ 40 < n) (hn : n ≤ 4398046511104) (w : World) :
    Calls Tryz.prog 48 #[.slice ao n cap] w fun e w' => e = .returned (.tuple #[.int .i64 1, .int .i64 0]) ∧ w' = w := by
  rcases h with h | h
  · have h0 : n = 0 := by omega
    subst h0
    go_enter Tryz.func48, Tryz.ntmps48
    go_wp2
    go_ret2
    exact ⟨rfl, rfl⟩
  · have g : ((n : Int) == 0) = false := beq_eq_false_iff_ne.2 (by omega)
    go_enter Tryz.func48, Tryz.ntmps48
    go_wp2
    go_ret2
    exact ⟨rfl, rfl⟩

set_option maxHeartbeats 400000 in
theorem rcheck_loop (b off n cap : Nat) (l : List Ins) (hl : l.length = n) (h1 : 1 ≤ n) (h2 : n ≤ 40) (w : World) (hlt : b < w.heap.size)
    (hc : ∀ (i : Nat) x, l[i]? = some x → w.cell? ⟨b, off + i * 4, none⟩ = some (.int .i64 x.o) ∧ w.cell? ⟨b, off + i * 4 + 1, none⟩ = some (.int .i64 x.a) ∧ w.cell? ⟨b, off + i * 4 + 2, none⟩ = some (.int .i64 x.b) ∧ w.cell? ⟨b, off + i * 4 + 3, none⟩ = some (.int .i64 x.c)) :
    Calls Tryz.prog 48 #[.slice (some ⟨b, off, none⟩) n cap] w fun e w' => e = .returned (.tuple #[.int .i64 (chk l).1, .int .i64 (chk l).2]) ∧ Below w.heap.size w w' := by
  have Hl : Hid (l.length = n) := hl
  clear hl
  have g1 : ((n : Int) == 0) = false := beq_eq_false_iff_ne.2 (by omega)
  have g2 : decide ((40 : Int) < (n : Int)) = false := by simp; omega
  go_enter Tryz.func48, Tryz.ntmps48
  go_wp2
  go_loopw [5] (fun i wr => ∃ k : Nat, k ≤ n ∧ i = .int .i64 k ∧ (∀ (j : Nat) y, j < k → l[j]? = some y → okB n y = true) ∧ Below w.heap.size w wr) (fun i _ => n - (intOf i).toNat)
  case atStart => exact ⟨0, Nat.zero_le _, rfl, fun j y hj => by omega, Below.refl _ _⟩
  case round =>
    obtain ⟨k, hk, rfl, hall, hb⟩ := hrel
    have Hall : Hid (∀ (j : Nat) y, j < k → l[j]? = some y → okB n y = true) := hall
    clear hall
    by_cases hkn : k < n
    · obtain ⟨x, hx⟩ : ∃ x, l[k]? = some x := ⟨_, List.getElem?_eq_getElem (by rw [Hl.out]; exact hkn)⟩
      obtain ⟨c0, c1, c2, c3⟩ := hc k x hx
      have d0 := (hb.cell (p := ⟨b, off + k * 4, none⟩) hlt).trans c0
      have d1 := (hb.cell (p := ⟨b, off + k * 4 + 1, none⟩) hlt).trans c1
      have d2 := (hb.cell (p := ⟨b, off + k * 4 + 2, none⟩) hlt).trans c2
      have d3 := (hb.cell (p := ⟨b, off + k * 4 + 3, none⟩) hlt).trans c3
      have Hx : Hid (l[k]? = some x) := hx
      have Hc : Hid (∀ (i : Nat) x, l[i]? = some x → w.cell? ⟨b, off + i * 4, none⟩ = some (.int .i64 x.o) ∧ w.cell? ⟨b, off + i * 4 + 1, none⟩ = some (.int .i64 x.a) ∧ w.cell? ⟨b, off + i * 4 + 2, none⟩ = some (.int .i64 x.b) ∧ w.cell? ⟨b, off + i * 4 + 3, none⟩ = some (.int .i64 x.c)) := hc
      clear c0 c1 c2 c3 hc hx
      cases hok : okB n x
      · go_wp2_with (go_at_call 67; refine (fits_any x _ _).mono ?_; rintro e w' ⟨rfl, rfl⟩)
        go_ret2
        refine ⟨?_, ?_⟩
        · rw [chk_bad (by rw [Hl.out]; exact h1) (by rw [Hl.out]; exact h2) Hx.out (by rw [Hl.out]; exact hok) (by rw [Hl.out]; exact Hall.out)]; rfl
        · exact hb.alloc hb.size _
      · go_wp2_with (go_at_call 67; refine (fits_any x _ _).mono ?_; rintro e w' ⟨rfl, rfl⟩)
        go_roundw
        case rel =>
          refine ⟨k + 1, by omega, by go_num, fun j y hj hy => ?_, ?_⟩
          · by_cases hjk : j < k
            · exact Hall.out j y hjk hy
            · have : j = k := by omega
              subst this
              have e := Hx.out.symm.trans hy
              cases e
              exact hok
          · exact hb.alloc hb.size _
        case measure => simp [intOf]; omega
    · have hkn' : k = n := by omega
      subst hkn'
      obtain ⟨x, hx⟩ : ∃ x, l[k - 1]? = some x := ⟨_, List.getElem?_eq_getElem (by rw [Hl.out]; omega)⟩
      obtain ⟨c0, -⟩ := hc (k - 1) x hx
      have d0 := (hb.cell (p := ⟨b, off + (k - 1) * 4, none⟩) hlt).trans c0
      have Hx : Hid (l[k - 1]? = some x) := hx
      clear hc hx c0
      have Hk : Hid (∀ (j : Nat) y, l[j]? = some y → okB l.length y = true) := by
        rw [Hl.out]
        intro j y hy
        exact Hall.out j y (by have := (List.getElem?_eq_some_iff.1 hy).1; rw [Hl.out] at this; exact this) hy
      have Hx2 : Hid (l[l.length - 1]? = some x) := by rw [Hl.out]; exact Hx.out
      by_cases e0 : x.o = 0
      · have t0 : (x.o != 0) = false := by rw [e0]; rfl
        have E0 : Hid (x.o = 0) := e0
        clear e0
        go_wp2
        go_ret2
        refine ⟨?_, hb⟩
        rw [chk_ok (by rw [Hl.out]; exact h1) (by rw [Hl.out]; exact h2) Hk.out Hx2.out (.inl E0.out)]; rfl
      · have t0 : (x.o != 0) = true := by simpa using e0
        by_cases e1 : x.o = 12
        · have t1 : (x.o != 12) = false := by rw [e1]; rfl
          have E1 : Hid (x.o = 12) := e1
          clear e1 e0
          go_wp2
          go_ret2
          refine ⟨?_, hb⟩
          rw [chk_ok (by rw [Hl.out]; exact h1) (by rw [Hl.out]; exact h2) Hk.out Hx2.out (.inr E1.out)]; rfl
        · have t1 : (x.o != 12) = true := by simpa using e1
          go_wp2
          go_ret2
          refine ⟨?_, hb⟩
          rw [chk_flow (by rw [Hl.out]; exact h1) (by rw [Hl.out]; exact h2) Hk.out Hx2.out e0 e1, Hl.out]; rfl

/-- For whatever list of instructions the slice reads as. -/
theorem rcheck_any {w : World} {v : Value} {l : List Ins} (h : Sees w v l) :
    Calls Tryz.prog 48 #[v] w fun e w' => e = .returned (.tuple #[.int .i64 (chk l).1, .int .i64 (chk l).2]) ∧ Below w.heap.size w w' := by
  obtain ⟨hm, h⟩ := h
  rcases h with ⟨rfl, ao, cap, rfl⟩ | ⟨b, off, cap, rfl, hlt, hc⟩
  · refine (rcheck_size0 ao 0 cap (.inl (by omega)) (by omega) w).mono ?_
    rintro e w' ⟨rfl, rfl⟩
    exact ⟨by rw [chk_size (by simp)], Below.refl _ _⟩
  · by_cases hs : l.length < 1 ∨ 40 < l.length
    · refine (rcheck_size0 _ l.length cap hs hm w).mono ?_
      rintro e w' ⟨rfl, rfl⟩
      exact ⟨by rw [chk_size hs], Below.refl _ _⟩
    · exact rcheck_loop b off l.length cap l rfl (by omega) (by omega) w hlt hc

end Go.Proofs.YtbhbacphiinpeaaGreat

/- What the document's 'Decode' answers. -/
namespace Go.Proofs.YtbhbacphiinpeaaGreat
open Go.RowKit

theorem byt_get (s : ByteArray) (j : Nat) (h : j < s.size) : byt s j = (((s[j]'h).toNat : Nat) : Int) := by
  unfold byt
  have h' : j < s.data.toList.length := by simpa using h
  rw [List.getD_eq_getElem?_getD, List.getElem?_eq_getElem h']
  rfl

theorem byt_bd (s : ByteArray) (j : Nat) : 0 ≤ byt s j ∧ byt s j ≤ 255 := by
  unfold byt
  have := (s.data.toList.getD j 0).toNat_lt
  omega

theorem index_byt (s : ByteArray) (i : Int) (j : Nat) (hj : i = (j : Int)) (h : j < s.size) (w : World) : (Instr.index 9 (.string s) (.int .i64 i)).run Tryz.prog w = .ok (.int .u8 (byt s j)) w := by
  subst hj
  rw [run_index_string (P := Tryz.prog) w 9 s .i64 j Tryz.underlying9, dif_pos ⟨by omega, by omega⟩, byt_get s j h]
  rfl

set_option maxHeartbeats 400000 in
theorem rdecode_size (s : ByteArray) (hm : s.size ≤ 140737488355328) (h : s.size = 0 ∨ s.size % 4 ≠ 0 ∨ 160 < s.size) (w : World) :
    Calls Tryz.prog 26 #[.string s] w fun e w' => e = .returned (.tuple #[.slice none 0 0, .int .i64 1, .int .i64 0]) ∧ w' = w := by
  by_cases h0 : s.size = 0
  · have g0 : ((s.size : Int) == 0) = true := by rw [h0]; rfl
    clear h h0
    go_enter Tryz.func26, Tryz.ntmps26
    go_wp2
    go_ret3
    exact ⟨rfl, rfl⟩
  · have g0 : ((s.size : Int) == 0) = false := beq_eq_false_iff_ne.2 (by omega)
    by_cases h4 : s.size % 4 = 0
    · have g : (((s.size : Int) % 4) != 0) = false := by
        have : (s.size : Int) % 4 = 0 := by omega
        rw [this]; rfl
      have g2 : decide ((160 : Int) < (s.size : Int)) = true := by simp; omega
      have h5 : (160 : Int) < (s.size : Int) := by omega
      clear h h4 h0
      go_enter Tryz.func26, Tryz.ntmps26
      go_wp2
      go_ret3
      exact ⟨rfl, rfl⟩
    · have g : (((s.size : Int) % 4) != 0) = true := by
        have : (s.size : Int) % 4 ≠ 0 := by omega
        simpa using this
      clear h h4 h0
      go_enter Tryz.func26, Tryz.ntmps26
      go_wp2
      go_ret3
      exact ⟨rfl, rfl⟩

set_option maxHeartbeats 2000000 in
set_option maxRecDepth 100000 in
theorem rdecode_fits (s : ByteArray) (n : Nat) (hs : s.size = 4 * n) (hn0 : 1 ≤ n) (hn : n ≤ 40) (w : World) :
    Calls Tryz.prog 26 #[.string s] w fun e w' => ∃ v, e = .returned (.tuple #[v, .int .i64 (chk (unp s n)).1, .int .i64 (chk (unp s n)).2]) ∧ Below w.heap.size w w' ∧
      (((chk (unp s n)).1 = 0 ∧ w'.ownsRow w.heap.size 92 4 v n (flat (unp s n))) ∨ ((chk (unp s n)).1 ≠ 0 ∧ v = .slice none 0 0)) := by
  have g0 : ((s.size : Int) == 0) = false := beq_eq_false_iff_ne.2 (by omega)
  have g : (((s.size : Int) % 4) != 0) = false := by
    have : (s.size : Int) % 4 = 0 := by omega
    rw [this]; rfl
  have g2 : decide ((160 : Int) < (s.size : Int)) = false := by simp; omega
  have g3 : (s.size : Int) ≤ 160 := by omega
  have Hs : Hid (s.size = 4 * n) := hs
  have hs1 : s.size ≤ 4 * n := by omega
  have hs2 : 4 * n ≤ s.size := by omega
  clear hs
  obtain ⟨i0, hi, hz0, hz1, hz2⟩ := info_parts Tryz.info92
  go_enter Tryz.func26, Tryz.ntmps26
  go_wp2_with fail
  go_loopw [5, 6] (fun v i wr => ∃ k : Nat, k ≤ n ∧ i = .int .i64 (4 * k : Nat) ∧ wr.ownsRow w.heap.size 92 4 v k (flat (unp s k)) ∧ Below w.heap.size w wr) (fun _ i _ => 4 * n + 4 - (intOf i).toNat)
  case atStart => exact ⟨0, Nat.zero_le _, rfl, World.ownsRow_nil _ _ _ _, Below.refl _ _⟩
  case round =>
    obtain ⟨k, hk, rfl, hown, hb⟩ := hrel
    by_cases hkn : k < n
    · have q0 : (0 : Int) ≤ 4 * (k : Int) ∧ 4 * (k : Int) < (s.size : Int) := by omega
      have q1 : (0 : Int) ≤ 4 * (k : Int) + 1 ∧ 4 * (k : Int) + 1 < (s.size : Int) := by omega
      have q2 : (0 : Int) ≤ 4 * (k : Int) + 2 ∧ 4 * (k : Int) + 2 < (s.size : Int) := by omega
      have q3 : (0 : Int) ≤ 4 * (k : Int) + 3 ∧ 4 * (k : Int) + 3 < (s.size : Int) := by omega
      have r1 : IntKind.i64.wrap (4 * (k : Int) + 1) = 4 * (k : Int) + 1 := IntWalk.i64_in _ ⟨by omega, by omega⟩
      have r2 : IntKind.i64.wrap (4 * (k : Int) + 2) = 4 * (k : Int) + 2 := IntWalk.i64_in _ ⟨by omega, by omega⟩
      have r3 : IntKind.i64.wrap (4 * (k : Int) + 3) = 4 * (k : Int) + 3 := IntWalk.i64_in _ ⟨by omega, by omega⟩
      have z0 := byt_bd s (4 * k)
      have z1 := byt_bd s (4 * k + 1)
      have z2 := byt_bd s (4 * k + 2)
      have z3 := byt_bd s (4 * k + 3)
      have e0 : ∀ w', (Instr.index 9 (.string s) (.int .i64 (4 * (k : Int)))).run Tryz.prog w' = .ok (.int .u8 (byt s (4 * k))) w' := fun w' => index_byt s _ _ (by omega) (by omega) w'
      have e1 : ∀ w', (Instr.index 9 (.string s) (.int .i64 (4 * (k : Int) + 1))).run Tryz.prog w' = .ok (.int .u8 (byt s (4 * k + 1))) w' := fun w' => index_byt s _ _ (by omega) (by omega) w'
      have e2 : ∀ w', (Instr.index 9 (.string s) (.int .i64 (4 * (k : Int) + 2))).run Tryz.prog w' = .ok (.int .u8 (byt s (4 * k + 2))) w' := fun w' => index_byt s _ _ (by omega) (by omega) w'
      have e3 : ∀ w', (Instr.index 9 (.string s) (.int .i64 (4 * (k : Int) + 3))).run Tryz.prog w' = .ok (.int .u8 (byt s (4 * k + 3))) w' := fun w' => index_byt s _ _ (by omega) (by omega) w'
      have y0 : IntKind.i64.wrap (byt s (4 * k)) = byt s (4 * k) := IntWalk.i64_in _ ⟨by omega, by omega⟩
      have y1 : IntKind.i64.wrap (byt s (4 * k + 1)) = byt s (4 * k + 1) := IntWalk.i64_in _ ⟨by omega, by omega⟩
      have y2 : IntKind.i64.wrap (byt s (4 * k + 2)) = byt s (4 * k + 2) := IntWalk.i64_in _ ⟨by omega, by omega⟩
      have y3 : IntKind.i64.wrap (byt s (4 * k + 3)) = byt s (4 * k + 3) := IntWalk.i64_in _ ⟨by omega, by omega⟩
      clear q0 q1 q2 q3 z0 z1 z2 z3
      have hk4 : (4 * (k : Int)) < (s.size : Int) := by omega
      go_wp2_with fail
      go_region_held3 (fun _ => True) (exact trivial) ((refine step_append_lies _ (by rfl) _ _ _ (by rfl) w.heap.size 92 i0 _ 4 32 Tryz.underlying35 hi hz0 hz1 hz2 rfl (by omega) u5 k (flat (unp s k)) (by rfl) ((hown.alloc _).drew) ⟨wr.heap.size, 0, none⟩ 1 1 (insAt s k).vals (by rfl) (by rfl) (World.news_of_block (t := 92) (fr := (0, 0)) (heap_alloc_new wr _)) (oneCell_vals _) (by omega) (by unfold maxLen; omega) (by omega) (by have := hb.size; simp; omega) (wr.heap.size + 1) (by simp) ?_; intro gg cap w1 hown1 hgrow hat hlt1))
      all_goals
        have hb' : Below w.heap.size w w1 := ((hb.alloc hb.size _).drew).grown hgrow (by have := hb.size; simp; omega) (fun g hg => (hown.lt g hg).1)
        have hown2 : w1.ownsRow w.heap.size 92 4 (.slice (some ⟨gg, 0, none⟩) (k + 1) cap) (k + 1) (flat (unp s (k + 1))) := by rw [unp_succ, flat_append, flat_one]; exact hown1
        clear hgrow hown hown1 hat e0 e1 e2 e3 y0 y1 y2 y3 r1 r2 r3
        go_wp2
        go_roundw
        case rel => exact ⟨k + 1, by omega, by go_num, hown2, hb'⟩
        case measure => simp [intOf]; omega
    · have e : k = n := by omega
      subst e
      have Hown := hyd hown
      have hsee : Hid (Sees wr u5 (unp s k)) := ownsRow_sees (by rw [unp_length]; omega) (by rw [unp_length]; exact hown)
      clear hown
      by_cases he : (chk (unp s k)).1 = 0
      · have hb0 : ((chk (unp s k)).1 != 0) = false := by rw [he]; rfl
        have He : Hid ((chk (unp s k)).1 = 0) := he
        clear he
        have He2 : Hid (chk (unp s k) = (0, 0)) := (chk_zero He.out).1
        go_wp2_with fail
        refine (rcheck_any hsee.out).mono ?_
        rintro e w2 ⟨rfl, hb2⟩
        go_wp2
        go_ret3
        exact ⟨u5, by rw [He2.out]; rfl, hb.trans (hb2.mono hb.size), .inl ⟨He.out, Hown.out.keptB hb2⟩⟩
      · have hb0 : ((chk (unp s k)).1 != 0) = true := by simpa using he
        have He := hyd he
        clear he
        go_wp2_with fail
        refine (rcheck_any hsee.out).mono ?_
        rintro e w2 ⟨rfl, hb2⟩
        go_wp2
        go_ret3
        exact ⟨_, rfl, hb.trans (hb2.mono hb.size), .inr ⟨He.out, rfl⟩⟩

theorem rdecode_any (s : ByteArray) (hm : s.size ≤ 140737488355328) (w : World) :
    Calls Tryz.prog 26 #[.string s] w fun e w' => ∃ v, e = .returned (.tuple #[v, .int .i64 (dchk s).1, .int .i64 (dchk s).2]) ∧ Below w.heap.size w w' ∧
      w'.ownsRow w.heap.size 92 4 v (decL s).length (flat (decL s)) := by
  by_cases h : s.size = 0 ∨ s.size % 4 ≠ 0 ∨ 160 < s.size
  · have e1 : dchk s = (1, 0) := by
      unfold dchk
      by_cases h0 : s.size = 0
      · rw [h0]
        simp [unp, chk]
      · rw [if_pos (by omega)]
    have e2 : decL s = [] := by unfold decL; rw [e1]; simp
    rw [e1, e2]
    refine (rdecode_size s hm h w).mono ?_
    rintro e w' ⟨rfl, rfl⟩
    exact ⟨_, rfl, Below.refl _ _, World.ownsRow_nil _ _ _ _⟩
  · have e1 : dchk s = chk (unp s (s.size / 4)) := by unfold dchk; rw [if_neg (by omega)]
    refine (rdecode_fits s (s.size / 4) (by omega) (by omega) (by omega) w).mono ?_
    rintro e w' ⟨v, rfl, hb, hv⟩
    rw [← e1] at hv ⊢
    refine ⟨v, rfl, hb, ?_⟩
    rcases hv with ⟨h0, hown⟩ | ⟨h0, rfl⟩
    · have e2 : decL s = unp s (s.size / 4) := by unfold decL; rw [if_pos h0]
      rw [e2, unp_length]
      exact hown
    · have e2 : decL s = [] := by unfold decL; rw [if_neg h0]
      rw [e2]
      exact World.ownsRow_nil _ _ _ _

end Go.Proofs.YtbhbacphiinpeaaGreat

