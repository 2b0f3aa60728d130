/- What the document's 'reg' and 'fits' answer. -/
import Derived.Test.YtbhbacphiinpeaaGreatRows
import Derived.Test.YtbhbacphiinpeaaGreatSpec
import Derived.BigGuardPart
namespace Go.Proofs.YtbhbacphiinpeaaGreat
open Go.RowKit

set_option maxHeartbeats 400000 in
theorem reg_any (n : Int) (w : World) :
    Calls Tryz.prog 83 #[.int .i64 n] w fun e w' => e = .returned (.bool (bel n 4)) ∧ w' = w := by
  by_cases h0 : 0 ≤ n
  · by_cases h1 : n < 4
    · go_enter Tryz.func83, Tryz.ntmps83
      go_wp2
      go_ret
      exact ⟨by simp [bel, h0, h1], rfl⟩
    · go_enter Tryz.func83, Tryz.ntmps83
      go_wp2
      go_ret
      exact ⟨by simp [bel, h0, h1], rfl⟩
  · have h2 : decide (0 ≤ n) = false := by simpa using h0
    go_enter Tryz.func83, Tryz.ntmps83
    go_wp2
    go_ret
    exact ⟨by simp [bel, h2], rfl⟩

set_option maxHeartbeats 400000 in
theorem fits_0 (a b c n : Int) (w : World) :
    Calls Tryz.prog 67 #[.agg #[.int .i64 0, .int .i64 a, .int .i64 b, .int .i64 c], .int .i64 n] w fun e w' => e = .returned (.bool (okB n ⟨0, a, b, c⟩)) ∧ w' = w.alloc (.cells #[.int .i64 0, .int .i64 a, .int .i64 b, .int .i64 c] 92) := by
  have hok : okB n ⟨0, a, b, c⟩ = (a == 0 && b == 0 && c == 0) := by simp [okB]
  rw [hok]
  clear hok
  go_enter Tryz.func67, Tryz.ntmps67
  go_wp2_with (go_at_call 83; refine (reg_any _ _).mono ?_; rintro e w' ⟨rfl, rfl⟩)
  all_goals (go_ret; refine ⟨?_, ?_⟩)
  all_goals first | rfl | (simp [*, bel]; done) | (simp_all [bel]; done) | (simp_all [bel]; omega)

set_option maxHeartbeats 400000 in
theorem fits_1 (a b c n : Int) (w : World) :
    Calls Tryz.prog 67 #[.agg #[.int .i64 1, .int .i64 a, .int .i64 b, .int .i64 c], .int .i64 n] w fun e w' => e = .returned (.bool (okB n ⟨1, a, b, c⟩)) ∧ w' = w.alloc (.cells #[.int .i64 1, .int .i64 a, .int .i64 b, .int .i64 c] 92) := by
  have hok : okB n ⟨1, a, b, c⟩ = (bel a 4 && bel b 256 && c == 0) := by simp [okB]
  rw [hok]
  clear hok
  go_enter Tryz.func67, Tryz.ntmps67
  go_wp2_with (go_at_call 83; refine (reg_any _ _).mono ?_; rintro e w' ⟨rfl, rfl⟩)
  all_goals (go_ret; refine ⟨?_, ?_⟩)
  all_goals first | rfl | (simp [*, bel]; done) | (simp_all [bel]; done) | (simp_all [bel]; omega)

set_option maxHeartbeats 400000 in
theorem fits_2 (a b c n : Int) (w : World) :
    Calls Tryz.prog 67 #[.agg #[.int .i64 2, .int .i64 a, .int .i64 b, .int .i64 c], .int .i64 n] w fun e w' => e = .returned (.bool (okB n ⟨2, a, b, c⟩)) ∧ w' = w.alloc (.cells #[.int .i64 2, .int .i64 a, .int .i64 b, .int .i64 c] 92) := by
  have hok : okB n ⟨2, a, b, c⟩ = (bel a 4 && bel b 4 && bel c 4) := by simp [okB]
  rw [hok]
  clear hok
  go_enter Tryz.func67, Tryz.ntmps67
  go_wp2_with (go_at_call 83; refine (reg_any _ _).mono ?_; rintro e w' ⟨rfl, rfl⟩)
  all_goals (go_ret; refine ⟨?_, ?_⟩)
  all_goals first | rfl | (simp [*, bel]; done) | (simp_all [bel]; done) | (simp_all [bel]; omega)

set_option maxHeartbeats 400000 in
theorem fits_3 (a b c n : Int) (w : World) :
    Calls Tryz.prog 67 #[.agg #[.int .i64 3, .int .i64 a, .int .i64 b, .int .i64 c], .int .i64 n] w fun e w' => e = .returned (.bool (okB n ⟨3, a, b, c⟩)) ∧ w' = w.alloc (.cells #[.int .i64 3, .int .i64 a, .int .i64 b, .int .i64 c] 92) := by
  have hok : okB n ⟨3, a, b, c⟩ = (bel a 4 && bel b 4 && bel c 4) := by simp [okB]
  rw [hok]
  clear hok
  go_enter Tryz.func67, Tryz.ntmps67
  go_wp2_with (go_at_call 83; refine (reg_any _ _).mono ?_; rintro e w' ⟨rfl, rfl⟩)
  all_goals (go_ret; refine ⟨?_, ?_⟩)
  all_goals first | rfl | (simp [*, bel]; done) | (simp_all [bel]; done) | (simp_all [bel]; omega)

set_option maxHeartbeats 400000 in
theorem fits_4 (a b c n : Int) (w : World) :
    Calls Tryz.prog 67 #[.agg #[.int .i64 4, .int .i64 a, .int .i64 b, .int .i64 c], .int .i64 n] w fun e w' => e = .returned (.bool (okB n ⟨4, a, b, c⟩)) ∧ w' = w.alloc (.cells #[.int .i64 4, .int .i64 a, .int .i64 b, .int .i64 c] 92) := by
  have hok : okB n ⟨4, a, b, c⟩ = (bel a 4 && bel b 4 && bel c 4) := by simp [okB]
  rw [hok]
  clear hok
  go_enter Tryz.func67, Tryz.ntmps67
  go_wp2_with (go_at_call 83; refine (reg_any _ _).mono ?_; rintro e w' ⟨rfl, rfl⟩)
  all_goals (go_ret; refine ⟨?_, ?_⟩)
  all_goals first | rfl | (simp [*, bel]; done) | (simp_all [bel]; done) | (simp_all [bel]; omega)

set_option maxHeartbeats 400000 in
theorem fits_5 (a b c n : Int) (w : World) :
    Calls Tryz.prog 67 #[.agg #[.int .i64 5, .int .i64 a, .int .i64 b, .int .i64 c], .int .i64 n] w fun e w' => e = .returned (.bool (okB n ⟨5, a, b, c⟩)) ∧ w' = w.alloc (.cells #[.int .i64 5, .int .i64 a, .int .i64 b, .int .i64 c] 92) := by
  have hok : okB n ⟨5, a, b, c⟩ = (bel a 4 && bel b 4 && bel c 4) := by simp [okB]
  rw [hok]
  clear hok
  go_enter Tryz.func67, Tryz.ntmps67
  go_wp2_with (go_at_call 83; refine (reg_any _ _).mono ?_; rintro e w' ⟨rfl, rfl⟩)
  all_goals (go_ret; refine ⟨?_, ?_⟩)
  all_goals first | rfl | (simp [*, bel]; done) | (simp_all [bel]; done) | (simp_all [bel]; omega)

set_option maxHeartbeats 400000 in
theorem fits_6 (a b c n : Int) (w : World) :
    Calls Tryz.prog 67 #[.agg #[.int .i64 6, .int .i64 a, .int .i64 b, .int .i64 c], .int .i64 n] w fun e w' => e = .returned (.bool (okB n ⟨6, a, b, c⟩)) ∧ w' = w.alloc (.cells #[.int .i64 6, .int .i64 a, .int .i64 b, .int .i64 c] 92) := by
  have hok : okB n ⟨6, a, b, c⟩ = (bel a 4 && bel b 4 && bel c 4) := by simp [okB]
  rw [hok]
  clear hok
  go_enter Tryz.func67, Tryz.ntmps67
  go_wp2_with (go_at_call 83; refine (reg_any _ _).mono ?_; rintro e w' ⟨rfl, rfl⟩)
  all_goals (go_ret; refine ⟨?_, ?_⟩)
  all_goals first | rfl | (simp [*, bel]; done) | (simp_all [bel]; done) | (simp_all [bel]; omega)

set_option maxHeartbeats 400000 in
theorem fits_7 (a b c n : Int) (w : World) :
    Calls Tryz.prog 67 #[.agg #[.int .i64 7, .int .i64 a, .int .i64 b, .int .i64 c], .int .i64 n] w fun e w' => e = .returned (.bool (okB n ⟨7, a, b, c⟩)) ∧ w' = w.alloc (.cells #[.int .i64 7, .int .i64 a, .int .i64 b, .int .i64 c] 92) := by
  have hok : okB n ⟨7, a, b, c⟩ = (bel a 4 && bel b 4 && bel c 4) := by simp [okB]
  rw [hok]
  clear hok
  go_enter Tryz.func67, Tryz.ntmps67
  go_wp2_with (go_at_call 83; refine (reg_any _ _).mono ?_; rintro e w' ⟨rfl, rfl⟩)
  all_goals (go_ret; refine ⟨?_, ?_⟩)
  all_goals first | rfl | (simp [*, bel]; done) | (simp_all [bel]; done) | (simp_all [bel]; omega)

set_option maxHeartbeats 400000 in
theorem fits_8 (a b c n : Int) (w : World) :
    Calls Tryz.prog 67 #[.agg #[.int .i64 8, .int .i64 a, .int .i64 b, .int .i64 c], .int .i64 n] w fun e w' => e = .returned (.bool (okB n ⟨8, a, b, c⟩)) ∧ w' = w.alloc (.cells #[.int .i64 8, .int .i64 a, .int .i64 b, .int .i64 c] 92) := by
  have hok : okB n ⟨8, a, b, c⟩ = (bel a 4 && b == 0 && c == 0) := by simp [okB]
  rw [hok]
  clear hok
  go_enter Tryz.func67, Tryz.ntmps67
  go_wp2_with (go_at_call 83; refine (reg_any _ _).mono ?_; rintro e w' ⟨rfl, rfl⟩)
  all_goals (go_ret; refine ⟨?_, ?_⟩)
  all_goals first | rfl | (simp [*, bel]; done) | (simp_all [bel]; done) | (simp_all [bel]; omega)

set_option maxHeartbeats 400000 in
theorem fits_9 (a b c n : Int) (w : World) :
    Calls Tryz.prog 67 #[.agg #[.int .i64 9, .int .i64 a, .int .i64 b, .int .i64 c], .int .i64 n] w fun e w' => e = .returned (.bool (okB n ⟨9, a, b, c⟩)) ∧ w' = w.alloc (.cells #[.int .i64 9, .int .i64 a, .int .i64 b, .int .i64 c] 92) := by
  have hok : okB n ⟨9, a, b, c⟩ = (bel a 4 && bel b 4 && bel c 32) := by simp [okB]
  rw [hok]
  clear hok
  go_enter Tryz.func67, Tryz.ntmps67
  go_wp2_with (go_at_call 83; refine (reg_any _ _).mono ?_; rintro e w' ⟨rfl, rfl⟩)
  all_goals (go_ret; refine ⟨?_, ?_⟩)
  all_goals first | rfl | (simp [*, bel]; done) | (simp_all [bel]; done) | (simp_all [bel]; omega)

set_option maxHeartbeats 400000 in
theorem fits_10 (a b c n : Int) (w : World) :
    Calls Tryz.prog 67 #[.agg #[.int .i64 10, .int .i64 a, .int .i64 b, .int .i64 c], .int .i64 n] w fun e w' => e = .returned (.bool (okB n ⟨10, a, b, c⟩)) ∧ w' = w.alloc (.cells #[.int .i64 10, .int .i64 a, .int .i64 b, .int .i64 c] 92) := by
  have hok : okB n ⟨10, a, b, c⟩ = (bel a 4 && bel b 4 && bel c 32) := by simp [okB]
  rw [hok]
  clear hok
  go_enter Tryz.func67, Tryz.ntmps67
  go_wp2_with (go_at_call 83; refine (reg_any _ _).mono ?_; rintro e w' ⟨rfl, rfl⟩)
  all_goals (go_ret; refine ⟨?_, ?_⟩)
  all_goals first | rfl | (simp [*, bel]; done) | (simp_all [bel]; done) | (simp_all [bel]; omega)

set_option maxHeartbeats 400000 in
theorem fits_11 (a b c n : Int) (w : World) :
    Calls Tryz.prog 67 #[.agg #[.int .i64 11, .int .i64 a, .int .i64 b, .int .i64 c], .int .i64 n] w fun e w' => e = .returned (.bool (okB n ⟨11, a, b, c⟩)) ∧ w' = w.alloc (.cells #[.int .i64 11, .int .i64 a, .int .i64 b, .int .i64 c] 92) := by
  have hok : okB n ⟨11, a, b, c⟩ = (bel a 4 && bel b 4 && bel c 32) := by simp [okB]
  rw [hok]
  clear hok
  go_enter Tryz.func67, Tryz.ntmps67
  go_wp2_with (go_at_call 83; refine (reg_any _ _).mono ?_; rintro e w' ⟨rfl, rfl⟩)
  all_goals (go_ret; refine ⟨?_, ?_⟩)
  all_goals first | rfl | (simp [*, bel]; done) | (simp_all [bel]; done) | (simp_all [bel]; omega)

set_option maxHeartbeats 400000 in
theorem fits_12 (a b c n : Int) (w : World) :
    Calls Tryz.prog 67 #[.agg #[.int .i64 12, .int .i64 a, .int .i64 b, .int .i64 c], .int .i64 n] w fun e w' => e = .returned (.bool (okB n ⟨12, a, b, c⟩)) ∧ w' = w.alloc (.cells #[.int .i64 12, .int .i64 a, .int .i64 b, .int .i64 c] 92) := by
  have hok : okB n ⟨12, a, b, c⟩ = (a == 0 && bel b n && c == 0) := by simp [okB]
  rw [hok]
  clear hok
  go_enter Tryz.func67, Tryz.ntmps67
  go_wp2_with (go_at_call 83; refine (reg_any _ _).mono ?_; rintro e w' ⟨rfl, rfl⟩)
  all_goals (go_ret; refine ⟨?_, ?_⟩)
  all_goals first | rfl | (simp [*, bel]; done) | (simp_all [bel]; done) | (simp_all [bel]; omega)

set_option maxHeartbeats 400000 in
theorem fits_13 (a b c n : Int) (w : World) :
    Calls Tryz.prog 67 #[.agg #[.int .i64 13, .int .i64 a, .int .i64 b, .int .i64 c], .int .i64 n] w fun e w' => e = .returned (.bool (okB n ⟨13, a, b, c⟩)) ∧ w' = w.alloc (.cells #[.int .i64 13, .int .i64 a, .int .i64 b, .int .i64 c] 92) := by
  have hok : okB n ⟨13, a, b, c⟩ = (bel a 4 && bel b n && c == 0) := by simp [okB]
  rw [hok]
  clear hok
  go_enter Tryz.func67, Tryz.ntmps67
  go_wp2_with (go_at_call 83; refine (reg_any _ _).mono ?_; rintro e w' ⟨rfl, rfl⟩)
  all_goals (go_ret; refine ⟨?_, ?_⟩)
  all_goals first | rfl | (simp [*, bel]; done) | (simp_all [bel]; done) | (simp_all [bel]; omega)

set_option maxHeartbeats 400000 in
theorem fits_14 (a b c n : Int) (w : World) :
    Calls Tryz.prog 67 #[.agg #[.int .i64 14, .int .i64 a, .int .i64 b, .int .i64 c], .int .i64 n] w fun e w' => e = .returned (.bool (okB n ⟨14, a, b, c⟩)) ∧ w' = w.alloc (.cells #[.int .i64 14, .int .i64 a, .int .i64 b, .int .i64 c] 92) := by
  have hok : okB n ⟨14, a, b, c⟩ = (a == 0 && b == 0 && c == 0) := by simp [okB]
  rw [hok]
  clear hok
  go_enter Tryz.func67, Tryz.ntmps67
  go_wp2_with (go_at_call 83; refine (reg_any _ _).mono ?_; rintro e w' ⟨rfl, rfl⟩)
  all_goals (go_ret; refine ⟨?_, ?_⟩)
  all_goals first | rfl | (simp [*, bel]; done) | (simp_all [bel]; done) | (simp_all [bel]; omega)

set_option maxHeartbeats 400000 in
theorem fits_no (o a b c n : Int) (h : o < 0 ∨ 14 < o) (w : World) :
    Calls Tryz.prog 67 #[.agg #[.int .i64 o, .int .i64 a, .int .i64 b, .int .i64 c], .int .i64 n] w fun e w' => e = .returned (.bool (okB n ⟨o, a, b, c⟩)) ∧ w' = w.alloc (.cells #[.int .i64 o, .int .i64 a, .int .i64 b, .int .i64 c] 92) := by
  have hok : okB n ⟨o, a, b, c⟩ = false := by
    unfold okB
    rw [if_neg (by dsimp only; omega), if_neg (by dsimp only; omega), if_neg (by dsimp only; omega), if_neg (by dsimp only; omega), if_neg (by dsimp only; omega), if_neg (by dsimp only; omega), if_neg (by dsimp only; omega)]
  rw [hok]
  clear hok
  rcases h with h | h
  all_goals
    go_enter Tryz.func67, Tryz.ntmps67
    go_wp2_with (go_at_call 83; refine (reg_any _ _).mono ?_; rintro e w' ⟨rfl, rfl⟩)
    go_ret
    exact ⟨rfl, rfl⟩

theorem fits_any (x : Ins) (n : Int) (w : World) :
    Calls Tryz.prog 67 #[.agg #[.int .i64 x.o, .int .i64 x.a, .int .i64 x.b, .int .i64 x.c], .int .i64 n] w fun e w' => e = .returned (.bool (okB n x)) ∧ w' = w.alloc (.cells #[.int .i64 x.o, .int .i64 x.a, .int .i64 x.b, .int .i64 x.c] 92) := by
  obtain ⟨o, a, b, c⟩ := x
  by_cases h : o < 0 ∨ 14 < o
  · exact fits_no o a b c n h w
  · have hc : o = 0 ∨ o = 1 ∨ o = 2 ∨ o = 3 ∨ o = 4 ∨ o = 5 ∨ o = 6 ∨ o = 7 ∨ o = 8 ∨ o = 9 ∨ o = 10 ∨ o = 11 ∨ o = 12 ∨ o = 13 ∨ o = 14 := by omega
    rcases hc with rfl | rfl | rfl | rfl | rfl | rfl | rfl | rfl | rfl | rfl | rfl | rfl | rfl | rfl | rfl
    · exact fits_0 a b c n w
    · exact fits_1 a b c n w
    · exact fits_2 a b c n w
    · exact fits_3 a b c n w
    · exact fits_4 a b c n w
    · exact fits_5 a b c n w
    · exact fits_6 a b c n w
    · exact fits_7 a b c n w
    · exact fits_8 a b c n w
    · exact fits_9 a b c n w
    · exact fits_10 a b c n w
    · exact fits_11 a b c n w
    · exact fits_12 a b c n w
    · exact fits_13 a b c n w
    · exact fits_14 a b c n w

end Go.Proofs.YtbhbacphiinpeaaGreat
