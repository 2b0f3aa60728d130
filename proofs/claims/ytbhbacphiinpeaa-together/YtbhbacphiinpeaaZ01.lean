/- Spec A View B Enc: joined. -/
import Derived.WalkKit
import Derived.WalkSpells
import Derived.WalkLawsBesides
import Derived.Test.YtbhbacphiinpeaaRows
import Derived.BigGuardPart

/- The plain functions of instructions, kernels and images by which the contracts of this seat are said; nothing of Go is in this text. -/
namespace Go.Proofs.Ytbhbacphiinpeaa
open Go.RowKit

structure Ins where
  o : Int
  a : Int
  b : Int
  c : Int

def bel (n m : Int) : Bool := decide (0 ≤ n) && decide (n < m)

def okB (n : Int) (x : Ins) : Bool :=
  if x.o = 0 ∨ x.o = 14 then x.a == 0 && x.b == 0 && x.c == 0
  else if x.o = 1 then bel x.a 4 && bel x.b 256 && x.c == 0
  else if 2 ≤ x.o ∧ x.o ≤ 7 then bel x.a 4 && bel x.b 4 && bel x.c 4
  else if x.o = 8 then bel x.a 4 && x.b == 0 && x.c == 0
  else if 9 ≤ x.o ∧ x.o ≤ 11 then bel x.a 4 && bel x.b 4 && bel x.c 32
  else if x.o = 12 then x.a == 0 && bel x.b n && x.c == 0
  else if x.o = 13 then bel x.a 4 && bel x.b n && x.c == 0
  else false

end Go.Proofs.Ytbhbacphiinpeaa

/- What 'below' and 'mayBe' answer. -/
namespace Go.Proofs.Ytbhbacphiinpeaa
open Go.RowKit

set_option maxHeartbeats 400000 in
theorem below_any (n m : Int) (w : World) :
    Calls Try.prog 65 #[.int .i64 n, .int .i64 m] w fun e w' => e = .returned (.bool (bel n m)) ∧ w' = w := by
  by_cases h0 : 0 ≤ n
  · by_cases h1 : n < m
    · go_enter Try.func65, Try.ntmps65
      go_wp2
      go_ret
      exact ⟨by simp [bel, h0, h1], rfl⟩
    · go_enter Try.func65, Try.ntmps65
      go_wp2
      go_ret
      exact ⟨by simp [bel, h0, h1], rfl⟩
  · have h2 : decide (0 ≤ n) = false := by simpa using h0
    go_enter Try.func65, Try.ntmps65
    go_wp2
    go_ret
    exact ⟨by simp [bel, h2], rfl⟩

set_option maxHeartbeats 400000 in
theorem mayBe_0 (a b c n : Int) (w : World) :
    Calls Try.prog 55 #[.agg #[.int .i64 0, .int .i64 a, .int .i64 b, .int .i64 c], .int .i64 n] w fun e w' => e = .returned (.bool (okB n ⟨0, a, b, c⟩)) ∧ w' = w.alloc (.cells #[.int .i64 0, .int .i64 a, .int .i64 b, .int .i64 c] 31) := by
  have hok : okB n ⟨0, a, b, c⟩ = (a == 0 && b == 0 && c == 0) := by simp [okB]
  rw [hok]
  clear hok
  go_enter Try.func55, Try.ntmps55
  go_wp2_with (go_at_call 65; refine (below_any _ _ _).mono ?_; rintro e w' ⟨rfl, rfl⟩)
  all_goals (go_ret; refine ⟨by simp [*], ?_⟩; first | rfl | simp [*])

set_option maxHeartbeats 400000 in
theorem mayBe_1 (a b c n : Int) (w : World) :
    Calls Try.prog 55 #[.agg #[.int .i64 1, .int .i64 a, .int .i64 b, .int .i64 c], .int .i64 n] w fun e w' => e = .returned (.bool (okB n ⟨1, a, b, c⟩)) ∧ w' = w.alloc (.cells #[.int .i64 1, .int .i64 a, .int .i64 b, .int .i64 c] 31) := by
  have hok : okB n ⟨1, a, b, c⟩ = (bel a 4 && bel b 256 && c == 0) := by simp [okB]
  rw [hok]
  clear hok
  go_enter Try.func55, Try.ntmps55
  go_wp2_with (go_at_call 65; refine (below_any _ _ _).mono ?_; rintro e w' ⟨rfl, rfl⟩)
  all_goals (go_ret; refine ⟨by simp [*], ?_⟩; first | rfl | simp [*])

set_option maxHeartbeats 400000 in
theorem mayBe_2 (a b c n : Int) (w : World) :
    Calls Try.prog 55 #[.agg #[.int .i64 2, .int .i64 a, .int .i64 b, .int .i64 c], .int .i64 n] w fun e w' => e = .returned (.bool (okB n ⟨2, a, b, c⟩)) ∧ w' = w.alloc (.cells #[.int .i64 2, .int .i64 a, .int .i64 b, .int .i64 c] 31) := by
  have hok : okB n ⟨2, a, b, c⟩ = (bel a 4 && bel b 4 && bel c 4) := by simp [okB]
  rw [hok]
  clear hok
  go_enter Try.func55, Try.ntmps55
  go_wp2_with (go_at_call 65; refine (below_any _ _ _).mono ?_; rintro e w' ⟨rfl, rfl⟩)
  all_goals (go_ret; refine ⟨by simp [*], ?_⟩; first | rfl | simp [*])

set_option maxHeartbeats 400000 in
theorem mayBe_3 (a b c n : Int) (w : World) :
    Calls Try.prog 55 #[.agg #[.int .i64 3, .int .i64 a, .int .i64 b, .int .i64 c], .int .i64 n] w fun e w' => e = .returned (.bool (okB n ⟨3, a, b, c⟩)) ∧ w' = w.alloc (.cells #[.int .i64 3, .int .i64 a, .int .i64 b, .int .i64 c] 31) := by
  have hok : okB n ⟨3, a, b, c⟩ = (bel a 4 && bel b 4 && bel c 4) := by simp [okB]
  rw [hok]
  clear hok
  go_enter Try.func55, Try.ntmps55
  go_wp2_with (go_at_call 65; refine (below_any _ _ _).mono ?_; rintro e w' ⟨rfl, rfl⟩)
  all_goals (go_ret; refine ⟨by simp [*], ?_⟩; first | rfl | simp [*])

set_option maxHeartbeats 400000 in
theorem mayBe_4 (a b c n : Int) (w : World) :
    Calls Try.prog 55 #[.agg #[.int .i64 4, .int .i64 a, .int .i64 b, .int .i64 c], .int .i64 n] w fun e w' => e = .returned (.bool (okB n ⟨4, a, b, c⟩)) ∧ w' = w.alloc (.cells #[.int .i64 4, .int .i64 a, .int .i64 b, .int .i64 c] 31) := by
  have hok : okB n ⟨4, a, b, c⟩ = (bel a 4 && bel b 4 && bel c 4) := by simp [okB]
  rw [hok]
  clear hok
  go_enter Try.func55, Try.ntmps55
  go_wp2_with (go_at_call 65; refine (below_any _ _ _).mono ?_; rintro e w' ⟨rfl, rfl⟩)
  all_goals (go_ret; refine ⟨by simp [*], ?_⟩; first | rfl | simp [*])

set_option maxHeartbeats 400000 in
theorem mayBe_5 (a b c n : Int) (w : World) :
    Calls Try.prog 55 #[.agg #[.int .i64 5, .int .i64 a, .int .i64 b, .int .i64 c], .int .i64 n] w fun e w' => e = .returned (.bool (okB n ⟨5, a, b, c⟩)) ∧ w' = w.alloc (.cells #[.int .i64 5, .int .i64 a, .int .i64 b, .int .i64 c] 31) := by
  have hok : okB n ⟨5, a, b, c⟩ = (bel a 4 && bel b 4 && bel c 4) := by simp [okB]
  rw [hok]
  clear hok
  go_enter Try.func55, Try.ntmps55
  go_wp2_with (go_at_call 65; refine (below_any _ _ _).mono ?_; rintro e w' ⟨rfl, rfl⟩)
  all_goals (go_ret; refine ⟨by simp [*], ?_⟩; first | rfl | simp [*])

set_option maxHeartbeats 400000 in
theorem mayBe_6 (a b c n : Int) (w : World) :
    Calls Try.prog 55 #[.agg #[.int .i64 6, .int .i64 a, .int .i64 b, .int .i64 c], .int .i64 n] w fun e w' => e = .returned (.bool (okB n ⟨6, a, b, c⟩)) ∧ w' = w.alloc (.cells #[.int .i64 6, .int .i64 a, .int .i64 b, .int .i64 c] 31) := by
  have hok : okB n ⟨6, a, b, c⟩ = (bel a 4 && bel b 4 && bel c 4) := by simp [okB]
  rw [hok]
  clear hok
  go_enter Try.func55, Try.ntmps55
  go_wp2_with (go_at_call 65; refine (below_any _ _ _).mono ?_; rintro e w' ⟨rfl, rfl⟩)
  all_goals (go_ret; refine ⟨by simp [*], ?_⟩; first | rfl | simp [*])

set_option maxHeartbeats 400000 in
theorem mayBe_7 (a b c n : Int) (w : World) :
    Calls Try.prog 55 #[.agg #[.int .i64 7, .int .i64 a, .int .i64 b, .int .i64 c], .int .i64 n] w fun e w' => e = .returned (.bool (okB n ⟨7, a, b, c⟩)) ∧ w' = w.alloc (.cells #[.int .i64 7, .int .i64 a, .int .i64 b, .int .i64 c] 31) := by
  have hok : okB n ⟨7, a, b, c⟩ = (bel a 4 && bel b 4 && bel c 4) := by simp [okB]
  rw [hok]
  clear hok
  go_enter Try.func55, Try.ntmps55
  go_wp2_with (go_at_call 65; refine (below_any _ _ _).mono ?_; rintro e w' ⟨rfl, rfl⟩)
  all_goals (go_ret; refine ⟨by simp [*], ?_⟩; first | rfl | simp [*])

set_option maxHeartbeats 400000 in
theorem mayBe_8 (a b c n : Int) (w : World) :
    Calls Try.prog 55 #[.agg #[.int .i64 8, .int .i64 a, .int .i64 b, .int .i64 c], .int .i64 n] w fun e w' => e = .returned (.bool (okB n ⟨8, a, b, c⟩)) ∧ w' = w.alloc (.cells #[.int .i64 8, .int .i64 a, .int .i64 b, .int .i64 c] 31) := by
  have hok : okB n ⟨8, a, b, c⟩ = (bel a 4 && b == 0 && c == 0) := by simp [okB]
  rw [hok]
  clear hok
  go_enter Try.func55, Try.ntmps55
  go_wp2_with (go_at_call 65; refine (below_any _ _ _).mono ?_; rintro e w' ⟨rfl, rfl⟩)
  all_goals (go_ret; refine ⟨by simp [*], ?_⟩; first | rfl | simp [*])

set_option maxHeartbeats 400000 in
theorem mayBe_9 (a b c n : Int) (w : World) :
    Calls Try.prog 55 #[.agg #[.int .i64 9, .int .i64 a, .int .i64 b, .int .i64 c], .int .i64 n] w fun e w' => e = .returned (.bool (okB n ⟨9, a, b, c⟩)) ∧ w' = w.alloc (.cells #[.int .i64 9, .int .i64 a, .int .i64 b, .int .i64 c] 31) := by
  have hok : okB n ⟨9, a, b, c⟩ = (bel a 4 && bel b 4 && bel c 32) := by simp [okB]
  rw [hok]
  clear hok
  go_enter Try.func55, Try.ntmps55
  go_wp2_with (go_at_call 65; refine (below_any _ _ _).mono ?_; rintro e w' ⟨rfl, rfl⟩)
  all_goals (go_ret; refine ⟨by simp [*], ?_⟩; first | rfl | simp [*])

set_option maxHeartbeats 400000 in
theorem mayBe_10 (a b c n : Int) (w : World) :
    Calls Try.prog 55 #[.agg #[.int .i64 10, .int .i64 a, .int .i64 b, .int .i64 c], .int .i64 n] w fun e w' => e = .returned (.bool (okB n ⟨10, a, b, c⟩)) ∧ w' = w.alloc (.cells #[.int .i64 10, .int .i64 a, .int .i64 b, .int .i64 c] 31) := by
  have hok : okB n ⟨10, a, b, c⟩ = (bel a 4 && bel b 4 && bel c 32) := by simp [okB]
  rw [hok]
  clear hok
  go_enter Try.func55, Try.ntmps55
  go_wp2_with (go_at_call 65; refine (below_any _ _ _).mono ?_; rintro e w' ⟨rfl, rfl⟩)
  all_goals (go_ret; refine ⟨by simp [*], ?_⟩; first | rfl | simp [*])

set_option maxHeartbeats 400000 in
theorem mayBe_11 (a b c n : Int) (w : World) :
    Calls Try.prog 55 #[.agg #[.int .i64 11, .int .i64 a, .int .i64 b, .int .i64 c], .int .i64 n] w fun e w' => e = .returned (.bool (okB n ⟨11, a, b, c⟩)) ∧ w' = w.alloc (.cells #[.int .i64 11, .int .i64 a, .int .i64 b, .int .i64 c] 31) := by
  have hok : okB n ⟨11, a, b, c⟩ = (bel a 4 && bel b 4 && bel c 32) := by simp [okB]
  rw [hok]
  clear hok
  go_enter Try.func55, Try.ntmps55
  go_wp2_with (go_at_call 65; refine (below_any _ _ _).mono ?_; rintro e w' ⟨rfl, rfl⟩)
  all_goals (go_ret; refine ⟨by simp [*], ?_⟩; first | rfl | simp [*])

set_option maxHeartbeats 400000 in
theorem mayBe_12 (a b c n : Int) (w : World) :
    Calls Try.prog 55 #[.agg #[.int .i64 12, .int .i64 a, .int .i64 b, .int .i64 c], .int .i64 n] w fun e w' => e = .returned (.bool (okB n ⟨12, a, b, c⟩)) ∧ w' = w.alloc (.cells #[.int .i64 12, .int .i64 a, .int .i64 b, .int .i64 c] 31) := by
  have hok : okB n ⟨12, a, b, c⟩ = (a == 0 && bel b n && c == 0) := by simp [okB]
  rw [hok]
  clear hok
  go_enter Try.func55, Try.ntmps55
  go_wp2_with (go_at_call 65; refine (below_any _ _ _).mono ?_; rintro e w' ⟨rfl, rfl⟩)
  all_goals (go_ret; refine ⟨by simp [*], ?_⟩; first | rfl | simp [*])

set_option maxHeartbeats 400000 in
theorem mayBe_13 (a b c n : Int) (w : World) :
    Calls Try.prog 55 #[.agg #[.int .i64 13, .int .i64 a, .int .i64 b, .int .i64 c], .int .i64 n] w fun e w' => e = .returned (.bool (okB n ⟨13, a, b, c⟩)) ∧ w' = w.alloc (.cells #[.int .i64 13, .int .i64 a, .int .i64 b, .int .i64 c] 31) := by
  have hok : okB n ⟨13, a, b, c⟩ = (bel a 4 && bel b n && c == 0) := by simp [okB]
  rw [hok]
  clear hok
  go_enter Try.func55, Try.ntmps55
  go_wp2_with (go_at_call 65; refine (below_any _ _ _).mono ?_; rintro e w' ⟨rfl, rfl⟩)
  all_goals (go_ret; refine ⟨by simp [*], ?_⟩; first | rfl | simp [*])

set_option maxHeartbeats 400000 in
theorem mayBe_14 (a b c n : Int) (w : World) :
    Calls Try.prog 55 #[.agg #[.int .i64 14, .int .i64 a, .int .i64 b, .int .i64 c], .int .i64 n] w fun e w' => e = .returned (.bool (okB n ⟨14, a, b, c⟩)) ∧ w' = w.alloc (.cells #[.int .i64 14, .int .i64 a, .int .i64 b, .int .i64 c] 31) := by
  have hok : okB n ⟨14, a, b, c⟩ = (a == 0 && b == 0 && c == 0) := by simp [okB]
  rw [hok]
  clear hok
  go_enter Try.func55, Try.ntmps55
  go_wp2_with (go_at_call 65; refine (below_any _ _ _).mono ?_; rintro e w' ⟨rfl, rfl⟩)
  all_goals (go_ret; refine ⟨by simp [*], ?_⟩; first | rfl | simp [*])

set_option maxHeartbeats 400000 in
theorem mayBe_no (o a b c n : Int) (h : o < 0 ∨ 14 < o) (w : World) :
    Calls Try.prog 55 #[.agg #[.int .i64 o, .int .i64 a, .int .i64 b, .int .i64 c], .int .i64 n] w fun e w' => e = .returned (.bool (okB n ⟨o, a, b, c⟩)) ∧ w' = w.alloc (.cells #[.int .i64 o, .int .i64 a, .int .i64 b, .int .i64 c] 31) := by
  have hok : okB n ⟨o, a, b, c⟩ = false := by
    unfold okB
    rw [if_neg (by dsimp only; omega), if_neg (by dsimp only; omega), if_neg (by dsimp only; omega), if_neg (by dsimp only; omega), if_neg (by dsimp only; omega), if_neg (by dsimp only; omega), if_neg (by dsimp only; omega)]
  rw [hok]
  clear hok
  rcases h with h | h
  all_goals
    go_enter Try.func55, Try.ntmps55
    go_wp2
    go_ret
    exact ⟨rfl, rfl⟩

theorem mayBe_any (x : Ins) (n : Int) (w : World) :
    Calls Try.prog 55 #[.agg #[.int .i64 x.o, .int .i64 x.a, .int .i64 x.b, .int .i64 x.c], .int .i64 n] w fun e w' => e = .returned (.bool (okB n x)) ∧ w' = w.alloc (.cells #[.int .i64 x.o, .int .i64 x.a, .int .i64 x.b, .int .i64 x.c] 31) := by
  obtain ⟨o, a, b, c⟩ := x
  by_cases h : o < 0 ∨ 14 < o
  · exact mayBe_no o a b c n h w
  · have hc : o = 0 ∨ o = 1 ∨ o = 2 ∨ o = 3 ∨ o = 4 ∨ o = 5 ∨ o = 6 ∨ o = 7 ∨ o = 8 ∨ o = 9 ∨ o = 10 ∨ o = 11 ∨ o = 12 ∨ o = 13 ∨ o = 14 := by omega
    rcases hc with rfl | rfl | rfl | rfl | rfl | rfl | rfl | rfl | rfl | rfl | rfl | rfl | rfl | rfl | rfl
    · exact mayBe_0 a b c n w
    · exact mayBe_1 a b c n w
    · exact mayBe_2 a b c n w
    · exact mayBe_3 a b c n w
    · exact mayBe_4 a b c n w
    · exact mayBe_5 a b c n w
    · exact mayBe_6 a b c n w
    · exact mayBe_7 a b c n w
    · exact mayBe_8 a b c n w
    · exact mayBe_9 a b c n w
    · exact mayBe_10 a b c n w
    · exact mayBe_11 a b c n w
    · exact mayBe_12 a b c n w
    · exact mayBe_13 a b c n w
    · exact mayBe_14 a b c n w

end Go.Proofs.Ytbhbacphiinpeaa

/- What a check of a kernel comes to, and how a slice in memory reads as a list of instructions; nothing of the program is in this text. -/
namespace Go.Proofs.Ytbhbacphiinpeaa
open Go.RowKit

def badAt (n : Int) (l : List Ins) : Option Nat := l.findIdx? fun x => !okB n x

def lastOp (l : List Ins) : Int := match l[l.length - 1]? with
  | some x => x.o
  | none => 0

def chk (l : List Ins) : Int × Int :=
  if l.length < 1 ∨ 40 < l.length then (1, 0)
  else match badAt l.length l with
    | some i => (2, i)
    | none => if lastOp l ≠ 0 ∧ lastOp l ≠ 12 then (3, (l.length : Int) - 1) else (0, 0)

theorem chk_size {l : List Ins} (h : l.length < 1 ∨ 40 < l.length) : chk l = (1, 0) := by unfold chk; rw [if_pos h]

theorem badAt_some {n : Int} {l : List Ins} {k : Nat} {x : Ins} (hx : l[k]? = some x) (hb : okB n x = false) (hall : ∀ (j : Nat) y, j < k → l[j]? = some y → okB n y = true) : badAt n l = some k := by
  unfold badAt
  rw [List.findIdx?_eq_some_iff_getElem]
  obtain ⟨hk, rfl⟩ := List.getElem?_eq_some_iff.1 hx
  refine ⟨hk, by simp [hb], fun j hj => ?_⟩
  have := hall j l[j] hj (List.getElem?_eq_getElem (by omega))
  simp [this]

theorem badAt_none {n : Int} {l : List Ins} (hall : ∀ (j : Nat) y, l[j]? = some y → okB n y = true) : badAt n l = none := by
  unfold badAt
  rw [List.findIdx?_eq_none_iff]
  intro x hx
  obtain ⟨j, hj⟩ := List.mem_iff_getElem?.1 hx
  simp [hall j x hj]

theorem chk_bad {l : List Ins} {k : Nat} {x : Ins} (h1 : 1 ≤ l.length) (h2 : l.length ≤ 40) (hx : l[k]? = some x) (hb : okB l.length x = false) (hall : ∀ (j : Nat) y, j < k → l[j]? = some y → okB l.length y = true) : chk l = (2, (k : Int)) := by
  unfold chk
  rw [if_neg (by omega), badAt_some hx hb hall]

theorem chk_flow {l : List Ins} {x : Ins} (h1 : 1 ≤ l.length) (h2 : l.length ≤ 40) (hall : ∀ (j : Nat) y, l[j]? = some y → okB l.length y = true) (hx : l[l.length - 1]? = some x) (h3 : x.o ≠ 0) (h4 : x.o ≠ 12) : chk l = (3, (l.length : Int) - 1) := by
  unfold chk
  rw [if_neg (by omega), badAt_none hall]
  simp [lastOp, hx, h3, h4]

theorem chk_ok {l : List Ins} {x : Ins} (h1 : 1 ≤ l.length) (h2 : l.length ≤ 40) (hall : ∀ (j : Nat) y, l[j]? = some y → okB l.length y = true) (hx : l[l.length - 1]? = some x) (h3 : x.o = 0 ∨ x.o = 12) : chk l = (0, 0) := by
  unfold chk
  rw [if_neg (by omega), badAt_none hall]
  simp only [lastOp, hx]
  rw [if_neg (by omega)]

/-- The slice v, as the world w has it, reads as the instructions l. -/
def Sees (w : World) (v : Value) (l : List Ins) : Prop :=
  l.length ≤ 4398046511104 ∧ ((l = [] ∧ ∃ ao cap, v = .slice ao 0 cap) ∨
    ∃ b off cap, v = .slice (some ⟨b, off, none⟩) l.length cap ∧ b < w.heap.size ∧ ∀ (i : Nat) x, l[i]? = some x →
      w.cell? ⟨b, off + i * 4, none⟩ = some (.int .i64 x.o) ∧ w.cell? ⟨b, off + i * 4 + 1, none⟩ = some (.int .i64 x.a) ∧ w.cell? ⟨b, off + i * 4 + 2, none⟩ = some (.int .i64 x.b) ∧ w.cell? ⟨b, off + i * 4 + 3, none⟩ = some (.int .i64 x.c))

theorem Sees.later {w w' : World} {v : Value} {l : List Ins} {B : Nat} (h : Sees w v l) (hb : Below B w w') (hB : ∀ b off cap n, v = .slice (some ⟨b, off, none⟩) n cap → 0 < n → b < B) : Sees w' v l := by
  refine ⟨h.1, ?_⟩
  rcases h.2 with h0 | ⟨b, off, cap, rfl, hlt, hc⟩
  · exact .inl h0
  · by_cases hn : l.length = 0
    · exact .inl ⟨List.eq_nil_of_length_eq_zero hn, some ⟨b, off, none⟩, cap, by rw [hn]⟩
    · have hbB := hB b off cap l.length rfl (by omega)
      refine .inr ⟨b, off, cap, rfl, Nat.lt_of_lt_of_le hlt hb.size, fun i x hx => ?_⟩
      obtain ⟨c0, c1, c2, c3⟩ := hc i x hx
      exact ⟨(hb.cell hbB).trans c0, (hb.cell hbB).trans c1, (hb.cell hbB).trans c2, (hb.cell hbB).trans c3⟩

/-- The cells of an instruction, and of a list of them. -/
def Ins.vals (x : Ins) : List Value := [.int .i64 x.o, .int .i64 x.a, .int .i64 x.b, .int .i64 x.c]
def flat (l : List Ins) : List Value := l.flatMap Ins.vals

/-- The byte at a place of an image, and its first k instructions. -/
def byt (s : ByteArray) (j : Nat) : Int := ((s.data.toList.getD j 0).toNat : Int)
def insAt (s : ByteArray) (i : Nat) : Ins := ⟨byt s (4 * i), byt s (4 * i + 1), byt s (4 * i + 2), byt s (4 * i + 3)⟩
def unp (s : ByteArray) (k : Nat) : List Ins := (List.range k).map (insAt s)

theorem flat_length (l : List Ins) : (flat l).length = l.length * 4 := by
  induction l with
  | nil => rfl
  | cons x l ih => simp only [flat, List.flatMap_cons, List.length_append, List.length_cons] at ih ⊢; rw [ih]; simp [Ins.vals]; omega

theorem flat_append (l m : List Ins) : flat (l ++ m) = flat l ++ flat m := by simp [flat]

theorem flat_one (x : Ins) : flat [x] = x.vals := by simp [flat]

theorem unp_length (s : ByteArray) (k : Nat) : (unp s k).length = k := by simp [unp]

theorem unp_succ (s : ByteArray) (k : Nat) : unp s (k + 1) = unp s k ++ [insAt s k] := by simp [unp, List.range_succ]

theorem flat_at {l : List Ins} {i : Nat} {x : Ins} (h : l[i]? = some x) : (flat l)[i * 4]? = some (.int .i64 x.o) ∧ (flat l)[i * 4 + 1]? = some (.int .i64 x.a) ∧ (flat l)[i * 4 + 2]? = some (.int .i64 x.b) ∧ (flat l)[i * 4 + 3]? = some (.int .i64 x.c) := by
  induction l generalizing i with
  | nil => simp at h
  | cons y l ih =>
    have e : flat (y :: l) = y.vals ++ flat l := by simp [flat]
    rw [e]
    have hl : y.vals.length = 4 := rfl
    match i, h with
    | 0, h =>
      simp at h
      subst h
      simp [Ins.vals]
    | i + 1, h =>
      have h' : l[i]? = some x := by simpa using h
      obtain ⟨a0, a1, a2, a3⟩ := ih h'
      refine ⟨?_, ?_, ?_, ?_⟩
      · rw [List.getElem?_append_right (by omega), hl, show (i + 1) * 4 - 4 = i * 4 by omega]; exact a0
      · rw [List.getElem?_append_right (by omega), hl, show (i + 1) * 4 + 1 - 4 = i * 4 + 1 by omega]; exact a1
      · rw [List.getElem?_append_right (by omega), hl, show (i + 1) * 4 + 2 - 4 = i * 4 + 2 by omega]; exact a2
      · rw [List.getElem?_append_right (by omega), hl, show (i + 1) * 4 + 3 - 4 = i * 4 + 3 by omega]; exact a3

/-- What is owned reads as the instructions that are in it. -/
theorem ownsRow_sees {w : World} {base : Nat} {v : Value} {l : List Ins} (hm : l.length ≤ 4398046511104) (h : w.ownsRow base 31 4 v l.length (flat l)) : Sees w v l := by
  refine ⟨hm, ?_⟩
  rcases h.2 with ⟨rfl, h0⟩ | ⟨g, cap, cur, rfl, hb, hg, hr⟩
  · exact .inl ⟨List.eq_nil_of_length_eq_zero h0, none, 0, rfl⟩
  · refine .inr ⟨g, 0, cap, rfl, (Array.getElem?_eq_some_iff.1 hg).1, fun i x hx => ?_⟩
    have hi : i < l.length := (List.getElem?_eq_some_iff.1 hx).1
    obtain ⟨a0, a1, a2, a3⟩ := flat_at hx
    simp only [Nat.zero_add]
    exact ⟨(h.cellAt (i * 4) (by omega)).trans a0, (h.cellAt (i * 4 + 1) (by omega)).trans a1, (h.cellAt (i * 4 + 2) (by omega)).trans a2, (h.cellAt (i * 4 + 3) (by omega)).trans a3⟩

/-- What is owned stays owned, where nothing that is there turns. -/
theorem _root_.Go.World.ownsRow.keptB {w w' : World} {base : Nat} {e : TypeId} {size : Nat} {v : Value} {n : Nat} {xs : List Value} (h : w.ownsRow base e size v n xs) (hb : Below w.heap.size w w') : w'.ownsRow base e size v n xs := by
  refine ⟨h.1, ?_⟩
  rcases h.2 with h2 | ⟨g, cap, cur, hv, hg, hh, r⟩
  · exact .inl h2
  · exact .inr ⟨g, cap, cur, hv, hg, by rw [hb.block g (Array.getElem?_eq_some_iff.1 hh).1]; exact hh, r⟩

end Go.Proofs.Ytbhbacphiinpeaa

/- What 'check' answers. -/
namespace Go.Proofs.Ytbhbacphiinpeaa
open Go.RowKit

set_option maxHeartbeats 400000 in
theorem check_size0 (ao : Option Addr) (n cap : Nat) (h : n < 1 ∨ 40 < n) (hn : n ≤ 4398046511104) (w : World) :
    Calls Try.prog 44 #[.slice ao n cap] w fun e w' => e = .returned (.tuple #[.int .i64 1, .int .i64 0]) ∧ w' = w := by
  rcases h with h | h
  · go_enter Try.func44, Try.ntmps44
    go_wp2
    go_ret2
    exact ⟨rfl, rfl⟩
  · have g : decide ((n : Int) < 1) = false := by simp; omega
    go_enter Try.func44, Try.ntmps44
    go_wp2
    go_ret2
    exact ⟨rfl, rfl⟩

set_option maxHeartbeats 400000 in
theorem check_loop (b off n cap : Nat) (l : List Ins) (hl : l.length = n) (h1 : 1 ≤ n) (h2 : n ≤ 40) (w : World) (hlt : b < w.heap.size)
    (hc : ∀ (i : Nat) x, l[i]? = some x → w.cell? ⟨b, off + i * 4, none⟩ = some (.int .i64 x.o) ∧ w.cell? ⟨b, off + i * 4 + 1, none⟩ = some (.int .i64 x.a) ∧ w.cell? ⟨b, off + i * 4 + 2, none⟩ = some (.int .i64 x.b) ∧ w.cell? ⟨b, off + i * 4 + 3, none⟩ = some (.int .i64 x.c)) :
    Calls Try.prog 44 #[.slice (some ⟨b, off, none⟩) n cap] w fun e w' => e = .returned (.tuple #[.int .i64 (chk l).1, .int .i64 (chk l).2]) ∧ Below w.heap.size w w' := by
  have Hl : Hid (l.length = n) := hl
  clear hl
  have g1 : decide ((n : Int) < 1) = false := by simp; omega
  have g2 : decide ((40 : Int) < (n : Int)) = false := by simp; omega
  go_enter Try.func44, Try.ntmps44
  go_wp2
  go_loopw [18] (fun i wr => ∃ k : Nat, k ≤ n ∧ i = .int .i64 k ∧ (∀ (j : Nat) y, j < k → l[j]? = some y → okB n y = true) ∧ Below w.heap.size w wr) (fun i _ => n - (intOf i).toNat)
  case atStart => exact ⟨0, Nat.zero_le _, rfl, fun j y hj => by omega, Below.refl _ _⟩
  case round =>
    obtain ⟨k, hk, rfl, hall, hb⟩ := hrel
    have Hall : Hid (∀ (j : Nat) y, j < k → l[j]? = some y → okB n y = true) := hall
    clear hall
    by_cases hkn : k < n
    · obtain ⟨x, hx⟩ : ∃ x, l[k]? = some x := ⟨_, List.getElem?_eq_getElem (by rw [Hl.out]; exact hkn)⟩
      obtain ⟨c0, c1, c2, c3⟩ := hc k x hx
      have d0 := (hb.cell (p := ⟨b, off + k * 4, none⟩) hlt).trans c0
      have d1 := (hb.cell (p := ⟨b, off + k * 4 + 1, none⟩) hlt).trans c1
      have d2 := (hb.cell (p := ⟨b, off + k * 4 + 2, none⟩) hlt).trans c2
      have d3 := (hb.cell (p := ⟨b, off + k * 4 + 3, none⟩) hlt).trans c3
      have Hx : Hid (l[k]? = some x) := hx
      have Hc : Hid (∀ (i : Nat) x, l[i]? = some x → w.cell? ⟨b, off + i * 4, none⟩ = some (.int .i64 x.o) ∧ w.cell? ⟨b, off + i * 4 + 1, none⟩ = some (.int .i64 x.a) ∧ w.cell? ⟨b, off + i * 4 + 2, none⟩ = some (.int .i64 x.b) ∧ w.cell? ⟨b, off + i * 4 + 3, none⟩ = some (.int .i64 x.c)) := hc
      clear c0 c1 c2 c3 hc hx
      cases hok : okB n x
      · go_wp2_with (go_at_call 55; refine (mayBe_any x _ _).mono ?_; rintro e w' ⟨rfl, rfl⟩)
        go_ret2
        refine ⟨?_, ?_⟩
        · rw [chk_bad (by rw [Hl.out]; exact h1) (by rw [Hl.out]; exact h2) Hx.out (by rw [Hl.out]; exact hok) (by rw [Hl.out]; exact Hall.out)]; rfl
        · exact (hb.alloc hb.size _).alloc (by have := hb.size; simp; omega) _
      · go_wp2_with (go_at_call 55; refine (mayBe_any x _ _).mono ?_; rintro e w' ⟨rfl, rfl⟩)
        go_roundw
        case rel =>
          refine ⟨k + 1, by omega, by go_num, fun j y hj hy => ?_, ?_⟩
          · by_cases hjk : j < k
            · exact Hall.out j y hjk hy
            · have : j = k := by omega
              subst this
              have e := Hx.out.symm.trans hy
              cases e
              exact hok
          · exact (hb.alloc hb.size _).alloc (by have := hb.size; simp; omega) _
        case measure => simp [intOf]; omega
    · have hkn' : k = n := by omega
      subst hkn'
      obtain ⟨x, hx⟩ : ∃ x, l[k - 1]? = some x := ⟨_, List.getElem?_eq_getElem (by rw [Hl.out]; omega)⟩
      obtain ⟨c0, -⟩ := hc (k - 1) x hx
      have d0 := (hb.cell (p := ⟨b, off + (k - 1) * 4, none⟩) hlt).trans c0
      have Hx : Hid (l[k - 1]? = some x) := hx
      clear hc hx c0
      have Hk : Hid (∀ (j : Nat) y, l[j]? = some y → okB l.length y = true) := by
        rw [Hl.out]
        intro j y hy
        exact Hall.out j y (by have := (List.getElem?_eq_some_iff.1 hy).1; rw [Hl.out] at this; exact this) hy
      have Hx2 : Hid (l[l.length - 1]? = some x) := by rw [Hl.out]; exact Hx.out
      by_cases e0 : x.o = 0
      · have t0 : (x.o != 0) = false := by rw [e0]; rfl
        have E0 : Hid (x.o = 0) := e0
        clear e0
        go_wp2
        go_ret2
        refine ⟨?_, hb⟩
        rw [chk_ok (by rw [Hl.out]; exact h1) (by rw [Hl.out]; exact h2) Hk.out Hx2.out (.inl E0.out)]; rfl
      · have t0 : (x.o != 0) = true := by simpa using e0
        by_cases e1 : x.o = 12
        · have t1 : (x.o != 12) = false := by rw [e1]; rfl
          have E1 : Hid (x.o = 12) := e1
          clear e1 e0
          go_wp2
          go_ret2
          refine ⟨?_, hb⟩
          rw [chk_ok (by rw [Hl.out]; exact h1) (by rw [Hl.out]; exact h2) Hk.out Hx2.out (.inr E1.out)]; rfl
        · have t1 : (x.o != 12) = true := by simpa using e1
          go_wp2
          go_ret2
          refine ⟨?_, hb⟩
          rw [chk_flow (by rw [Hl.out]; exact h1) (by rw [Hl.out]; exact h2) Hk.out Hx2.out e0 e1, Hl.out]; rfl

/-- For whatever list of instructions the slice reads as. -/
theorem check_any {w : World} {v : Value} {l : List Ins} (h : Sees w v l) :
    Calls Try.prog 44 #[v] w fun e w' => e = .returned (.tuple #[.int .i64 (chk l).1, .int .i64 (chk l).2]) ∧ Below w.heap.size w w' := by
  obtain ⟨hm, h⟩ := h
  rcases h with ⟨rfl, ao, cap, rfl⟩ | ⟨b, off, cap, rfl, hlt, hc⟩
  · refine (check_size0 ao 0 cap (.inl (by omega)) (by omega) w).mono ?_
    rintro e w' ⟨rfl, rfl⟩
    exact ⟨by rw [chk_size (by simp)], Below.refl _ _⟩
  · by_cases hs : l.length < 1 ∨ 40 < l.length
    · refine (check_size0 _ l.length cap hs hm w).mono ?_
      rintro e w' ⟨rfl, rfl⟩
      exact ⟨by rw [chk_size hs], Below.refl _ _⟩
    · exact check_loop b off l.length cap l rfl (by omega) (by omega) w hlt hc

end Go.Proofs.Ytbhbacphiinpeaa

/- The bytes of a kernel: plain facts; nothing of the program is in this text. -/
namespace Go.Proofs.Ytbhbacphiinpeaa
open Go.RowKit

def Ins.nums (x : Ins) : List Int := [x.o, x.a, x.b, x.c]
def nums (l : List Ins) : List Int := l.flatMap Ins.nums
def encR (l : List Ins) : ByteArray := if (chk l).1 = 0 then strOfNums (nums l) else ⟨#[]⟩

theorem nums_length (l : List Ins) : (nums l).length = 4 * l.length := by
  induction l with
  | nil => rfl
  | cons x l ih => simp only [nums, List.flatMap_cons, List.length_append, List.length_cons] at ih ⊢; rw [ih]; simp [Ins.nums]; omega

theorem nums_snoc {l : List Ins} {k : Nat} {x : Ins} (h : l[k]? = some x) : nums (l.take (k + 1)) = nums (l.take k) ++ x.nums := by
  have hk : k < l.length := (List.getElem?_eq_some_iff.1 h).1
  have e : l[k] = x := by rw [List.getElem?_eq_getElem hk] at h; exact Option.some.inj h
  rw [List.take_succ_eq_append_getElem hk, e]
  simp [nums]

theorem bel_bd {n m : Int} (h : bel n m = true) : 0 ≤ n ∧ n < m := by simpa [bel] using h

theorem okB_bd {n : Int} {x : Ins} (hn : n ≤ 40) (h : okB n x = true) : (0 ≤ x.o ∧ x.o ≤ 255) ∧ (0 ≤ x.a ∧ x.a ≤ 255) ∧ (0 ≤ x.b ∧ x.b ≤ 255) ∧ (0 ≤ x.c ∧ x.c ≤ 255) := by
  unfold okB at h
  split at h
  · simp only [Bool.and_eq_true, beq_iff_eq] at h; omega
  split at h
  · simp only [Bool.and_eq_true, beq_iff_eq] at h
    have := bel_bd h.1.1; have := bel_bd h.1.2; omega
  split at h
  · simp only [Bool.and_eq_true] at h
    have := bel_bd h.1.1; have := bel_bd h.1.2; have := bel_bd h.2; omega
  split at h
  · simp only [Bool.and_eq_true, beq_iff_eq] at h
    have := bel_bd h.1.1; omega
  split at h
  · simp only [Bool.and_eq_true] at h
    have := bel_bd h.1.1; have := bel_bd h.1.2; have := bel_bd h.2; omega
  split at h
  · simp only [Bool.and_eq_true, beq_iff_eq] at h
    have := bel_bd h.1.2; omega
  split at h
  · simp only [Bool.and_eq_true, beq_iff_eq] at h
    have := bel_bd h.1.1; have := bel_bd h.1.2; omega
  · cases h

/-- What a right kernel is. -/
theorem chk_zero {l : List Ins} (h : (chk l).1 = 0) : chk l = (0, 0) ∧ 1 ≤ l.length ∧ l.length ≤ 40 ∧ ∀ (j : Nat) y, l[j]? = some y → okB l.length y = true := by
  unfold chk at h ⊢
  by_cases hs : l.length < 1 ∨ 40 < l.length
  · rw [if_pos hs] at h; simp at h
  · rw [if_neg hs] at h ⊢
    cases hb : badAt l.length l with
    | some i => rw [hb] at h; simp at h
    | none =>
      rw [hb] at h
      refine ⟨?_, by omega, by omega, ?_⟩
      · dsimp only at h ⊢
        by_cases hf : lastOp l ≠ 0 ∧ lastOp l ≠ 12
        · rw [if_pos hf] at h; simp at h
        · rw [if_neg hf]
      · intro j y hy
        unfold badAt at hb
        rw [List.findIdx?_eq_none_iff] at hb
        have := hb y (List.mem_of_getElem? hy)
        simpa using this

/-- What an image is refused with, and the kernel that it is the image of. -/
def dchk (s : ByteArray) : Int × Int := if s.size % 4 ≠ 0 ∨ 160 < s.size then (1, 0) else chk (unp s (s.size / 4))
def decL (s : ByteArray) : List Ins := if (dchk s).1 = 0 then unp s (s.size / 4) else []

end Go.Proofs.Ytbhbacphiinpeaa

