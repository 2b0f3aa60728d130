/- What 'line' does to a kernel that is being made. -/
import Derived.Test.YtbhbacphiinpeaaM6
import Derived.Test.YtbhbacphiinpeaaPure
namespace Go.Proofs.Ytbhbacphiinpeaa
open Go.RowKit

set_option maxHeartbeats 400000 in
theorem line_0 {w : World} {B : Nat} {s : St} (v : Nat) (hv : v < 1099511627776) (hr : (v : Int) % 12 = 0) (h : Mk w B s) (hl : s.k.length ≤ 900) :
    Calls Try.prog 28 #[.pointer (some ⟨B, 0, none⟩), .int .i64 v] w fun e w' => e = .returned (.tuple #[]) ∧ Mk w' B (s.put ⟨2, 0, 0, 1⟩) ∧ Below B w w' := by
  have H := hid h
  clear h
  have hv2 : (v : Int) < 1099511627776 := by omega
  go_enter Try.func28, Try.ntmps28
  go_wp2_with (go_at_call 30; refine (put_any _ _ _ _ H.out (by omega)).mono ?_; rintro e w' ⟨rfl, hM, hb⟩)
  go_end0
  exact ⟨rfl, hM, hb⟩

set_option maxHeartbeats 400000 in
theorem line_1 {w : World} {B : Nat} {s : St} (v : Nat) (hv : v < 1099511627776) (hr : (v : Int) % 12 = 1) (h : Mk w B s) (hl : s.k.length ≤ 900) :
    Calls Try.prog 28 #[.pointer (some ⟨B, 0, none⟩), .int .i64 v] w fun e w' => e = .returned (.tuple #[]) ∧ Mk w' B (s.put ⟨3, 1, 0, 2⟩) ∧ Below B w w' := by
  have H := hid h
  clear h
  have hv2 : (v : Int) < 1099511627776 := by omega
  go_enter Try.func28, Try.ntmps28
  go_wp2_with (go_at_call 30; refine (put_any _ _ _ _ H.out (by omega)).mono ?_; rintro e w' ⟨rfl, hM, hb⟩)
  go_end0
  exact ⟨rfl, hM, hb⟩

set_option maxHeartbeats 400000 in
theorem line_2 {w : World} {B : Nat} {s : St} (v : Nat) (hv : v < 1099511627776) (hr : (v : Int) % 12 = 2) (h : Mk w B s) (hl : s.k.length ≤ 900) :
    Calls Try.prog 28 #[.pointer (some ⟨B, 0, none⟩), .int .i64 v] w fun e w' => e = .returned (.tuple #[]) ∧ Mk w' B (s.put ⟨4, 0, 0, 2⟩) ∧ Below B w w' := by
  have H := hid h
  clear h
  have hv2 : (v : Int) < 1099511627776 := by omega
  go_enter Try.func28, Try.ntmps28
  go_wp2_with (go_at_call 30; refine (put_any _ _ _ _ H.out (by omega)).mono ?_; rintro e w' ⟨rfl, hM, hb⟩)
  go_end0
  exact ⟨rfl, hM, hb⟩

set_option maxHeartbeats 400000 in
theorem line_3 {w : World} {B : Nat} {s : St} (v : Nat) (hv : v < 1099511627776) (hr : (v : Int) % 12 = 3) (h : Mk w B s) (hl : s.k.length ≤ 900) :
    Calls Try.prog 28 #[.pointer (some ⟨B, 0, none⟩), .int .i64 v] w fun e w' => e = .returned (.tuple #[]) ∧ Mk w' B (s.put ⟨6, 1, 2, 0⟩) ∧ Below B w w' := by
  have H := hid h
  clear h
  have hv2 : (v : Int) < 1099511627776 := by omega
  go_enter Try.func28, Try.ntmps28
  go_wp2_with (go_at_call 30; refine (put_any _ _ _ _ H.out (by omega)).mono ?_; rintro e w' ⟨rfl, hM, hb⟩)
  go_end0
  exact ⟨rfl, hM, hb⟩

set_option maxHeartbeats 400000 in
theorem line_4 {w : World} {B : Nat} {s : St} (v : Nat) (hv : v < 1099511627776) (hr : (v : Int) % 12 = 4) (h : Mk w B s) (hl : s.k.length ≤ 900) :
    Calls Try.prog 28 #[.pointer (some ⟨B, 0, none⟩), .int .i64 v] w fun e w' => e = .returned (.tuple #[]) ∧ Mk w' B (s.put ⟨7, 1, 1, 0⟩) ∧ Below B w w' := by
  have H := hid h
  clear h
  have hv2 : (v : Int) < 1099511627776 := by omega
  go_enter Try.func28, Try.ntmps28
  go_wp2_with (go_at_call 30; refine (put_any _ _ _ _ H.out (by omega)).mono ?_; rintro e w' ⟨rfl, hM, hb⟩)
  go_end0
  exact ⟨rfl, hM, hb⟩

set_option maxHeartbeats 400000 in
theorem line_6 {w : World} {B : Nat} {s : St} (v : Nat) (hv : v < 1099511627776) (hr : (v : Int) % 12 = 6) (h : Mk w B s) (hl : s.k.length ≤ 900) :
    Calls Try.prog 28 #[.pointer (some ⟨B, 0, none⟩), .int .i64 v] w fun e w' => e = .returned (.tuple #[]) ∧ Mk w' B (s.put ⟨10, 0, 2, 0⟩) ∧ Below B w w' := by
  have H := hid h
  clear h
  have hv2 : (v : Int) < 1099511627776 := by omega
  go_enter Try.func28, Try.ntmps28
  go_wp2_with (go_at_call 30; refine (put_any _ _ _ _ H.out (by omega)).mono ?_; rintro e w' ⟨rfl, hM, hb⟩)
  go_end0
  exact ⟨rfl, hM, hb⟩

set_option maxHeartbeats 400000 in
theorem line_7 {w : World} {B : Nat} {s : St} (v : Nat) (hv : v < 1099511627776) (hr : (v : Int) % 12 = 7) (h : Mk w B s) (hl : s.k.length ≤ 900) :
    Calls Try.prog 28 #[.pointer (some ⟨B, 0, none⟩), .int .i64 v] w fun e w' => e = .returned (.tuple #[]) ∧ Mk w' B (s.put ⟨9, 1, 2, 0⟩) ∧ Below B w w' := by
  have H := hid h
  clear h
  have hv2 : (v : Int) < 1099511627776 := by omega
  go_enter Try.func28, Try.ntmps28
  go_wp2_with (go_at_call 30; refine (put_any _ _ _ _ H.out (by omega)).mono ?_; rintro e w' ⟨rfl, hM, hb⟩)
  go_end0
  exact ⟨rfl, hM, hb⟩

set_option maxHeartbeats 400000 in
theorem line_5 {w : World} {B : Nat} {s : St} (v : Nat) (hv : v < 1099511627776) (hr : (v : Int) % 12 = 5) (h : Mk w B s) (hl : s.k.length ≤ 900) :
    Calls Try.prog 28 #[.pointer (some ⟨B, 0, none⟩), .int .i64 v] w fun e w' => e = .returned (.tuple #[]) ∧ Mk w' B (s.put ⟨1, 1, (v : Int) / 12 % 256, 0⟩) ∧ Below B w w' := by
  have H := hid h
  clear h
  have hv2 : (v : Int) < 1099511627776 := by omega
  go_enter Try.func28, Try.ntmps28
  go_wp2_with (go_at_call 30; refine (put_any _ _ _ _ H.out (by omega)).mono ?_; rintro e w' ⟨rfl, hM, hb⟩)
  go_end0
  exact ⟨rfl, hM, hb⟩

set_option maxHeartbeats 400000 in
theorem line_8 {w : World} {B : Nat} {s : St} (v : Nat) (hv : v < 1099511627776) (hr : (v : Int) % 12 = 8 ∨ (v : Int) % 12 = 9) (h : Mk w B s) (hl : s.k.length ≤ 900) (hlo : s.op.length ≤ 900) :
    Calls Try.prog 28 #[.pointer (some ⟨B, 0, none⟩), .int .i64 v] w fun e w' => e = .returned (.tuple #[]) ∧ Mk w' B (s.enters ((v : Int) / 12 % 3 == 0)) ∧ Below B w w' := by
  have H := hid h
  clear h
  have hv2 : (v : Int) < 1099511627776 := by omega
  rcases hr with hr | hr
  all_goals
    go_enter Try.func28, Try.ntmps28
    go_wp2_with (go_at_call 43; refine (enters_any _ H.out hl hlo).mono ?_; rintro e w' ⟨rfl, hM, hb⟩)
    go_end0
    exact ⟨rfl, hM, hb⟩

set_option maxHeartbeats 400000 in
set_option maxRecDepth 100000 in
theorem line_10 {w : World} {B : Nat} {s : St} {ops : List Blk} {b : Blk} (v : Nat) (hv : v < 1099511627776) (hr : (v : Int) % 12 = 10) (h : Mk w B s) (hl : s.k.length ≤ 900) (hlo : s.op.length ≤ 900) (hs : s.op = ops ++ [b]) (hat : b.at0 < s.k.length) :
    Calls Try.prog 28 #[.pointer (some ⟨B, 0, none⟩), .int .i64 v] w fun e w' => e = .returned (.tuple #[]) ∧ Mk w' B (s.close ((v : Int) / 12 % 2 == 0)) ∧ Below B w w' := by
  have H := hid h
  obtain ⟨vk, vo, hB, -, ho⟩ := h
  obtain ⟨-, c1, -⟩ := blk_cells hB
  obtain ⟨ao, cap, hvo⟩ := owns_slice ho
  subst hvo
  have hlen : s.op.length = ops.length + 1 := by rw [hs]; simp
  have Hs := hid hs
  rw [hlen] at c1
  have hlo2 : ops.length ≤ 900 := by omega
  clear hs hlen ho hB hlo
  have hv2 : (v : Int) < 1099511627776 := by omega
  go_enter Try.func28, Try.ntmps28
  go_wp2_with (go_at_call 29; refine (close_any _ H.out Hs.out hl hlo2 hat).mono ?_; rintro e w' ⟨rfl, hM, hb⟩)
  go_end0
  exact ⟨rfl, hM, hb⟩

set_option maxHeartbeats 400000 in
theorem line_10no {w : World} {B : Nat} {s : St} (v : Nat) (hv : v < 1099511627776) (hr : (v : Int) % 12 = 10) (h : Mk w B s) (hs : s.op.length = 0) :
    Calls Try.prog 28 #[.pointer (some ⟨B, 0, none⟩), .int .i64 v] w fun e w' => e = .returned (.tuple #[]) ∧ w' = w := by
  obtain ⟨vk, vo, hB, -, ho⟩ := h
  obtain ⟨-, c1, -⟩ := blk_cells hB
  obtain ⟨ao, cap, hvo⟩ := owns_slice ho
  rw [hs] at hvo
  subst hvo
  clear hs ho hB
  have hv2 : (v : Int) < 1099511627776 := by omega
  go_enter Try.func28, Try.ntmps28
  go_wp2
  go_end0
  exact ⟨rfl, rfl⟩

set_option maxHeartbeats 400000 in
theorem line_11a {w : World} {B : Nat} {s : St} (v : Nat) (hv : v < 1099511627776) (hr : (v : Int) % 12 = 11) (h : Mk w B s) (hl : s.k.length ≤ 900) (hs : s.op.length = 0) :
    Calls Try.prog 28 #[.pointer (some ⟨B, 0, none⟩), .int .i64 v] w fun e w' => e = .returned (.tuple #[]) ∧ Mk w' B (s.put ⟨14, 0, 0, 0⟩) ∧ Below B w w' := by
  have H := hid h
  obtain ⟨vk, vo, hB, -, ho⟩ := h
  obtain ⟨-, c1, -⟩ := blk_cells hB
  obtain ⟨ao, cap, hvo⟩ := owns_slice ho
  rw [hs] at hvo
  subst hvo
  clear hs ho hB
  have hv2 : (v : Int) < 1099511627776 := by omega
  go_enter Try.func28, Try.ntmps28
  go_wp2_with (go_at_call 30; refine (put_any _ _ _ _ H.out (by omega)).mono ?_; rintro e w' ⟨rfl, hM, hb⟩)
  go_end0
  exact ⟨rfl, hM, hb⟩

set_option maxHeartbeats 400000 in
theorem line_11b {w : World} {B : Nat} {s : St} (v : Nat) (hv : v < 1099511627776) (hr : (v : Int) % 12 = 11) (h : Mk w B s) (hl : s.k.length ≤ 900) (hs : s.op.length ≠ 0) :
    Calls Try.prog 28 #[.pointer (some ⟨B, 0, none⟩), .int .i64 v] w fun e w' => e = .returned (.tuple #[]) ∧ Mk w' B (s.put ⟨4, 1, 2, 0⟩) ∧ Below B w w' := by
  have H := hid h
  obtain ⟨vk, vo, hB, -, ho⟩ := h
  obtain ⟨-, c1, -⟩ := blk_cells hB
  obtain ⟨ao, cap, hvo⟩ := owns_slice ho
  subst hvo
  have hb0 : ((s.op.length : Int) == 0) = false := beq_eq_false_iff_ne.2 (by omega)
  have hp : 1 ≤ s.op.length := by omega
  clear hs ho hB
  have hv2 : (v : Int) < 1099511627776 := by omega
  go_enter Try.func28, Try.ntmps28
  go_wp2_with (go_at_call 30; refine (put_any _ _ _ _ H.out (by omega)).mono ?_; rintro e w' ⟨rfl, hM, hb⟩)
  go_end0
  exact ⟨rfl, hM, hb⟩

theorem nat_mod3 (v m : Nat) (hm : m = 2 ∨ m = 3) : ((v : Int) / 12 % (m : Int) == 0) = (v / 12 % m == 0) := by
  rw [Bool.eq_iff_iff]
  rcases hm with rfl | rfl <;> simp <;> omega

theorem line_any {w : World} {B : Nat} {s : St} (v : Nat) (hv : v < 1099511627776) (h : Mk w B s) (hl : s.k.length ≤ 900) (hlo : s.op.length ≤ 900) (hf : Fine s) :
    Calls Try.prog 28 #[.pointer (some ⟨B, 0, none⟩), .int .i64 v] w fun e w' => e = .returned (.tuple #[]) ∧ Mk w' B (s.line v) ∧ Below B w w' := by
  unfold St.line
  by_cases h0 : v % 12 = 0
  · rw [if_pos h0]; exact line_0 v hv (by omega) h hl
  rw [if_neg h0]
  by_cases h1 : v % 12 = 1
  · rw [if_pos h1]; exact line_1 v hv (by omega) h hl
  rw [if_neg h1]
  by_cases h2 : v % 12 = 2
  · rw [if_pos h2]; exact line_2 v hv (by omega) h hl
  rw [if_neg h2]
  by_cases h3 : v % 12 = 3
  · rw [if_pos h3]; exact line_3 v hv (by omega) h hl
  rw [if_neg h3]
  by_cases h4 : v % 12 = 4
  · rw [if_pos h4]; exact line_4 v hv (by omega) h hl
  rw [if_neg h4]
  by_cases h5 : v % 12 = 5
  · rw [if_pos h5, show ((v / 12 % 256 : Nat) : Int) = (v : Int) / 12 % 256 by omega]; exact line_5 v hv (by omega) h hl
  rw [if_neg h5]
  by_cases h6 : v % 12 = 6
  · rw [if_pos h6]; exact line_6 v hv (by omega) h hl
  rw [if_neg h6]
  by_cases h7 : v % 12 = 7
  · rw [if_pos h7]; exact line_7 v hv (by omega) h hl
  rw [if_neg h7]
  by_cases h8 : v % 12 = 8 ∨ v % 12 = 9
  · rw [if_pos h8, ← nat_mod3 v 3 (.inr rfl)]; exact line_8 v hv (by omega) h hl hlo
  rw [if_neg h8]
  by_cases h10 : v % 12 = 10
  · rw [if_pos h10, ← nat_mod3 v 2 (.inl rfl)]
    cases ho : s.op.getLast? with
    | none =>
      have e : s.op = [] := List.getLast?_eq_none_iff.1 ho
      have ec : ∀ b, s.close b = s := fun b => by unfold St.close; rw [ho]
      rw [ec]
      refine (line_10no v hv (by omega) h (by rw [e]; rfl)).mono ?_
      rintro e' w' ⟨rfl, rfl⟩
      exact ⟨rfl, h, Below.refl _ _⟩
    | some b =>
      obtain ⟨ops, hs⟩ := List.getLast?_eq_some_iff.1 ho
      obtain ⟨x, hx, -⟩ := hf.spot b (by rw [hs]; simp)
      exact line_10 v hv (by omega) h hl hlo hs (List.getElem?_eq_some_iff.1 hx).1
  rw [if_neg h10]
  by_cases h11 : s.op.length = 0
  · rw [if_pos h11]; exact line_11a v hv (by omega) h hl h11
  · rw [if_neg h11]; exact line_11b v hv (by omega) h hl h11

end Go.Proofs.Ytbhbacphiinpeaa
