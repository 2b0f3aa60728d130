/- What 'Decode' answers. -/
import Derived.Test.YtbhbacphiinpeaaC
import Derived.Test.YtbhbacphiinpeaaEnc
namespace Go.Proofs.Ytbhbacphiinpeaa
open Go.RowKit

set_option maxHeartbeats 400000 in
theorem decode_size (s : ByteArray) (hm : s.size ≤ 140737488355328) (h : s.size % 4 ≠ 0 ∨ 160 < s.size) (w : World) :
    Calls Try.prog 32 #[.string s] w fun e w' => e = .returned (.tuple #[.slice none 0 0, .int .i64 1, .int .i64 0]) ∧ w' = w := by
  by_cases h4 : s.size % 4 = 0
  · have g : (((s.size : Int) % 4) != 0) = false := by
      have : (s.size : Int) % 4 = 0 := by omega
      rw [this]; rfl
    have g2 : decide ((160 : Int) < (s.size : Int)) = true := by simp; omega
    have h5 : (160 : Int) < (s.size : Int) := by omega
    have H4 : Hid (s.size % 4 = 0) := h4
    clear h h4
    go_enter Try.func32, Try.ntmps32
    go_wp2
    go_ret3
    exact ⟨rfl, rfl⟩
  · have g : (((s.size : Int) % 4) != 0) = true := by
      have : (s.size : Int) % 4 ≠ 0 := by omega
      simpa using this
    clear h h4
    go_enter Try.func32, Try.ntmps32
    go_wp2
    go_ret3
    exact ⟨rfl, rfl⟩

set_option maxHeartbeats 400000 in
theorem decode_fits (s : ByteArray) (n : Nat) (hs : s.size = 4 * n) (hn : n ≤ 40) (w : World) :
    Calls Try.prog 32 #[.string s] w fun e w' => ∃ v, e = .returned (.tuple #[v, .int .i64 (chk (unp s n)).1, .int .i64 (chk (unp s n)).2]) ∧ Below w.heap.size w w' ∧
      (((chk (unp s n)).1 = 0 ∧ w'.ownsRow w.heap.size 31 4 v n (flat (unp s n))) ∨ ((chk (unp s n)).1 ≠ 0 ∧ v = .slice none 0 0)) := by
  have g : (((s.size : Int) % 4) != 0) = false := by
    have : (s.size : Int) % 4 = 0 := by omega
    rw [this]; rfl
  have g2 : decide ((160 : Int) < (s.size : Int)) = false := by simp; omega
  have g3 : (s.size : Int) ≤ 160 := by omega
  have Hs : Hid (s.size = 4 * n) := hs
  clear hs
  by_cases he : (chk (unp s n)).1 = 0
  · have hb : ((chk (unp s n)).1 != 0) = false := by rw [he]; rfl
    have He : Hid ((chk (unp s n)).1 = 0) := he
    clear he
    have He2 : Hid (chk (unp s n) = (0, 0)) := (chk_zero He.out).1
    go_enter Try.func32, Try.ntmps32
    go_wp2_with fail
    refine (unpack_any s n Hs.out hn _).mono ?_
    rintro e w1 ⟨v, rfl, hown, hb1⟩
    have hsee : Hid (Sees w1 v (unp s n)) := ownsRow_sees (by rw [unp_length]; omega) (by rw [unp_length]; exact hown)
    go_wp2_with fail
    refine (check_any hsee.out).mono ?_
    rintro e w2 ⟨rfl, hb2⟩
    go_wp2
    go_ret3
    refine ⟨v, by rw [He2.out]; rfl, hb1.trans (hb2.mono hb1.size), .inl ⟨He.out, hown.keptB hb2⟩⟩
  · have hb : ((chk (unp s n)).1 != 0) = true := by simpa using he
    go_enter Try.func32, Try.ntmps32
    go_wp2_with fail
    refine (unpack_any s n Hs.out hn _).mono ?_
    rintro e w1 ⟨v, rfl, hown, hb1⟩
    have hsee : Hid (Sees w1 v (unp s n)) := ownsRow_sees (by rw [unp_length]; omega) (by rw [unp_length]; exact hown)
    go_wp2_with fail
    refine (check_any hsee.out).mono ?_
    rintro e w2 ⟨rfl, hb2⟩
    go_wp2
    go_ret3
    exact ⟨_, rfl, hb1.trans (hb2.mono hb1.size), .inr ⟨he, rfl⟩⟩

theorem decode_any (s : ByteArray) (hm : s.size ≤ 140737488355328) (w : World) :
    Calls Try.prog 32 #[.string s] w fun e w' => ∃ v, e = .returned (.tuple #[v, .int .i64 (dchk s).1, .int .i64 (dchk s).2]) ∧ Below w.heap.size w w' ∧
      w'.ownsRow w.heap.size 31 4 v (decL s).length (flat (decL s)) ∧ ((dchk s).1 ≠ 0 → v = .slice none 0 0) := by
  by_cases h : s.size % 4 ≠ 0 ∨ 160 < s.size
  · have e1 : dchk s = (1, 0) := by unfold dchk; rw [if_pos h]
    have e2 : decL s = [] := by unfold decL; rw [e1]; simp
    rw [e1, e2]
    refine (decode_size s hm h w).mono ?_
    rintro e w' ⟨rfl, rfl⟩
    exact ⟨_, rfl, Below.refl _ _, World.ownsRow_nil _ _ _ _, fun _ => rfl⟩
  · have e1 : dchk s = chk (unp s (s.size / 4)) := by unfold dchk; rw [if_neg h]
    refine (decode_fits s (s.size / 4) (by omega) (by omega) w).mono ?_
    rintro e w' ⟨v, rfl, hb, hv⟩
    rw [← e1] at hv ⊢
    refine ⟨v, rfl, hb, ?_⟩
    rcases hv with ⟨h0, hown⟩ | ⟨h0, rfl⟩
    · have e2 : decL s = unp s (s.size / 4) := by unfold decL; rw [if_pos h0]
      rw [e2, unp_length]
      exact ⟨hown, fun hn => absurd h0 hn⟩
    · have e2 : decL s = [] := by unfold decL; rw [if_neg h0]
      rw [e2]
      exact ⟨World.ownsRow_nil _ _ _ _, fun _ => rfl⟩

set_option maxHeartbeats 400000 in
theorem Decode_any (s : ByteArray) (hm : s.size ≤ 140737488355328) (w : World) :
    Calls Try.prog 11 #[.string s] w fun e w' => ∃ v, e = .returned (.tuple #[v, .int .i64 (dchk s).1, .int .i64 (dchk s).2]) ∧ Below w.heap.size w w' ∧
      w'.ownsRow w.heap.size 31 4 v (decL s).length (flat (decL s)) ∧ ((dchk s).1 ≠ 0 → v = .slice none 0 0) := by
  go_enter Try.func11, Try.ntmps11
  go_wp2_with (go_at_call 32; refine (decode_any s hm _).mono ?_; rintro e w1 ⟨v, rfl, hb, hown, hnil⟩)
  go_ret3
  exact ⟨v, rfl, hb, hown, hnil⟩

end Go.Proofs.Ytbhbacphiinpeaa
