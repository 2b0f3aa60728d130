/- What the document's 'Decode' answers. -/
import Derived.Test.YtbhbacphiinpeaaGreatRB
import Derived.Test.YtbhbacphiinpeaaGreatAp
import Derived.Test.YtbhbacphiinpeaaGreatC
import Derived.Test.YtbhbacphiinpeaaGreatEnc
import Derived.Deep.RegionHeld3
namespace Go.Proofs.YtbhbacphiinpeaaGreat
open Go.RowKit

theorem byt_get (s : ByteArray) (j : Nat) (h : j < s.size) : byt s j = (((s[j]'h).toNat : Nat) : Int) := by
  unfold byt
  have h' : j < s.data.toList.length := by simpa using h
  rw [List.getD_eq_getElem?_getD, List.getElem?_eq_getElem h']
  rfl

theorem byt_bd (s : ByteArray) (j : Nat) : 0 ≤ byt s j ∧ byt s j ≤ 255 := by
  unfold byt
  have := (s.data.toList.getD j 0).toNat_lt
  omega

theorem index_byt (s : ByteArray) (i : Int) (j : Nat) (hj : i = (j : Int)) (h : j < s.size) (w : World) : (Instr.index 9 (.string s) (.int .i64 i)).run Tryz.prog w = .ok (.int .u8 (byt s j)) w := by
  subst hj
  rw [run_index_string (P := Tryz.prog) w 9 s .i64 j Tryz.underlying9, dif_pos ⟨by omega, by omega⟩, byt_get s j h]
  rfl

set_option maxHeartbeats 400000 in
theorem rdecode_size (s : ByteArray) (hm : s.size ≤ 140737488355328) (h : s.size = 0 ∨ s.size % 4 ≠ 0 ∨ 160 < s.size) (w : World) :
    Calls Tryz.prog 26 #[.string s] w fun e w' => e = .returned (.tuple #[.slice none 0 0, .int .i64 1, .int .i64 0]) ∧ w' = w := by
  by_cases h0 : s.size = 0
  · have g0 : ((s.size : Int) == 0) = true := by rw [h0]; rfl
    clear h h0
    go_enter Tryz.func26, Tryz.ntmps26
    go_wp2
    go_ret3
    exact ⟨rfl, rfl⟩
  · have g0 : ((s.size : Int) == 0) = false := beq_eq_false_iff_ne.2 (by omega)
    by_cases h4 : s.size % 4 = 0
    · have g : (((s.size : Int) % 4) != 0) = false := by
        have : (s.size : Int) % 4 = 0 := by omega
        rw [this]; rfl
      have g2 : decide ((160 : Int) < (s.size : Int)) = true := by simp; omega
      have h5 : (160 : Int) < (s.size : Int) := by omega
      clear h h4 h0
      go_enter Tryz.func26, Tryz.ntmps26
      go_wp2
      go_ret3
      exact ⟨rfl, rfl⟩
    · have g : (((s.size : Int) % 4) != 0) = true := by
        have : (s.size : Int) % 4 ≠ 0 := by omega
        simpa using this
      clear h h4 h0
      go_enter Tryz.func26, Tryz.ntmps26
      go_wp2
      go_ret3
      exact ⟨rfl, rfl⟩

set_option maxHeartbeats 2000000 in
set_option maxRecDepth 100000 in
theorem rdecode_fits (s : ByteArray) (n : Nat) (hs : s.size = 4 * n) (hn0 : 1 ≤ n) (hn : n ≤ 40) (w : World) :
    Calls Tryz.prog 26 #[.string s] w fun e w' => ∃ v, e = .returned (.tuple #[v, .int .i64 (chk (unp s n)).1, .int .i64 (chk (unp s n)).2]) ∧ Below w.heap.size w w' ∧
      (((chk (unp s n)).1 = 0 ∧ w'.ownsRow w.heap.size 92 4 v n (flat (unp s n))) ∨ ((chk (unp s n)).1 ≠ 0 ∧ v = .slice none 0 0)) := by
  have g0 : ((s.size : Int) == 0) = false := beq_eq_false_iff_ne.2 (by omega)
  have g : (((s.size : Int) % 4) != 0) = false := by
    have : (s.size : Int) % 4 = 0 := by omega
    rw [this]; rfl
  have g2 : decide ((160 : Int) < (s.size : Int)) = false := by simp; omega
  have g3 : (s.size : Int) ≤ 160 := by omega
  have Hs : Hid (s.size = 4 * n) := hs
  have hs1 : s.size ≤ 4 * n := by omega
  have hs2 : 4 * n ≤ s.size := by omega
  clear hs
  obtain ⟨i0, hi, hz0, hz1, hz2⟩ := info_parts Tryz.info92
  go_enter Tryz.func26, Tryz.ntmps26
  go_wp2_with fail
  go_loopw [5, 6] (fun v i wr => ∃ k : Nat, k ≤ n ∧ i = .int .i64 (4 * k : Nat) ∧ wr.ownsRow w.heap.size 92 4 v k (flat (unp s k)) ∧ Below w.heap.size w wr) (fun _ i _ => 4 * n + 4 - (intOf i).toNat)
  case atStart => exact ⟨0, Nat.zero_le _, rfl, World.ownsRow_nil _ _ _ _, Below.refl _ _⟩
  case round =>
    obtain ⟨k, hk, rfl, hown, hb⟩ := hrel
    by_cases hkn : k < n
    · have q0 : (0 : Int) ≤ 4 * (k : Int) ∧ 4 * (k : Int) < (s.size : Int) := by omega
      have q1 : (0 : Int) ≤ 4 * (k : Int) + 1 ∧ 4 * (k : Int) + 1 < (s.size : Int) := by omega
      have q2 : (0 : Int) ≤ 4 * (k : Int) + 2 ∧ 4 * (k : Int) + 2 < (s.size : Int) := by omega
      have q3 : (0 : Int) ≤ 4 * (k : Int) + 3 ∧ 4 * (k : Int) + 3 < (s.size : Int) := by omega
      have r1 : IntKind.i64.wrap (4 * (k : Int) + 1) = 4 * (k : Int) + 1 := IntWalk.i64_in _ ⟨by omega, by omega⟩
      have r2 : IntKind.i64.wrap (4 * (k : Int) + 2) = 4 * (k : Int) + 2 := IntWalk.i64_in _ ⟨by omega, by omega⟩
      have r3 : IntKind.i64.wrap (4 * (k : Int) + 3) = 4 * (k : Int) + 3 := IntWalk.i64_in _ ⟨by omega, by omega⟩
      have z0 := byt_bd s (4 * k)
      have z1 := byt_bd s (4 * k + 1)
      have z2 := byt_bd s (4 * k + 2)
      have z3 := byt_bd s (4 * k + 3)
      have e0 : ∀ w', (Instr.index 9 (.string s) (.int .i64 (4 * (k : Int)))).run Tryz.prog w' = .ok (.int .u8 (byt s (4 * k))) w' := fun w' => index_byt s _ _ (by omega) (by omega) w'
      have e1 : ∀ w', (Instr.index 9 (.string s) (.int .i64 (4 * (k : Int) + 1))).run Tryz.prog w' = .ok (.int .u8 (byt s (4 * k + 1))) w' := fun w' => index_byt s _ _ (by omega) (by omega) w'
      have e2 : ∀ w', (Instr.index 9 (.string s) (.int .i64 (4 * (k : Int) + 2))).run Tryz.prog w' = .ok (.int .u8 (byt s (4 * k + 2))) w' := fun w' => index_byt s _ _ (by omega) (by omega) w'
      have e3 : ∀ w', (Instr.index 9 (.string s) (.int .i64 (4 * (k : Int) + 3))).run Tryz.prog w' = .ok (.int .u8 (byt s (4 * k + 3))) w' := fun w' => index_byt s _ _ (by omega) (by omega) w'
      have y0 : IntKind.i64.wrap (byt s (4 * k)) = byt s (4 * k) := IntWalk.i64_in _ ⟨by omega, by omega⟩
      have y1 : IntKind.i64.wrap (byt s (4 * k + 1)) = byt s (4 * k + 1) := IntWalk.i64_in _ ⟨by omega, by omega⟩
      have y2 : IntKind.i64.wrap (byt s (4 * k + 2)) = byt s (4 * k + 2) := IntWalk.i64_in _ ⟨by omega, by omega⟩
      have y3 : IntKind.i64.wrap (byt s (4 * k + 3)) = byt s (4 * k + 3) := IntWalk.i64_in _ ⟨by omega, by omega⟩
      clear q0 q1 q2 q3 z0 z1 z2 z3
      have hk4 : (4 * (k : Int)) < (s.size : Int) := by omega
      go_wp2_with fail
      go_region_held3 (fun _ => True) (exact trivial) ((refine step_append_lies _ (by rfl) _ _ _ (by rfl) w.heap.size 92 i0 _ 4 32 Tryz.underlying35 hi hz0 hz1 hz2 rfl (by omega) u5 k (flat (unp s k)) (by rfl) ((hown.alloc _).drew) ⟨wr.heap.size, 0, none⟩ 1 1 (insAt s k).vals (by rfl) (by rfl) (World.news_of_block (t := 92) (fr := (0, 0)) (heap_alloc_new wr _)) (oneCell_vals _) (by omega) (by unfold maxLen; omega) (by omega) (by have := hb.size; simp; omega) (wr.heap.size + 1) (by simp) ?_; intro gg cap w1 hown1 hgrow hat hlt1))
      all_goals
        have hb' : Below w.heap.size w w1 := ((hb.alloc hb.size _).drew).grown hgrow (by have := hb.size; simp; omega) (fun g hg => (hown.lt g hg).1)
        have hown2 : w1.ownsRow w.heap.size 92 4 (.slice (some ⟨gg, 0, none⟩) (k + 1) cap) (k + 1) (flat (unp s (k + 1))) := by rw [unp_succ, flat_append, flat_one]; exact hown1
        clear hgrow hown hown1 hat e0 e1 e2 e3 y0 y1 y2 y3 r1 r2 r3
        go_wp2
        go_roundw
        case rel => exact ⟨k + 1, by omega, by go_num, hown2, hb'⟩
        case measure => simp [intOf]; omega
    · have e : k = n := by omega
      subst e
      have Hown := hyd hown
      have hsee : Hid (Sees wr u5 (unp s k)) := ownsRow_sees (by rw [unp_length]; omega) (by rw [unp_length]; exact hown)
      clear hown
      by_cases he : (chk (unp s k)).1 = 0
      · have hb0 : ((chk (unp s k)).1 != 0) = false := by rw [he]; rfl
        have He : Hid ((chk (unp s k)).1 = 0) := he
        clear he
        have He2 : Hid (chk (unp s k) = (0, 0)) := (chk_zero He.out).1
        go_wp2_with fail
        refine (rcheck_any hsee.out).mono ?_
        rintro e w2 ⟨rfl, hb2⟩
        go_wp2
        go_ret3
        exact ⟨u5, by rw [He2.out]; rfl, hb.trans (hb2.mono hb.size), .inl ⟨He.out, Hown.out.keptB hb2⟩⟩
      · have hb0 : ((chk (unp s k)).1 != 0) = true := by simpa using he
        have He := hyd he
        clear he
        go_wp2_with fail
        refine (rcheck_any hsee.out).mono ?_
        rintro e w2 ⟨rfl, hb2⟩
        go_wp2
        go_ret3
        exact ⟨_, rfl, hb.trans (hb2.mono hb.size), .inr ⟨He.out, rfl⟩⟩

theorem rdecode_any (s : ByteArray) (hm : s.size ≤ 140737488355328) (w : World) :
    Calls Tryz.prog 26 #[.string s] w fun e w' => ∃ v, e = .returned (.tuple #[v, .int .i64 (dchk s).1, .int .i64 (dchk s).2]) ∧ Below w.heap.size w w' ∧
      w'.ownsRow w.heap.size 92 4 v (decL s).length (flat (decL s)) := by
  by_cases h : s.size = 0 ∨ s.size % 4 ≠ 0 ∨ 160 < s.size
  · have e1 : dchk s = (1, 0) := by
      unfold dchk
      by_cases h0 : s.size = 0
      · rw [h0]
        simp [unp, chk]
      · rw [if_pos (by omega)]
    have e2 : decL s = [] := by unfold decL; rw [e1]; simp
    rw [e1, e2]
    refine (rdecode_size s hm h w).mono ?_
    rintro e w' ⟨rfl, rfl⟩
    exact ⟨_, rfl, Below.refl _ _, World.ownsRow_nil _ _ _ _⟩
  · have e1 : dchk s = chk (unp s (s.size / 4)) := by unfold dchk; rw [if_neg (by omega)]
    refine (rdecode_fits s (s.size / 4) (by omega) (by omega) (by omega) w).mono ?_
    rintro e w' ⟨v, rfl, hb, hv⟩
    rw [← e1] at hv ⊢
    refine ⟨v, rfl, hb, ?_⟩
    rcases hv with ⟨h0, hown⟩ | ⟨h0, rfl⟩
    · have e2 : decL s = unp s (s.size / 4) := by unfold decL; rw [if_pos h0]
      rw [e2, unp_length]
      exact hown
    · have e2 : decL s = [] := by unfold decL; rw [if_neg h0]
      rw [e2]
      exact World.ownsRow_nil _ _ _ _

end Go.Proofs.YtbhbacphiinpeaaGreat
