/- What the document's 'Check' answers. -/
import Derived.Test.YtbhbacphiinpeaaGreatRA
import Derived.Test.YtbhbacphiinpeaaGreatView
namespace Go.Proofs.YtbhbacphiinpeaaGreat
open Go.RowKit

set_option maxHeartbeats 400000 in
theorem rcheck_size0 (ao : Option Addr) (n cap : Nat) (h : n < 1 ∨ 40 < n) (hn : n ≤ 4398046511104) (w : World) :
    Calls Tryz.prog 48 #[.slice ao n cap] w fun e w' => e = .returned (.tuple #[.int .i64 1, .int .i64 0]) ∧ w' = w := by
  rcases h with h | h
  · have h0 : n = 0 := by omega
    subst h0
    go_enter Tryz.func48, Tryz.ntmps48
    go_wp2
    go_ret2
    exact ⟨rfl, rfl⟩
  · have g : ((n : Int) == 0) = false := beq_eq_false_iff_ne.2 (by omega)
    go_enter Tryz.func48, Tryz.ntmps48
    go_wp2
    go_ret2
    exact ⟨rfl, rfl⟩

set_option maxHeartbeats 400000 in
theorem rcheck_loop (b off n cap : Nat) (l : List Ins) (hl : l.length = n) (h1 : 1 ≤ n) (h2 : n ≤ 40) (w : World) (hlt : b < w.heap.size)
    (hc : ∀ (i : Nat) x, l[i]? = some x → w.cell? ⟨b, off + i * 4, none⟩ = some (.int .i64 x.o) ∧ w.cell? ⟨b, off + i * 4 + 1, none⟩ = some (.int .i64 x.a) ∧ w.cell? ⟨b, off + i * 4 + 2, none⟩ = some (.int .i64 x.b) ∧ w.cell? ⟨b, off + i * 4 + 3, none⟩ = some (.int .i64 x.c)) :
    Calls Tryz.prog 48 #[.slice (some ⟨b, off, none⟩) n cap] w fun e w' => e = .returned (.tuple #[.int .i64 (chk l).1, .int .i64 (chk l).2]) ∧ Below w.heap.size w w' := by
  have Hl : Hid (l.length = n) := hl
  clear hl
  have g1 : ((n : Int) == 0) = false := beq_eq_false_iff_ne.2 (by omega)
  have g2 : decide ((40 : Int) < (n : Int)) = false := by simp; omega
  go_enter Tryz.func48, Tryz.ntmps48
  go_wp2
  go_loopw [5] (fun i wr => ∃ k : Nat, k ≤ n ∧ i = .int .i64 k ∧ (∀ (j : Nat) y, j < k → l[j]? = some y → okB n y = true) ∧ Below w.heap.size w wr) (fun i _ => n - (intOf i).toNat)
  case atStart => exact ⟨0, Nat.zero_le _, rfl, fun j y hj => by omega, Below.refl _ _⟩
  case round =>
    obtain ⟨k, hk, rfl, hall, hb⟩ := hrel
    have Hall : Hid (∀ (j : Nat) y, j < k → l[j]? = some y → okB n y = true) := hall
    clear hall
    by_cases hkn : k < n
    · obtain ⟨x, hx⟩ : ∃ x, l[k]? = some x := ⟨_, List.getElem?_eq_getElem (by rw [Hl.out]; exact hkn)⟩
      obtain ⟨c0, c1, c2, c3⟩ := hc k x hx
      have d0 := (hb.cell (p := ⟨b, off + k * 4, none⟩) hlt).trans c0
      have d1 := (hb.cell (p := ⟨b, off + k * 4 + 1, none⟩) hlt).trans c1
      have d2 := (hb.cell (p := ⟨b, off + k * 4 + 2, none⟩) hlt).trans c2
      have d3 := (hb.cell (p := ⟨b, off + k * 4 + 3, none⟩) hlt).trans c3
      have Hx : Hid (l[k]? = some x) := hx
      have Hc : Hid (∀ (i : Nat) x, l[i]? = some x → w.cell? ⟨b, off + i * 4, none⟩ = some (.int .i64 x.o) ∧ w.cell? ⟨b, off + i * 4 + 1, none⟩ = some (.int .i64 x.a) ∧ w.cell? ⟨b, off + i * 4 + 2, none⟩ = some (.int .i64 x.b) ∧ w.cell? ⟨b, off + i * 4 + 3, none⟩ = some (.int .i64 x.c)) := hc
      clear c0 c1 c2 c3 hc hx
      cases hok : okB n x
      · go_wp2_with (go_at_call 67; refine (fits_any x _ _).mono ?_; rintro e w' ⟨rfl, rfl⟩)
        go_ret2
        refine ⟨?_, ?_⟩
        · rw [chk_bad (by rw [Hl.out]; exact h1) (by rw [Hl.out]; exact h2) Hx.out (by rw [Hl.out]; exact hok) (by rw [Hl.out]; exact Hall.out)]; rfl
        · exact hb.alloc hb.size _
      · go_wp2_with (go_at_call 67; refine (fits_any x _ _).mono ?_; rintro e w' ⟨rfl, rfl⟩)
        go_roundw
        case rel =>
          refine ⟨k + 1, by omega, by go_num, fun j y hj hy => ?_, ?_⟩
          · by_cases hjk : j < k
            · exact Hall.out j y hjk hy
            · have : j = k := by omega
              subst this
              have e := Hx.out.symm.trans hy
              cases e
              exact hok
          · exact hb.alloc hb.size _
        case measure => simp [intOf]; omega
    · have hkn' : k = n := by omega
      subst hkn'
      obtain ⟨x, hx⟩ : ∃ x, l[k - 1]? = some x := ⟨_, List.getElem?_eq_getElem (by rw [Hl.out]; omega)⟩
      obtain ⟨c0, -⟩ := hc (k - 1) x hx
      have d0 := (hb.cell (p := ⟨b, off + (k - 1) * 4, none⟩) hlt).trans c0
      have Hx : Hid (l[k - 1]? = some x) := hx
      clear hc hx c0
      have Hk : Hid (∀ (j : Nat) y, l[j]? = some y → okB l.length y = true) := by
        rw [Hl.out]
        intro j y hy
        exact Hall.out j y (by have := (List.getElem?_eq_some_iff.1 hy).1; rw [Hl.out] at this; exact this) hy
      have Hx2 : Hid (l[l.length - 1]? = some x) := by rw [Hl.out]; exact Hx.out
      by_cases e0 : x.o = 0
      · have t0 : (x.o != 0) = false := by rw [e0]; rfl
        have E0 : Hid (x.o = 0) := e0
        clear e0
        go_wp2
        go_ret2
        refine ⟨?_, hb⟩
        rw [chk_ok (by rw [Hl.out]; exact h1) (by rw [Hl.out]; exact h2) Hk.out Hx2.out (.inl E0.out)]; rfl
      · have t0 : (x.o != 0) = true := by simpa using e0
        by_cases e1 : x.o = 12
        · have t1 : (x.o != 12) = false := by rw [e1]; rfl
          have E1 : Hid (x.o = 12) := e1
          clear e1 e0
          go_wp2
          go_ret2
          refine ⟨?_, hb⟩
          rw [chk_ok (by rw [Hl.out]; exact h1) (by rw [Hl.out]; exact h2) Hk.out Hx2.out (.inr E1.out)]; rfl
        · have t1 : (x.o != 12) = true := by simpa using e1
          go_wp2
          go_ret2
          refine ⟨?_, hb⟩
          rw [chk_flow (by rw [Hl.out]; exact h1) (by rw [Hl.out]; exact h2) Hk.out Hx2.out e0 e1, Hl.out]; rfl

/-- For whatever list of instructions the slice reads as. -/
theorem rcheck_any {w : World} {v : Value} {l : List Ins} (h : Sees w v l) :
    Calls Tryz.prog 48 #[v] w fun e w' => e = .returned (.tuple #[.int .i64 (chk l).1, .int .i64 (chk l).2]) ∧ Below w.heap.size w w' := by
  obtain ⟨hm, h⟩ := h
  rcases h with ⟨rfl, ao, cap, rfl⟩ | ⟨b, off, cap, rfl, hlt, hc⟩
  · refine (rcheck_size0 ao 0 cap (.inl (by omega)) (by omega) w).mono ?_
    rintro e w' ⟨rfl, rfl⟩
    exact ⟨by rw [chk_size (by simp)], Below.refl _ _⟩
  · by_cases hs : l.length < 1 ∨ 40 < l.length
    · refine (rcheck_size0 _ l.length cap hs hm w).mono ?_
      rintro e w' ⟨rfl, rfl⟩
      exact ⟨by rw [chk_size hs], Below.refl _ _⟩
    · exact rcheck_loop b off l.length cap l rfl (by omega) (by omega) w hlt hc

end Go.Proofs.YtbhbacphiinpeaaGreat
