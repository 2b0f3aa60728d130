/- What 'marked' and 'endsBehind' answer. -/
import Derived.Test.YtbhbacphiinpeaaGreatRows
import Derived.Test.YtbhbacphiinpeaaGreatWy
import Derived.WalkKit
import Derived.WalkSpells
import Derived.WalkLawsBesides
import Derived.BigGuardPart
namespace Go.Proofs.YtbhbacphiinpeaaGreat
open Go.RowKit

/-- The slice reads as the marks E, one for each of n instructions. -/
def SeesB (w : World) (b n : Nat) (E : List Bool) : Prop := E.length = n ∧ 1 ≤ n ∧ n ≤ 40 ∧ b < w.heap.size ∧ ∀ (i : Nat) x, E[i]? = some x → w.cell? ⟨b, i, none⟩ = some (.bool x)

theorem SeesB.up {w w' : World} {b n : Nat} {E : List Bool} {B : Nat} (h : SeesB w b n E) (hB : w.heap.size ≤ B) (hb : Below B w w') : SeesB w' b n E := by
  obtain ⟨h1, h2, h3, h4, h5⟩ := h
  exact ⟨h1, h2, h3, Nat.lt_of_lt_of_le h4 hb.size, fun i x hx => (hb.cell (Nat.lt_of_lt_of_le h4 hB)).trans (h5 i x hx)⟩

set_option maxHeartbeats 400000 in
theorem marked_any {w : World} {b n : Nat} {E : List Bool} (cap : Nat) (h : SeesB w b n E) (m : Int) :
    Calls Tryz.prog 85 #[.slice (some ⟨b, 0, none⟩) n cap, .int .i64 m] w fun e w' => e = .returned (.bool (mkd E m)) ∧ w' = w := by
  obtain ⟨h1, h2, h3, h4, h5⟩ := h
  by_cases h0 : 0 ≤ m
  · by_cases hlt : m < (n : Int)
    · obtain ⟨i, rfl⟩ : ∃ i : Nat, m = (i : Int) := ⟨m.toNat, by omega⟩
      have hi : i < E.length := by omega
      obtain ⟨x, hx⟩ : ∃ x, E[i]? = some x := ⟨_, List.getElem?_eq_getElem hi⟩
      have c0 := h5 i x hx
      have hm : Hid (mkd E (i : Int) = x) := by unfold Hid mkd; rw [if_pos h0]; simp [hx]
      have hn2 : (n : Int) ≤ 40 := by omega
      clear h5 hx hi h1
      go_enter Tryz.func85, Tryz.ntmps85
      go_wp2
      go_ret
      exact ⟨by rw [hm.out]; rfl, rfl⟩
    · have hm : Hid (mkd E m = false) := by
        unfold Hid mkd; rw [if_pos h0]
        have : E[m.toNat]? = none := List.getElem?_eq_none (by omega)
        simp [this]
      have g1 : decide (m < (n : Int)) = false := by simpa using hlt
      clear h5 h1
      go_enter Tryz.func85, Tryz.ntmps85
      go_wp2
      go_ret
      exact ⟨by rw [hm.out]; rfl, rfl⟩
  · have hm : Hid (mkd E m = false) := by unfold Hid mkd; rw [if_neg h0]
    have g1 : decide (0 ≤ m) = false := by simpa using h0
    clear h5 h1
    go_enter Tryz.func85, Tryz.ntmps85
    go_wp2
    go_ret
    exact ⟨by rw [hm.out]; rfl, rfl⟩

set_option maxHeartbeats 400000 in
theorem behind_any {w : World} {b n : Nat} {E : List Bool} (cap : Nat) (h : SeesB w b n E) (x : Ins) (i : Nat) (hi : i < n) :
    Calls Tryz.prog 103 #[.agg #[.int .i64 x.o, .int .i64 x.a, .int .i64 x.b, .int .i64 x.c], .int .i64 i, .slice (some ⟨b, 0, none⟩) n cap] w fun e w' => e = .returned (.bool (bhd E x i)) ∧ Below w.heap.size w w' := by
  have H := hyd h
  have hi2 : (i : Int) ≤ 40 := by have := h.2.2.1; omega
  have hi0 : (0 : Int) ≤ (i : Int) := by omega
  clear h
  have HU : Hid (∀ v, SeesB (w.alloc v) b n E) := fun v => H.out.up (Nat.le_refl _) ((Below.refl _ w).alloc (Nat.le_refl _) v)
  by_cases h0 : x.o = 0
  · have hb : Hid (bhd E x i = true) := by unfold Hid bhd; rw [if_pos h0]
    have t0 : (x.o == 0) = true := by rw [h0]; rfl
    clear h0
    go_enter Tryz.func103, Tryz.ntmps103
    go_wp2
    go_ret
    exact ⟨by rw [hb.out]; rfl, (Below.refl _ _).alloc (Nat.le_refl _) _⟩
  have t0 : (x.o == 0) = false := beq_eq_false_iff_ne.2 h0
  by_cases h12 : x.o = 12
  · have hb : Hid (bhd E x i = mkd E x.b) := by unfold Hid bhd; rw [if_neg h0, if_pos h12]
    have t1 : (x.o == 12) = true := by rw [h12]; rfl
    clear h0 h12
    go_enter Tryz.func103, Tryz.ntmps103
    go_wp2_with (go_at_call 85; refine (marked_any _ (HU.out _) _).mono ?_; rintro e w' ⟨rfl, rfl⟩)
    go_ret
    exact ⟨by rw [hb.out]; rfl, (Below.refl _ _).alloc (Nat.le_refl _) _⟩
  have t1 : (x.o == 12) = false := beq_eq_false_iff_ne.2 h12
  by_cases h13 : x.o = 13
  · have hb : Hid (bhd E x i = (mkd E x.b || mkd E ((i : Int) + 1))) := by unfold Hid bhd; rw [if_neg h0, if_neg h12, if_pos h13]
    have t2 : (x.o == 13) = true := by rw [h13]; rfl
    clear h0 h12 h13
    cases hm : mkd E x.b
    · go_enter Tryz.func103, Tryz.ntmps103
      go_wp2_with (go_at_call 85; refine (marked_any _ (HU.out _) _).mono ?_; rintro e w' ⟨rfl, rfl⟩)
      go_ret
      exact ⟨by rw [hb.out, hm]; rfl, (Below.refl _ _).alloc (Nat.le_refl _) _⟩
    · go_enter Tryz.func103, Tryz.ntmps103
      go_wp2_with (go_at_call 85; refine (marked_any _ (HU.out _) _).mono ?_; rintro e w' ⟨rfl, rfl⟩)
      go_ret
      exact ⟨by rw [hb.out, hm]; rfl, (Below.refl _ _).alloc (Nat.le_refl _) _⟩
  have t2 : (x.o == 13) = false := beq_eq_false_iff_ne.2 h13
  have hb : Hid (bhd E x i = mkd E ((i : Int) + 1)) := by unfold Hid bhd; rw [if_neg h0, if_neg h12, if_neg h13]
  clear h0 h12 h13
  go_enter Tryz.func103, Tryz.ntmps103
  go_wp2_with (go_at_call 85; refine (marked_any _ (HU.out _) _).mono ?_; rintro e w' ⟨rfl, rfl⟩)
  go_ret
  exact ⟨by rw [hb.out]; rfl, (Below.refl _ _).alloc (Nat.le_refl _) _⟩

end Go.Proofs.YtbhbacphiinpeaaGreat
