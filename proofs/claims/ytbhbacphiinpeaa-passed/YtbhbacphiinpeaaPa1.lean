/- What 'first', 'meet' and 'at' (of loomkeep) answer. -/
import Derived.Test.YtbhbacphiinpeaaQ1
import Derived.Test.YtbhbacphiinpeaaKern
namespace Go.Proofs.Ytbhbacphiinpeaa
open Go.RowKit

/-- Where x stands first in l behind its beginning (-1: nowhere). -/
def FirstIs (l : List Int) (x r : Int) : Prop := (r = -1 ∧ ∀ i : Nat, 1 ≤ i → l[i]? ≠ some x) ∨ ∃ i : Nat, r = (i : Int) ∧ 1 ≤ i ∧ l[i]? = some x ∧ ∀ j : Nat, 1 ≤ j → j < i → l[j]? ≠ some x

set_option maxHeartbeats 1000000 in
set_option maxRecDepth 100000 in
theorem first_at_some (b off cap n : Nat) (l : List Int) (x : Int) (hl : l.length = n) (hn : n ≤ 17592186044416) (w : World) (hb0 : b < w.heap.size)
    (hc : ∀ (i : Nat) x, l[i]? = some x → w.cell? ⟨b, off + i, none⟩ = some (.int .i64 x)) :
    Calls Try.prog 16 #[.slice (some ⟨b, off, none⟩) n cap, .int .i64 x] w fun e w' => (∃ r, e = .returned (.int .i64 r) ∧ FirstIs l x r) ∧ Below w.heap.size w w' := by
  have Hl := hyd hl
  have Hc := hyd hc
  clear hl hc
  have hn2 : (n : Int) ≤ 17592186044416 := by omega
  go_enter Try.func16, Try.ntmps16
  go_wp2_with fail
  go_loopw [5] (fun i wr => ∃ k : Nat, 1 ≤ k ∧ (k ≤ n ∨ k = 1) ∧ i = .int .i64 k ∧ (∀ j : Nat, 1 ≤ j → j < k → l[j]? ≠ some x) ∧ Below w.heap.size w wr) (fun i _ => n - (intOf i).toNat)
  case atStart => exact ⟨1, Nat.le_refl _, .inr rfl, rfl, fun j h1 h2 => by omega, Below.refl _ _⟩
  case round =>
    obtain ⟨k, hk1, hk, rfl, hno, hb⟩ := hrel
    have Hno := hyd hno
    clear hno
    by_cases hkn : k < n
    · obtain ⟨y, hy⟩ : ∃ y, l[k]? = some y := ⟨_, List.getElem?_eq_getElem (by rw [Hl.out]; exact hkn)⟩
      have d0 := (hb.cell (p := ⟨b, off + k, none⟩) hb0).trans (Hc.out k y hy)
      have Hy := hyd hy
      clear hy
      have i1 : (0 : Int) ≤ (k : Int) := by omega
      have i2 : (k : Int) < (n : Int) := by omega
      by_cases hyx : y = x
      · subst hyx
        go_wp2
        go_ret
        exact ⟨⟨_, rfl, .inr ⟨k, rfl, hk1, Hy.out, Hno.out⟩⟩, hb⟩
      · have g0 : (y == x) = false := beq_eq_false_iff_ne.2 hyx
        have Hyx := hyd hyx
        clear hyx
        go_wp2
        go_roundw
        case rel =>
          refine ⟨k + 1, by omega, by omega, by go_num, fun j h1 h2 => ?_, hb⟩
          by_cases e : j = k
          · subst e
            rw [Hy.out]
            intro h
            injection h with h
            exact Hyx.out h
          · exact Hno.out j h1 (by omega)
        case measure => simp [intOf]; omega
    · go_wp2
      go_ret
      refine ⟨⟨_, rfl, .inl ⟨rfl, fun i h1 => ?_⟩⟩, hb⟩
      by_cases h2 : i < k
      · exact Hno.out i h1 h2
      · rw [List.getElem?_eq_none (by rw [Hl.out]; omega)]
        intro h
        cases h

/-- The first of the one list that stands in the other. -/
def meetZ (a b : List Int) : Int := (a.find? (fun x => decide (x ∈ b))).getD (-1)

theorem meetZ_yes {a b : List Int} {k : Nat} {x : Int} (h : a[k]? = some x) (hb : x ∈ b) (hno : ∀ j : Nat, j < k → ∀ y, a[j]? = some y → y ∉ b) : meetZ a b = x := by
  unfold meetZ
  have : a.find? (fun x => decide (x ∈ b)) = some x := by
    rw [List.find?_eq_some_iff_getElem]
    obtain ⟨h1, h2⟩ := List.getElem?_eq_some_iff.1 h
    exact ⟨by simpa using hb, k, h1, h2, fun j hj => by
      have := hno j hj _ (List.getElem?_eq_getElem (by omega))
      simpa using this⟩
  rw [this]
  rfl

theorem meetZ_no {a b : List Int} (hno : ∀ (j : Nat) y, a[j]? = some y → y ∉ b) : meetZ a b = -1 := by
  unfold meetZ
  have : a.find? (fun x => decide (x ∈ b)) = none := by
    rw [List.find?_eq_none]
    intro y hy
    obtain ⟨j, hj⟩ := List.mem_iff_getElem?.1 hy
    simpa using hno j y hj
  rw [this]
  rfl

set_option maxHeartbeats 1000000 in
set_option maxRecDepth 100000 in
theorem meet_some (b0 o0 b1 o1 c0 c1 n m : Nat) (la lb : List Int) (hla : la.length = n) (hlb : lb.length = m) (hn : n ≤ 17592186044416) (hm : m ≤ 17592186044416) (w : World) (hb0 : b0 < w.heap.size) (hb1 : b1 < w.heap.size)
    (hc0 : ∀ (i : Nat) x, la[i]? = some x → w.cell? ⟨b0, o0 + i, none⟩ = some (.int .i64 x)) (hc1 : ∀ (i : Nat) x, lb[i]? = some x → w.cell? ⟨b1, o1 + i, none⟩ = some (.int .i64 x)) :
    Calls Try.prog 34 #[.slice (some ⟨b0, o0, none⟩) n c0, .slice (some ⟨b1, o1, none⟩) m c1] w fun e w' => e = .returned (.int .i64 (meetZ la lb)) ∧ Below w.heap.size w w' := by
  have Hla := hyd hla
  have Hlb := hyd hlb
  have H0 := hyd hc0
  have H1 := hyd hc1
  clear hla hlb hc0 hc1
  have hn2 : (n : Int) ≤ 17592186044416 := by omega
  have hm2 : (m : Int) ≤ 17592186044416 := by omega
  go_enter Try.func34, Try.ntmps34
  go_wp2_with fail
  go_loopw [5] (fun i wr => ∃ k : Nat, k ≤ n ∧ i = .int .i64 k ∧ (∀ j : Nat, j < k → ∀ y, la[j]? = some y → y ∉ lb) ∧ Below w.heap.size w wr) (fun i _ => n - (intOf i).toNat)
  case atStart => exact ⟨0, Nat.zero_le _, rfl, fun j h => by omega, Below.refl _ _⟩
  case round =>
    obtain ⟨k, hk, rfl, hno, hb⟩ := hrel
    have Hno := hyd hno
    clear hno
    by_cases hkn : k < n
    · obtain ⟨y, hy⟩ : ∃ y, la[k]? = some y := ⟨_, List.getElem?_eq_getElem (by rw [Hla.out]; exact hkn)⟩
      have Hy := hyd hy
      clear hy
      have i1 : (0 : Int) ≤ (k : Int) := by omega
      have i2 : (k : Int) < (n : Int) := by omega
      go_wp2_with fail
      go_loopw [6] (fun i wx => ∃ q : Nat, q ≤ m ∧ i = .int .i64 q ∧ (∀ j : Nat, j < q → lb[j]? ≠ some y) ∧ Below w.heap.size w wx) (fun i _ => m - (intOf i).toNat)
      case atStart => exact ⟨0, Nat.zero_le _, rfl, fun j h => by omega, hb⟩
      case round =>
        obtain ⟨q, hq, rfl, hnq, hbx⟩ := hrel
        have Hnq := hyd hnq
        clear hnq
        have d0 := (hbx.cell (p := ⟨b0, o0 + k, none⟩) hb0).trans (H0.out k y Hy.out)
        by_cases hqm : q < m
        · obtain ⟨z, hz⟩ : ∃ z, lb[q]? = some z := ⟨_, List.getElem?_eq_getElem (by rw [Hlb.out]; exact hqm)⟩
          have d1 := (hbx.cell (p := ⟨b1, o1 + q, none⟩) hb1).trans (H1.out q z hz)
          have Hz := hyd hz
          clear hz
          have j1 : (0 : Int) ≤ (q : Int) := by omega
          have j2 : (q : Int) < (m : Int) := by omega
          by_cases hyz : y = z
          · subst hyz
            go_wp2_with fail
            go_quiet (fail)
            have e0 := (below_drewN hbx 9).cell (p := ⟨b0, o0 + k, none⟩) hb0
            go_wp2
            go_ret
            refine ⟨?_, below_drewN hbx _⟩
            rw [meetZ_yes Hy.out (List.mem_of_getElem? Hz.out) Hno.out]
            rfl
          · have g0 : (y == z) = false := beq_eq_false_iff_ne.2 hyz
            have Hyz := hyd hyz
            clear hyz
            go_wp2_with fail
            go_quiet (fail)
            go_wp2
            go_roundw
            case rel =>
              refine ⟨q + 1, by omega, by go_num, fun j h => ?_, below_drewN hbx _⟩
              by_cases e : j = q
              · subst e
                rw [Hz.out]
                intro h
                injection h with h
                exact Hyz.out h.symm
              · exact Hnq.out j (by omega)
            case measure => simp [intOf]; omega
        · clear d0
          go_wp2
          go_roundw
          case rel =>
            refine ⟨k + 1, by omega, by go_num, fun j h u hu => ?_, hbx⟩
            by_cases e : j = k
            · subst e
              rw [Hy.out] at hu
              injection hu with hu
              subst hu
              intro hm
              obtain ⟨j, hj⟩ := List.mem_iff_getElem?.1 hm
              have hjl := (List.getElem?_eq_some_iff.1 hj).1
              rw [Hlb.out] at hjl
              exact Hnq.out j (by omega) hj
            · exact Hno.out j (by omega) u hu
          case measure => simp [intOf]; omega
    · go_wp2
      go_ret
      refine ⟨?_, hb⟩
      rw [meetZ_no fun j u hu => Hno.out j (by
        have hjl := (List.getElem?_eq_some_iff.1 hu).1
        rw [Hla.out] at hjl
        omega) u hu]
      rfl

set_option maxHeartbeats 400000 in
theorem at_any {w : World} {v : Value} {l : List Int} (h : SeesI w v l) (i : Nat) (hi : i ≤ 4000) :
    Calls Try.prog 36 #[v, .int .i64 i] w fun e w' => (∃ y, e = .returned (.int .i64 y) ∧ -9223372036854775808 ≤ y ∧ y ≤ 9223372036854775807) ∧ w' = w := by
  obtain ⟨hm, hbd, h⟩ := h
  have Hbd := hyd hbd
  clear hbd
  have hi2 : (i : Int) ≤ 4000 := by omega
  have hi0 : (0 : Int) ≤ (i : Int) := by omega
  rcases h with ⟨rfl, ao, cap, rfl⟩ | ⟨b, off, cap, rfl, hlt, hc⟩
  · go_enter Try.func36, Try.ntmps36
    go_wp2
    go_ret
    exact ⟨⟨_, rfl, by omega, by omega⟩, rfl⟩
  · obtain ⟨n, Hn⟩ : ∃ n, Hid (l.length = n) := ⟨_, rfl⟩
    rw [Hn.out] at hm ⊢
    have hn2 : (n : Int) ≤ 9223372036854775807 := by omega
    by_cases hin : i < n
    · obtain ⟨y, hy⟩ : ∃ y, l[i]? = some y := ⟨_, List.getElem?_eq_getElem (by rw [Hn.out]; exact hin)⟩
      have d0 := hc i y hy
      have Hy := hyd (Hbd.out i y hy)
      clear hc hy
      have i2 : (i : Int) < (n : Int) := by omega
      go_enter Try.func36, Try.ntmps36
      go_wp2
      go_ret
      exact ⟨⟨_, rfl, Hy.out⟩, rfl⟩
    · clear hc
      go_enter Try.func36, Try.ntmps36
      go_wp2
      go_ret
      exact ⟨⟨_, rfl, by omega, by omega⟩, rfl⟩

end Go.Proofs.Ytbhbacphiinpeaa
