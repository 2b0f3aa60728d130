/- What 'aheadOfAll' and 'firstMet' answer. -/
import Derived.Test.YtbhbacphiinpeaaWc
namespace Go.Proofs.Ytbhbacphiinpeaa
open Go.RowKit


set_option maxHeartbeats 1000000 in
set_option maxRecDepth 100000 in
theorem ahead_any {w : World} {b n : Nat} {M : List (List Bool)} (cap : Nat) (h : SeesM w b n M) (s d : Nat) (hs : s < n) (hd : d < n) :
    Calls Try.prog 58 #[.slice (some ⟨b, 0, none⟩) n cap, .int .i64 s, .int .i64 d] w fun e w' => (∃ r : Bool, e = .returned (.bool r) ∧ (r = true ↔ Ahead M s d)) ∧ w' = w := by
  have H := hyd h
  obtain ⟨hM, hn1, hn, hbw, -⟩ := h
  have HM := hyd hM
  clear hM
  have hn2 : (n : Int) ≤ 40 := by omega
  go_enter Try.func58, Try.ntmps58
  go_wp2_with fail
  go_loopw [10] (fun cv wr => ∃ c : Nat, c ≤ n ∧ cv = .int .i64 c ∧ (∀ i, i < c → AheadC M s d i) ∧ wr = w) (fun cv _ => n - (intOf cv).toNat)
  case atStart => exact ⟨0, Nat.zero_le _, rfl, fun i hi => by omega, rfl⟩
  case round =>
    obtain ⟨c, hcn, rfl, hall, hw⟩ := hrel
    subst wr
    have Hall := hyd hall
    clear hall
    by_cases hlt : c < n
    · obtain ⟨R, hR⟩ : ∃ R, M[c]? = some R := ⟨_, List.getElem?_eq_getElem (by rw [HM.out]; exact hlt)⟩
      obtain ⟨g, cp, c0, hS⟩ := H.out.2.2.2.2 c R hR
      have HS := hyd hS
      have HR := hyd hR
      clear hS hR
      have c1 : (0 : Int) ≤ (c : Int) := by omega
      have c2 : (c : Int) < (n : Int) := by omega
      have step : Hid (AheadC M s d c → ∀ i, i < c + 1 → AheadC M s d i) := fun hc i hi => by
        by_cases e : i = c
        · rw [e]; exact hc
        · exact Hall.out i (by omega)
      have unf : Hid (AheadC M s d c ↔ (c ≠ d → mkd R s = true → mkd R d = true)) := ⟨fun h => h R HR.out, fun h Q hQ => by have e := HR.out.symm.trans hQ; cases e; exact h⟩
      by_cases hcd : c = d
      · subst hcd
        have g0 : ((c : Int) != (c : Int)) = false := by simp
        go_wp2
        go_roundw
        case rel => exact ⟨c + 1, by omega, by go_num, step.out (unf.out.2 fun h => absurd rfl h), trivial⟩
        case measure => simp [intOf] <;> omega
      · have g0 : ((c : Int) != (d : Int)) = true := by rw [bne_iff_ne]; omega
        have Hcd := hyd hcd
        clear hcd
        cases hm1 : mkd R (s : Int)
        · go_wp2_with (go_at_call 57; refine (marked_any cp HS.out _).mono ?_; rintro e w' ⟨rfl, hw'⟩; subst w'; first | rw [hm1] | rw [hm2])
          go_roundw
          case rel => exact ⟨c + 1, by omega, by go_num, step.out (unf.out.2 fun _ h => by rw [hm1] at h; cases h), trivial⟩
          case measure => simp [intOf] <;> omega
        · cases hm2 : mkd R (d : Int)
          · go_wp2_with (go_at_call 57; refine (marked_any cp HS.out _).mono ?_; rintro e w' ⟨rfl, hw'⟩; subst w'; first | rw [hm1] | rw [hm2])
            go_ret
            refine ⟨⟨false, rfl, ?_⟩, rfl⟩
            have hno : ¬ Ahead M s d := fun h => by
              have := (unf.out.1 (h c)) Hcd.out hm1
              rw [hm2] at this
              cases this
            simp [hno]
          · go_wp2_with (go_at_call 57; refine (marked_any cp HS.out _).mono ?_; rintro e w' ⟨rfl, hw'⟩; subst w'; first | rw [hm1] | rw [hm2])
            go_roundw
            case rel => exact ⟨c + 1, by omega, by go_num, step.out (unf.out.2 fun _ _ => hm2), trivial⟩
            case measure => simp [intOf] <;> omega
    · have hcn' : c = n := by omega
      subst hcn'
      go_wp2
      go_ret
      refine ⟨⟨true, rfl, ?_⟩, rfl⟩
      have hyes : Ahead M s d := fun i Q hQ => by
        have hi := (List.getElem?_eq_some_iff.1 hQ).1
        rw [HM.out] at hi
        exact Hall.out i hi Q hQ
      simp [hyes]

set_option maxHeartbeats 1000000 in
set_option maxRecDepth 100000 in
theorem first_any {w : World} {b n : Nat} {k : List Ins} {M : List (List Bool)} (cap : Nat) (hOn : On k M) (h : SeesM w b n M) (s : Nat) (hs : s < n) :
    Calls Try.prog 47 #[.slice (some ⟨b, 0, none⟩) n cap, .int .i64 s] w fun e w' => (∃ j : Int, e = .returned (.int .i64 j) ∧ JoinIs k s j) ∧ w' = w := by
  have H := hyd h
  have HOn := hyd hOn
  obtain ⟨hM, hn1, hn, hbw, -⟩ := h
  have HM := hyd hM
  clear hM hOn
  have hn2 : (n : Int) ≤ 40 := by omega
  go_enter Try.func47, Try.ntmps47
  go_wp2_with fail
  go_loopw [8] (fun cv wr => ∃ c : Nat, c ≤ n ∧ cv = .int .i64 c ∧ (∀ i, i < c → ¬ Hit M s i) ∧ wr = w) (fun cv _ => n - (intOf cv).toNat)
  case atStart => exact ⟨0, Nat.zero_le _, rfl, fun i hi => by omega, rfl⟩
  case round =>
    obtain ⟨c, hcn, rfl, hall, hw⟩ := hrel
    subst wr
    have Hall := hyd hall
    clear hall
    by_cases hlt : c < n
    · obtain ⟨R, hR⟩ : ∃ R, M[c]? = some R := ⟨_, List.getElem?_eq_getElem (by rw [HM.out]; exact hlt)⟩
      obtain ⟨g, cp, c0, hS⟩ := H.out.2.2.2.2 c R hR
      have HS := hyd hS
      have HR := hyd hR
      clear hS hR
      have c1 : (0 : Int) ≤ (c : Int) := by omega
      have c2 : (c : Int) < (n : Int) := by omega
      have step : Hid (¬ Hit M s c → ∀ i, i < c + 1 → ¬ Hit M s i) := fun hc i hi => by
        by_cases e : i = c
        · rw [e]; exact hc
        · exact Hall.out i (by omega)
      have unf : Hid (Hit M s c ↔ (mkd R s = true ∧ Ahead M s c)) := ⟨fun ⟨Q, hQ, h⟩ => by have e := HR.out.symm.trans hQ; cases e; exact h, fun h => ⟨R, HR.out, h⟩⟩
      cases hm1 : mkd R (s : Int)
      · go_wp2_with (first | (go_at_call 57; refine (marked_any cp HS.out _).mono ?_; rintro e w' ⟨rfl, hw'⟩; subst w'; rw [hm1]))
        go_roundw
        case rel => exact ⟨c + 1, by omega, by go_num, step.out (fun h => by have := (unf.out.1 h).1; rw [hm1] at this; cases this), trivial⟩
        case measure => simp [intOf] <;> omega
      · by_cases hA : Ahead M s c
        · have HA := hyd hA
          clear hA
          go_wp2_with (first | (go_at_call 57; refine (marked_any cp HS.out _).mono ?_; rintro e w' ⟨rfl, hw'⟩; subst w'; rw [hm1]) | (go_at_call 58; refine (ahead_any cap H.out s c hs hlt).mono ?_; rintro e w' ⟨⟨r, rfl, hr⟩, hw'⟩; subst w'; rw [hr.2 HA.out]; clear hr))
          go_ret
          exact ⟨⟨c, rfl, join_hit HOn.out (unf.out.2 ⟨hm1, HA.out⟩)⟩, rfl⟩
        · have HA := hyd hA
          clear hA
          go_wp2_with (first | (go_at_call 57; refine (marked_any cp HS.out _).mono ?_; rintro e w' ⟨rfl, hw'⟩; subst w'; rw [hm1]) | (go_at_call 58; refine (ahead_any cap H.out s c hs hlt).mono ?_; rintro e w' ⟨⟨r, rfl, hr⟩, hw'⟩; subst w'; rw [Bool.eq_false_iff.2 fun e => HA.out (hr.1 e)]; clear hr))
          go_roundw
          case rel => exact ⟨c + 1, by omega, by go_num, step.out (fun h => HA.out (unf.out.1 h).2), trivial⟩
          case measure => simp [intOf] <;> omega
    · have hcn' : c = n := by omega
      subst hcn'
      go_wp2
      go_ret
      exact ⟨⟨-1, rfl, join_miss HOn.out fun i hi => Hall.out i (by rw [← HM.out]; exact hi)⟩, rfl⟩

end Go.Proofs.Ytbhbacphiinpeaa
