/- The first instruction on each way, as the program finds it: plain lists. -/
import Derived.Test.YtbhbacphiinpeaaGreatWy
import Derived.Test.YtbhbacphiinpeaaGreatPs
namespace Go.Proofs.YtbhbacphiinpeaaGreat
open Go.RowKit

/-- Do all others on each way from n stand on each way from d? -/
def AheadC (M : List (List Bool)) (n d c : Nat) : Prop := ∀ R, M[c]? = some R → c ≠ d → mkd R n = true → mkd R d = true
def Ahead (M : List (List Bool)) (n d : Nat) : Prop := ∀ c, AheadC M n d c
def Hit (M : List (List Bool)) (n d : Nat) : Prop := ∃ R, M[d]? = some R ∧ mkd R n = true ∧ Ahead M n d

theorem hit_iff {k : List Ins} {M : List (List Bool)} (h : On k M) {n d : Nat} : Hit M n d ↔ (Rch k (-1) n ∧ IsFirst k n d) := by
  have at' : ∀ c, c < k.length → ∃ R, M[c]? = some R ∧ OnRow k c R := fun c hc => by
    have e : M[c]? = some (M[c]'(by rw [h.1]; exact hc)) := List.getElem?_eq_getElem _
    exact ⟨_, e, h.2 c _ e⟩
  constructor
  · rintro ⟨R, hR, hn, ha⟩
    have hd : d < k.length := by rw [← h.1]; exact (List.getElem?_eq_some_iff.1 hR).1
    obtain ⟨hr, hp⟩ := ((h.2 d R hR).2 n).1 ((mkd_nat R n).1 hn)
    refine ⟨hr, hd, hp, fun x hx hpx hne => ?_⟩
    obtain ⟨S, hS, hS2⟩ := at' x hx
    have := ha x S hS hne ((mkd_nat S n).2 ((hS2.2 n).2 ⟨hr, hpx⟩))
    exact ((hS2.2 d).1 ((mkd_nat S d).1 this)).2
  · rintro ⟨hr, hd, hp, hall⟩
    obtain ⟨R, hR, hR2⟩ := at' d hd
    refine ⟨R, hR, (mkd_nat R n).2 ((hR2.2 n).2 ⟨hr, hp⟩), fun c S hS hne hm => ?_⟩
    have hc : c < k.length := by rw [← h.1]; exact (List.getElem?_eq_some_iff.1 hS).1
    have hS2 := h.2 c S hS
    have hpc := ((hS2.2 n).1 ((mkd_nat S n).1 hm)).2
    exact (mkd_nat S d).2 ((hS2.2 d).2 ⟨psd_rch hr hp, hall c hc hpc hne⟩)

theorem join_hit {k : List Ins} {M : List (List Bool)} (h : On k M) {n d : Nat} (hd : Hit M n d) : JoinIs k n (d : Int) := by
  obtain ⟨h1, h2⟩ := (hit_iff h).1 hd
  exact .inr ⟨h1, .inl ⟨d, h2, rfl⟩⟩

theorem join_miss {k : List Ins} {M : List (List Bool)} (h : On k M) {n : Nat} (hd : ∀ d, d < M.length → ¬ Hit M n d) : JoinIs k n (-1) := by
  by_cases hr : Rch k (-1) n
  · refine .inr ⟨hr, .inr ⟨fun ⟨d, hf⟩ => ?_, rfl⟩⟩
    exact hd d (by rw [h.1]; exact hf.1) ((hit_iff h).2 ⟨hr, hf⟩)
  · exact .inl ⟨hr, rfl⟩

end Go.Proofs.YtbhbacphiinpeaaGreat
