/- A drawn way comes by the joins in their order: plain lists; nothing of the program is in this text. -/
import Derived.Test.YtbhbacphiinpeaaPa4
namespace Go.Proofs.Ytbhbacphiinpeaa
open Go.RowKit

theorem way_drop {k : List Ins} {wo : Int} : ∀ {p : List Nat} {n i a : Nat}, IsWay k wo n p → (n :: p)[i]? = some a → IsWay k wo a (p.drop i)
  | p, n, 0, a, h, ha => by
    simp at ha
    subst ha
    simpa using h
  | [], n, i + 1, a, h, ha => by simp at ha
  | m :: p, n, i + 1, a, h, ha => by
    have := way_drop (i := i) h.2.2 (by simpa using ha)
    simpa using this

theorem toZ_at {l : List Nat} {i : Nat} {x : Int} : (toZ l)[i]? = some x ↔ ∃ m : Nat, l[i]? = some m ∧ x = (m : Int) := by
  unfold toZ
  rw [List.getElem?_map, Option.map_eq_some_iff]
  constructor
  · rintro ⟨m, h1, rfl⟩
    exact ⟨m, h1, rfl⟩
  · rintro ⟨m, h1, rfl⟩
    exact ⟨m, h1, rfl⟩

theorem first_at_is {a d : Nat} {q r : List Nat} (hd : d ∉ q) {z : Int} (h : FirstIs (toZ (a :: (q ++ d :: r))) (d : Int) z) : z = ((q.length + 1 : Nat) : Int) := by
  have hat : (toZ (a :: (q ++ d :: r)))[q.length + 1]? = some (d : Int) := toZ_at.2 ⟨d, by simp, rfl⟩
  rcases h with ⟨-, hno⟩ | ⟨i, rfl, h1, h2, h3⟩
  · exact absurd hat (hno _ (by omega))
  · by_cases h4 : i = q.length + 1
    · rw [h4]
    · by_cases h5 : i < q.length + 1
      · obtain ⟨m, h6, h7⟩ := toZ_at.1 h2
        obtain ⟨i', rfl⟩ : ∃ i', i = i' + 1 := ⟨i - 1, by omega⟩
        rw [List.getElem?_cons_succ, List.getElem?_append_left (by omega)] at h6
        have : d = m := by omega
        subst this
        exact absurd (List.mem_of_getElem? h6) hd
      · exact absurd hat (h3 _ (by omega) (by omega))

theorem first_behind {a d e : Nat} {q r : List Nat} (he : e ∉ q) (hr : e ∈ r) {z : Int} (h : FirstIs (toZ (a :: (q ++ d :: r))) (e : Int) z) : ((q.length + 1 : Nat) : Int) ≤ z := by
  rcases h with ⟨-, hno⟩ | ⟨i, rfl, h1, h2, -⟩
  · have hm : e ∈ q ++ d :: r := by simp [hr]
    obtain ⟨j, hj⟩ := List.mem_iff_getElem?.1 hm
    exact absurd (toZ_at.2 ⟨e, by rw [List.getElem?_cons_succ]; exact hj, rfl⟩) (hno (j + 1) (by omega))
  · by_cases h5 : i < q.length + 1
    · obtain ⟨m, h6, h7⟩ := toZ_at.1 h2
      obtain ⟨i', rfl⟩ : ∃ i', i = i' + 1 := ⟨i - 1, by omega⟩
      rw [List.getElem?_cons_succ, List.getElem?_append_left (by omega)] at h6
      have : e = m := by omega
      subst this
      exact absurd (List.mem_of_getElem? h6) he
    · omega

/-- What Passed asks at each instruction of a drawn way. -/
theorem Joined.drawn {k : List Ins} {J : List Int} (h : Joined k J) {s i a : Nat} {P : List Nat} (hs : s < k.length) (hw : IsWay k (-1) s P) (hi : i < P.length) (ha : (s :: P)[i]? = some a) :
    a + 1 < k.length ∧ ∃ d : Nat, J[a]? = some (d : Int) ∧ d < k.length ∧ ∀ z, FirstIs (toZ ((s :: P).drop i)) (d : Int) z → 0 ≤ z ∧ (d + 1 ≠ k.length → ∃ e : Nat, J[d]? = some (e : Int) ∧ ∀ y, FirstIs (toZ ((s :: P).drop i)) (e : Int) y → z ≤ y) := by
  have hwa := way_drop hw ha
  have hal : a < k.length := by
    have hm := List.mem_of_getElem? ha
    rcases List.mem_cons.1 hm with rfl | hm
    · exact hs
    · exact way_lt h.closed hs hw a hm
  have hne : a + 1 ≠ k.length := fun e => by
    obtain ⟨x, hx, h0⟩ := h.ends.2 e
    cases hd : P.drop i with
    | nil =>
      have := congrArg List.length hd
      rw [List.length_drop, List.length_nil] at this
      omega
    | cons m p =>
      rw [hd] at hwa
      have h1 := hwa.1
      unfold nxt at h1
      rw [hx] at h1
      simp [h0] at h1
  have hlt : a + 1 < k.length := by omega
  obtain ⟨d, hd, hf⟩ := h.join hlt
  have hdrop : (s :: P).drop i = a :: P.drop i := by
    have hil : i < (s :: P).length := by simp; omega
    rw [List.drop_eq_getElem_cons hil]
    obtain ⟨_, h2⟩ := List.getElem?_eq_some_iff.1 ha
    rw [h2]
    simp
  obtain ⟨q, r, hq, hdq, hrest⟩ := h.way hlt hwa hd
  refine ⟨hlt, d, hd, hf.1, fun z hz => ?_⟩
  rw [hdrop, hq] at hz ⊢
  have ez := first_at_is hdq hz
  refine ⟨by omega, fun hdl => ?_⟩
  have hdl2 : d + 1 < k.length := by have := hf.1; omega
  obtain ⟨e, he, -⟩ := h.join hdl2
  obtain ⟨e1, -, e3⟩ := hrest e he
  exact ⟨e, he, fun y hy => by rw [ez]; exact first_behind e1 e3 hy⟩

end Go.Proofs.Ytbhbacphiinpeaa
