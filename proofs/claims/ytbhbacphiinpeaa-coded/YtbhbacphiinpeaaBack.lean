/- What is encoded is decoded: plain lists; nothing of the program is in this text. -/
import Derived.Test.YtbhbacphiinpeaaEnc
namespace Go.Proofs.Ytbhbacphiinpeaa
open Go.RowKit

theorem okB_up {n m : Int} {x : Ins} (h : n ≤ m) (hx : okB n x = true) : okB m x = true := by
  unfold okB at hx ⊢
  have hb : bel x.b n = true → bel x.b m = true := fun hb => by
    have := bel_bd hb
    simp [bel]; omega
  repeat' split at hx
  all_goals try (simp only [*, if_true, if_false] at hx ⊢)
  all_goals simp_all

theorem nums_at {l : List Ins} {i : Nat} {x : Ins} (h : l[i]? = some x) : (nums l)[4 * i]? = some x.o ∧ (nums l)[4 * i + 1]? = some x.a ∧ (nums l)[4 * i + 2]? = some x.b ∧ (nums l)[4 * i + 3]? = some x.c := by
  induction l generalizing i with
  | nil => simp at h
  | cons y l ih =>
    have e : nums (y :: l) = y.nums ++ nums l := by simp [nums]
    rw [e]
    have hl : y.nums.length = 4 := rfl
    match i, h with
    | 0, h =>
      simp at h
      subst h
      simp [Ins.nums]
    | i + 1, h =>
      have h' : l[i]? = some x := by simpa using h
      obtain ⟨a0, a1, a2, a3⟩ := ih h'
      refine ⟨?_, ?_, ?_, ?_⟩
      · rw [List.getElem?_append_right (by omega), hl, show 4 * (i + 1) - 4 = 4 * i by omega]; exact a0
      · rw [List.getElem?_append_right (by omega), hl, show 4 * (i + 1) + 1 - 4 = 4 * i + 1 by omega]; exact a1
      · rw [List.getElem?_append_right (by omega), hl, show 4 * (i + 1) + 2 - 4 = 4 * i + 2 by omega]; exact a2
      · rw [List.getElem?_append_right (by omega), hl, show 4 * (i + 1) + 3 - 4 = 4 * i + 3 by omega]; exact a3

theorem byt_str {xs : List Int} {j : Nat} {x : Int} (h : xs[j]? = some x) (h0 : 0 ≤ x) (h1 : x ≤ 255) : byt (strOfNums xs) j = x := by
  unfold byt
  rw [strOfNums_data, List.getD_eq_getElem?_getD, List.getElem?_map, h]
  simp
  omega

theorem unp_back {l : List Ins} (h : ∀ x ∈ l, (0 ≤ x.o ∧ x.o ≤ 255) ∧ (0 ≤ x.a ∧ x.a ≤ 255) ∧ (0 ≤ x.b ∧ x.b ≤ 255) ∧ (0 ≤ x.c ∧ x.c ≤ 255)) : unp (strOfNums (nums l)) l.length = l := by
  apply List.ext_getElem?
  intro i
  by_cases hi : i < l.length
  · have hx : l[i]? = some l[i] := List.getElem?_eq_getElem hi
    obtain ⟨⟨a1, a2⟩, ⟨a3, a4⟩, ⟨a5, a6⟩, ⟨a7, a8⟩⟩ := h l[i] (List.getElem_mem hi)
    obtain ⟨n0, n1, n2, n3⟩ := nums_at hx
    rw [hx]
    simp only [unp, List.getElem?_map, List.getElem?_range hi, Option.map_some, insAt, byt_str n0 a1 a2, byt_str n1 a3 a4, byt_str n2 a5 a6, byt_str n3 a7 a8]
  · rw [List.getElem?_eq_none (by rw [unp_length]; omega), List.getElem?_eq_none (by omega)]

theorem back_size (l : List Ins) : (strOfNums (nums l)).size = 4 * l.length := by rw [strOfNums_size, nums_length]

theorem dchk_back {l : List Ins} (h : chk l = (0, 0)) : dchk (strOfNums (nums l)) = (0, 0) ∧ decL (strOfNums (nums l)) = l := by
  obtain ⟨-, h1, h2, h3⟩ := chk_zero (by rw [h])
  have hb := unp_back (l := l) (fun x hx => by
    obtain ⟨j, hj⟩ := List.mem_iff_getElem?.1 hx
    exact okB_bd (by omega) (h3 j x hj))
  have e1 : dchk (strOfNums (nums l)) = (0, 0) := by
    unfold dchk
    rw [back_size, if_neg (by omega), show 4 * l.length / 4 = l.length by omega, hb, h]
  refine ⟨e1, ?_⟩
  unfold decL
  rw [e1, if_pos rfl, back_size, show 4 * l.length / 4 = l.length by omega, hb]

theorem dchk_more {s : ByteArray} (h : s.size % 4 ≠ 0) : dchk s = (1, 0) := by unfold dchk; rw [if_pos (.inl h)]

/-- One wrong operation. -/
theorem chk_wrong {l : List Ins} (h : chk l = (0, 0)) {i : Nat} (hi : i < l.length) {o : Int} (ho : 14 < o) : chk (l.modify i fun x => { x with o := o }) = (2, (i : Int)) := by
  obtain ⟨-, h1, h2, h3⟩ := chk_zero (by rw [h])
  have hl : (l.modify i fun x => { x with o := o }).length = l.length := by simp
  refine chk_bad (by omega) (by omega) (x := { l[i] with o := o }) ?_ ?_ ?_
  · rw [List.getElem?_modify, List.getElem?_eq_getElem hi]; simp
  · unfold okB
    rw [if_neg (by dsimp only; omega), if_neg (by dsimp only; omega), if_neg (by dsimp only; omega), if_neg (by dsimp only; omega), if_neg (by dsimp only; omega), if_neg (by dsimp only; omega), if_neg (by dsimp only; omega)]
  · intro j y hj hy
    rw [hl]
    rw [List.getElem?_modify] at hy
    have hne : i ≠ j := by omega
    simp [hne] at hy
    exact h3 j y hy

/-- An end that is none. -/
theorem chk_open {l : List Ins} (h : chk l = (0, 0)) (hl : l.length ≤ 39) : chk (l ++ [⟨1, 0, 0, 0⟩]) = (3, (l.length : Int)) := by
  obtain ⟨-, h1, h2, h3⟩ := chk_zero (by rw [h])
  have hn : (l ++ [(⟨1, 0, 0, 0⟩ : Ins)]).length = l.length + 1 := by simp
  have := chk_flow (l := l ++ [⟨1, 0, 0, 0⟩]) (x := ⟨1, 0, 0, 0⟩) (by omega) (by omega) (fun j y hy => by
    rw [hn]
    by_cases hj : j < l.length
    · rw [List.getElem?_append_left hj] at hy
      have hk := h3 j y hy
      have hm : okB ((l.length + 1 : Nat) : Int) y = true := okB_up (by omega) hk
      exact hm
    · rw [List.getElem?_append_right (by omega)] at hy
      have : j - l.length = 0 := by
        have := (List.getElem?_eq_some_iff.1 hy).1
        simp at this; omega
      rw [this] at hy
      simp at hy
      subst hy
      simp [okB, bel]) (by simp) (by decide) (by decide)
  rw [this, hn]
  congr 1
  omega

theorem flat_modifyO : ∀ (l : List Ins) (i : Nat) (n : Int), i < l.length → flat (l.modify i fun x => { x with o := n }) = (flat l).set (i * 4) (.int .i64 n)
  | [], i, n, h => by simp at h
  | x :: l, 0, n, _ => by
    have e : ∀ (y : Ins) (m : List Ins), flat (y :: m) = y.vals ++ flat m := fun y m => by simp [flat]
    rw [List.modify_zero_cons, e, e]
    simp [Ins.vals]
  | x :: l, i + 1, n, h => by
    have e : ∀ (y : Ins) (m : List Ins), flat (y :: m) = y.vals ++ flat m := fun y m => by simp [flat]
    rw [List.modify_succ_cons, e, e, flat_modifyO l i n (by simpa using h), List.set_append_right _ _ (by simp [Ins.vals]; omega)]
    have e2 : (i + 1) * 4 - x.vals.length = i * 4 := by simp [Ins.vals]; omega
    rw [e2]

end Go.Proofs.Ytbhbacphiinpeaa
