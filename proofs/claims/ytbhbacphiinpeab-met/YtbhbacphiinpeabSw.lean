/- Threads of a warp that store at, and load from, their own addresses. -/
import Derived.Test.YtbhbacphiinpeabSu
namespace Go.Proofs.Ytbhbacphiinpeab
open Go.RowKit

theorem set_getD {ts : List Thr} {s : Nat} (h : s < ts.length) : ts.set s (ts.getD s thr0) = ts := by
  apply List.ext_getElem?
  intro i
  rw [List.getElem?_set]
  split
  · rename_i e
    subst e
    rw [List.getD_eq_getElem?_getD, List.getElem?_eq_getElem h]
    rfl
  · rfl

/-- Each stores its register a at the address that its register 0 holds: its own number. -/
theorem each_store (a : Int) : ∀ (len s : Nat) (ts : List Thr) (mem : List Int) (y : Nat → Thr), mem.length ≤ 32 → (∀ j, j < len → ts[s + j]? = some (y (s + j)) ∧ (y (s + j)).get 0 = ((s + j : Nat) : Int) ∧ s + j < mem.length) →
    ∃ mem' sg, eachL ⟨10, a, 0, 0⟩ (List.range' s len) ts mem = (ts, mem', sg, none) ∧ mem'.length = mem.length ∧ ∀ i, mem'[i]? = if s ≤ i ∧ i < s + len then some ((y i).get a) else mem[i]?
  | 0, s, ts, mem, y, _, _ => ⟨mem, [], by simp [eachL], rfl, fun i => by rw [if_neg (by omega)]⟩
  | len + 1, s, ts, mem, y, hm, h => by
    obtain ⟨h0, h1, h2⟩ := h 0 (by omega)
    rw [Nat.add_zero] at h0 h1 h2
    have hs : s < ts.length := (List.getElem?_eq_some_iff.1 h0).1
    have hw : W64 ((s : Int) + 0) = (s : Int) := by unfold W64 wrap64; omega
    have hone : oneP ⟨10, a, 0, 0⟩ (ts.getD s thr0) mem = (0, (s : Int), ts.getD s thr0, mem.set s ((y s).get a)) := by
      have hd : ts.getD s thr0 = y s := by rw [List.getD_eq_getElem?_getD, h0]; rfl
      rw [hd]
      unfold oneP memP
      simp only [h1, hw]
      rw [if_neg (by omega), if_neg (by omega), if_neg (by omega), if_neg (by omega), if_neg (by omega), if_neg (by omega), if_neg (by omega), if_neg (by omega), if_neg (by omega), if_neg (by omega), if_pos trivial, Int.toNat_natCast]
    obtain ⟨mem', sg, e, e2, e3⟩ := each_store a len (s + 1) ts (mem.set s ((y s).get a)) y (by rw [List.length_set]; exact hm) (fun j hj => by
      have := h (j + 1) (by omega)
      rw [show s + (j + 1) = s + 1 + j by omega] at this
      rw [List.length_set]
      exact this)
    refine ⟨mem', [(s : Int) / 4] ++ sg, ?_, by rw [e2, List.length_set], fun i => ?_⟩
    · rw [List.range'_succ]
      unfold eachL
      rw [hone]
      dsimp only
      rw [if_neg (by simp), set_getD hs, e, if_pos (by omega)]
    · rw [e3]
      by_cases hi : i = s
      · subst hi
        rw [if_neg (by omega), if_pos (by omega), List.getElem?_set_self h2]
      · by_cases h1 : s + 1 ≤ i ∧ i < s + 1 + len
        · rw [if_pos h1, if_pos (by omega)]
        · rw [if_neg h1, if_neg (by omega), List.getElem?_set_ne (fun h => hi h.symm)]

/-- Each loads, into its register 2, the word behind its own address. -/
theorem each_load : ∀ (len s : Nat) (ts : List Thr) (mem : List Int) (y : Nat → Thr), mem.length ≤ 32 → (∀ j, j < len → ts[s + j]? = some (y (s + j)) ∧ (y (s + j)).get 0 = ((s + j : Nat) : Int) ∧ s + j + 1 < mem.length) →
    ∃ ts' sg, eachL ⟨9, 2, 0, 1⟩ (List.range' s len) ts mem = (ts', mem, sg, none) ∧ ts'.length = ts.length ∧ ∀ i, ts'[i]? = if s ≤ i ∧ i < s + len then some ((y i).put 2 (mem.getD (i + 1) 0)) else ts[i]?
  | 0, s, ts, mem, y, _, _ => ⟨ts, [], by simp [eachL], rfl, fun i => by rw [if_neg (by omega)]⟩
  | len + 1, s, ts, mem, y, hm, h => by
    obtain ⟨h0, h1, h2⟩ := h 0 (by omega)
    rw [Nat.add_zero] at h0 h1 h2
    have hs : s < ts.length := (List.getElem?_eq_some_iff.1 h0).1
    have hw : W64 ((s : Int) + 1) = ((s + 1 : Nat) : Int) := by unfold W64 wrap64; omega
    have hone : oneP ⟨9, 2, 0, 1⟩ (ts.getD s thr0) mem = (0, ((s + 1 : Nat) : Int), (y s).put 2 (mem.getD (s + 1) 0), mem) := by
      have hd : ts.getD s thr0 = y s := by rw [List.getD_eq_getElem?_getD, h0]; rfl
      rw [hd]
      unfold oneP memP
      simp only [h1, hw]
      rw [if_neg (by omega), if_neg (by omega), if_neg (by omega), if_neg (by omega), if_neg (by omega), if_neg (by omega), if_neg (by omega), if_neg (by omega), if_neg (by omega), if_pos trivial, Int.toNat_natCast]
    obtain ⟨ts', sg, e, e2, e3⟩ := each_load len (s + 1) (ts.set s ((y s).put 2 (mem.getD (s + 1) 0))) mem y hm (fun j hj => by
      have := h (j + 1) (by omega)
      rw [show s + (j + 1) = s + 1 + j by omega] at this
      rw [List.getElem?_set_ne (by omega)]
      exact this)
    refine ⟨ts', [((s + 1 : Nat) : Int) / 4] ++ sg, ?_, by rw [e2, List.length_set], fun i => ?_⟩
    · rw [List.range'_succ]
      unfold eachL
      rw [hone]
      dsimp only
      rw [if_neg (by simp), e, if_pos (by omega)]
    · rw [e3]
      by_cases hi : i = s
      · subst hi
        rw [if_neg (by omega), if_pos (by omega), List.getElem?_set_self hs]
      · by_cases h1 : s + 1 ≤ i ∧ i < s + 1 + len
        · rw [if_pos h1, if_pos (by omega)]
        · rw [if_neg h1, if_neg (by omega), List.getElem?_set_ne (fun h => hi h.symm)]

end Go.Proofs.Ytbhbacphiinpeab
