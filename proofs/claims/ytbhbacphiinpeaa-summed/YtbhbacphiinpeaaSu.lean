/- Summed, plain: what a turn of a warp does. -/
import Derived.Test.YtbhbacphiinpeaaSh
namespace Go.Proofs.Ytbhbacphiinpeaa
open Go.RowKit

def kSu : List Ins := [⟨1, 1, 1, 0⟩, ⟨11, 1, 0, 0⟩, ⟨0, 0, 0, 0⟩]
theorem W64_add (a b : Int) : W64 (W64 a + b) = W64 (a + b) := by unfold W64 wrap64; omega

theorem live_all1 {ts : List Thr} {g : List Nat} (h : ∀ t ∈ g, ∃ y, ts[t]? = some y ∧ y.done = false) : liveL ts g = g := by
  unfold liveL
  rw [List.filter_eq_self]
  intro t ht
  obtain ⟨y, hy, hd⟩ := h t ht
  simp [isDone, List.getD_eq_getElem?_getD, hy, hd]

theorem each_fetch : ∀ (len s : Nat) (ts : List Thr) (x : Int) (nm : Nat → Int), W64 x = x → (∀ j, j < len → ts[s + j]? = some ⟨nm (s + j), [0, 1, 0, 0], false⟩) →
    ∃ ts' sg, eachL ⟨11, 1, 0, 0⟩ (List.range' s len) ts [x] = (ts', [W64 (x + len)], sg, none) ∧ ts'.length = ts.length ∧ ∀ i, ts'[i]? = if s ≤ i ∧ i < s + len then some ⟨nm i, [0, W64 (x + ((i : Int) - s)), 0, 0], false⟩ else ts[i]?
  | 0, s, ts, x, nm, hx, _ => by
    refine ⟨ts, [], by simp [eachL, hx], rfl, fun i => by rw [if_neg (by omega)]⟩
  | len + 1, s, ts, x, nm, hx, h => by
    have h0 := h 0 (by omega)
    rw [Nat.add_zero] at h0
    have hs : s < ts.length := (List.getElem?_eq_some_iff.1 h0).1
    have hone : oneP ⟨11, 1, 0, 0⟩ (ts.getD s thr0) [x] = (0, 0, ⟨nm s, [0, x, 0, 0], false⟩, [W64 (x + 1)]) := by
      rw [List.getD_eq_getElem?_getD, h0]
      simp [oneP, memP, Thr.get, Thr.put, W64, wrap64]
    obtain ⟨ts', sg, e, e2, e3⟩ := each_fetch len (s + 1) (ts.set s ⟨nm s, [0, x, 0, 0], false⟩) (W64 (x + 1)) nm (by unfold W64 wrap64; omega) (fun j hj => by
      rw [List.getElem?_set_ne (by omega)]
      have := h (j + 1) (by omega)
      rw [show s + (j + 1) = s + 1 + j by omega] at this
      exact this)
    refine ⟨ts', [0] ++ sg, ?_, by rw [e2, List.length_set], fun i => ?_⟩
    · rw [List.range'_succ]
      unfold eachL
      rw [hone]
      dsimp only
      rw [if_neg (by simp), e, W64_add]
      simp only [show x + 1 + (len : Int) = x + ((len + 1 : Nat) : Int) by omega]
      rfl
    · rw [e3]
      by_cases hi : i = s
      · subst hi
        rw [if_neg (by omega), if_pos (by omega), List.getElem?_set_self hs, Int.sub_self, Int.add_zero, hx]
      · by_cases h1 : s + 1 ≤ i ∧ i < s + 1 + len
        · rw [if_pos h1, if_pos (by omega), W64_add]
          have : x + 1 + ((i : Int) - ((s + 1 : Nat) : Int)) = x + ((i : Int) - (s : Int)) := by omega
          rw [this]
        · rw [if_neg h1, if_neg (by omega), List.getElem?_set_ne (fun h => hi h.symm)]

theorem done_at (g : List Nat) (ts : List Thr) (i : Nat) : (doneAll ts g)[i]? = ts[i]?.map fun t => if i ∈ g then { t with done := true } else t := by
  unfold doneAll
  induction g generalizing ts with
  | nil => simp
  | cons t g ih =>
    rw [List.foldl_cons, ih]
    by_cases e : t = i
    · subst e
      by_cases hl : t < ts.length
      · rw [List.getElem?_set_self hl, List.getElem?_eq_getElem hl, List.getD_eq_getElem?_getD, List.getElem?_eq_getElem hl]
        simp
      · rw [List.getElem?_eq_none (by rw [List.length_set]; omega), List.getElem?_eq_none (by omega)]; rfl
    · rw [List.getElem?_set_ne e]
      cases ts[i]? with
      | none => rfl
      | some y =>
        have : ¬ i = t := fun h => e h.symm
        simp [this]

theorem su_play (J : List Int) {ts : List Thr} {x : Int} {s len : Nat} (h1 : 1 ≤ len) (nm : Nat → Int) (hx : W64 x = x) (h : ∀ j, j < len → ts[s + j]? = some ⟨nm (s + j), [0, 0, 0, 0], false⟩) :
    ∃ q, runP kSu J 2000 2000 ⟨ts, [x], 0, 0, 0, 0, 0, 0, [], 0, false, false, 0⟩ (List.range' s len) 0 (-1) = q ∧ q.ends = false ∧ q.st = 0 ∧ q.waits = false ∧ q.steps = 3 ∧ q.log.length = 3 ∧ q.mem = [W64 (x + len)] ∧ q.ts.length = ts.length ∧
      ∀ i, q.ts[i]? = if s ≤ i ∧ i < s + len then some ⟨nm i, [0, W64 (x + ((i : Int) - s)), 0, 0], true⟩ else ts[i]? := by
  have hg : List.range' s len ≠ [] := by intro e; have := congrArg List.length e; simp at this; omega
  have hnd : (List.range' s len).Nodup := List.nodup_range'
  have hmem : ∀ t, t ∈ List.range' s len ↔ s ≤ t ∧ t < s + len := fun t => by simp [List.mem_range'_1]
  have hlt : ∀ t ∈ List.range' s len, t < ts.length := fun t ht => by
    have := (hmem t).1 ht
    have h2 := h (t - s) (by omega)
    rw [show s + (t - s) = t by omega] at h2
    exact (List.getElem?_eq_some_iff.1 h2).1
  have hsome : ∀ t ∈ List.range' s len, ts[t]? = some ⟨nm t, [0, 0, 0, 0], false⟩ := fun t ht => by
    have := (hmem t).1 ht
    have h2 := h (t - s) (by omega)
    rw [show s + (t - s) = t by omega] at h2
    exact h2
  -- the first step
  have s1 := step_own (k := kSu) (J := J) (bud := 2000) (F := 1999) (p := ⟨ts, [x], 0, 0, 0, 0, 0, 0, [], 0, false, false, 0⟩) (g := List.range' s len) (pc := 0) (to := -1) (x := ⟨1, 1, 1, 0⟩) ⟨rfl, rfl, live_all1 fun t ht => ⟨_, hsome t ht, rfl⟩, hg, by simp, by simp⟩ rfl (by unfold isOwnP; simp)
  have r1 : eachL ⟨1, 1, 1, 0⟩ (List.range' s len) ts [x] = (onG (List.range' s len) (fun t => t.put 1 1) ts, [x], [], none) := each_regs (fun t mem => by simp [oneP]) _ _ _ hnd hlt
  have p1 : eachP (issuedP ⟨ts, [x], 0, 0, 0, 0, 0, 0, [], 0, false, false, 0⟩ (List.range' s len) 0) (List.range' s len) 0 ⟨1, 1, 1, 0⟩ = ⟨onG (List.range' s len) (fun t => t.put 1 1) ts, [x], 0, 1, 0, 0, 0, 0, [(0, (bits (List.range' s len) : Int))], 0, false, false, 0⟩ := by
    unfold eachP issuedP
    simp only [r1]
    rfl
  have ht1 : ∀ j, j < len → (onG (List.range' s len) (fun t => t.put 1 1) ts)[s + j]? = some ⟨nm (s + j), [0, 1, 0, 0], false⟩ := fun j hj => by
    rw [onG_at, h j hj]
    simp [hmem, Thr.put, hj]
  obtain ⟨ts2, sg, e1, e2, e3⟩ := each_fetch len s _ x nm hx ht1
  have s2 := step_own (k := kSu) (J := J) (bud := 2000) (F := 1998) (p := ⟨onG (List.range' s len) (fun t => t.put 1 1) ts, [x], 0, 1, 0, 0, 0, 0, [(0, (bits (List.range' s len) : Int))], 0, false, false, 0⟩) (g := List.range' s len) (pc := 1) (to := -1) (x := ⟨11, 1, 0, 0⟩) ⟨rfl, rfl, live_all1 fun t ht => by
    have := (hmem t).1 ht
    have h2 := ht1 (t - s) (by omega)
    rw [show s + (t - s) = t by omega] at h2
    exact ⟨_, h2, rfl⟩, hg, by simp, by simp⟩ rfl (by unfold isOwnP; simp)
  have hl2 : (onG (List.range' s len) (fun t => t.put 1 1) ts).length = ts.length := by simp [onG]
  have p2 : eachP (issuedP ⟨onG (List.range' s len) (fun t => t.put 1 1) ts, [x], 0, 1, 0, 0, 0, 0, [(0, (bits (List.range' s len) : Int))], 0, false, false, 0⟩ (List.range' s len) 1) (List.range' s len) 1 ⟨11, 1, 0, 0⟩ = ⟨ts2, [W64 (x + len)], 0, 2, segC [] sg, 0, 0, 0, [(0, (bits (List.range' s len) : Int)), (1, (bits (List.range' s len) : Int))], 0, false, false, 0⟩ := by
    unfold eachP issuedP
    simp only [e1]
    simp
  have s3 := step_exit (k := kSu) (J := J) (bud := 2000) (F := 1997) (p := ⟨ts2, [W64 (x + len)], 0, 2, segC [] sg, 0, 0, 0, [(0, (bits (List.range' s len) : Int)), (1, (bits (List.range' s len) : Int))], 0, false, false, 0⟩) (g := List.range' s len) (pc := 2) (to := -1) (x := ⟨0, 0, 0, 0⟩) ⟨rfl, rfl, live_all1 fun t ht => by
    have := (hmem t).1 ht
    exact ⟨_, by rw [e3, if_pos this], rfl⟩, hg, by simp, by simp⟩ rfl rfl (fun t ht => by show t < ts2.length; rw [e2, hl2]; exact hlt t ht)
  have hrun : runP kSu J 2000 2000 ⟨ts, [x], 0, 0, 0, 0, 0, 0, [], 0, false, false, 0⟩ (List.range' s len) 0 (-1) = { issuedP ⟨ts2, [W64 (x + len)], 0, 2, segC [] sg, 0, 0, 0, [(0, (bits (List.range' s len) : Int)), (1, (bits (List.range' s len) : Int))], 0, false, false, 0⟩ (List.range' s len) 2 with ts := doneAll ts2 (List.range' s len) } := by
    refine Eq.trans s1 ?_
    refine Eq.trans (congrArg (fun p => runP kSu J 2000 1999 p (List.range' s len) 1 (-1)) p1) ?_
    refine Eq.trans s2 ?_
    refine Eq.trans (congrArg (fun p => runP kSu J 2000 1998 p (List.range' s len) 2 (-1)) p2) ?_
    exact s3
  refine ⟨_, hrun, ?_⟩
  refine ⟨rfl, rfl, rfl, rfl, rfl, rfl, ?_, fun i => ?_⟩
  · show (doneAll ts2 (List.range' s len)).length = ts.length
    rw [(doneAll_keeps _ _).1, e2, hl2]
  · show (doneAll ts2 (List.range' s len))[i]? = _
    rw [done_at, e3, onG_at]
    by_cases hi : s ≤ i ∧ i < s + len
    · rw [if_pos hi, if_pos hi]
      simp [hmem, hi]
    · rw [if_neg hi, if_neg hi]
      cases ts[i]? with
      | none => rfl
      | some y => simp [hmem, hi]

end Go.Proofs.Ytbhbacphiinpeaa
