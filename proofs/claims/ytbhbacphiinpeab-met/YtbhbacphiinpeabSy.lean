/- Met, plain: the whole run, whatever the picks. -/
import Derived.Test.YtbhbacphiinpeabSx
import Derived.Test.YtbhbacphiinpeabSv
namespace Go.Proofs.Ytbhbacphiinpeab
open Go.RowKit

def vMe (n : Nat) (mem0 : List Int) (t : Nat) : Int := if t + 1 < n then ((t + 1 : Nat) : Int) else mem0.getD n 0
def meT (n : Nat) (mem0 : List Int) (p : Nat) (b : Bool) (t : Nat) : Thr :=
  if p = 0 then (if b then yB t else yA t) else if p = 1 then (if b then yC (vMe n mem0) t else yB t) else (if b then { yD (vMe n mem0) t with done := true } else yC (vMe n mem0) t)
def meM (mem0 : List Int) (p : Nat) (b : Bool) (a : Nat) : Int :=
  if p = 0 then (if b then (a : Int) else mem0.getD a 0) else if p = 1 then (a : Int) else (if b then 99 else (a : Int))
def meS (p : Nat) : Nat := if p = 1 then 2 else 3
def meZ (p : Nat) : Nat := if p = 0 then 3 else if p = 1 then 5 else 8
def meA (p : Nat) : Int := if p = 0 then 0 else if p = 1 then 3 else 5

def MeInv (n c : Nat) (mem0 : List Int) (p : Nat) (S : Nat → Bool) (ts : List Thr) (mem : List Int) (r : Rn) : Prop :=
  ts.length = n ∧ r.logs.length = c ∧ mem.length = 32 ∧ r.steps + ((meS p * left S c : Nat) : Int) = ((meZ p * c : Nat) : Int) ∧
    (∀ t, t < n → ts[t]? = some (meT n mem0 p (S (t / 4)) t)) ∧ ∀ a, a < 32 → mem[a]? = some (if a < n then meM mem0 p (S (a / 4)) a else mem0.getD a 0)

/-- What a turn leaves of the invariant, where it is told by places. -/
theorem me_put {n c : Nat} {mem0 : List Int} {p : Nat} {S : Nat → Bool} {ts : List Thr} {mem : List Int} {r : Rn} {i : Nat} (hi : i < c) (hS : S i = false) (h : MeInv n c mem0 p S ts mem r) {q : Pl} (h1 : q.ts.length = ts.length) (h2 : q.mem.length = mem.length) (h3 : q.steps = meS p)
    (h4 : ∀ t, t < n → q.ts[t]? = if t / 4 = i then some (meT n mem0 p true t) else ts[t]?) (h5 : ∀ a, a < 32 → q.mem[a]? = if a < n ∧ a / 4 = i then some (meM mem0 p true a) else mem[a]?) : MeInv n c mem0 p (put1 S i) q.ts q.mem (r.add (turnOf i q)) := by
  obtain ⟨i1, i2, i3, i4, i5, i6⟩ := h
  have hl := left_put hS hi
  refine ⟨by rw [h1, i1], by simp [Rn.add, i2], by rw [h2, i3], ?_, fun t ht => ?_, fun a ha => ?_⟩
  · have : meS p * left S c = meS p * left (put1 S i) c + meS p := by rw [← hl, Nat.mul_add, Nat.mul_one]
    rw [this] at i4
    simp only [Rn.add, turnOf, h3]
    omega
  · rw [h4 t ht]
    by_cases e : t / 4 = i
    · rw [if_pos e]; simp [put1, e]
    · rw [if_neg e, i5 t ht]; simp [put1, e]
  · rw [h5 a ha]
    by_cases e : a < n ∧ a / 4 = i
    · rw [if_pos e, if_pos e.1]; simp [put1, e.2]
    · rw [if_neg e, i6 a ha]
      by_cases e1 : a < n
      · have e2 : ¬ a / 4 = i := fun h => e ⟨e1, h⟩
        simp [put1, e2]
      · rw [if_neg e1, if_neg e1]

theorem me_phased (J : List Int) (n c : Nat) (hc : c = (n + 3) / 4) (hn : n ≤ 16) (mem0 : List Int) : Phased kMe J c 2 meA (MeInv n c mem0) := by
  refine ⟨fun p S ts mem r h => h.2.1, ?_, ?_⟩
  · intro p S ts mem r i hp hi hS hI
    obtain ⟨i1, i2, i3, i4, i5, i6⟩ := id hI
    have hlen : 1 ≤ szW n i := by unfold szW; omega
    have h4 : ∀ t, 4 * i ≤ t ∧ t < 4 * i + szW n i ↔ t < n ∧ t / 4 = i := fun t => by unfold szW; omega
    have hle : 4 * i + szW n i ≤ n := by unfold szW; omega
    have at' : ∀ j, j < szW n i → ts[4 * i + j]? = some (meT n mem0 p false (4 * i + j)) := fun j hj => by
      have := (h4 (4 * i + j)).1 ⟨by omega, by omega⟩
      rw [i5 _ this.1, this.2, hS]
    rcases (by omega : p = 0 ∨ p = 1 ∨ p = 2) with rfl | rfl | rfl
    · obtain ⟨q, hq, a1, a2, a3, a4, a5, a6, a7, a8, a9, a10⟩ := me_play0 J (ts := ts) (mem := mem) (s := 4 * i) (len := szW n i) hlen (by omega) (by omega) at'
      refine ⟨q, by rw [i1]; exact hq, a1, a2, by rw [a3]; rfl, fun _ => a4, by rw [a5, a6], by rw [a6]; omega, me_put hi hS hI a7 a8 a5 (fun t ht => ?_) (fun a ha => ?_)⟩
      · rw [a9]
        by_cases e : t / 4 = i
        · rw [if_pos ((h4 t).2 ⟨ht, e⟩), if_pos e]; rfl
        · rw [if_neg (fun h => e ((h4 t).1 h).2), if_neg e]
      · rw [a10]
        by_cases e : a < n ∧ a / 4 = i
        · rw [if_pos ((h4 a).2 e), if_pos e]; rfl
        · rw [if_neg (fun h => e ((h4 a).1 h)), if_neg e]
    · obtain ⟨q, hq, a1, a2, a3, a4, a5, a6, a7, a8, a9⟩ := me_play1 J (ts := ts) (mem := mem) (s := 4 * i) (len := szW n i) hlen (by omega) (by omega) at'
      refine ⟨q, by rw [i1]; exact hq, a1, a2, by rw [a3]; rfl, fun _ => a4, by rw [a5, a6], by rw [a6]; omega, me_put hi hS hI a7 (by rw [a8]) a5 (fun t ht => ?_) (fun a ha => ?_)⟩
      · rw [a9]
        by_cases e : t / 4 = i
        · rw [if_pos ((h4 t).2 ⟨ht, e⟩), if_pos e]
          have hv : mem.getD (t + 1) 0 = vMe n mem0 t := by
            rw [List.getD_eq_getElem?_getD, i6 (t + 1) (by omega)]
            unfold vMe
            by_cases e1 : t + 1 < n
            · rw [if_pos e1, if_pos e1]; rfl
            · rw [if_neg e1, if_neg e1, show t + 1 = n by omega]; rfl
          show some (yC (fun t => mem.getD (t + 1) 0) t) = some (yC (vMe n mem0) t)
          unfold yC
          dsimp only
          rw [hv]
        · rw [if_neg (fun h => e ((h4 t).1 h).2), if_neg e]
      · rw [a8]
        by_cases e : a < n ∧ a / 4 = i
        · rw [if_pos e, i6 a ha, if_pos e.1]; rfl
        · rw [if_neg e]
    · obtain ⟨q, hq, a1, a2, a3, a5, a6, a7, a8, a9, a10⟩ := me_play2 J (ts := ts) (mem := mem) (s := 4 * i) (len := szW n i) (vMe n mem0) hlen (by omega) (by omega) at'
      refine ⟨q, by rw [i1]; exact hq, a1, a2, by rw [a3]; rfl, fun h => by omega, by rw [a5, a6], by rw [a6]; omega, me_put hi hS hI a7 a8 a5 (fun t ht => ?_) (fun a ha => ?_)⟩
      · rw [a9]
        by_cases e : t / 4 = i
        · rw [if_pos ((h4 t).2 ⟨ht, e⟩), if_pos e]; rfl
        · rw [if_neg (fun h => e ((h4 t).1 h).2), if_neg e]
      · rw [a10]
        by_cases e : a < n ∧ a / 4 = i
        · rw [if_pos ((h4 a).2 e), if_pos e]; rfl
        · rw [if_neg (fun h => e ((h4 a).1 h)), if_neg e]
  · intro p S ts mem r hp hall ⟨i1, i2, i3, i4, i5, i6⟩
    rw [left_all hall] at i4
    refine ⟨i1, i2, i3, ?_, fun t ht => ?_, fun a ha => ?_⟩
    · rw [left_none]
      rcases (by omega : p = 0 ∨ p = 1) with rfl | rfl
      · simp only [meS, meZ] at i4 ⊢; simp at i4 ⊢; omega
      · simp only [meS, meZ] at i4 ⊢; simp at i4 ⊢; omega
    · rw [i5 t ht, hall _ (by omega)]
      rcases (by omega : p = 0 ∨ p = 1) with rfl | rfl <;> rfl
    · rw [i6 a ha]
      by_cases e : a < n
      · rw [if_pos e, if_pos e, hall _ (by omega)]
        rcases (by omega : p = 0 ∨ p = 1) with rfl | rfl <;> rfl
      · rw [if_neg e, if_neg e]

theorem me_go (J : List Int) (n : Nat) (hn : 1 ≤ n) (hn2 : n ≤ 16) (mem0 : List Int) (hm : mem0.length = 32) (picks : List Int) :
    ∃ m' R, goP picks 200 0 (newP kMe J n 0 mem0) (rn0 ((n + 3) / 4)) = some (m', R) ∧ m'.st = 1 ∧ R.steps = ((8 * ((n + 3) / 4) : Nat) : Int) ∧ m'.mem.length = 32 ∧ m'.ts.length = n ∧ (∀ t, t < n → m'.ts[t]? = some ⟨(t : Int), [(t : Int), 99, vMe n mem0 t, 0], true⟩) ∧ ∀ a, a < 32 → m'.mem[a]? = some (if a < n then 99 else mem0.getD a 0) := by
  obtain ⟨c, hc⟩ : ∃ c, c = (n + 3) / 4 := ⟨_, rfl⟩
  rw [← hc]
  have h0 : newP kMe J n 0 mem0 = ⟨kMe, J, (List.range n).map fun (i : Nat) => (⟨((0 : Nat) : Int) + (i : Int), [0, 0, 0, 0], false⟩ : Thr), wsOf c 2 0 meA (fun _ => false), mem0, 0⟩ := by
    unfold newP
    rw [← hc]
    congr 1
    apply List.ext_getElem?
    intro j
    by_cases hj : j < c
    · rw [wsOf_get hj, List.getElem?_replicate, if_pos hj]; rfl
    · rw [List.getElem?_eq_none (by simp; omega), List.getElem?_eq_none (by rw [wsOf_len]; omega)]
  obtain ⟨S', ts', mem', r', ws', hg, hall, i1, i2, i3, i4, i5, i6⟩ := phased_go (me_phased J n c hc hn2 mem0) (by omega) picks 200 0 0 (fun _ => false) ((List.range n).map fun (i : Nat) => (⟨((0 : Nat) : Int) + (i : Int), [0, 0, 0, 0], false⟩ : Thr)) mem0 (rn0 c) (by omega) (by rw [left_none]; omega) (by rw [left_none]; omega) (by
    refine ⟨by simp, by simp [rn0], hm, ?_, fun t ht => ?_, fun a ha => ?_⟩
    · rw [left_none]; simp [rn0, meS, meZ]
    · simp [ht, meT, yA]
    · have hg : mem0[a]? = some (mem0.getD a 0) := by rw [List.getD_eq_getElem?_getD, List.getElem?_eq_getElem (by omega)]; rfl
      rw [hg]
      by_cases e : a < n
      · rw [if_pos e]; rfl
      · rw [if_neg e])
  rw [h0]
  rw [left_all hall] at i4
  refine ⟨_, _, hg, rfl, ?_, i3, i1, fun t ht => ?_, fun a ha => ?_⟩
  · simp only [meS, meZ] at i4; simp at i4 ⊢; omega
  · rw [i5 t ht, hall _ (by omega)]; rfl
  · rw [i6 a ha]
    by_cases e : a < n
    · rw [if_pos e, if_pos e, hall _ (by omega)]; rfl
    · rw [if_neg e, if_neg e]

end Go.Proofs.Ytbhbacphiinpeab
