/- A machine whose warps go by phases (from Wait to Wait): its turns, whatever the picks. -/
import Derived.Test.YtbhbacphiinpeaaSg
namespace Go.Proofs.Ytbhbacphiinpeaa
open Go.RowKit

/-- The warps in phase p: those of S have had their turn in it. -/
def wsOf (c z p : Nat) (a : Nat → Int) (S : Nat → Bool) : List Wrp :=
  (List.range c).map fun i => if S i then (if p = z then ⟨a p, false, true⟩ else ⟨a (p + 1), true, false⟩) else ⟨a p, false, false⟩
def put1 (S : Nat → Bool) (i : Nat) : Nat → Bool := fun j => if j = i then true else S j

theorem wsOf_len (c z p : Nat) (a : Nat → Int) (S : Nat → Bool) : (wsOf c z p a S).length = c := by simp [wsOf]
theorem wsOf_get {c z p : Nat} {a : Nat → Int} {S : Nat → Bool} {i : Nat} (h : i < c) : (wsOf c z p a S)[i]? = some (if S i then (if p = z then ⟨a p, false, true⟩ else ⟨a (p + 1), true, false⟩) else ⟨a p, false, false⟩) := by
  simp [wsOf, h]
theorem wsOf_getD {c z p : Nat} {a : Nat → Int} {S : Nat → Bool} {i : Nat} (h : i < c) : (wsOf c z p a S).getD i wrp0 = (if S i then (if p = z then ⟨a p, false, true⟩ else ⟨a (p + 1), true, false⟩) else ⟨a p, false, false⟩) := by
  rw [List.getD_eq_getElem?_getD, wsOf_get h]; rfl
theorem wsOf_set {c z p : Nat} {a : Nat → Int} {S : Nat → Bool} {i : Nat} (h : i < c) : (wsOf c z p a S).set i (if p = z then ⟨a p, false, true⟩ else ⟨a (p + 1), true, false⟩) = wsOf c z p a (put1 S i) := by
  apply List.ext_getElem?
  intro j
  by_cases hj : j < c
  · rw [wsOf_get hj]
    by_cases e : j = i
    · subst e
      rw [List.getElem?_set_self (by rw [wsOf_len]; exact hj)]
      simp [put1]
    · rw [List.getElem?_set_ne (fun h => e h.symm), wsOf_get hj]
      simp [put1, e]
  · rw [List.getElem?_eq_none (by rw [List.length_set, wsOf_len]; omega), List.getElem?_eq_none (by rw [wsOf_len]; omega)]

theorem readyOf {c z p : Nat} {a : Nat → Int} {S : Nat → Bool} {i : Nat} : i ∈ readyL (wsOf c z p a S) ↔ i < c ∧ S i = false := by
  unfold readyL
  rw [List.mem_filter, List.mem_range, wsOf_len]
  constructor
  · rintro ⟨h1, h2⟩
    refine ⟨h1, ?_⟩
    rw [wsOf_getD h1] at h2
    cases hS : S i with
    | false => rfl
    | true =>
      rw [hS] at h2
      simp only [if_true] at h2
      split at h2 <;> simp [rdy] at h2
  · rintro ⟨h1, h2⟩
    refine ⟨h1, ?_⟩
    rw [wsOf_getD h1, h2]
    simp [rdy]

theorem pickW_mem' {l : List Nat} (h : l ≠ []) (pick : Int) : pickW l pick ∈ l := by
  have h0 : 0 < l.length := List.length_pos_iff.2 h
  have key : ∀ i, i < l.length → l.getD i 0 ∈ l := fun i hi => by
    rw [List.getD_eq_getElem?_getD, List.getElem?_eq_getElem hi]
    exact List.getElem_mem hi
  unfold pickW
  split
  · exact key _ (by omega)
  · exact key 0 h0

/-- How many of the first c have not had their turn? -/
def left (S : Nat → Bool) : Nat → Nat
  | 0 => 0
  | c + 1 => left S c + (if S c then 0 else 1)
theorem left_put {S : Nat → Bool} {i : Nat} (h : S i = false) : ∀ {c : Nat}, i < c → left (put1 S i) c + 1 = left S c
  | 0, hc => by omega
  | c + 1, hc => by
    unfold left
    by_cases e : c = i
    · subst e
      have : left (put1 S c) c = left S c := by
        have key : ∀ d, d ≤ c → left (put1 S c) d = left S d := by
          intro d
          induction d with
          | zero => intro _; rfl
          | succ d ih => intro hd; unfold left; rw [ih (by omega)]; simp [put1, show d ≠ c by omega]
        exact key c (Nat.le_refl _)
      rw [this, h]; simp [put1]
    · have := left_put h (show i < c by omega)
      have e2 : put1 S i c = S c := by simp [put1, e]
      rw [e2]; omega
theorem left_zero {S : Nat → Bool} : ∀ {c : Nat}, left S c = 0 → ∀ i, i < c → S i = true
  | 0, _, i, hi => by omega
  | c + 1, h, i, hi => by
    unfold left at h
    by_cases e : i = c
    · subst e
      cases hS : S i with
      | true => rfl
      | false => rw [hS] at h; simp at h
    · exact left_zero (c := c) (by omega) i (by omega)
theorem left_all {S : Nat → Bool} : ∀ {c : Nat}, (∀ i, i < c → S i = true) → left S c = 0
  | 0, _ => rfl
  | c + 1, h => by unfold left; rw [left_all fun i hi => h i (by omega), h c (by omega)]; rfl
theorem left_none (c : Nat) : left (fun _ => false) c = c := by
  induction c with
  | zero => rfl
  | succ c ih => unfold left; rw [ih]; rfl

/-- What a machine of phases is held to. -/
structure Phased (k : List Ins) (J : List Int) (c z : Nat) (a : Nat → Int) (Inv : Nat → (Nat → Bool) → List Thr → List Int → Rn → Prop) : Prop where
  len : ∀ p S ts mem r, Inv p S ts mem r → r.logs.length = c
  step : ∀ p S ts mem r i, p ≤ z → i < c → S i = false → Inv p S ts mem r → ∃ q, runP k J 2000 2000 ⟨ts, mem, 0, 0, 0, 0, 0, 0, [], 0, false, false, 0⟩ (warpG ts.length i) (a p) (-1) = q ∧ q.ends = false ∧ q.st = 0 ∧ q.waits = decide (p ≠ z) ∧ (p ≠ z → q.at0 = a (p + 1)) ∧ q.steps = q.log.length ∧ 0 < q.log.length ∧ Inv p (put1 S i) q.ts q.mem (r.add (turnOf i q))
  next : ∀ p S ts mem r, p < z → (∀ i, i < c → S i = true) → Inv p S ts mem r → Inv (p + 1) (fun _ => false) ts mem r

theorem phased_go {k : List Ins} {J : List Int} {c z : Nat} {a : Nat → Int} {Inv : Nat → (Nat → Bool) → List Thr → List Int → Rn → Prop} (H : Phased k J c z a Inv) (hc : 0 < c) (picks : List Int) :
    ∀ (f idx p : Nat) (S : Nat → Bool) (ts : List Thr) (mem : List Int) (r : Rn), p ≤ z → 0 < left S c → (z - p) * c + left S c < f → Inv p S ts mem r →
      ∃ S' ts' mem' r' ws', goP picks f idx ⟨k, J, ts, wsOf c z p a S, mem, 0⟩ r = some (⟨k, J, ts', ws', mem', 1⟩, r') ∧ (∀ i, i < c → S' i = true) ∧ Inv z S' ts' mem' r'
  | 0, _, _, _, _, _, _, _, _, h, _ => by omega
  | f + 1, idx, p, S, ts, mem, r, hp, hl, hf, hI => by
    have hne : readyL (wsOf c z p a S) ≠ [] := fun e => by
      have : ∀ i, i < c → S i = true := fun i hi => by
        cases hS : S i with
        | true => rfl
        | false => exact absurd (readyOf.2 ⟨hi, hS⟩) (by rw [e]; simp)
      rw [left_all this] at hl
      omega
    obtain ⟨i, hi⟩ : ∃ i, pickW (readyL (wsOf c z p a S)) (picks.getD idx 0) = i := ⟨_, rfl⟩
    have hm := pickW_mem' hne (picks.getD idx 0)
    rw [hi] at hm
    obtain ⟨hic, hS⟩ := readyOf.1 hm
    obtain ⟨q, hq, q1, q2, q3, q4, q5, q6, q7⟩ := H.step p S ts mem r i hp hic hS hI
    have hplay : playP ⟨k, J, ts, wsOf c z p a S, mem, 0⟩ i 2000 = q := by
      unfold playP
      dsimp only
      rw [wsOf_getD hic, hS]
      exact hq
    have hws : (wsOf c z p a S).set i (if q.waits then { (wsOf c z p a S).getD i wrp0 with waits := true, at0 := q.at0 } else { (wsOf c z p a S).getD i wrp0 with done := true }) = wsOf c z p a (put1 S i) := by
      rw [← wsOf_set hic, wsOf_getD hic, hS, q3]
      congr 1
      by_cases e : p = z
      · simp [e]
      · simp [e, q4 e]
    have hT : turnP ⟨k, J, ts, wsOf c z p a S, mem, 0⟩ (picks.getD idx 0) 2000 = (settleP ⟨k, J, q.ts, wsOf c z p a (put1 S i), q.mem, 0⟩, turnOf i q, 0) := by
      unfold turnP
      rw [if_neg (by simp), if_neg (by omega)]
      dsimp only
      rw [hi, show (2000 : Int).toNat = 2000 from rfl, hplay]
      unfold afterP
      rw [q1, q2]
      dsimp only
      rw [hws]
      rfl
    have hlen := H.len _ _ _ _ _ hI
    unfold goP
    rw [if_neg (by simp), hT]
    dsimp only
    rw [if_pos ⟨rfl, by simp [turnOf], by simp only [turnOf]; rw [hlen]; omega, by simp only [turnOf]; rw [q5], by simpa [turnOf] using q6⟩]
    have hlp := left_put hS hic
    by_cases h0 : left (put1 S i) c = 0
    · have hall := left_zero h0
      by_cases e : p = z
      · subst e
        have hst : settleP ⟨k, J, q.ts, wsOf c p p a (put1 S i), q.mem, 0⟩ = ⟨k, J, q.ts, wsOf c p p a (put1 S i), q.mem, 1⟩ := by
          unfold settleP
          rw [if_pos]
          rw [List.all_eq_true]
          intro x hx
          simp only [wsOf, List.mem_map, List.mem_range] at hx
          obtain ⟨j, hj, rfl⟩ := hx
          rw [hall j hj]; simp
        rw [hst]
        obtain ⟨f', rfl⟩ : ∃ f', f = f' + 1 := ⟨f - 1, by omega⟩
        unfold goP
        rw [if_pos (by simp)]
        exact ⟨_, _, _, _, _, rfl, hall, q7⟩
      · have hst : settleP ⟨k, J, q.ts, wsOf c z p a (put1 S i), q.mem, 0⟩ = ⟨k, J, q.ts, wsOf c z (p + 1) a (fun _ => false), q.mem, 0⟩ := by
          unfold settleP
          rw [if_neg, if_pos]
          · congr 1
            apply List.ext_getElem?
            intro j
            by_cases hj : j < c
            · rw [List.getElem?_map, wsOf_get hj, wsOf_get hj, hall j hj]
              simp [e]
            · rw [List.getElem?_eq_none (by rw [List.length_map, wsOf_len]; omega), List.getElem?_eq_none (by rw [wsOf_len]; omega)]
          · cases hr : readyL (wsOf c z p a (put1 S i)) with
            | nil => rfl
            | cons x l =>
              have := readyOf.1 (show x ∈ readyL (wsOf c z p a (put1 S i)) by rw [hr]; simp)
              rw [hall x this.1] at this
              simp at this
          · intro hx
            have := List.all_eq_true.1 hx _ (List.mem_of_getElem? (wsOf_get hic))
            rw [hall i hic] at this
            simp [e] at this
        rw [hst]
        refine phased_go H hc picks f (idx + 1) (p + 1) (fun _ => false) q.ts q.mem _ (by omega) (by rw [left_none]; exact hc) ?_ (H.next p _ _ _ _ (by omega) hall q7)
        rw [left_none]
        have : (z - p) * c = (z - (p + 1)) * c + c := by
          rw [show z - p = z - (p + 1) + 1 by omega, Nat.add_mul, Nat.one_mul]
        omega
    · have hst : settleP ⟨k, J, q.ts, wsOf c z p a (put1 S i), q.mem, 0⟩ = ⟨k, J, q.ts, wsOf c z p a (put1 S i), q.mem, 0⟩ := by
        obtain ⟨j, hj, hSj⟩ : ∃ j, j < c ∧ put1 S i j = false := by
          apply Classical.byContradiction
          intro hx
          refine h0 (left_all fun j hj => ?_)
          cases hS' : put1 S i j with
          | true => rfl
          | false => exact absurd ⟨j, hj, hS'⟩ hx
        unfold settleP
        rw [if_neg, if_neg]
        · intro hx
          have : j ∈ readyL (wsOf c z p a (put1 S i)) := readyOf.2 ⟨hj, hSj⟩
          rw [hx] at this
          simp at this
        · intro hx
          have := List.all_eq_true.1 hx _ (List.mem_of_getElem? (wsOf_get hj))
          rw [hSj] at this
          simp at this
      rw [hst]
      exact phased_go H hc picks f (idx + 1) p (put1 S i) q.ts q.mem _ hp (by omega) (by omega) q7

end Go.Proofs.Ytbhbacphiinpeaa
