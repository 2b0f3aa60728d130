/- Turns till a machine stops, plain. -/
import Derived.Test.YtbhbacphiinpeaaBs
namespace Go.Proofs.Ytbhbacphiinpeaa
open Go.RowKit

/-- What came of a run so far: of each warp what was issued; the steps; the last turn. -/
structure Rn where
  logs : List (List (Int × Int))
  steps : Int
  last : Trn

def Rn.add (r : Rn) (t : Trn) : Rn := ⟨r.logs.set t.warp.toNat (r.logs.getD t.warp.toNat [] ++ t.log), r.steps + t.steps, t⟩
def rn0 (c : Nat) : Rn := ⟨List.replicate c [], 0, Trn.none⟩

/-- Turns till the machine stops; none: a turn is refused, or tells other than it may, or there are too many. -/
def goP (picks : List Int) : Nat → Nat → PM → Rn → Option (PM × Rn)
  | 0, _, _, _ => none
  | f + 1, i, m, r =>
    if m.st ≠ 0 then some (m, r)
    else if (turnP m (picks.getD i 0) 2000).2.2 = 0 ∧ 0 ≤ (turnP m (picks.getD i 0) 2000).2.1.warp ∧ (turnP m (picks.getD i 0) 2000).2.1.warp < (r.logs.length : Int) ∧ (turnP m (picks.getD i 0) 2000).2.1.steps = ((turnP m (picks.getD i 0) 2000).2.1.log.length : Int) ∧ 0 < (turnP m (picks.getD i 0) 2000).2.1.log.length then
      goP picks f (i + 1) (turnP m (picks.getD i 0) 2000).1 (r.add (turnP m (picks.getD i 0) 2000).2.1)
    else none


def setJ (m : PM) (J : List Int) : PM := { m with J := J }
theorem settle_setJ (m : PM) (J : List Int) : settleP (setJ m J) = setJ (settleP m) J := by
  unfold settleP setJ
  dsimp only
  split
  · rfl
  split <;> rfl
theorem after_setJ (m : PM) (i : Nat) (p : Pl) (J : List Int) : afterP (setJ m J) i p = setJ (afterP m i p) J := by
  unfold afterP
  dsimp only
  split
  · rfl
  · exact settle_setJ { m with ts := p.ts, mem := p.mem, st := p.st, ws := m.ws.set i (if p.waits then { m.ws.getD i wrp0 with waits := true, at0 := p.at0 } else { m.ws.getD i wrp0 with done := true }) } J
theorem does_noJ' {k : List Ins} (h : ∀ x ∈ k, x.o ≠ 13) (J J' : List Int) (rn rn' : Pl → List Nat → Int → Int → Pl) (p : Pl) (g : List Nat) (pc : Int) : doesP k J rn p g pc = doesP k J' rn' p g pc := by
  unfold doesP
  cases hx : k[pc.toNat]? with
  | none => rfl
  | some x =>
    have := h x (List.mem_of_getElem? hx)
    simp only [if_neg this]
theorem run_noJ' {k : List Ins} (h : ∀ x ∈ k, x.o ≠ 13) (J J' : List Int) (bud : Nat) : ∀ (f : Nat) (p : Pl) (g : List Nat) (pc to : Int), runP k J bud f p g pc to = runP k J' bud f p g pc to
  | 0, _, _, _, _ => rfl
  | f + 1, p, g, pc, to => by
    unfold runP
    rw [does_noJ' h J J' (runP k J bud f) (runP k J' bud f)]
    simp only [run_noJ' h J J' bud f]

theorem turn_setJ {m : PM} (h : ∀ x ∈ m.k, x.o ≠ 13) (J : List Int) (pick bud : Int) : turnP (setJ m J) pick bud = (setJ (turnP m pick bud).1 J, (turnP m pick bud).2) := by
  have hp : ∀ i b, playP (setJ m J) i b = playP m i b := fun i b => by
    unfold playP
    exact run_noJ' h J m.J _ _ _ _ _ _
  unfold turnP
  simp only [hp]
  by_cases h0 : m.st ≠ 0
  · rw [if_pos (by exact h0), if_pos h0]
  · rw [if_neg (by exact h0), if_neg h0]
    by_cases hb : bud < 1 ∨ 2000 < bud
    · rw [if_pos hb, if_pos hb]
    · rw [if_neg hb, if_neg hb]
      exact congrArg (fun x => (x, _)) (after_setJ m _ _ J)
theorem turn_kJ (m : PM) (pick bud : Int) : (turnP m pick bud).1.k = m.k := by
  unfold turnP
  split
  · rfl
  split
  · rfl
  · exact (after_k _ _ _).1

/-- A kernel without a Zero: its turns are the same whatever its joins. -/
theorem go_setJ (picks : List Int) (J : List Int) : ∀ (f i : Nat) (m : PM) (r : Rn), (∀ x ∈ m.k, x.o ≠ 13) → goP picks f i (setJ m J) r = (goP picks f i m r).map fun x => (setJ x.1 J, x.2)
  | 0, _, _, _, _ => rfl
  | f + 1, i, m, r, h => by
    unfold goP
    rw [turn_setJ h]
    by_cases h0 : m.st ≠ 0
    · rw [if_pos (by exact h0), if_pos h0]; rfl
    · rw [if_neg (by exact h0), if_neg h0]
      dsimp only
      split
      · exact go_setJ picks J f (i + 1) _ _ (by rw [turn_kJ]; exact h)
      · rfl

end Go.Proofs.Ytbhbacphiinpeaa
