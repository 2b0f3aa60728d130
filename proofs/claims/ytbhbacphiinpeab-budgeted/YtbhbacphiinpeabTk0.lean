/- What the two turns of Budgeted come to. Plain lists; nothing of the program is in this text. -/
import Derived.Test.YtbhbacphiinpeabTi
namespace Go.Proofs.Ytbhbacphiinpeab
open Go.RowKit

theorem new_turn {k : List Ins} {J : List Int} {n first : Nat} {mem : List Int} (h1 : 1 ≤ n) {c : Nat} (hc1 : 1 ≤ c) (hc2 : c ≤ 2000) : turnP (newP k J n first mem) 0 c = (afterP (newP k J n first mem) 0 (playP (newP k J n first mem) 0 c), turnOf 0 (playP (newP k J n first mem) 0 c), 0) := by
  have hw : pickW (readyL (newP k J n first mem).ws) 0 = 0 := by
    obtain ⟨z, hz⟩ : ∃ z, (n + 3) / 4 = z + 1 := ⟨(n + 3) / 4 - 1, by omega⟩
    have e : (newP k J n first mem).ws = ⟨0, false, false⟩ :: List.replicate z ⟨0, false, false⟩ := by
      show List.replicate ((n + 3) / 4) (⟨0, false, false⟩ : Wrp) = _
      rw [hz, List.replicate_succ]
    have e2 : ∃ l, readyL (newP k J n first mem).ws = 0 :: l := by
      unfold readyL
      rw [e, List.length_cons, List.range_succ_eq_map, List.filter_cons]
      exact ⟨_, by rw [if_pos (by rfl)]⟩
    obtain ⟨l, hl⟩ := e2
    rw [hl]
    unfold pickW
    split <;> rfl
  unfold turnP
  rw [if_neg (by simp [newP]), if_neg (by omega), hw]
  simp

theorem settle_ts (m : PM) : (settleP m).ts = m.ts := by
  unfold settleP
  split
  · rfl
  · split <;> rfl
theorem after_ts (m : PM) (i : Nat) (p : Pl) : (afterP m i p).ts = p.ts := by
  unfold afterP
  split
  · rfl
  · exact settle_ts _

theorem after_st {m : PM} {i : Nat} {p : Pl} (h : p.ends = true) : (afterP m i p).st = p.st := by
  unfold afterP
  rw [h]
  rfl

/-- What the two turns of Budgeted come to. -/
theorem bud_plain {l : List Int} {J : List Int} (hJ : JoinsAre (kern l false) J) {n first : Nat} {mem : List Int} (hm : mem.length = 32) (hf : first ≤ 15) (h1 : 1 ≤ n) (hn : n ≤ 16) :
    ∃ Ma T, turnP (newP (kern l false) J n first mem) 0 2000 = (Ma, T, 0) ∧ T.steps = (T.log.length : Int) ∧ T.log.length < 2000 ∧ (∃ b0 b1 rest, T.log = (0, b0) :: (1, b1) :: rest) ∧ Ma.ts.length = n ∧
      ∀ c, 1 ≤ c → c ≤ T.log.length + 1 → ∃ Mb U, turnP (newP (kern l false) J n first mem) 0 (c : Nat) = (Mb, U, 0) ∧ U.steps = ((min c T.log.length : Nat) : Int) ∧ U.log = T.log.take (min c T.log.length) ∧ U.fault = 0 ∧ (c < T.log.length → Mb.st = 3) ∧ (T.log.length ≤ c → Mb = Ma ∧ U.segs = T.segs) := by
  obtain ⟨R, hR⟩ : ∃ R, playP (newP (kern l false) J n first mem) 0 2000 = R := ⟨_, rfl⟩
  obtain ⟨a1, a2, a3, a4, a5, a6⟩ := first_turn hJ hm hf h1 hn hR
  have hT := new_turn (k := kern l false) (J := J) (n := n) (first := first) (mem := mem) h1 (show 1 ≤ 2000 by omega) (Nat.le_refl _)
  rw [hR] at hT
  have hreg : Reg4 (newP (kern l false) J n first mem).ts := fun t ht => by
    simp only [newP, List.mem_map] at ht
    obtain ⟨i, -, rfl⟩ := ht
    rfl
  have hlen : R.ts.length = n := by
    rw [← hR]
    have := (keep_run (newP (kern l false) J n first mem).k (newP (kern l false) J n first mem).J 2000 2000 (⟨(newP (kern l false) J n first mem).ts, (newP (kern l false) J n first mem).mem, (newP (kern l false) J n first mem).st, 0, 0, 0, 0, 0, [], 0, false, false, 0⟩ : Pl) (warpG (newP (kern l false) J n first mem).ts.length 0) ((newP (kern l false) J n first mem).ws.getD 0 wrp0).at0 (-1) hreg).2.1
    unfold playP
    rw [this]
    simp [newP]
  refine ⟨_, _, hT, by simp only [turnOf]; omega, a5, a6, by rw [after_ts]; exact hlen, fun c hc1 hc => ?_⟩
  have hc : c ≤ R.log.length + 1 := hc
  obtain ⟨r, hr⟩ : ∃ r, playP (newP (kern l false) J n first mem) 0 c = r := ⟨_, rfl⟩
  have hU := new_turn (k := kern l false) (J := J) (n := n) (first := first) (mem := mem) h1 hc1 (show c ≤ 2000 by omega)
  rw [hr] at hU
  refine ⟨_, _, hU, ?_⟩
  show ((r.steps : Nat) : Int) = ((min c R.log.length : Nat) : Int) ∧ r.log = R.log.take (min c R.log.length) ∧ r.fault = 0 ∧ (c < R.log.length → (afterP (newP (kern l false) J n first mem) 0 r).st = 3) ∧ (R.log.length ≤ c → afterP (newP (kern l false) J n first mem) 0 r = afterP (newP (kern l false) J n first mem) 0 R ∧ ((r.segs : Nat) : Int) = ((R.segs : Nat) : Int))
  rcases less_turn hJ hm hf h1 hn hR hc hr with ⟨g1, rfl⟩ | ⟨g1, g2, g3, g4, g5, g6⟩
  · rw [Nat.min_eq_right g1]
    exact ⟨by omega, by rw [List.take_length], a3, fun h => by omega, fun _ => ⟨rfl, rfl⟩⟩
  · rw [Nat.min_eq_left (by omega)]
    exact ⟨by omega, g6, g5, fun _ => by rw [after_st g2]; exact g3, fun h => by omega⟩

end Go.Proofs.Ytbhbacphiinpeab
