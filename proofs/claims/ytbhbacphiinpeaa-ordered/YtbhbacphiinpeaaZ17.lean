/- Fg: joined. -/
import Derived.Test.YtbhbacphiinpeaaZ10

/- Which warp a turn takes; where no split is open all threads that are not done are in the group; what an instruction keeps; plain. -/
namespace Go.Proofs.Ytbhbacphiinpeaa
open Go.RowKit

def bot (q : Wq) : Nat := if q.opn = 0 then q.group else (q.sp.getD 0 spl0).group
def Cov (N : Nat → Prop) (q : Wq) : Prop := ∀ l, l < 4 → N l → q.done.testBit l = false → (bot q).testBit l = true

structure Wk (q : Wq) : Prop where
  sp3 : q.sp.length = 3
  opn : q.opn ≤ 3
  d16 : q.done < 16

theorem bot_side {q : Wq} (h0 : 0 < q.opn) (h : Wk q) : bot (sideQ q) = bot q := by
  have hne : ¬ q.opn = 0 := by omega
  have hs := h.sp3
  have ho := h.opn
  unfold bot
  rw [if_neg (show ¬ (sideQ q).opn = 0 from hne), if_neg hne]
  unfold sideQ topQ
  simp only
  by_cases e : q.opn = 1
  · rw [e]
    simp only [Nat.sub_self]
    rw [List.getD_eq_getElem?_getD, List.getElem?_set_self (by omega)]
    rfl
  · rw [List.getD_eq_getElem?_getD, List.getElem?_set_ne (by omega), ← List.getD_eq_getElem?_getD]

theorem bot_shut {q : Wq} (h1 : 1 < q.opn) : bot (shutQ q) = bot q := by
  unfold bot
  rw [if_neg (show ¬ (shutQ q).opn = 0 by simp only [shutQ]; omega), if_neg (by omega)]
  rfl

theorem Wk.fol1 {q : Wq} (h : Wk q) : Wk (folQ q) := by
  unfold folQ
  split
  · exact ⟨by simp [sideQ, h.sp3], h.opn, h.d16⟩
  · exact ⟨h.sp3, by have := h.opn; simp only [shutQ]; omega, h.d16⟩

theorem cov_fol1 {N : Nat → Prop} {q : Wq} (h : Cov N q) (hk : Wk q) (h0 : 0 < q.opn) : Cov N (folQ q) := by
  intro l hl hN hd
  unfold folQ at hd ⊢
  split at hd
  · rename_i hlt
    rw [if_pos hlt, bot_side h0 hk]
    exact h l hl hN hd
  · rename_i hlt
    rw [if_neg hlt]
    have hb := h l hl hN hd
    by_cases e : q.opn = 1
    · have e2 : bot (shutQ q) = mns (topQ q).group q.done := by
        unfold bot
        rw [if_pos (show (shutQ q).opn = 0 by simp only [shutQ]; omega)]
        rfl
      have e3 : bot q = (topQ q).group := by
        unfold bot topQ
        rw [if_neg (by omega), e]
      rw [e3] at hb
      rw [e2, mns_bit hk.d16 hl, hb, show q.done.testBit l = false from hd]
      rfl
    · rw [bot_shut (by omega)]
      exact hb

theorem cov_folN {N : Nat → Prop} : ∀ (m : Nat) {q : Wq}, Cov N q → Wk q → Cov N (folN m q) ∧ Wk (folN m q)
  | 0, q, h, hk => ⟨h, hk⟩
  | m + 1, q, h, hk => by
    unfold folN
    split
    · rename_i he
      exact cov_folN m (cov_fol1 h hk he.2) hk.fol1
    · exact ⟨h, hk⟩
theorem cov_fol {N : Nat → Prop} {q : Wq} (h : Cov N q) (hk : Wk q) : Cov N (fol q) := (cov_folN _ h hk).1
theorem cov_goOn {N : Nat → Prop} {q : Wq} (h : Cov N q) (hk : Wk q) (pc : Int) : Cov N (goOn pc q) := cov_fol (q := { q with pc := pc }) h ⟨hk.sp3, hk.opn, hk.d16⟩
theorem cov_exit {N : Nat → Prop} {q : Wq} (h : Cov N q) (hk : Wk q) (hg : q.group < 16) : Cov N (exitQ q) := by
  refine cov_fol (q := { q with done := q.done ||| q.group, group := 0 }) (fun l hl hN hd => ?_) ⟨hk.sp3, hk.opn, or_lt16 hk.d16 hg⟩
  have hd' : (q.done ||| q.group).testBit l = false := hd
  rw [Nat.testBit_or] at hd'
  simp only [Bool.or_eq_false_iff] at hd'
  have hb := h l hl hN hd'.1
  unfold bot at hb ⊢
  by_cases e : q.opn = 0
  · rw [if_pos e, hd'.2] at hb; cases hb
  · rw [if_neg e] at hb ⊢
    exact hb
theorem cov_split {N : Nat → Prop} {q : Wq} (h : Cov N q) (hk : Wk q) (z : Nat) (next join : Int) : Cov N (splitQ z next join q) := by
  intro l hl hN hd
  have hb := h l hl hN hd
  have hs := hk.sp3
  unfold bot at hb ⊢
  unfold splitQ
  by_cases ho : q.opn < 3
  · simp only [if_pos ho]
    rw [if_neg (by omega)]
    by_cases e : q.opn = 0
    · rw [if_pos e] at hb
      rw [e, List.getD_eq_getElem?_getD, List.getElem?_set_self (by omega)]
      exact hb
    · rw [if_neg e] at hb
      rw [List.getD_eq_getElem?_getD, List.getElem?_set_ne (by omega), ← List.getD_eq_getElem?_getD]
      exact hb
  · simp only [if_neg ho]
    rw [if_neg (by omega)] at hb ⊢
    exact hb
theorem wk_split {q : Wq} (hk : Wk q) (z : Nat) (next join : Int) : Wk (splitQ z next join q) := by
  unfold splitQ
  by_cases ho : q.opn < 3
  · simp only [if_pos ho]; exact ⟨by simp [hk.sp3], by dsimp only; omega, hk.d16⟩
  · simp only [if_neg ho]; exact ⟨hk.sp3, hk.opn, hk.d16⟩
theorem cov_branch {N : Nat → Prop} {q : Wq} (h : Cov N q) (hk : Wk q) (z : Nat) (target next join : Int) : Cov N (branchQ z target next join q) := by
  unfold branchQ
  split
  · exact cov_goOn h hk _
  split
  · exact cov_goOn h hk _
  · exact cov_goOn (cov_split h hk _ _ _) (wk_split hk _ _ _) _
theorem cov_wait {N : Nat → Prop} {q : Wq} (h : Cov N q) (hk : Wk q) (pc : Int) : Cov N (waitQ pc q) := cov_goOn h hk pc

theorem cov_step {N : Nat → Prop} {k : List Ins} {J : List Int} {b : Nat} {q : Wq} {p : Pl} (h : Cov N q) (hk : Wk q) (hg : q.group < 16) : Cov N (stepQ k J b q p).1 := by
  unfold stepQ
  repeat' split
  all_goals first | exact h | exact cov_exit h hk hg | exact cov_goOn h hk _ | exact cov_branch h hk _ _ _ _ | exact cov_wait h hk _

theorem done_other (g : List Nat) (ts : List Thr) {b t : Nat} (hg : ∀ u ∈ g, b ≤ u ∧ u < b + 4) (ht : ¬ (b ≤ t ∧ t < b + 4)) : isDone (doneAll ts g) t = isDone ts t := by
  rw [(doneAll_keeps g ts).2.2 t]
  have : ¬ t ∈ g := fun h => ht (hg t h)
  simp [this]
theorem gOf_in {b m u : Nat} (h : u ∈ gOf b m) : b ≤ u ∧ u < b + 4 := by
  obtain ⟨l, hl, -, rfl⟩ := mem_gOf.1 h
  omega

/-- What an instruction keeps. -/
structure StepK (b : Nat) (q : Wq) (p p' : Pl) : Prop where
  steps : p'.steps = p.steps + 1
  log : p'.log = p.log ++ [(q.pc, (bits (gOf b q.group) : Int))]
  goes : p'.ends = false → p'.fault = p.fault ∧ p'.st = p.st
  stops : p'.ends = true → p'.st = 2
  len : p'.ts.length = p.ts.length
  segs : p'.segs ≤ p.segs + 4
  opn : p.opn = q.opn → p'.opn ≤ p.opn + 1
  other : ∀ t, ¬ (b ≤ t ∧ t < b + 4) → isDone p'.ts t = isDone p.ts t

theorem exit_opn (q : Wq) : (exitQ q).opn ≤ q.opn := fol_opn _ _
theorem branch_opn (z : Nat) (a b c : Int) (q : Wq) : (branchQ z a b c q).opn ≤ q.opn + 1 := by
  unfold branchQ
  split
  · exact Nat.le_succ_of_le (goOn_opn _ _)
  split
  · exact Nat.le_succ_of_le (goOn_opn _ _)
  · refine Nat.le_trans (goOn_opn _ _) ?_
    unfold splitQ
    by_cases ho : q.opn < 3
    · simp only [if_pos ho]; exact Nat.le_refl _
    · simp only [if_neg ho]; exact Nat.le_succ _

theorem step_keeps {k : List Ins} {J : List Int} {b : Nat} {q : Wq} {p : Pl} {x : Ins} (hx : k[q.pc.toNat]? = some x) (h1 : p.ends = false) (hr : Reg4 p.ts) : StepK b q p (stepQ k J b q p).2 := by
  have plain : ∀ (o : Nat), o ≤ q.opn + 1 → StepK b q p { issuedP p (gOf b q.group) q.pc with opn := o } := fun o ho => ⟨rfl, rfl, fun _ => ⟨rfl, rfl⟩, fun h => by simp [issuedP, h1] at h, rfl, by simp only [issuedP]; omega, fun e => by dsimp only; omega, fun _ _ => rfl⟩
  have hg4 : (gOf b q.group).length ≤ 4 := by rw [gOf_len]; exact pop_le _
  have hk := keep_each (issuedP p (gOf b q.group) q.pc) (gOf b q.group) q.pc x hr
  obtain ⟨-, -, s3⟩ := each_ends (issuedP p (gOf b q.group) q.pc) (gOf b q.group) q.pc x
  obtain ⟨s6, s4, s5, s7⟩ := segs_each (issuedP p (gOf b q.group) q.pc) (gOf b q.group) q.pc x
  have hdn : ∀ t, isDone (eachP (issuedP p (gOf b q.group) q.pc) (gOf b q.group) q.pc x).ts t = isDone p.ts t := by
    intro t
    have := each_done x (gOf b q.group) p.ts p.mem t
    unfold eachP
    split <;> exact this
  have hst : (eachP (issuedP p (gOf b q.group) q.pc) (gOf b q.group) q.pc x).ends = true → (eachP (issuedP p (gOf b q.group) q.pc) (gOf b q.group) q.pc x).st = 2 := by
    unfold eachP
    split
    · intro h; simp [issuedP, h1] at h
    · intro _; rfl
  unfold stepQ
  rw [hx]
  simp only
  by_cases c0 : x.o = 0
  · rw [if_pos c0]
    exact ⟨rfl, rfl, fun _ => ⟨rfl, rfl⟩, fun h => by simp [issuedP, h1] at h, (doneAll_keeps _ _).1, by simp only [issuedP]; omega, fun e => by have := exit_opn q; dsimp only; omega, fun t ht => done_other _ _ (fun u hu => gOf_in hu) ht⟩
  rw [if_neg c0]
  by_cases c12 : x.o = 12
  · rw [if_pos c12]; exact plain _ (Nat.le_succ_of_le (goOn_opn _ _))
  rw [if_neg c12]
  by_cases c13 : x.o = 13
  · rw [if_pos c13]; exact plain _ (branch_opn _ _ _ _ _)
  rw [if_neg c13]
  by_cases c14 : x.o = 14
  · rw [if_pos c14]
    split
    · exact ⟨rfl, rfl, fun h => by simp [faultP] at h, fun _ => rfl, rfl, by simp only [issuedP, faultP]; omega, fun e => by simp only [issuedP, faultP]; omega, fun _ _ => rfl⟩
    · exact ⟨rfl, rfl, fun _ => ⟨rfl, rfl⟩, fun h => by simp [issuedP, h1] at h, rfl, by simp only [issuedP]; omega, fun e => by simp only [issuedP]; omega, fun _ _ => rfl⟩
  rw [if_neg c14]
  split
  · exact ⟨s4, s5, s3, hst, hk.2.1, Nat.le_trans s6 (Nat.add_le_add_left hg4 _), fun _ => Nat.le_trans (Nat.le_of_eq s7) (Nat.le_succ _), fun t _ => hdn t⟩
  · exact ⟨s4, s5, s3, hst, hk.2.1, Nat.le_trans s6 (Nat.add_le_add_left hg4 _), fun e => by have := goOn_opn (q.pc + 1) q; dsimp only; omega, fun t _ => hdn t⟩

theorem pick_snoc (l : List Nat) (w : Nat) (pick : Int) : pickW (l ++ [w]) pick = if l = [] ∨ (l.length : Int) = pick then w else pickW l pick := by
  by_cases h0 : l = []
  · rw [if_pos (.inl h0)]
    subst h0
    unfold pickW
    split
    · rename_i h
      have : pick = 0 := by simp only [List.nil_append, List.length_cons, List.length_nil] at h; omega
      subst this; rfl
    · rfl
  · have hl : 0 < l.length := List.length_pos_iff.2 h0
    by_cases hp : (l.length : Int) = pick
    · rw [if_pos (.inr hp)]
      unfold pickW
      rw [if_pos (by rw [List.length_append, List.length_cons, List.length_nil]; omega), List.getD_eq_getElem?_getD, List.getElem?_append_right (by omega), show pick.toNat - l.length = 0 by omega]
      rfl
    · rw [if_neg (fun h => by rcases h with h | h; exact h0 h; exact hp h)]
      unfold pickW
      by_cases h1 : 0 ≤ pick ∧ pick < l.length
      · rw [if_pos h1, if_pos (by rw [List.length_append, List.length_cons, List.length_nil]; omega), List.getD_eq_getElem?_getD, List.getElem?_append_left (by omega), ← List.getD_eq_getElem?_getD]
      · rw [if_neg h1, if_neg (by rw [List.length_append, List.length_cons, List.length_nil]; omega), List.getD_eq_getElem?_getD, List.getElem?_append_left hl, ← List.getD_eq_getElem?_getD]

/-- The warps of the program's machine that may run, of the first n. -/
def rdyN (qs : List Wq) (n : Nat) : List Nat := (List.range n).filter fun i => rdyQ (qs.getD i wq0)
theorem rdyN_succ (qs : List Wq) (n : Nat) : rdyN qs (n + 1) = rdyN qs n ++ (if rdyQ (qs.getD n wq0) then [n] else []) := by
  unfold rdyN
  rw [List.range_succ, List.filter_append]
  congr 1
  simp only [List.filter_cons, List.filter_nil]

theorem rest_rdy {ts : List Thr} {ws : List Wrp} {i : Nat} {q : Wq} (h : RestAt ts ws i q) : rdyQ q = (decide (i < ws.length) && rdy (ws.getD i wrp0)) := by
  unfold rdyQ rdy
  by_cases hg : q.group = 0
  · by_cases hi : i < ws.length
    · have := h.dn hi
      rw [this]; simp [hg]
    · simp [hg, hi]
  · obtain ⟨p1, p2, p3⟩ := h.pc hg
    have := h.dn p1
    rw [this, ← p3]; simp [hg, p1]

theorem ready_of {ts : List Thr} {ws : List Wrp} {qs : List Wq} (hw : ws.length ≤ 4) (h : ∀ i, i < 4 → RestAt ts ws i (qs.getD i wq0)) : readyL ws = rdyN qs 4 := by
  have e : (List.range 4).filter (fun i => decide (i < ws.length) && rdy (ws.getD i wrp0)) = readyL ws := by
    unfold readyL
    have : ∀ n, n ≤ 4 → List.range n = (List.range 4).filter (fun i => decide (i < n)) := by
      intro n hn
      rcases (by omega : n = 0 ∨ n = 1 ∨ n = 2 ∨ n = 3 ∨ n = 4) with rfl | rfl | rfl | rfl | rfl <;> decide
    rw [this ws.length hw, List.filter_filter]
    exact List.filter_congr fun i _ => by rw [Bool.and_comm]
  rw [← e]
  unfold rdyN
  refine List.filter_congr fun i hi => ?_
  rw [List.mem_range] at hi
  rw [rest_rdy (h i hi)]

end Go.Proofs.Ytbhbacphiinpeaa

