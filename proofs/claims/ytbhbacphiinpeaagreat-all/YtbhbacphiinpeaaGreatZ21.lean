/- Fg Fh: joined. -/
import Derived.Test.YtbhbacphiinpeaaGreatZ14
import Derived.Test.YtbhbacphiinpeaaGreatZ15

/- Which warp a turn takes; where no split is open all threads that are not done are in the group; what an instruction keeps; plain. -/
namespace Go.Proofs.YtbhbacphiinpeaaGreat
open Go.RowKit

def bot (q : Wq) : Nat := if q.opn = 0 then q.group else (q.sp.getD 0 spl0).group
def Cov (N : Nat → Prop) (q : Wq) : Prop := ∀ l, l < 4 → N l → q.done.testBit l = false → (bot q).testBit l = true

structure Wk (q : Wq) : Prop where
  sp3 : q.sp.length = 3
  opn : q.opn ≤ 3
  d16 : q.done < 16

theorem bot_side {q : Wq} (h0 : 0 < q.opn) (h : Wk q) : bot (sideQ q) = bot q := by
  have hne : ¬ q.opn = 0 := by omega
  have hs := h.sp3
  have ho := h.opn
  unfold bot
  rw [if_neg (show ¬ (sideQ q).opn = 0 from hne), if_neg hne]
  unfold sideQ topQ
  simp only
  by_cases e : q.opn = 1
  · rw [e]
    simp only [Nat.sub_self]
    rw [List.getD_eq_getElem?_getD, List.getElem?_set_self (by omega)]
    rfl
  · rw [List.getD_eq_getElem?_getD, List.getElem?_set_ne (by omega), ← List.getD_eq_getElem?_getD]

theorem bot_shut {q : Wq} (h1 : 1 < q.opn) : bot (shutQ q) = bot q := by
  unfold bot
  rw [if_neg (show ¬ (shutQ q).opn = 0 by simp only [shutQ]; omega), if_neg (by omega)]
  rfl

theorem Wk.fol1 {q : Wq} (h : Wk q) : Wk (folQ q) := by
  unfold folQ
  split
  · exact ⟨by simp [sideQ, h.sp3], h.opn, h.d16⟩
  · exact ⟨h.sp3, by have := h.opn; simp only [shutQ]; omega, h.d16⟩

theorem cov_fol1 {N : Nat → Prop} {q : Wq} (h : Cov N q) (hk : Wk q) (h0 : 0 < q.opn) : Cov N (folQ q) := by
  intro l hl hN hd
  unfold folQ at hd ⊢
  split at hd
  · rename_i hlt
    rw [if_pos hlt, bot_side h0 hk]
    exact h l hl hN hd
  · rename_i hlt
    rw [if_neg hlt]
    have hb := h l hl hN hd
    by_cases e : q.opn = 1
    · have e2 : bot (shutQ q) = mns (topQ q).group q.done := by
        unfold bot
        rw [if_pos (show (shutQ q).opn = 0 by simp only [shutQ]; omega)]
        rfl
      have e3 : bot q = (topQ q).group := by
        unfold bot topQ
        rw [if_neg (by omega), e]
      rw [e3] at hb
      rw [e2, mns_bit hk.d16 hl, hb, show q.done.testBit l = false from hd]
      rfl
    · rw [bot_shut (by omega)]
      exact hb

theorem cov_folN {N : Nat → Prop} : ∀ (m : Nat) {q : Wq}, Cov N q → Wk q → Cov N (folN m q) ∧ Wk (folN m q)
  | 0, q, h, hk => ⟨h, hk⟩
  | m + 1, q, h, hk => by
    unfold folN
    split
    · rename_i he
      exact cov_folN m (cov_fol1 h hk he.2) hk.fol1
    · exact ⟨h, hk⟩
theorem cov_fol {N : Nat → Prop} {q : Wq} (h : Cov N q) (hk : Wk q) : Cov N (fol q) := (cov_folN _ h hk).1
theorem cov_goOn {N : Nat → Prop} {q : Wq} (h : Cov N q) (hk : Wk q) (pc : Int) : Cov N (goOn pc q) := cov_fol (q := { q with pc := pc }) h ⟨hk.sp3, hk.opn, hk.d16⟩
theorem cov_exit {N : Nat → Prop} {q : Wq} (h : Cov N q) (hk : Wk q) (hg : q.group < 16) : Cov N (exitQ q) := by
  refine cov_fol (q := { q with done := q.done ||| q.group, group := 0 }) (fun l hl hN hd => ?_) ⟨hk.sp3, hk.opn, or_lt16 hk.d16 hg⟩
  have hd' : (q.done ||| q.group).testBit l = false := hd
  rw [Nat.testBit_or] at hd'
  simp only [Bool.or_eq_false_iff] at hd'
  have hb := h l hl hN hd'.1
  unfold bot at hb ⊢
  by_cases e : q.opn = 0
  · rw [if_pos e, hd'.2] at hb; cases hb
  · rw [if_neg e] at hb ⊢
    exact hb
theorem cov_split {N : Nat → Prop} {q : Wq} (h : Cov N q) (hk : Wk q) (z : Nat) (next join : Int) : Cov N (splitQ z next join q) := by
  intro l hl hN hd
  have hb := h l hl hN hd
  have hs := hk.sp3
  unfold bot at hb ⊢
  unfold splitQ
  by_cases ho : q.opn < 3
  · simp only [if_pos ho]
    rw [if_neg (by omega)]
    by_cases e : q.opn = 0
    · rw [if_pos e] at hb
      rw [e, List.getD_eq_getElem?_getD, List.getElem?_set_self (by omega)]
      exact hb
    · rw [if_neg e] at hb
      rw [List.getD_eq_getElem?_getD, List.getElem?_set_ne (by omega), ← List.getD_eq_getElem?_getD]
      exact hb
  · simp only [if_neg ho]
    rw [if_neg (by omega)] at hb ⊢
    exact hb
theorem wk_split {q : Wq} (hk : Wk q) (z : Nat) (next join : Int) : Wk (splitQ z next join q) := by
  unfold splitQ
  by_cases ho : q.opn < 3
  · simp only [if_pos ho]; exact ⟨by simp [hk.sp3], by dsimp only; omega, hk.d16⟩
  · simp only [if_neg ho]; exact ⟨hk.sp3, hk.opn, hk.d16⟩
theorem cov_branch {N : Nat → Prop} {q : Wq} (h : Cov N q) (hk : Wk q) (z : Nat) (target next join : Int) : Cov N (branchQ z target next join q) := by
  unfold branchQ
  split
  · exact cov_goOn h hk _
  split
  · exact cov_goOn h hk _
  · exact cov_goOn (cov_split h hk _ _ _) (wk_split hk _ _ _) _
theorem cov_wait {N : Nat → Prop} {q : Wq} (h : Cov N q) (hk : Wk q) (pc : Int) : Cov N (waitQ pc q) := cov_goOn h hk pc

theorem cov_step {N : Nat → Prop} {k : List Ins} {J : List Int} {b : Nat} {q : Wq} {p : Pl} (h : Cov N q) (hk : Wk q) (hg : q.group < 16) : Cov N (stepQ k J b q p).1 := by
  unfold stepQ
  repeat' split
  all_goals first | exact h | exact cov_exit h hk hg | exact cov_goOn h hk _ | exact cov_branch h hk _ _ _ _ | exact cov_wait h hk _

theorem done_other (g : List Nat) (ts : List Thr) {b t : Nat} (hg : ∀ u ∈ g, b ≤ u ∧ u < b + 4) (ht : ¬ (b ≤ t ∧ t < b + 4)) : isDone (doneAll ts g) t = isDone ts t := by
  rw [(doneAll_keeps g ts).2.2 t]
  have : ¬ t ∈ g := fun h => ht (hg t h)
  simp [this]
theorem gOf_in {b m u : Nat} (h : u ∈ gOf b m) : b ≤ u ∧ u < b + 4 := by
  obtain ⟨l, hl, -, rfl⟩ := mem_gOf.1 h
  omega

/-- What an instruction keeps. -/
structure StepK (b : Nat) (q : Wq) (p p' : Pl) : Prop where
  steps : p'.steps = p.steps + 1
  log : p'.log = p.log ++ [(q.pc, (bits (gOf b q.group) : Int))]
  goes : p'.ends = false → p'.fault = p.fault ∧ p'.st = p.st
  stops : p'.ends = true → p'.st = 2
  len : p'.ts.length = p.ts.length
  segs : p'.segs ≤ p.segs + 4
  opn : p.opn = q.opn → p'.opn ≤ p.opn + 1
  other : ∀ t, ¬ (b ≤ t ∧ t < b + 4) → isDone p'.ts t = isDone p.ts t

theorem exit_opn (q : Wq) : (exitQ q).opn ≤ q.opn := fol_opn _ _
theorem branch_opn (z : Nat) (a b c : Int) (q : Wq) : (branchQ z a b c q).opn ≤ q.opn + 1 := by
  unfold branchQ
  split
  · exact Nat.le_succ_of_le (goOn_opn _ _)
  split
  · exact Nat.le_succ_of_le (goOn_opn _ _)
  · refine Nat.le_trans (goOn_opn _ _) ?_
    unfold splitQ
    by_cases ho : q.opn < 3
    · simp only [if_pos ho]; exact Nat.le_refl _
    · simp only [if_neg ho]; exact Nat.le_succ _

theorem step_keeps {k : List Ins} {J : List Int} {b : Nat} {q : Wq} {p : Pl} {x : Ins} (hx : k[q.pc.toNat]? = some x) (h1 : p.ends = false) (hr : Reg4 p.ts) : StepK b q p (stepQ k J b q p).2 := by
  have plain : ∀ (o : Nat), o ≤ q.opn + 1 → StepK b q p { issuedP p (gOf b q.group) q.pc with opn := o } := fun o ho => ⟨rfl, rfl, fun _ => ⟨rfl, rfl⟩, fun h => by simp [issuedP, h1] at h, rfl, by simp only [issuedP]; omega, fun e => by dsimp only; omega, fun _ _ => rfl⟩
  have hg4 : (gOf b q.group).length ≤ 4 := by rw [gOf_len]; exact pop_le _
  have hk := keep_each (issuedP p (gOf b q.group) q.pc) (gOf b q.group) q.pc x hr
  obtain ⟨-, -, s3⟩ := each_ends (issuedP p (gOf b q.group) q.pc) (gOf b q.group) q.pc x
  obtain ⟨s6, s4, s5, s7⟩ := segs_each (issuedP p (gOf b q.group) q.pc) (gOf b q.group) q.pc x
  have hdn : ∀ t, isDone (eachP (issuedP p (gOf b q.group) q.pc) (gOf b q.group) q.pc x).ts t = isDone p.ts t := by
    intro t
    have := each_done x (gOf b q.group) p.ts p.mem t
    unfold eachP
    split <;> exact this
  have hst : (eachP (issuedP p (gOf b q.group) q.pc) (gOf b q.group) q.pc x).ends = true → (eachP (issuedP p (gOf b q.group) q.pc) (gOf b q.group) q.pc x).st = 2 := by
    unfold eachP
    split
    · intro h; simp [issuedP, h1] at h
    · intro _; rfl
  unfold stepQ
  rw [hx]
  simp only
  by_cases c0 : x.o = 0
  · rw [if_pos c0]
    exact ⟨rfl, rfl, fun _ => ⟨rfl, rfl⟩, fun h => by simp [issuedP, h1] at h, (doneAll_keeps _ _).1, by simp only [issuedP]; omega, fun e => by have := exit_opn q; dsimp only; omega, fun t ht => done_other _ _ (fun u hu => gOf_in hu) ht⟩
  rw [if_neg c0]
  by_cases c12 : x.o = 12
  · rw [if_pos c12]; exact plain _ (Nat.le_succ_of_le (goOn_opn _ _))
  rw [if_neg c12]
  by_cases c13 : x.o = 13
  · rw [if_pos c13]; exact plain _ (branch_opn _ _ _ _ _)
  rw [if_neg c13]
  by_cases c14 : x.o = 14
  · rw [if_pos c14]
    split
    · exact ⟨rfl, rfl, fun h => by simp [faultP] at h, fun _ => rfl, rfl, by simp only [issuedP, faultP]; omega, fun e => by simp only [issuedP, faultP]; omega, fun _ _ => rfl⟩
    · exact ⟨rfl, rfl, fun _ => ⟨rfl, rfl⟩, fun h => by simp [issuedP, h1] at h, rfl, by simp only [issuedP]; omega, fun e => by simp only [issuedP]; omega, fun _ _ => rfl⟩
  rw [if_neg c14]
  split
  · exact ⟨s4, s5, s3, hst, hk.2.1, Nat.le_trans s6 (Nat.add_le_add_left hg4 _), fun _ => Nat.le_trans (Nat.le_of_eq s7) (Nat.le_succ _), fun t _ => hdn t⟩
  · exact ⟨s4, s5, s3, hst, hk.2.1, Nat.le_trans s6 (Nat.add_le_add_left hg4 _), fun e => by have := goOn_opn (q.pc + 1) q; dsimp only; omega, fun t _ => hdn t⟩

theorem pick_snoc (l : List Nat) (w : Nat) (pick : Int) : pickW (l ++ [w]) pick = if l = [] ∨ (l.length : Int) = pick then w else pickW l pick := by
  by_cases h0 : l = []
  · rw [if_pos (.inl h0)]
    subst h0
    unfold pickW
    split
    · rename_i h
      have : pick = 0 := by simp only [List.nil_append, List.length_cons, List.length_nil] at h; omega
      subst this; rfl
    · rfl
  · have hl : 0 < l.length := List.length_pos_iff.2 h0
    by_cases hp : (l.length : Int) = pick
    · rw [if_pos (.inr hp)]
      unfold pickW
      rw [if_pos (by rw [List.length_append, List.length_cons, List.length_nil]; omega), List.getD_eq_getElem?_getD, List.getElem?_append_right (by omega), show pick.toNat - l.length = 0 by omega]
      rfl
    · rw [if_neg (fun h => by rcases h with h | h; exact h0 h; exact hp h)]
      unfold pickW
      by_cases h1 : 0 ≤ pick ∧ pick < l.length
      · rw [if_pos h1, if_pos (by rw [List.length_append, List.length_cons, List.length_nil]; omega), List.getD_eq_getElem?_getD, List.getElem?_append_left (by omega), ← List.getD_eq_getElem?_getD]
      · rw [if_neg h1, if_neg (by rw [List.length_append, List.length_cons, List.length_nil]; omega), List.getD_eq_getElem?_getD, List.getElem?_append_left hl, ← List.getD_eq_getElem?_getD]

/-- The warps of the program's machine that may run, of the first n. -/
def rdyN (qs : List Wq) (n : Nat) : List Nat := (List.range n).filter fun i => rdyQ (qs.getD i wq0)
theorem rdyN_succ (qs : List Wq) (n : Nat) : rdyN qs (n + 1) = rdyN qs n ++ (if rdyQ (qs.getD n wq0) then [n] else []) := by
  unfold rdyN
  rw [List.range_succ, List.filter_append]
  congr 1
  simp only [List.filter_cons, List.filter_nil]

theorem rest_rdy {ts : List Thr} {ws : List Wrp} {i : Nat} {q : Wq} (h : RestAt ts ws i q) : rdyQ q = (decide (i < ws.length) && rdy (ws.getD i wrp0)) := by
  unfold rdyQ rdy
  by_cases hg : q.group = 0
  · by_cases hi : i < ws.length
    · have := h.dn hi
      rw [this]; simp [hg]
    · simp [hg, hi]
  · obtain ⟨p1, p2, p3⟩ := h.pc hg
    have := h.dn p1
    rw [this, ← p3]; simp [hg, p1]

theorem ready_of {ts : List Thr} {ws : List Wrp} {qs : List Wq} (hw : ws.length ≤ 4) (h : ∀ i, i < 4 → RestAt ts ws i (qs.getD i wq0)) : readyL ws = rdyN qs 4 := by
  have e : (List.range 4).filter (fun i => decide (i < ws.length) && rdy (ws.getD i wrp0)) = readyL ws := by
    unfold readyL
    have : ∀ n, n ≤ 4 → List.range n = (List.range 4).filter (fun i => decide (i < n)) := by
      intro n hn
      rcases (by omega : n = 0 ∨ n = 1 ∨ n = 2 ∨ n = 3 ∨ n = 4) with rfl | rfl | rfl | rfl | rfl <;> decide
    rw [this ws.length hw, List.filter_filter]
    exact List.filter_congr fun i _ => by rw [Bool.and_comm]
  rw [← e]
  unfold rdyN
  refine List.filter_congr fun i hi => ?_
  rw [List.mem_range] at hi
  rw [rest_rdy (h i hi)]

end Go.Proofs.YtbhbacphiinpeaaGreat

/- A turn of the program's machine from its beginning to its end, and the machine behind it beside the document's; plain. -/
namespace Go.Proofs.YtbhbacphiinpeaaGreat
open Go.RowKit

/-- Where a turn stands. -/
def Mid (m : PM) (i bud : Nat) (q : Wq) (p : Pl) : Prop :=
  ((p.ends = false) ∧ (p.waits = false) ∧ (SI m.k.length (4 * i) p q) ∧ (¬ (endQ q ∧ 0 < q.opn)) ∧ (restQ (runP m.k m.J bud bud) (4 * i) q p = playP m i bud) ∧ (q.waits = false) ∧ (p.fault = 0) ∧ (p.st = 0)) ∨
  ((p.ends = true) ∧ (p.fault ≠ 0) ∧ (p.st = 2) ∧ (∃ o, playP m i bud = { p with opn := o }) ∧ (∀ l, l < 4 → isDone p.ts (4 * i + l) = q.done.testBit l)) ∨
  ((p.ends = false) ∧ (p.waits = true) ∧ (playP m i bud = p) ∧ (SI m.k.length (4 * i) p q) ∧ (q.opn = 0) ∧ (q.waits = true) ∧ (q.group ≠ 0) ∧ (q.pc = p.at0) ∧ (p.fault = 0) ∧ (p.st = 0))
theorem Mid.going {m : PM} {i bud : Nat} {q : Wq} {p : Pl} (he : p.ends = false) (hw : p.waits = false) (hs : SI m.k.length (4 * i) p q) (hn : ¬ (endQ q ∧ 0 < q.opn)) (hr : restQ (runP m.k m.J bud bud) (4 * i) q p = playP m i bud) (hq : q.waits = false) (hf : p.fault = 0) (ht : p.st = 0) : Mid m i bud q p := .inl ⟨he, hw, hs, hn, hr, hq, hf, ht⟩
theorem Mid.fault {m : PM} {i bud : Nat} {q : Wq} {p : Pl} (he : p.ends = true) (hf : p.fault ≠ 0) (ht : p.st = 2) (hr : ∃ o, playP m i bud = { p with opn := o }) (hd : ∀ l, l < 4 → isDone p.ts (4 * i + l) = q.done.testBit l) : Mid m i bud q p := .inr (.inl ⟨he, hf, ht, hr, hd⟩)
theorem Mid.wait {m : PM} {i bud : Nat} {q : Wq} {p : Pl} (he : p.ends = false) (hw : p.waits = true) (hr : playP m i bud = p) (hs : SI m.k.length (4 * i) p q) (ho : q.opn = 0) (hq : q.waits = true) (hg : q.group ≠ 0) (hp : q.pc = p.at0) (hf : p.fault = 0) (ht : p.st = 0) : Mid m i bud q p := .inr (.inr ⟨he, hw, hr, hs, ho, hq, hg, hp, hf, ht⟩)
theorem Mid.el {m : PM} {i bud : Nat} {q : Wq} {p : Pl} {motive : Mid m i bud q p → Prop} (going : ∀ (he : p.ends = false) (hw : p.waits = false) (hs : SI m.k.length (4 * i) p q) (hn : ¬ (endQ q ∧ 0 < q.opn)) (hr : restQ (runP m.k m.J bud bud) (4 * i) q p = playP m i bud) (hq : q.waits = false) (hf : p.fault = 0) (ht : p.st = 0), motive (Mid.going he hw hs hn hr hq hf ht)) (fault : ∀ (he : p.ends = true) (hf : p.fault ≠ 0) (ht : p.st = 2) (hr : ∃ o, playP m i bud = { p with opn := o }) (hd : ∀ l, l < 4 → isDone p.ts (4 * i + l) = q.done.testBit l), motive (Mid.fault he hf ht hr hd)) (wait : ∀ (he : p.ends = false) (hw : p.waits = true) (hr : playP m i bud = p) (hs : SI m.k.length (4 * i) p q) (ho : q.opn = 0) (hq : q.waits = true) (hg : q.group ≠ 0) (hp : q.pc = p.at0) (hf : p.fault = 0) (ht : p.st = 0), motive (Mid.wait he hw hr hs ho hq hg hp hf ht)) (t : Mid m i bud q p) : motive t := by
  rcases t with ⟨he, hw, hs, hn, hr, hq, hf, ht⟩ | ⟨he, hf, ht, hr, hd⟩ | ⟨he, hw, hr, hs, ho, hq, hg, hp, hf, ht⟩
  · exact going he hw hs hn hr hq hf ht
  · exact fault he hf ht hr hd
  · exact wait he hw hr hs ho hq hg hp hf ht

structure RunI (m : PM) (i bud : Nat) (xr : QM) (q : Wq) (p : Pl) : Prop where
  cells : CellsAt p.ts p.mem xr
  len : p.ts.length = m.ts.length
  other : ∀ t, ¬ (4 * i ≤ t ∧ t < 4 * i + 4) → isDone p.ts t = isDone m.ts t
  wk : Wk q
  g16 : q.group < 16
  cov : Cov (fun l => 4 * i + l < m.ts.length) q
  cnt : Cnt bud p
  mid : Mid m i bud q p

abbrev p0 (m : PM) : Pl := ⟨m.ts, m.mem, m.st, 0, 0, 0, 0, 0, [], 0, false, false, 0⟩

theorem run_begin {m : PM} {x : QM} (hm : PMok m) (hx : Rel m x) (h0 : m.st = 0) {i : Nat} (hi : i < 4) (hr : rdyQ (x.qs.getD i wq0) = true) (bud : Nat) : RunI m i bud x (x.qs.getD i wq0) (p0 m) := by
  obtain ⟨h1, h2, h3, h4⟩ := begin_si hm hx h0 hi hr bud
  have h := hx.rest h0 i hi
  refine ⟨hx.cells, rfl, fun _ _ => rfl, ⟨h.sp3, by rw [h.opn]; omega, h.d16⟩, h.g16, fun l hl hN hd => ?_, begin_cnt m bud, .going rfl rfl h1 h3 h4 ?_ rfl h0⟩
  · unfold bot
    rw [if_pos h.opn, h.lv l hl, h1.dn l hl, hd]
    simp only [Bool.not_false, Bool.and_true, decide_eq_true_eq]
    exact hN
  · unfold rdyQ at hr
    simp only [Bool.and_eq_true, Bool.not_eq_true'] at hr
    exact hr.2

theorem run_more {m : PM} {i bud : Nat} {xr xr' : QM} {q : Wq} {p : Pl} (hm : PMok m) (h : RunI m i bud xr q p) (hs : p.steps < bud) (hf : p.fault = 0) (hr : rdyQ q = true) (hc : CellsAt (stepQ m.k m.J (4 * i) q p).2.ts (stepQ m.k m.J (4 * i) q p).2.mem xr') :
    RunI m i bud xr' (stepQ m.k m.J (4 * i) q p).1 (stepQ m.k m.J (4 * i) q p).2 ∧ (stepQ m.k m.J (4 * i) q p).2.steps = p.steps + 1 ∧ (stepQ m.k m.J (4 * i) q p).2.log = p.log ++ [(q.pc, (q.group : Int))] := by
  have hg : q.group ≠ 0 := by intro e; rw [rdyQ, e] at hr; simp at hr
  have hqw : q.waits = false := by unfold rdyQ at hr; simp only [Bool.and_eq_true, Bool.not_eq_true'] at hr; exact hr.2
  cases h.mid using Mid.el with
  | fault he hf' _ _ _ => exact absurd hf hf'
  | wait he hw _ _ _ hq _ _ _ _ => rw [hq] at hqw; cases hqw
  | going he hw hsi hn hrs hq hf' ht =>
    have hne := not_end hsi hg hn
    obtain ⟨hp0, hpn⟩ := hsi.pcs hg
    obtain ⟨ins, hx⟩ : ∃ ins, m.k[q.pc.toNat]? = some ins := ⟨_, List.getElem?_eq_getElem (by omega)⟩
    have hk := step_keeps (J := m.J) (b := 4 * i) hx he h.cells.reg4
    have hsim := step_sim hm.chk hm.joins hsi hg hne he hw (by omega) h.cells.reg4 h.cnt
    have hcv := cov_step (k := m.k) (J := m.J) (b := 4 * i) (p := p) h.cov h.wk h.g16
    have hlog := hk.log
    rw [bits_gOf h.g16 (by omega)] at hlog
    have hcnt : Cnt bud (stepQ m.k m.J (4 * i) q p).2 := by
      have c := h.cnt
      refine ⟨by rw [hk.steps]; omega, by rw [hk.log, hk.steps, List.length_append, c.log]; rfl, ?_, ?_⟩
      · have := hk.segs; have := c.segs; have := hk.steps; omega
      · have := hk.opn hsi.po; have := c.opn; have := hk.steps; omega
    refine ⟨⟨hc, hk.len.trans h.len, fun t ht => (hk.other t ht).trans (h.other t ht), ?_, ?_, hcv, hcnt, ?_⟩, hk.steps, hlog⟩
    · cases hsim using Ends3.el with
      | still s => exact ⟨s.si.sp3, s.si.opn, s.si.d16⟩
      | fault _ _ _ _ e _ => rw [e]; exact h.wk
      | wait _ _ _ s _ _ _ _ => exact ⟨s.sp3, s.opn, s.d16⟩
    · cases hsim using Ends3.el with
      | still s => exact s.si.g16
      | fault _ _ _ _ e _ => rw [e]; exact h.g16
      | wait _ _ _ s _ _ _ _ => exact s.g16
    · cases hsim using Ends3.el with
      | still s => exact .going s.ends s.waits s.si s.stop (s.rest.trans hrs) (s.wq.trans hq) ((hk.goes s.ends).1.trans hf') ((hk.goes s.ends).2.trans ht)
      | fault a b c d e f => exact .fault a b (hk.stops a) (by obtain ⟨o, ho⟩ := d; exact ⟨o, by rw [← hrs]; exact ho⟩) f
      | wait a b c d e f g j => exact .wait a b (by rw [← hrs]; exact c) d e f g j ((hk.goes a).1.trans hf') ((hk.goes a).2.trans ht)

/-- How a turn of the program's ended: the machine xr, the warp q, the turn p. -/
structure RanTo (m : PM) (i bud : Nat) (xr : QM) (q : Wq) (p : Pl) : Prop where
  cells : CellsAt p.ts p.mem xr
  len : p.ts.length = m.ts.length
  other : ∀ t, ¬ (4 * i ≤ t ∧ t < 4 * i + 4) → isDone p.ts t = isDone m.ts t
  sp3 : q.sp.length = 3
  g16 : q.group < 16
  d16 : q.done < 16
  dn : ∀ l, l < 4 → isDone p.ts (4 * i + l) = q.done.testBit l
  ans : turnOf i (playP m i bud) = turnOf i p
  ts : (playP m i bud).ts = p.ts
  mem : (playP m i bud).mem = p.mem
  how : (p.fault ≠ 0 ∧ (playP m i bud).ends = true ∧ (playP m i bud).st = 2) ∨ (p.fault = 0 ∧ rdyQ q = true ∧ (playP m i bud).ends = true ∧ (playP m i bud).st = 3) ∨
    (p.fault = 0 ∧ (playP m i bud).ends = false ∧ (playP m i bud).st = 0 ∧ q.opn = 0 ∧ q.to = -1 ∧ (∀ l, l < 4 → q.group.testBit l = (decide (4 * i + l < p.ts.length) && !isDone p.ts (4 * i + l))) ∧ rdyQ q = false ∧
      (q.group ≠ 0 → q.waits = true ∧ (playP m i bud).waits = true ∧ q.pc = (playP m i bud).at0) ∧ (q.group = 0 → (playP m i bud).waits = false))

theorem run_over {m : PM} {i bud : Nat} {xr : QM} {q : Wq} {p : Pl} (h : RunI m i bud xr q p) (hn : ¬ (p.steps < bud ∧ p.fault = 0 ∧ rdyQ q = true)) : RanTo m i bud xr q p := by
  have lv : ∀ {n b : Nat} , SI n b p q → b = 4 * i → q.opn = 0 → ∀ l, l < 4 → q.group.testBit l = (decide (4 * i + l < p.ts.length) && !isDone p.ts (4 * i + l)) := by
    intro n b hs hb ho l hl
    subst hb
    rw [hs.dn l hl]
    cases e : q.group.testBit l with
    | true =>
      obtain ⟨a, b⟩ := hs.lv l hl e
      rw [a]; simp [b]
    | false =>
      symm
      simp only [Bool.and_eq_false_iff, decide_eq_false_iff_not, Bool.not_eq_false']
      by_cases hN : 4 * i + l < p.ts.length
      · right
        cases ed : q.done.testBit l with
        | true => rfl
        | false =>
          have := h.cov l hl (by rw [← h.len]; exact hN) ed
          unfold bot at this
          rw [if_pos ho, e] at this
          cases this
      · exact .inl hN
  have to0 : ∀ {n b : Nat}, SI n b p q → q.opn = 0 → q.to = -1 := by
    intro n b hs ho
    have hst : stk q = [] := by unfold stk; rw [ho]; rfl
    have hc := hs.chain
    rw [hst] at hc
    exact hc
  cases h.mid using Mid.el with
  | fault he hf ht hr hd =>
    obtain ⟨o, ho⟩ := hr
    exact ⟨h.cells, h.len, h.other, h.wk.sp3, h.g16, h.wk.d16, hd, by rw [ho]; rfl, by rw [ho], by rw [ho], .inl ⟨hf, by rw [ho]; exact he, by rw [ho]; exact ht⟩⟩
  | wait he hw hr hs ho hq hg hp hf ht =>
    refine ⟨h.cells, h.len, h.other, h.wk.sp3, h.g16, h.wk.d16, hs.dn, by rw [hr], by rw [hr], by rw [hr], .inr (.inr ⟨hf, by rw [hr]; exact he, by rw [hr]; exact ht, ho, to0 hs ho, lv hs rfl ho, ?_, fun _ => ⟨hq, by rw [hr]; exact hw, by rw [hr]; exact hp⟩, fun e => absurd e hg⟩)⟩
    unfold rdyQ; rw [hq]; simp
  | going he hw hs hn' hr hq hf ht =>
    by_cases hg : q.group = 0
    · obtain ⟨e1, e2⟩ := fin_done (k := m.k) (J := m.J) (bud := bud) (b := 4 * i) (p := p) hg hn'
      have hp : playP m i bud = p := hr.symm.trans e1
      refine ⟨h.cells, h.len, h.other, h.wk.sp3, h.g16, h.wk.d16, hs.dn, by rw [hp], by rw [hp], by rw [hp], .inr (.inr ⟨hf, by rw [hp]; exact he, by rw [hp]; exact ht, e2, to0 hs e2, lv hs rfl e2, ?_, fun e => absurd hg e, fun _ => by rw [hp]; exact hw⟩)⟩
      unfold rdyQ; simp [hg]
    · have hrq : rdyQ q = true := by unfold rdyQ; simp [hg, hq]
      have hb : p.steps = bud := by have := h.cnt.steps; by_cases e : p.steps < bud; exact absurd ⟨e, hf, hrq⟩ hn; omega
      obtain ⟨o, ho⟩ := fin_spent (J := m.J) hs hg hn' he hw hb
      rw [hr] at ho
      exact ⟨h.cells, h.len, h.other, h.wk.sp3, h.g16, h.wk.d16, hs.dn, by rw [ho]; rfl, by rw [ho], by rw [ho], .inr (.inl ⟨hf, hrq, by rw [ho], by rw [ho]⟩)⟩

def allZ (qs : List Wq) (n : Nat) : Bool := (List.range n).all fun j => decide ((qs.getD j wq0).group = 0)
def behindQ (qs : List Wq) (i : Nat) (fault : Int) : Int := if fault ≠ 0 then 2 else if rdyQ (qs.getD i wq0) = true then 3 else if allZ qs 4 = true then 1 else 0
def freeQ (x : QM) : QM := if rdyN x.qs 4 = [] then { x with qs := x.qs.map fun q => { q with waits := false } } else x
def stPut (x : QM) (v : Int) : QM := { x with st := v }
def afterQ (x : QM) (i : Nat) (fault : Int) : QM := freeQ (stPut x (behindQ x.qs i fault))

theorem getD_set_q {l : List Wq} {i j : Nat} {q : Wq} (hi : i < l.length) : (l.set i q).getD j wq0 = if i = j then q else l.getD j wq0 := by
  rw [List.getD_eq_getElem?_getD, List.getElem?_set]
  split
  · rfl
  · rw [List.getD_eq_getElem?_getD]
theorem getD_set_w {l : List Wrp} {i j : Nat} {q : Wrp} (hi : i < l.length) : (l.set i q).getD j wrp0 = if i = j then q else l.getD j wrp0 := by
  rw [List.getD_eq_getElem?_getD, List.getElem?_set]
  split
  · rfl
  · rw [List.getD_eq_getElem?_getD]
theorem getD_free (l : List Wq) (j : Nat) : (l.map fun q => ({ q with waits := false } : Wq)).getD j wq0 = { l.getD j wq0 with waits := false } := by
  rw [List.getD_eq_getElem?_getD, List.getElem?_map, List.getD_eq_getElem?_getD]
  cases l[j]? <;> rfl
theorem getD_freeW (l : List Wrp) (j : Nat) : (l.map fun q => ({ q with waits := false } : Wrp)).getD j wrp0 = { l.getD j wrp0 with waits := false } := by
  rw [List.getD_eq_getElem?_getD, List.getElem?_map, List.getD_eq_getElem?_getD]
  cases l[j]? <;> rfl

theorem free_st (x : QM) : (freeQ x).st = x.st := by unfold freeQ; split <;> rfl
theorem free_cells {ts : List Thr} {mem : List Int} {x : QM} (h : CellsAt ts mem x) : CellsAt ts mem (freeQ x) := by
  unfold freeQ
  split
  · exact ⟨h.n, h.n16, h.f0, h.names, h.rl, h.regs, h.reg4, h.cnt, h.c32, h.wl, h.wd⟩
  · exact h
theorem free_done (x : QM) (j : Nat) : ((freeQ x).qs.getD j wq0).done = (x.qs.getD j wq0).done := by
  unfold freeQ
  split
  · simp only; rw [getD_free]
  · rfl
theorem free_len (x : QM) : (freeQ x).qs.length = x.qs.length := by
  unfold freeQ
  split
  · simp
  · rfl

theorem rel_after {m : PM} {x xr : QM} (hm : PMok m) (hx : Rel m x) (h0 : m.st = 0) {i : Nat} (hi : i < 4) (hr : rdyQ (x.qs.getD i wq0) = true) (hq : xr.qs = x.qs) {bud : Nat} {q : Wq} {p : Pl} (h : RanTo m i bud xr q p) :
    Rel (afterP m i (playP m i bud)) (afterQ (qPut xr i q) i p.fault) := by
  have hl4 : xr.qs.length = 4 := by rw [hq]; exact hx.dn.1
  have hw4 : m.ws.length ≤ 4 := by have := hm.lenW; have := hm.n16; omega
  have hgi : (x.qs.getD i wq0).group ≠ 0 := by intro e; rw [rdyQ, e] at hr; simp at hr
  have hiw : i < m.ws.length := ((hx.rest h0 i hi).pc hgi).1
  have hqs : ∀ j, ((qPut xr i q).qs).getD j wq0 = if i = j then q else x.qs.getD j wq0 := fun j => by
    show (xr.qs.set i q).getD j wq0 = _
    rw [getD_set_q (by omega), hq]
  have hlen : (qPut xr i q).qs.length = 4 := by show (xr.qs.set i q).length = 4; rw [List.length_set]; exact hl4
  have hoth : ∀ j, i ≠ j → ∀ l, l < 4 → isDone p.ts (4 * j + l) = isDone m.ts (4 * j + l) := fun j hj l hl => h.other _ (by omega)
  have hdn : DoneAt p.ts (afterQ (qPut xr i q) i p.fault).qs := by
    refine ⟨by unfold afterQ; rw [free_len]; exact hlen, fun j hj l hl => ?_⟩
    unfold afterQ
    rw [free_done, show (stPut (qPut xr i q) (behindQ (qPut xr i q).qs i p.fault)).qs = (qPut xr i q).qs from rfl, hqs]
    split
    · rename_i e; subst e; exact h.dn l hl
    · rename_i e; rw [hoth j e l hl]; exact hx.dn.2 j hj l hl
  have hd16 : ∀ j, j < 4 → ((afterQ (qPut xr i q) i p.fault).qs.getD j wq0).done < 16 := fun j hj => by
    unfold afterQ
    rw [free_done, show (stPut (qPut xr i q) (behindQ (qPut xr i q).qs i p.fault)).qs = (qPut xr i q).qs from rfl, hqs]
    split
    · exact h.d16
    · exact hx.d16 j hj
  have hc1 : CellsAt p.ts p.mem (stPut (qPut xr i q) (behindQ (qPut xr i q).qs i p.fault)) := ⟨h.cells.n, h.cells.n16, h.cells.f0, h.cells.names, h.cells.rl, h.cells.regs, h.cells.reg4, h.cells.cnt, h.cells.c32, h.cells.wl, h.cells.wd⟩
  have hcells : CellsAt p.ts p.mem (afterQ (qPut xr i q) i p.fault) := free_cells hc1
  have hst : (afterQ (qPut xr i q) i p.fault).st = behindQ (qPut xr i q).qs i p.fault := by unfold afterQ; rw [free_st]; rfl
  have hqi : (qPut xr i q).qs.getD i wq0 = q := by rw [hqs, if_pos rfl]
  rcases h.how with ⟨hf, he, hs⟩ | ⟨hf, hrq, he, hs⟩ | ⟨hf, he, hs, ho, hto, hlv, hrq, hw1, hw2⟩
  · have ea : afterP m i (playP m i bud) = { m with ts := p.ts, mem := p.mem, st := 2 } := by
      unfold afterP; simp only; rw [if_pos he, hs, h.ts, h.mem]
    rw [ea]
    refine ⟨hcells, ?_, hdn, hd16, fun e => by simp at e⟩
    rw [hst]; unfold behindQ; rw [if_pos hf]
  · have ea : afterP m i (playP m i bud) = { m with ts := p.ts, mem := p.mem, st := 3 } := by
      unfold afterP; simp only; rw [if_pos he, hs, h.ts, h.mem]
    rw [ea]
    refine ⟨hcells, ?_, hdn, hd16, fun e => by simp at e⟩
    rw [hst]; unfold behindQ; rw [if_neg (by simpa using hf), hqi, if_pos hrq]
  · obtain ⟨ws1, hws1⟩ : ∃ ws1, ws1 = m.ws.set i (if (playP m i bud).waits then { m.ws.getD i wrp0 with waits := true, at0 := (playP m i bud).at0 } else { m.ws.getD i wrp0 with done := true }) := ⟨_, rfl⟩
    have ea : afterP m i (playP m i bud) = settleP { m with ts := p.ts, mem := p.mem, st := 0, ws := ws1 } := by
      unfold afterP; simp only; rw [if_neg (by rw [he]; decide), hs, h.ts, h.mem, hws1]
    have hwl : ws1.length = m.ws.length := by rw [hws1]; simp
    have hwj : ∀ j, ws1.getD j wrp0 = if i = j then (if (playP m i bud).waits then { m.ws.getD i wrp0 with waits := true, at0 := (playP m i bud).at0 } else { m.ws.getD i wrp0 with done := true }) else m.ws.getD j wrp0 := fun j => by
      rw [hws1, getD_set_w hiw]
    have R1 : ∀ j, j < 4 → RestAt p.ts ws1 j ((qPut xr i q).qs.getD j wq0) := by
      intro j hj
      rw [hqs]
      by_cases e : i = j
      · subst e
        rw [if_pos rfl]
        refine ⟨h.sp3, h.g16, h.d16, hlv, ho, hto, fun hg => ?_, fun _ => ?_⟩
        · obtain ⟨a1, a2, a3⟩ := hw1 hg
          rw [hwj, if_pos rfl, if_pos a2, hwl]
          exact ⟨hiw, a3, a1⟩
        · rw [hwj, if_pos rfl]
          by_cases hg : q.group = 0
          · rw [if_neg (by rw [hw2 hg]; decide)]; simp [hg]
          · rw [if_pos (hw1 hg).2.1]
            have e1 : (m.ws.getD i wrp0).done = false := by rw [(hx.rest h0 i hi).dn hiw]; simpa using hgi
            have e2 : decide (q.group = 0) = false := by simpa using hg
            rw [e2]; exact e1
      · rw [if_neg e]
        have r := hx.rest h0 j hj
        refine ⟨r.sp3, r.g16, r.d16, fun l hl => ?_, r.opn, r.to, fun hg => ?_, fun hjl => ?_⟩
        · rw [r.lv l hl, h.len, hoth j e l hl]
        · rw [hwj, if_neg e, hwl]; exact r.pc hg
        · rw [hwj, if_neg e]; rw [hwl] at hjl; exact r.dn hjl
    have hz : allZ (qPut xr i q).qs 4 = ws1.all (fun y => y.done) := by
      rw [Bool.eq_iff_iff]
      unfold allZ
      simp only [List.all_eq_true, List.mem_range, decide_eq_true_eq]
      constructor
      · intro ha y hy
        obtain ⟨j, hj, rfl⟩ := List.getElem_of_mem hy
        have := (R1 j (by omega)).dn hj
        rw [ha j (by omega)] at this
        rw [List.getD_eq_getElem?_getD, List.getElem?_eq_getElem hj] at this
        simpa using this
      · intro ha j hj
        by_cases hjl : j < ws1.length
        · have := (R1 j hj).dn hjl
          have hd := ha _ (List.getElem_mem hjl)
          rw [List.getD_eq_getElem?_getD, List.getElem?_eq_getElem hjl] at this
          have e : (ws1[j]).done = decide (((qPut xr i q).qs.getD j wq0).group = 0) := this
          rw [hd] at e
          simpa using e.symm
        · by_cases hg : ((qPut xr i q).qs.getD j wq0).group = 0
          · exact hg
          · exact absurd ((R1 j hj).pc hg).1 hjl
    have hrd := ready_of (by omega) R1
    rw [ea]
    unfold settleP
    by_cases hall : ws1.all (fun y => y.done) = true
    · rw [if_pos hall]
      refine ⟨hcells, ?_, hdn, hd16, fun e => by simp at e⟩
      rw [hst]; unfold behindQ; rw [if_neg (by simpa using hf), hqi, if_neg (by rw [hrq]; decide), hz, if_pos hall]
    · rw [if_neg hall]
      have hst0 : (afterQ (qPut xr i q) i p.fault).st = 0 := by
        rw [hst]; unfold behindQ; rw [if_neg (by simpa using hf), hqi, if_neg (by rw [hrq]; decide), hz, if_neg hall]
      by_cases hrl : readyL ws1 = []
      · rw [if_pos hrl]
        refine ⟨hcells, hst0, hdn, hd16, fun _ j hj => ?_⟩
        have e1 : (afterQ (qPut xr i q) i p.fault).qs.getD j wq0 = { (qPut xr i q).qs.getD j wq0 with waits := false } := by
          unfold afterQ freeQ
          rw [if_pos (show rdyN (stPut (qPut xr i q) (behindQ (qPut xr i q).qs i p.fault)).qs 4 = [] from hrd ▸ hrl)]
          exact getD_free _ _
        rw [e1]
        have r := R1 j hj
        refine ⟨r.sp3, r.g16, r.d16, r.lv, r.opn, r.to, fun hg => ?_, fun hjl => ?_⟩
        · obtain ⟨a1, a2, a3⟩ := r.pc hg
          refine ⟨by simpa using a1, ?_, ?_⟩
          · simp only; rw [getD_freeW]; exact a2
          · simp only; rw [getD_freeW]
        · simp only; rw [getD_freeW]
          exact r.dn (by simpa using hjl)
      · rw [if_neg hrl]
        refine ⟨hcells, hst0, hdn, hd16, fun _ j hj => ?_⟩
        have e1 : (afterQ (qPut xr i q) i p.fault).qs = (qPut xr i q).qs := by
          unfold afterQ freeQ
          rw [if_neg (show ¬ rdyN (stPut (qPut xr i q) (behindQ (qPut xr i q).qs i p.fault)).qs 4 = [] from hrd ▸ hrl)]
          rfl
        rw [e1]
        exact R1 j hj

theorem rel_behind {m : PM} {x X : QM} (hm : PMok m) (hx : Rel m x) (h0 : m.st = 0) {i : Nat} (hi : i < 4) (hr : rdyQ (x.qs.getD i wq0) = true) {bud : Nat} {q : Wq} {p : Pl} (hq : X.qs = x.qs.set i q) (h : RanTo m i bud X q p) :
    Rel (afterP m i (playP m i bud)) (afterQ X i p.fault) := by
  have e : qPut { X with qs := x.qs } i q = X := by unfold qPut; simp only; rw [← hq]
  have h2 : RanTo m i bud { X with qs := x.qs } q p := ⟨⟨h.cells.n, h.cells.n16, h.cells.f0, h.cells.names, h.cells.rl, h.cells.regs, h.cells.reg4, h.cells.cnt, h.cells.c32, h.cells.wl, h.cells.wd⟩, h.len, h.other, h.sp3, h.g16, h.d16, h.dn, h.ans, h.ts, h.mem, h.how⟩
  have := rel_after (xr := { X with qs := x.qs }) hm hx h0 hi hr rfl h2
  rwa [e] at this

end Go.Proofs.YtbhbacphiinpeaaGreat

