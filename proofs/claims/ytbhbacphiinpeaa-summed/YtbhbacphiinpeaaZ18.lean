/- Fh: joined. -/
import Derived.Test.YtbhbacphiinpeaaZ17
import Derived.Test.YtbhbacphiinpeaaZ11

/- A turn of the program's machine from its beginning to its end, and the machine behind it beside the document's; plain. -/
namespace Go.Proofs.Ytbhbacphiinpeaa
open Go.RowKit

/-- Where a turn stands. -/
def Mid (m : PM) (i bud : Nat) (q : Wq) (p : Pl) : Prop :=
  ((p.ends = false) ∧ (p.waits = false) ∧ (SI m.k.length (4 * i) p q) ∧ (¬ (endQ q ∧ 0 < q.opn)) ∧ (restQ (runP m.k m.J bud bud) (4 * i) q p = playP m i bud) ∧ (q.waits = false) ∧ (p.fault = 0) ∧ (p.st = 0)) ∨
  ((p.ends = true) ∧ (p.fault ≠ 0) ∧ (p.st = 2) ∧ (∃ o, playP m i bud = { p with opn := o }) ∧ (∀ l, l < 4 → isDone p.ts (4 * i + l) = q.done.testBit l)) ∨
  ((p.ends = false) ∧ (p.waits = true) ∧ (playP m i bud = p) ∧ (SI m.k.length (4 * i) p q) ∧ (q.opn = 0) ∧ (q.waits = true) ∧ (q.group ≠ 0) ∧ (q.pc = p.at0) ∧ (p.fault = 0) ∧ (p.st = 0))
theorem Mid.going {m : PM} {i bud : Nat} {q : Wq} {p : Pl} (he : p.ends = false) (hw : p.waits = false) (hs : SI m.k.length (4 * i) p q) (hn : ¬ (endQ q ∧ 0 < q.opn)) (hr : restQ (runP m.k m.J bud bud) (4 * i) q p = playP m i bud) (hq : q.waits = false) (hf : p.fault = 0) (ht : p.st = 0) : Mid m i bud q p := .inl ⟨he, hw, hs, hn, hr, hq, hf, ht⟩
theorem Mid.fault {m : PM} {i bud : Nat} {q : Wq} {p : Pl} (he : p.ends = true) (hf : p.fault ≠ 0) (ht : p.st = 2) (hr : ∃ o, playP m i bud = { p with opn := o }) (hd : ∀ l, l < 4 → isDone p.ts (4 * i + l) = q.done.testBit l) : Mid m i bud q p := .inr (.inl ⟨he, hf, ht, hr, hd⟩)
theorem Mid.wait {m : PM} {i bud : Nat} {q : Wq} {p : Pl} (he : p.ends = false) (hw : p.waits = true) (hr : playP m i bud = p) (hs : SI m.k.length (4 * i) p q) (ho : q.opn = 0) (hq : q.waits = true) (hg : q.group ≠ 0) (hp : q.pc = p.at0) (hf : p.fault = 0) (ht : p.st = 0) : Mid m i bud q p := .inr (.inr ⟨he, hw, hr, hs, ho, hq, hg, hp, hf, ht⟩)
theorem Mid.el {m : PM} {i bud : Nat} {q : Wq} {p : Pl} {motive : Mid m i bud q p → Prop} (going : ∀ (he : p.ends = false) (hw : p.waits = false) (hs : SI m.k.length (4 * i) p q) (hn : ¬ (endQ q ∧ 0 < q.opn)) (hr : restQ (runP m.k m.J bud bud) (4 * i) q p = playP m i bud) (hq : q.waits = false) (hf : p.fault = 0) (ht : p.st = 0), motive (Mid.going he hw hs hn hr hq hf ht)) (fault : ∀ (he : p.ends = true) (hf : p.fault ≠ 0) (ht : p.st = 2) (hr : ∃ o, playP m i bud = { p with opn := o }) (hd : ∀ l, l < 4 → isDone p.ts (4 * i + l) = q.done.testBit l), motive (Mid.fault he hf ht hr hd)) (wait : ∀ (he : p.ends = false) (hw : p.waits = true) (hr : playP m i bud = p) (hs : SI m.k.length (4 * i) p q) (ho : q.opn = 0) (hq : q.waits = true) (hg : q.group ≠ 0) (hp : q.pc = p.at0) (hf : p.fault = 0) (ht : p.st = 0), motive (Mid.wait he hw hr hs ho hq hg hp hf ht)) (t : Mid m i bud q p) : motive t := by
  rcases t with ⟨he, hw, hs, hn, hr, hq, hf, ht⟩ | ⟨he, hf, ht, hr, hd⟩ | ⟨he, hw, hr, hs, ho, hq, hg, hp, hf, ht⟩
  · exact going he hw hs hn hr hq hf ht
  · exact fault he hf ht hr hd
  · exact wait he hw hr hs ho hq hg hp hf ht

structure RunI (m : PM) (i bud : Nat) (xr : QM) (q : Wq) (p : Pl) : Prop where
  cells : CellsAt p.ts p.mem xr
  len : p.ts.length = m.ts.length
  other : ∀ t, ¬ (4 * i ≤ t ∧ t < 4 * i + 4) → isDone p.ts t = isDone m.ts t
  wk : Wk q
  g16 : q.group < 16
  cov : Cov (fun l => 4 * i + l < m.ts.length) q
  cnt : Cnt bud p
  mid : Mid m i bud q p

abbrev p0 (m : PM) : Pl := ⟨m.ts, m.mem, m.st, 0, 0, 0, 0, 0, [], 0, false, false, 0⟩

theorem run_begin {m : PM} {x : QM} (hm : PMok m) (hx : Rel m x) (h0 : m.st = 0) {i : Nat} (hi : i < 4) (hr : rdyQ (x.qs.getD i wq0) = true) (bud : Nat) : RunI m i bud x (x.qs.getD i wq0) (p0 m) := by
  obtain ⟨h1, h2, h3, h4⟩ := begin_si hm hx h0 hi hr bud
  have h := hx.rest h0 i hi
  refine ⟨hx.cells, rfl, fun _ _ => rfl, ⟨h.sp3, by rw [h.opn]; omega, h.d16⟩, h.g16, fun l hl hN hd => ?_, begin_cnt m bud, .going rfl rfl h1 h3 h4 ?_ rfl h0⟩
  · unfold bot
    rw [if_pos h.opn, h.lv l hl, h1.dn l hl, hd]
    simp only [Bool.not_false, Bool.and_true, decide_eq_true_eq]
    exact hN
  · unfold rdyQ at hr
    simp only [Bool.and_eq_true, Bool.not_eq_true'] at hr
    exact hr.2

theorem run_more {m : PM} {i bud : Nat} {xr xr' : QM} {q : Wq} {p : Pl} (hm : PMok m) (h : RunI m i bud xr q p) (hs : p.steps < bud) (hf : p.fault = 0) (hr : rdyQ q = true) (hc : CellsAt (stepQ m.k m.J (4 * i) q p).2.ts (stepQ m.k m.J (4 * i) q p).2.mem xr') :
    RunI m i bud xr' (stepQ m.k m.J (4 * i) q p).1 (stepQ m.k m.J (4 * i) q p).2 ∧ (stepQ m.k m.J (4 * i) q p).2.steps = p.steps + 1 ∧ (stepQ m.k m.J (4 * i) q p).2.log = p.log ++ [(q.pc, (q.group : Int))] := by
  have hg : q.group ≠ 0 := by intro e; rw [rdyQ, e] at hr; simp at hr
  have hqw : q.waits = false := by unfold rdyQ at hr; simp only [Bool.and_eq_true, Bool.not_eq_true'] at hr; exact hr.2
  cases h.mid using Mid.el with
  | fault he hf' _ _ _ => exact absurd hf hf'
  | wait he hw _ _ _ hq _ _ _ _ => rw [hq] at hqw; cases hqw
  | going he hw hsi hn hrs hq hf' ht =>
    have hne := not_end hsi hg hn
    obtain ⟨hp0, hpn⟩ := hsi.pcs hg
    obtain ⟨ins, hx⟩ : ∃ ins, m.k[q.pc.toNat]? = some ins := ⟨_, List.getElem?_eq_getElem (by omega)⟩
    have hk := step_keeps (J := m.J) (b := 4 * i) hx he h.cells.reg4
    have hsim := step_sim hm.chk hm.joins hsi hg hne he hw (by omega) h.cells.reg4 h.cnt
    have hcv := cov_step (k := m.k) (J := m.J) (b := 4 * i) (p := p) h.cov h.wk h.g16
    have hlog := hk.log
    rw [bits_gOf h.g16 (by omega)] at hlog
    have hcnt : Cnt bud (stepQ m.k m.J (4 * i) q p).2 := by
      have c := h.cnt
      refine ⟨by rw [hk.steps]; omega, by rw [hk.log, hk.steps, List.length_append, c.log]; rfl, ?_, ?_⟩
      · have := hk.segs; have := c.segs; have := hk.steps; omega
      · have := hk.opn hsi.po; have := c.opn; have := hk.steps; omega
    refine ⟨⟨hc, hk.len.trans h.len, fun t ht => (hk.other t ht).trans (h.other t ht), ?_, ?_, hcv, hcnt, ?_⟩, hk.steps, hlog⟩
    · cases hsim using Ends3.el with
      | still s => exact ⟨s.si.sp3, s.si.opn, s.si.d16⟩
      | fault _ _ _ _ e _ => rw [e]; exact h.wk
      | wait _ _ _ s _ _ _ _ => exact ⟨s.sp3, s.opn, s.d16⟩
    · cases hsim using Ends3.el with
      | still s => exact s.si.g16
      | fault _ _ _ _ e _ => rw [e]; exact h.g16
      | wait _ _ _ s _ _ _ _ => exact s.g16
    · cases hsim using Ends3.el with
      | still s => exact .going s.ends s.waits s.si s.stop (s.rest.trans hrs) (s.wq.trans hq) ((hk.goes s.ends).1.trans hf') ((hk.goes s.ends).2.trans ht)
      | fault a b c d e f => exact .fault a b (hk.stops a) (by obtain ⟨o, ho⟩ := d; exact ⟨o, by rw [← hrs]; exact ho⟩) f
      | wait a b c d e f g j => exact .wait a b (by rw [← hrs]; exact c) d e f g j ((hk.goes a).1.trans hf') ((hk.goes a).2.trans ht)

/-- How a turn of the program's ended: the machine xr, the warp q, the turn p. -/
structure RanTo (m : PM) (i bud : Nat) (xr : QM) (q : Wq) (p : Pl) : Prop where
  cells : CellsAt p.ts p.mem xr
  len : p.ts.length = m.ts.length
  other : ∀ t, ¬ (4 * i ≤ t ∧ t < 4 * i + 4) → isDone p.ts t = isDone m.ts t
  sp3 : q.sp.length = 3
  g16 : q.group < 16
  d16 : q.done < 16
  dn : ∀ l, l < 4 → isDone p.ts (4 * i + l) = q.done.testBit l
  ans : turnOf i (playP m i bud) = turnOf i p
  ts : (playP m i bud).ts = p.ts
  mem : (playP m i bud).mem = p.mem
  how : (p.fault ≠ 0 ∧ (playP m i bud).ends = true ∧ (playP m i bud).st = 2) ∨ (p.fault = 0 ∧ rdyQ q = true ∧ (playP m i bud).ends = true ∧ (playP m i bud).st = 3) ∨
    (p.fault = 0 ∧ (playP m i bud).ends = false ∧ (playP m i bud).st = 0 ∧ q.opn = 0 ∧ q.to = -1 ∧ (∀ l, l < 4 → q.group.testBit l = (decide (4 * i + l < p.ts.length) && !isDone p.ts (4 * i + l))) ∧ rdyQ q = false ∧
      (q.group ≠ 0 → q.waits = true ∧ (playP m i bud).waits = true ∧ q.pc = (playP m i bud).at0) ∧ (q.group = 0 → (playP m i bud).waits = false))

theorem run_over {m : PM} {i bud : Nat} {xr : QM} {q : Wq} {p : Pl} (h : RunI m i bud xr q p) (hn : ¬ (p.steps < bud ∧ p.fault = 0 ∧ rdyQ q = true)) : RanTo m i bud xr q p := by
  have lv : ∀ {n b : Nat} , SI n b p q → b = 4 * i → q.opn = 0 → ∀ l, l < 4 → q.group.testBit l = (decide (4 * i + l < p.ts.length) && !isDone p.ts (4 * i + l)) := by
    intro n b hs hb ho l hl
    subst hb
    rw [hs.dn l hl]
    cases e : q.group.testBit l with
    | true =>
      obtain ⟨a, b⟩ := hs.lv l hl e
      rw [a]; simp [b]
    | false =>
      symm
      simp only [Bool.and_eq_false_iff, decide_eq_false_iff_not, Bool.not_eq_false']
      by_cases hN : 4 * i + l < p.ts.length
      · right
        cases ed : q.done.testBit l with
        | true => rfl
        | false =>
          have := h.cov l hl (by rw [← h.len]; exact hN) ed
          unfold bot at this
          rw [if_pos ho, e] at this
          cases this
      · exact .inl hN
  have to0 : ∀ {n b : Nat}, SI n b p q → q.opn = 0 → q.to = -1 := by
    intro n b hs ho
    have hst : stk q = [] := by unfold stk; rw [ho]; rfl
    have hc := hs.chain
    rw [hst] at hc
    exact hc
  cases h.mid using Mid.el with
  | fault he hf ht hr hd =>
    obtain ⟨o, ho⟩ := hr
    exact ⟨h.cells, h.len, h.other, h.wk.sp3, h.g16, h.wk.d16, hd, by rw [ho]; rfl, by rw [ho], by rw [ho], .inl ⟨hf, by rw [ho]; exact he, by rw [ho]; exact ht⟩⟩
  | wait he hw hr hs ho hq hg hp hf ht =>
    refine ⟨h.cells, h.len, h.other, h.wk.sp3, h.g16, h.wk.d16, hs.dn, by rw [hr], by rw [hr], by rw [hr], .inr (.inr ⟨hf, by rw [hr]; exact he, by rw [hr]; exact ht, ho, to0 hs ho, lv hs rfl ho, ?_, fun _ => ⟨hq, by rw [hr]; exact hw, by rw [hr]; exact hp⟩, fun e => absurd e hg⟩)⟩
    unfold rdyQ; rw [hq]; simp
  | going he hw hs hn' hr hq hf ht =>
    by_cases hg : q.group = 0
    · obtain ⟨e1, e2⟩ := fin_done (k := m.k) (J := m.J) (bud := bud) (b := 4 * i) (p := p) hg hn'
      have hp : playP m i bud = p := hr.symm.trans e1
      refine ⟨h.cells, h.len, h.other, h.wk.sp3, h.g16, h.wk.d16, hs.dn, by rw [hp], by rw [hp], by rw [hp], .inr (.inr ⟨hf, by rw [hp]; exact he, by rw [hp]; exact ht, e2, to0 hs e2, lv hs rfl e2, ?_, fun e => absurd hg e, fun _ => by rw [hp]; exact hw⟩)⟩
      unfold rdyQ; simp [hg]
    · have hrq : rdyQ q = true := by unfold rdyQ; simp [hg, hq]
      have hb : p.steps = bud := by have := h.cnt.steps; by_cases e : p.steps < bud; exact absurd ⟨e, hf, hrq⟩ hn; omega
      obtain ⟨o, ho⟩ := fin_spent (J := m.J) hs hg hn' he hw hb
      rw [hr] at ho
      exact ⟨h.cells, h.len, h.other, h.wk.sp3, h.g16, h.wk.d16, hs.dn, by rw [ho]; rfl, by rw [ho], by rw [ho], .inr (.inl ⟨hf, hrq, by rw [ho], by rw [ho]⟩)⟩

def allZ (qs : List Wq) (n : Nat) : Bool := (List.range n).all fun j => decide ((qs.getD j wq0).group = 0)
def behindQ (qs : List Wq) (i : Nat) (fault : Int) : Int := if fault ≠ 0 then 2 else if rdyQ (qs.getD i wq0) = true then 3 else if allZ qs 4 = true then 1 else 0
def freeQ (x : QM) : QM := if rdyN x.qs 4 = [] then { x with qs := x.qs.map fun q => { q with waits := false } } else x
def stPut (x : QM) (v : Int) : QM := { x with st := v }
def afterQ (x : QM) (i : Nat) (fault : Int) : QM := freeQ (stPut x (behindQ x.qs i fault))

theorem getD_set_q {l : List Wq} {i j : Nat} {q : Wq} (hi : i < l.length) : (l.set i q).getD j wq0 = if i = j then q else l.getD j wq0 := by
  rw [List.getD_eq_getElem?_getD, List.getElem?_set]
  split
  · rfl
  · rw [List.getD_eq_getElem?_getD]
theorem getD_set_w {l : List Wrp} {i j : Nat} {q : Wrp} (hi : i < l.length) : (l.set i q).getD j wrp0 = if i = j then q else l.getD j wrp0 := by
  rw [List.getD_eq_getElem?_getD, List.getElem?_set]
  split
  · rfl
  · rw [List.getD_eq_getElem?_getD]
theorem getD_free (l : List Wq) (j : Nat) : (l.map fun q => ({ q with waits := false } : Wq)).getD j wq0 = { l.getD j wq0 with waits := false } := by
  rw [List.getD_eq_getElem?_getD, List.getElem?_map, List.getD_eq_getElem?_getD]
  cases l[j]? <;> rfl
theorem getD_freeW (l : List Wrp) (j : Nat) : (l.map fun q => ({ q with waits := false } : Wrp)).getD j wrp0 = { l.getD j wrp0 with waits := false } := by
  rw [List.getD_eq_getElem?_getD, List.getElem?_map, List.getD_eq_getElem?_getD]
  cases l[j]? <;> rfl

theorem free_st (x : QM) : (freeQ x).st = x.st := by unfold freeQ; split <;> rfl
theorem free_cells {ts : List Thr} {mem : List Int} {x : QM} (h : CellsAt ts mem x) : CellsAt ts mem (freeQ x) := by
  unfold freeQ
  split
  · exact ⟨h.n, h.n16, h.f0, h.names, h.rl, h.regs, h.reg4, h.cnt, h.c32, h.wl, h.wd⟩
  · exact h
theorem free_done (x : QM) (j : Nat) : ((freeQ x).qs.getD j wq0).done = (x.qs.getD j wq0).done := by
  unfold freeQ
  split
  · simp only; rw [getD_free]
  · rfl
theorem free_len (x : QM) : (freeQ x).qs.length = x.qs.length := by
  unfold freeQ
  split
  · simp
  · rfl

theorem rel_after {m : PM} {x xr : QM} (hm : PMok m) (hx : Rel m x) (h0 : m.st = 0) {i : Nat} (hi : i < 4) (hr : rdyQ (x.qs.getD i wq0) = true) (hq : xr.qs = x.qs) {bud : Nat} {q : Wq} {p : Pl} (h : RanTo m i bud xr q p) :
    Rel (afterP m i (playP m i bud)) (afterQ (qPut xr i q) i p.fault) := by
  have hl4 : xr.qs.length = 4 := by rw [hq]; exact hx.dn.1
  have hw4 : m.ws.length ≤ 4 := by have := hm.lenW; have := hm.n16; omega
  have hgi : (x.qs.getD i wq0).group ≠ 0 := by intro e; rw [rdyQ, e] at hr; simp at hr
  have hiw : i < m.ws.length := ((hx.rest h0 i hi).pc hgi).1
  have hqs : ∀ j, ((qPut xr i q).qs).getD j wq0 = if i = j then q else x.qs.getD j wq0 := fun j => by
    show (xr.qs.set i q).getD j wq0 = _
    rw [getD_set_q (by omega), hq]
  have hlen : (qPut xr i q).qs.length = 4 := by show (xr.qs.set i q).length = 4; rw [List.length_set]; exact hl4
  have hoth : ∀ j, i ≠ j → ∀ l, l < 4 → isDone p.ts (4 * j + l) = isDone m.ts (4 * j + l) := fun j hj l hl => h.other _ (by omega)
  have hdn : DoneAt p.ts (afterQ (qPut xr i q) i p.fault).qs := by
    refine ⟨by unfold afterQ; rw [free_len]; exact hlen, fun j hj l hl => ?_⟩
    unfold afterQ
    rw [free_done, show (stPut (qPut xr i q) (behindQ (qPut xr i q).qs i p.fault)).qs = (qPut xr i q).qs from rfl, hqs]
    split
    · rename_i e; subst e; exact h.dn l hl
    · rename_i e; rw [hoth j e l hl]; exact hx.dn.2 j hj l hl
  have hd16 : ∀ j, j < 4 → ((afterQ (qPut xr i q) i p.fault).qs.getD j wq0).done < 16 := fun j hj => by
    unfold afterQ
    rw [free_done, show (stPut (qPut xr i q) (behindQ (qPut xr i q).qs i p.fault)).qs = (qPut xr i q).qs from rfl, hqs]
    split
    · exact h.d16
    · exact hx.d16 j hj
  have hc1 : CellsAt p.ts p.mem (stPut (qPut xr i q) (behindQ (qPut xr i q).qs i p.fault)) := ⟨h.cells.n, h.cells.n16, h.cells.f0, h.cells.names, h.cells.rl, h.cells.regs, h.cells.reg4, h.cells.cnt, h.cells.c32, h.cells.wl, h.cells.wd⟩
  have hcells : CellsAt p.ts p.mem (afterQ (qPut xr i q) i p.fault) := free_cells hc1
  have hst : (afterQ (qPut xr i q) i p.fault).st = behindQ (qPut xr i q).qs i p.fault := by unfold afterQ; rw [free_st]; rfl
  have hqi : (qPut xr i q).qs.getD i wq0 = q := by rw [hqs, if_pos rfl]
  rcases h.how with ⟨hf, he, hs⟩ | ⟨hf, hrq, he, hs⟩ | ⟨hf, he, hs, ho, hto, hlv, hrq, hw1, hw2⟩
  · have ea : afterP m i (playP m i bud) = { m with ts := p.ts, mem := p.mem, st := 2 } := by
      unfold afterP; simp only; rw [if_pos he, hs, h.ts, h.mem]
    rw [ea]
    refine ⟨hcells, ?_, hdn, hd16, fun e => by simp at e⟩
    rw [hst]; unfold behindQ; rw [if_pos hf]
  · have ea : afterP m i (playP m i bud) = { m with ts := p.ts, mem := p.mem, st := 3 } := by
      unfold afterP; simp only; rw [if_pos he, hs, h.ts, h.mem]
    rw [ea]
    refine ⟨hcells, ?_, hdn, hd16, fun e => by simp at e⟩
    rw [hst]; unfold behindQ; rw [if_neg (by simpa using hf), hqi, if_pos hrq]
  · obtain ⟨ws1, hws1⟩ : ∃ ws1, ws1 = m.ws.set i (if (playP m i bud).waits then { m.ws.getD i wrp0 with waits := true, at0 := (playP m i bud).at0 } else { m.ws.getD i wrp0 with done := true }) := ⟨_, rfl⟩
    have ea : afterP m i (playP m i bud) = settleP { m with ts := p.ts, mem := p.mem, st := 0, ws := ws1 } := by
      unfold afterP; simp only; rw [if_neg (by rw [he]; decide), hs, h.ts, h.mem, hws1]
    have hwl : ws1.length = m.ws.length := by rw [hws1]; simp
    have hwj : ∀ j, ws1.getD j wrp0 = if i = j then (if (playP m i bud).waits then { m.ws.getD i wrp0 with waits := true, at0 := (playP m i bud).at0 } else { m.ws.getD i wrp0 with done := true }) else m.ws.getD j wrp0 := fun j => by
      rw [hws1, getD_set_w hiw]
    have R1 : ∀ j, j < 4 → RestAt p.ts ws1 j ((qPut xr i q).qs.getD j wq0) := by
      intro j hj
      rw [hqs]
      by_cases e : i = j
      · subst e
        rw [if_pos rfl]
        refine ⟨h.sp3, h.g16, h.d16, hlv, ho, hto, fun hg => ?_, fun _ => ?_⟩
        · obtain ⟨a1, a2, a3⟩ := hw1 hg
          rw [hwj, if_pos rfl, if_pos a2, hwl]
          exact ⟨hiw, a3, a1⟩
        · rw [hwj, if_pos rfl]
          by_cases hg : q.group = 0
          · rw [if_neg (by rw [hw2 hg]; decide)]; simp [hg]
          · rw [if_pos (hw1 hg).2.1]
            have e1 : (m.ws.getD i wrp0).done = false := by rw [(hx.rest h0 i hi).dn hiw]; simpa using hgi
            have e2 : decide (q.group = 0) = false := by simpa using hg
            rw [e2]; exact e1
      · rw [if_neg e]
        have r := hx.rest h0 j hj
        refine ⟨r.sp3, r.g16, r.d16, fun l hl => ?_, r.opn, r.to, fun hg => ?_, fun hjl => ?_⟩
        · rw [r.lv l hl, h.len, hoth j e l hl]
        · rw [hwj, if_neg e, hwl]; exact r.pc hg
        · rw [hwj, if_neg e]; rw [hwl] at hjl; exact r.dn hjl
    have hz : allZ (qPut xr i q).qs 4 = ws1.all (fun y => y.done) := by
      rw [Bool.eq_iff_iff]
      unfold allZ
      simp only [List.all_eq_true, List.mem_range, decide_eq_true_eq]
      constructor
      · intro ha y hy
        obtain ⟨j, hj, rfl⟩ := List.getElem_of_mem hy
        have := (R1 j (by omega)).dn hj
        rw [ha j (by omega)] at this
        rw [List.getD_eq_getElem?_getD, List.getElem?_eq_getElem hj] at this
        simpa using this
      · intro ha j hj
        by_cases hjl : j < ws1.length
        · have := (R1 j hj).dn hjl
          have hd := ha _ (List.getElem_mem hjl)
          rw [List.getD_eq_getElem?_getD, List.getElem?_eq_getElem hjl] at this
          have e : (ws1[j]).done = decide (((qPut xr i q).qs.getD j wq0).group = 0) := this
          rw [hd] at e
          simpa using e.symm
        · by_cases hg : ((qPut xr i q).qs.getD j wq0).group = 0
          · exact hg
          · exact absurd ((R1 j hj).pc hg).1 hjl
    have hrd := ready_of (by omega) R1
    rw [ea]
    unfold settleP
    by_cases hall : ws1.all (fun y => y.done) = true
    · rw [if_pos hall]
      refine ⟨hcells, ?_, hdn, hd16, fun e => by simp at e⟩
      rw [hst]; unfold behindQ; rw [if_neg (by simpa using hf), hqi, if_neg (by rw [hrq]; decide), hz, if_pos hall]
    · rw [if_neg hall]
      have hst0 : (afterQ (qPut xr i q) i p.fault).st = 0 := by
        rw [hst]; unfold behindQ; rw [if_neg (by simpa using hf), hqi, if_neg (by rw [hrq]; decide), hz, if_neg hall]
      by_cases hrl : readyL ws1 = []
      · rw [if_pos hrl]
        refine ⟨hcells, hst0, hdn, hd16, fun _ j hj => ?_⟩
        have e1 : (afterQ (qPut xr i q) i p.fault).qs.getD j wq0 = { (qPut xr i q).qs.getD j wq0 with waits := false } := by
          unfold afterQ freeQ
          rw [if_pos (show rdyN (stPut (qPut xr i q) (behindQ (qPut xr i q).qs i p.fault)).qs 4 = [] from hrd ▸ hrl)]
          exact getD_free _ _
        rw [e1]
        have r := R1 j hj
        refine ⟨r.sp3, r.g16, r.d16, r.lv, r.opn, r.to, fun hg => ?_, fun hjl => ?_⟩
        · obtain ⟨a1, a2, a3⟩ := r.pc hg
          refine ⟨by simpa using a1, ?_, ?_⟩
          · simp only; rw [getD_freeW]; exact a2
          · simp only; rw [getD_freeW]
        · simp only; rw [getD_freeW]
          exact r.dn (by simpa using hjl)
      · rw [if_neg hrl]
        refine ⟨hcells, hst0, hdn, hd16, fun _ j hj => ?_⟩
        have e1 : (afterQ (qPut xr i q) i p.fault).qs = (qPut xr i q).qs := by
          unfold afterQ freeQ
          rw [if_neg (show ¬ rdyN (stPut (qPut xr i q) (behindQ (qPut xr i q).qs i p.fault)).qs 4 = [] from hrd ▸ hrl)]
          rfl
        rw [e1]
        exact R1 j hj

theorem rel_behind {m : PM} {x X : QM} (hm : PMok m) (hx : Rel m x) (h0 : m.st = 0) {i : Nat} (hi : i < 4) (hr : rdyQ (x.qs.getD i wq0) = true) {bud : Nat} {q : Wq} {p : Pl} (hq : X.qs = x.qs.set i q) (h : RanTo m i bud X q p) :
    Rel (afterP m i (playP m i bud)) (afterQ X i p.fault) := by
  have e : qPut { X with qs := x.qs } i q = X := by unfold qPut; simp only; rw [← hq]
  have h2 : RanTo m i bud { X with qs := x.qs } q p := ⟨⟨h.cells.n, h.cells.n16, h.cells.f0, h.cells.names, h.cells.rl, h.cells.regs, h.cells.reg4, h.cells.cnt, h.cells.c32, h.cells.wl, h.cells.wd⟩, h.len, h.other, h.sp3, h.g16, h.d16, h.dn, h.ans, h.ts, h.mem, h.how⟩
  have := rel_after (xr := { X with qs := x.qs }) hm hx h0 hi hr rfl h2
  rwa [e] at this

end Go.Proofs.Ytbhbacphiinpeaa

