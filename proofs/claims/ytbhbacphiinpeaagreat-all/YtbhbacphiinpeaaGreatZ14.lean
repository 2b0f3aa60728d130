/- Fd Fe Iv: joined. -/
import Derived.Test.YtbhbacphiinpeaaGreatZ13
import Derived.Test.YtbhbacphiinpeaaGreatZ01

/- One instruction of a warp, by its open splits: whatever it is; plain. -/
namespace Go.Proofs.YtbhbacphiinpeaaGreat
open Go.RowKit

theorem stk_split {q : Wq} (hs : q.sp.length = 3) (ho : q.opn < 3) (z : Nat) (next join pc : Int) : stk { splitQ z next join q with pc := pc } = ⟨q.group, q.to, mns q.group z, next, join⟩ :: stk q := by
  have h1 := stk_top (q := { splitQ z next join q with pc := pc }) (by simp [splitQ, ho]) (by simp [splitQ, ho, hs]; omega)
  rw [h1]
  congr 1
  · unfold topQ splitQ
    simp only [if_pos ho, Nat.add_sub_cancel]
    rw [List.getD_eq_getElem?_getD, List.getElem?_set_self (by omega)]
    rfl
  · unfold low splitQ stk
    simp only [if_pos ho, Nat.add_sub_cancel]
    rw [List.take_set_of_le (Nat.le_refl _)]

/-- How an instruction ends. -/
def Ends3 (k : List Ins) (J : List Int) (bud b : Nat) (q : Wq) (p : Pl) (q' : Wq) (p' : Pl) : Prop :=
  ((Still k J bud b q p q' p')) ∨
  ((p'.ends = true) ∧ (p'.fault ≠ 0) ∧ (p'.waits = false) ∧ (∃ o, restQ (runP k J bud bud) b q p = { p' with opn := o }) ∧ (q' = q) ∧ (∀ l, l < 4 → isDone p'.ts (b + l) = q'.done.testBit l)) ∨
  ((p'.ends = false) ∧ (p'.waits = true) ∧ (restQ (runP k J bud bud) b q p = p') ∧ (SI k.length b p' q') ∧ (q'.opn = 0) ∧ (q'.waits = true) ∧ (q'.group ≠ 0) ∧ (q'.pc = p'.at0))
theorem Ends3.still {k : List Ins} {J : List Int} {bud b : Nat} {q : Wq} {p : Pl} {q' : Wq} {p' : Pl} (h : Still k J bud b q p q' p') : Ends3 k J bud b q p q' p' := .inl h
theorem Ends3.fault {k : List Ins} {J : List Int} {bud b : Nat} {q : Wq} {p : Pl} {q' : Wq} {p' : Pl} (he : p'.ends = true) (hf : p'.fault ≠ 0) (hw : p'.waits = false) (hr : ∃ o, restQ (runP k J bud bud) b q p = { p' with opn := o }) (hq : q' = q) (hd : ∀ l, l < 4 → isDone p'.ts (b + l) = q'.done.testBit l) : Ends3 k J bud b q p q' p' := .inr (.inl ⟨he, hf, hw, hr, hq, hd⟩)
theorem Ends3.wait {k : List Ins} {J : List Int} {bud b : Nat} {q : Wq} {p : Pl} {q' : Wq} {p' : Pl} (he : p'.ends = false) (hw : p'.waits = true) (hr : restQ (runP k J bud bud) b q p = p') (hs : SI k.length b p' q') (ho : q'.opn = 0) (hq : q'.waits = true) (hg : q'.group ≠ 0) (hp : q'.pc = p'.at0) : Ends3 k J bud b q p q' p' := .inr (.inr ⟨he, hw, hr, hs, ho, hq, hg, hp⟩)
theorem Ends3.el {k : List Ins} {J : List Int} {bud b : Nat} {q : Wq} {p : Pl} {q' : Wq} {p' : Pl} {motive : Ends3 k J bud b q p q' p' → Prop} (still : ∀ (h : Still k J bud b q p q' p'), motive (Ends3.still h)) (fault : ∀ (he : p'.ends = true) (hf : p'.fault ≠ 0) (hw : p'.waits = false) (hr : ∃ o, restQ (runP k J bud bud) b q p = { p' with opn := o }) (hq : q' = q) (hd : ∀ l, l < 4 → isDone p'.ts (b + l) = q'.done.testBit l), motive (Ends3.fault he hf hw hr hq hd)) (wait : ∀ (he : p'.ends = false) (hw : p'.waits = true) (hr : restQ (runP k J bud bud) b q p = p') (hs : SI k.length b p' q') (ho : q'.opn = 0) (hq : q'.waits = true) (hg : q'.group ≠ 0) (hp : q'.pc = p'.at0), motive (Ends3.wait he hw hr hs ho hq hg hp)) (t : Ends3 k J bud b q p q' p') : motive t := by
  rcases t with h | ⟨he, hf, hw, hr, hq, hd⟩ | ⟨he, hw, hr, hs, ho, hq, hg, hp⟩
  · exact still h
  · exact fault he hf hw hr hq hd
  · exact wait he hw hr hs ho hq hg hp

theorem step_sim {k : List Ins} {J : List Int} {bud b : Nat} {p : Pl} {q : Wq} (hk : chk k = (0, 0)) (hJ : JoinsAre k J) (h : SI k.length b p q) (h0 : q.group ≠ 0) (he : ¬ endQ q) (h1 : p.ends = false) (h2 : p.waits = false)
    (hs : p.steps ≠ bud) (hr : Reg4 p.ts) (hc : Cnt bud p) : Ends3 k J bud b q p (stepQ k J b q p).1 (stepQ k J b q p).2 := by
  obtain ⟨hp0, hpn⟩ := h.pcs h0
  obtain ⟨pc, hpc⟩ : ∃ pc : Nat, q.pc = pc := ⟨q.pc.toNat, by omega⟩
  have hpl : pc < k.length := by omega
  obtain ⟨x, hx⟩ : ∃ x, k[pc]? = some x := ⟨_, List.getElem?_eq_getElem hpl⟩
  obtain ⟨n1, n2⟩ := next_in hk hx
  have hlv := live_of h fun l hl h1 => (h.lv l hl h1).1
  have hne : gOf b q.group ≠ [] := fun e => h0 ((gOf_nil h.g16).1 e)
  have hg4 : (gOf b q.group).length ≤ 4 := by rw [gOf_len]; exact pop_le _
  have hgo : Goes bud p (gOf b q.group) q.pc q.to := ⟨h1, h2, hlv, hne, fun e => he (.inr e), hs⟩
  have hrs := run_step (k := k) (J := J) hr hg4 hc hgo
  have hxi : k[q.pc.toNat]? = some x := by rw [hpc]; simpa using hx
  rw [does_some (x := x) J _ _ _ hxi] at hrs
  have hRq : restQ (runP k J bud bud) b q p = unw (runP k J bud bud) b (stk q) (runP k J bud bud p (gOf b q.group) q.pc q.to) := rfl
  rw [hrs] at hRq
  unfold stepQ
  rw [hxi]
  simp only
  by_cases c0 : x.o = 0
  · rw [if_pos c0]
    rw [if_pos c0] at hRq
    simp only at hRq
    have hall : ∀ t ∈ gOf b q.group, t < p.ts.length := by
      intro t ht
      obtain ⟨l, hl, hb, rfl⟩ := mem_gOf.1 ht
      exact (h.lv l hl hb).2
    have hd : ∀ t, isDone (doneAll p.ts (gOf b q.group)) t = (isDone p.ts t || decide (t ∈ gOf b q.group)) := by
      intro t
      rw [(doneAll_keeps (gOf b q.group) p.ts).2.2 t]
      congr 1
      by_cases ht : t ∈ gOf b q.group
      · simp [ht, hall t ht]
      · simp [ht]
    have hlen := (doneAll_keeps (gOf b q.group) p.ts).1
    have hdead : liveL (doneAll p.ts (gOf b q.group)) (gOf b q.group) = [] := by
      rw [live_nil]
      intro t ht
      rw [hd t]; simp [ht]
    have hbit : ∀ l, l < 4 → (q.done ||| q.group).testBit l = (q.done.testBit l || q.group.testBit l) := fun l _ => Nat.testBit_or _ _ _
    have hmem : ∀ l, l < 4 → decide (b + l ∈ gOf b q.group) = q.group.testBit l := by
      intro l hl
      cases e : q.group.testBit l with
      | true => simp only [decide_eq_true_eq]; exact mem_gOf.2 ⟨l, hl, e, rfl⟩
      | false =>
        simp only [decide_eq_false_iff_not]
        intro ht
        obtain ⟨l', hl', hb', e'⟩ := mem_gOf.1 ht
        have : l = l' := by omega
        subst this
        rw [e] at hb'; cases hb'
    have hsi : SI k.length b { issuedP p (gOf b q.group) q.pc with ts := doneAll p.ts (gOf b q.group) } { q with done := q.done ||| q.group, group := 0 } := by
      refine ⟨h.sp3, by simp, or_lt16 h.d16 h.g16, fun l hl => ?_, fun l hl hb => by simp at hb, fun e => absurd rfl e, h.opn, h.po, ?_, by show pop 0 + q.opn ≤ 4; rw [pop_zero]; have := h.opn; omega⟩
      · show isDone (doneAll p.ts (gOf b q.group)) (b + l) = (q.done ||| q.group).testBit l
        rw [hd, hbit l hl, h.dn l hl, hmem l hl]
      · show Chain k.length b (doneAll p.ts (gOf b q.group)).length (q.done ||| q.group) 0 q.to (stk q)
        rw [hlen]
        exact chain_shrink (chain_done (e := q.group) hbit h.chain fun l _ h => h) (fun l hl h1 => by simp at h1) (fun l hl h1 h2 => by rw [hbit l hl, h1] at h2; simp at h2)
    obtain ⟨i1, i2, i3, i4, i5⟩ := fol_all (k := k) (J := J) (bud := bud) (f := bud) _ rfl hsi
    refine .still ⟨h1, h2, i1, i3, ?_, i5⟩
    refine i2.trans (Eq.trans ?_ hRq.symm)
    unfold restQ
    rw [run_end (.inl (by simp only [gOf_zero]; rfl)), run_end (.inl hdead)]
    rfl
  rw [if_neg c0]
  rw [if_neg c0] at hRq
  by_cases c12 : x.o = 12
  · rw [if_pos c12]
    rw [if_pos c12] at hRq
    exact .still (si_goOn (p1 := issuedP p (gOf b q.group) q.pc) h (fun _ => rfl) rfl rfl h1 h2 (fun _ => n2 (.inl c12)) hRq.symm)
  rw [if_neg c12]
  rw [if_neg c12] at hRq
  have nn := n1 c0 c12
  have hn : 0 ≤ q.pc + 1 ∧ q.pc + 1 < k.length := by omega
  by_cases c13 : x.o = 13
  · rw [if_pos c13]
    rw [if_pos c13] at hRq
    have hbr := n2 (.inr c13)
    have hji := join_in hJ hpl
    have hpt : q.pc.toNat = pc := by omega
    have hzb : ∀ l, l < 4 → (zerM p.ts x.a b q.group).testBit l = (q.group.testBit l && isZ p.ts x.a (b + l)) := fun l hl => maskOf_bit _ hl
    have hz16 : zerM p.ts x.a b q.group < 16 := maskOf_lt _
    have hzg : zerM p.ts x.a b q.group &&& q.group = zerM p.ts x.a b q.group := by
      refine mask_ext (and_lt16 _ hz16) hz16 fun l hl => ?_
      rw [Nat.testBit_and, hzb l hl]
      cases q.group.testBit l <;> simp
    have hjump : (gOf b q.group).filter (isZ p.ts x.a) = gOf b (zerM p.ts x.a b q.group) := gOf_filter hzb
    have hstay : (gOf b q.group).filter (fun t => !isZ p.ts x.a t) = gOf b (mns q.group (zerM p.ts x.a b q.group)) := by
      refine gOf_filter fun l hl => ?_
      rw [mns_bit hz16 hl, hzb l hl]
      cases q.group.testBit l <;> simp
    unfold branchQ
    rw [hzg]
    generalize hz : zerM p.ts x.a b q.group = z at hzb hz16 hjump hstay
    unfold partsP at hRq
    rw [show (issuedP p (gOf b q.group) q.pc).ts = p.ts from rfl, hstay, hjump] at hRq
    by_cases z0 : z = 0
    · rw [if_pos z0]
      have hm : mns q.group z = q.group := by
        refine mask_ext (mns_lt h.g16) h.g16 fun l hl => ?_
        rw [mns_bit hz16 hl, z0]; simp
      rw [if_neg (by rw [hm]; exact hne), if_pos (by rw [z0]; exact gOf_zero b)] at hRq
      exact .still (si_goOn (p1 := issuedP p (gOf b q.group) q.pc) h (fun _ => rfl) rfl rfl h1 h2 (fun _ => hn) hRq.symm)
    rw [if_neg z0]
    by_cases o0 : mns q.group z = 0
    · rw [if_pos o0]
      rw [if_pos (by rw [o0]; exact gOf_zero b)] at hRq
      exact .still (si_goOn (p1 := issuedP p (gOf b q.group) q.pc) h (fun _ => rfl) rfl rfl h1 h2 (fun _ => hbr) hRq.symm)
    rw [if_neg o0]
    rw [if_neg (fun e => o0 ((gOf_nil (mns_lt h.g16)).1 e)), if_neg (fun e => z0 ((gOf_nil hz16).1 e))] at hRq
    have hzsub : ∀ l, l < 4 → z.testBit l = true → q.group.testBit l = true := fun l hl e => by rw [hzb l hl] at e; simp only [Bool.and_eq_true] at e; exact e.1
    have hosub : ∀ l, l < 4 → (mns q.group z).testBit l = true → q.group.testBit l = true := fun l hl e => by rw [mns_bit hz16 hl] at e; simp only [Bool.and_eq_true] at e; exact e.1
    have zg : z ≠ q.group := fun e => o0 (by
      rw [zero_iff (mns_lt h.g16)]
      intro l hl
      rw [mns_bit hz16 hl, e]; simp)
    have og : mns q.group z ≠ q.group := fun e => z0 (by
      rw [zero_iff hz16]
      intro l hl
      cases ez : z.testBit l with
      | false => rfl
      | true =>
        have := mns_bit (a := q.group) hz16 hl
        rw [e, hzsub l hl ez, ez] at this
        cases this)
    have pz := (pop_sub hz16 h.g16 hzsub).2 zg
    have po := (pop_sub (mns_lt h.g16) h.g16 hosub).2 og
    have pz1 := (pop_sub (a := 0) (by omega) hz16 (fun l _ e => by simp at e)).2 (fun e => z0 e.symm)
    rw [pop_zero] at pz1
    have hsz := h.size
    have ho3 : q.opn < 3 := by omega
    have hsl : (stk q).length = q.opn := by unfold stk; simp [h.sp3]; omega
    rw [hpt] at hRq ⊢
    have hsi : SI k.length b { issuedP p (gOf b q.group) q.pc with opn := q.opn + 1 } { splitQ z (q.pc + 1) (J.getD pc (-1)) q with pc := x.b } := by
      refine ⟨by simp [splitQ, ho3, h.sp3], hz16, h.d16, h.dn, fun l hl e => h.lv l hl (hzsub l hl e), fun _ => hbr, by simp only [splitQ, if_pos ho3]; omega, by simp only [splitQ, if_pos ho3], ?_, by simp only [splitQ, if_pos ho3]; omega⟩
      rw [stk_split h.sp3 ho3]
      refine ⟨rfl, h.g16, mns_lt h.g16, fun l hl e => ⟨hzsub l hl e, ?_⟩, fun l hl e => ⟨hosub l hl e, (h.lv l hl (hosub l hl e)).1⟩, hji, fun _ => hn, fun _ l hl e1 e2 _ => ?_, by rw [hsl]; show pop (mns q.group z) + (q.opn + 1) ≤ 4; omega, by rw [hsl]; exact hsz, fun l hl e => (h.lv l hl e).2, h.chain⟩
      · show (mns q.group z).testBit l = false
        rw [mns_bit hz16 hl, show z.testBit l = true from e]; simp
      · show z.testBit l = true
        have := mns_bit (a := q.group) hz16 hl
        rw [show (mns q.group z).testBit l = false from e2, show q.group.testBit l = true from e1] at this
        cases ez : z.testBit l with
        | true => rfl
        | false => rw [ez] at this; cases this
    obtain ⟨i1, i2, i3, i4, i5⟩ := fol_all (k := k) (J := J) (bud := bud) (f := bud) _ rfl hsi
    refine .still ⟨h1, h2, i1, i3, ?_, i5⟩
    refine i2.trans (Eq.trans ?_ hRq.symm)
    unfold restQ
    rw [stk_split h.sp3 ho3]
    rw [unw]
    simp only
    rw [if_neg o0, show (issuedP p (gOf b q.group) q.pc).opn = q.opn from h.po]
    rfl
  rw [if_neg c13]
  rw [if_neg c13] at hRq
  by_cases c14 : x.o = 14
  · rw [if_pos c14]
    rw [if_pos c14, show (issuedP p (gOf b q.group) q.pc).opn = q.opn from h.po] at hRq
    by_cases ho : 0 < q.opn
    · rw [if_pos ho]
      rw [if_pos ho, first_gOf h.g16 h0, run_stop (.inl rfl)] at hRq
      refine .fault rfl (by simp [faultP]) h2 ?_ rfl h.dn
      rw [hRq]
      exact unw_stop rfl
    · rw [if_neg ho]
      rw [if_neg ho, run_stop (.inr rfl)] at hRq
      have hst : stk q = [] := by unfold stk; rw [show q.opn = 0 by omega]; rfl
      have hgo : goOn (q.pc + 1) q = { q with pc := q.pc + 1 } := fol_stop fun e => ho e.2
      refine .wait h1 rfl ?_ ?_ (by show (waitQ _ _).opn = 0; simp only [waitQ, hgo]; omega) rfl (by simp only [waitQ, hgo]; exact h0) (by simp only [waitQ, hgo])
      · rw [hRq, hst, ← h.po]; rfl
      · simp only [waitQ, hgo]
        exact ⟨h.sp3, h.g16, h.d16, h.dn, h.lv, fun _ => hn, h.opn, h.po, h.chain, h.size⟩
  rw [if_neg c14]
  rw [if_neg c14] at hRq
  simp only at hRq
  have hki := keep_each (issuedP p (gOf b q.group) q.pc) (gOf b q.group) q.pc x hr
  obtain ⟨s1, s2, s3⟩ := each_ends (issuedP p (gOf b q.group) q.pc) (gOf b q.group) q.pc x
  have s4 := (segs_each (issuedP p (gOf b q.group) q.pc) (gOf b q.group) q.pc x).2.2.2
  have hdn : ∀ t, isDone (eachP (issuedP p (gOf b q.group) q.pc) (gOf b q.group) q.pc x).ts t = isDone p.ts t := by
    intro t
    have := each_done x (gOf b q.group) p.ts p.mem t
    unfold eachP
    split <;> exact this
  by_cases ce : (eachP (issuedP p (gOf b q.group) q.pc) (gOf b q.group) q.pc x).ends = true
  · rw [if_pos ce]
    rw [run_stop (.inl ce)] at hRq
    refine .fault ce (s1 ce h1) (s2.trans h2) ?_ rfl (fun l hl => (hdn _).trans (h.dn l hl))
    rw [hRq]
    exact unw_stop ce
  · rw [if_neg ce]
    have ce' : (eachP (issuedP p (gOf b q.group) q.pc) (gOf b q.group) q.pc x).ends = false := by simpa using ce
    exact .still (si_goOn h hdn hki.2.1 s4 ce' (s2.trans h2) (fun _ => hn) hRq.symm)

end Go.Proofs.YtbhbacphiinpeaaGreat

/- How a turn of the program's ends, and its machine beside the document's; plain. -/
namespace Go.Proofs.YtbhbacphiinpeaaGreat
open Go.RowKit

theorem not_end {n b : Nat} {p : Pl} {q : Wq} (h : SI n b p q) (h0 : q.group ≠ 0) (hs : ¬ (endQ q ∧ 0 < q.opn)) : ¬ endQ q := by
  intro he
  by_cases ho : 0 < q.opn
  · exact hs ⟨he, ho⟩
  · have hst : stk q = [] := by unfold stk; rw [show q.opn = 0 by omega]; rfl
    have hc := h.chain
    rw [hst] at hc
    exact h0 (end_zero h he hc)

theorem fin_spent {k : List Ins} {J : List Int} {bud b : Nat} {p : Pl} {q : Wq} (h : SI k.length b p q) (h0 : q.group ≠ 0) (hs : ¬ (endQ q ∧ 0 < q.opn)) (h1 : p.ends = false) (h2 : p.waits = false) (hb : p.steps = bud) :
    ∃ o, restQ (runP k J bud bud) b q p = { p with st := 3, ends := true, opn := o } := by
  have he := not_end h h0 hs
  have hlv := live_of h fun l hl h1 => (h.lv l hl h1).1
  have hne : gOf b q.group ≠ [] := fun e => h0 ((gOf_nil h.g16).1 e)
  have hr : runP k J bud bud p (gOf b q.group) q.pc q.to = { p with st := 3, ends := true } := by
    have hn1 : ¬ ((p.ends || p.waits) = true) := by simp [h1, h2]
    have hn2 : ¬ (liveL p.ts (gOf b q.group) = [] ∨ q.pc = q.to) := by
      rw [hlv]; rintro (e | e)
      · exact hne e
      · exact he (.inr e)
    have : ∀ f, runP k J bud f p (gOf b q.group) q.pc q.to = { p with st := 3, ends := true } := by
      intro f
      cases f <;> (unfold runP; rw [if_neg hn1, if_neg hn2, if_pos hb])
    exact this bud
  unfold restQ
  rw [hr]
  exact unw_stop (p := { p with st := 3, ends := true }) rfl

theorem fin_done {k : List Ins} {J : List Int} {bud b : Nat} {p : Pl} {q : Wq} (h0 : q.group = 0) (hs : ¬ (endQ q ∧ 0 < q.opn)) : restQ (runP k J bud bud) b q p = p ∧ q.opn = 0 := by
  have ho : q.opn = 0 := by
    by_cases ho : 0 < q.opn
    · exact absurd ⟨.inl h0, ho⟩ hs
    · omega
  have hst : stk q = [] := by unfold stk; rw [ho]; rfl
  unfold restQ
  rw [hst, h0, gOf_zero, run_end (.inl rfl)]
  exact ⟨rfl, ho⟩

/-- The program's machine. -/
structure QM where
  n : Nat
  st : Int
  first : Int
  rg : List Int
  cnt : Nat
  wd : List Int
  qs : List Wq

def rdyQ (q : Wq) : Bool := decide (q.group ≠ 0) && !q.waits

/-- Registers and words of threads as flat lists. -/
structure CellsAt (ts : List Thr) (mem : List Int) (x : QM) : Prop where
  n : x.n = ts.length
  n16 : x.n ≤ 16
  f0 : 0 ≤ x.first ∧ x.first ≤ 1000
  names : ∀ t, t < ts.length → (ts.getD t thr0).name = x.first + t
  rl : x.rg.length = 64
  regs : ∀ t, t < ts.length → ∀ r, r < 4 → x.rg[t * 4 + r]? = (ts.getD t thr0).regs[r]?
  reg4 : Reg4 ts
  cnt : x.cnt = mem.length
  c32 : x.cnt ≤ 32
  wl : x.wd.length = 32
  wd : x.wd.take x.cnt = mem

def DoneAt (ts : List Thr) (qs : List Wq) : Prop := qs.length = 4 ∧ ∀ i, i < 4 → ∀ l, l < 4 → isDone ts (4 * i + l) = (qs.getD i wq0).done.testBit l

/-- A warp at rest. -/
structure RestAt (ts : List Thr) (ws : List Wrp) (i : Nat) (q : Wq) : Prop where
  sp3 : q.sp.length = 3
  g16 : q.group < 16
  d16 : q.done < 16
  lv : ∀ l, l < 4 → q.group.testBit l = (decide (4 * i + l < ts.length) && !isDone ts (4 * i + l))
  opn : q.opn = 0
  to : q.to = -1
  pc : q.group ≠ 0 → i < ws.length ∧ q.pc = (ws.getD i wrp0).at0 ∧ q.waits = (ws.getD i wrp0).waits
  dn : i < ws.length → (ws.getD i wrp0).done = decide (q.group = 0)

structure Rel (m : PM) (x : QM) : Prop where
  cells : CellsAt m.ts m.mem x
  st : x.st = m.st
  dn : DoneAt m.ts x.qs
  d16 : ∀ i, i < 4 → (x.qs.getD i wq0).done < 16
  rest : m.st = 0 → ∀ i, i < 4 → RestAt m.ts m.ws i (x.qs.getD i wq0)

theorem warp_live {n i : Nat} {ts : List Thr} {ws : List Wrp} {q : Wq} (h : RestAt ts ws i q) (hn : ts.length = n) : liveL ts (warpG n i) = gOf (4 * i) q.group := by
  have e : warpG n i = gOf (4 * i) (maskOf fun l => decide (4 * i + l < n)) := by
    unfold warpG gOf lanes
    have h4 : (List.range 4).filter (fun l => (maskOf fun l => decide (4 * i + l < n)).testBit l) = List.range (min 4 (n - 4 * i)) := by
      have : ∀ m, m ≤ 4 → (List.range 4).filter (fun l => decide (l < m)) = List.range m := by
        intro m hm
        rcases (by omega : m = 0 ∨ m = 1 ∨ m = 2 ∨ m = 3 ∨ m = 4) with rfl | rfl | rfl | rfl | rfl <;> decide
      rw [← this (min 4 (n - 4 * i)) (by omega)]
      refine List.filter_congr fun l hl => ?_
      rw [List.mem_range] at hl
      rw [maskOf_bit _ hl]
      simp only [decide_eq_decide]
      omega
    rw [h4, List.range'_eq_map_range]
  rw [e]
  unfold liveL
  refine gOf_filter fun l hl => ?_
  rw [h.lv l hl, maskOf_bit _ hl, hn]

/-- A warp at rest begins its turn. -/
theorem begin_si {m : PM} {x : QM} (hm : PMok m) (hx : Rel m x) (h0 : m.st = 0) {i : Nat} (hi : i < 4) (hr : rdyQ (x.qs.getD i wq0) = true) (bud : Nat) :
    SI m.k.length (4 * i) ⟨m.ts, m.mem, m.st, 0, 0, 0, 0, 0, [], 0, false, false, 0⟩ (x.qs.getD i wq0) ∧ i < m.ws.length ∧ ¬ (endQ (x.qs.getD i wq0) ∧ 0 < (x.qs.getD i wq0).opn) ∧
      restQ (runP m.k m.J bud bud) (4 * i) (x.qs.getD i wq0) ⟨m.ts, m.mem, m.st, 0, 0, 0, 0, 0, [], 0, false, false, 0⟩ = playP m i bud := by
  have h := hx.rest h0 i hi
  have hd := hx.dn.2 i hi
  have hg : (x.qs.getD i wq0).group ≠ 0 := by
    intro e; rw [rdyQ, e] at hr; simp at hr
  obtain ⟨p1, p2, p3⟩ := h.pc hg
  have hst : stk (x.qs.getD i wq0) = [] := by unfold stk; rw [h.opn]; rfl
  have ha : 0 ≤ (m.ws.getD i wrp0).at0 ∧ (m.ws.getD i wrp0).at0 < m.k.length := by
    have e : m.ws.getD i wrp0 = m.ws[i] := by rw [List.getD_eq_getElem?_getD, List.getElem?_eq_getElem p1]; rfl
    rw [e]; exact hm.at0 _ (List.getElem_mem p1)
  refine ⟨⟨h.sp3, h.g16, h.d16, hd, fun l hl e => ?_, fun _ => by rw [p2]; exact ha, by rw [h.opn]; omega, h.opn.symm, by rw [hst]; exact h.to, by rw [h.opn]; exact pop_le _⟩, p1, fun e => by rw [h.opn] at e; omega, ?_⟩
  · rw [h.lv l hl] at e
    simp only [Bool.and_eq_true, decide_eq_true_eq, Bool.not_eq_true'] at e
    exact ⟨(hd l hl).symm.trans e.2, e.1⟩
  · unfold restQ playP
    rw [hst, h.to, p2]
    show runP m.k m.J bud bud _ (gOf (4 * i) (x.qs.getD i wq0).group) _ _ = _
    refine run_live ?_
    show liveL m.ts _ = liveL m.ts _
    rw [warp_live h rfl]
    unfold liveL
    refine gOf_filter fun l hl => ?_
    rw [h.lv l hl]
    cases decide (4 * i + l < m.ts.length) <;> cases isDone m.ts (4 * i + l) <;> rfl

end Go.Proofs.YtbhbacphiinpeaaGreat

/- The lists that came out, of numbers, instructions and logs, and what stays true of them: facts on memory; nothing of the program is in this text. -/
namespace Go.Proofs.YtbhbacphiinpeaaGreat
open Go.RowKit

/-- A kind of lists: its elements' type, the type of its entries, the cells of an element, the cells of a mark. -/
structure Fam where
  e : TypeId
  st : TypeId
  sz : Nat
  mv : Int → List Value

abbrev famI : Fam := ⟨3, 45, 1, fun m => [.int .i64 m]⟩
abbrev famC : Fam := ⟨92, 48, 4, fun m => [.int .i64 m, .int .i64 0, .int .i64 0, .int .i64 0]⟩
abbrev famG : Fam := ⟨94, 52, 2, fun m => [.int .i64 m, .int .i64 0]⟩

/-- n marks, as cells. -/
def reps (f : Fam) (n : Nat) (m : Int) : List Value := (List.replicate n (f.mv m)).flatten

theorem reps_succ (f : Fam) (n : Nat) (m : Int) : reps f (n + 1) m = reps f n m ++ f.mv m := by
  unfold reps
  rw [List.replicate_succ', List.flatten_append]
  simp
theorem reps_length {f : Fam} (hf : ∀ m, (f.mv m).length = f.sz) (n : Nat) (m : Int) : (reps f n m).length = n * f.sz := by
  induction n with
  | zero => simp [reps]
  | succ n ih => rw [reps_succ, List.length_append, ih, hf, Nat.succ_mul]
theorem reps_add (f : Fam) (a b : Nat) (m : Int) : reps f (a + b) m = reps f a m ++ reps f b m := by
  unfold reps
  rw [← List.replicate_append_replicate, List.flatten_append]
theorem reps_take {f : Fam} (hf : ∀ m, (f.mv m).length = f.sz) {k n : Nat} (h : k ≤ n) (m : Int) {l : List Value} (hl : l.take (n * f.sz) = reps f n m) : l.take (k * f.sz) = reps f k m := by
  have e : reps f n m = reps f k m ++ reps f (n - k) m := by rw [← reps_add]; congr 1; omega
  have h1 : (l.take (n * f.sz)).take (k * f.sz) = (reps f n m).take (k * f.sz) := by rw [hl]
  rw [List.take_take, Nat.min_eq_left (Nat.mul_le_mul_right _ h), e] at h1
  rw [h1, ← reps_length hf k m]
  exact List.take_left

/-- The slice v has n entries, all the mark m; its row lies below block B. -/
def MrkG (f : Fam) (w : World) (B : Nat) (v : Value) (n : Nat) (m : Int) : Prop := ∃ ao cap, v = .slice ao n cap ∧ (n = 0 ∨ ∃ g cur, ao = some ⟨g, 0, none⟩ ∧ g < B ∧ w.heap[g]? = some (.cells cur f.e) ∧ cur.toList.take (n * f.sz) = reps f n m)

theorem MrkG.keep {f : Fam} {w w' : World} {B B' : Nat} {v : Value} {n : Nat} {m : Int} (h : MrkG f w B v n m) (hB : B ≤ B') (hk : ∀ g cur, g < B → w.heap[g]? = some (.cells cur f.e) → w'.heap[g]? = w.heap[g]?) : MrkG f w' B' v n m := by
  obtain ⟨ao, cap, hv, h⟩ := h
  refine ⟨ao, cap, hv, ?_⟩
  rcases h with h | ⟨g, cur, ha, hg, hh, ht⟩
  · exact .inl h
  · exact .inr ⟨g, cur, ha, by omega, (hk g cur hg hh).trans hh, ht⟩

theorem MrkG.of_owned {f : Fam} {w : World} {base : Nat} {v : Value} {n : Nat} {m : Int} (h : w.ownsRow base f.e f.sz v n (reps f n m)) : MrkG f w w.heap.size v n m := by
  rcases h.2 with ⟨rfl, rfl⟩ | ⟨g, cap, cur, rfl, hb, hg, -, -, -, ht⟩
  · exact ⟨none, 0, rfl, .inl rfl⟩
  · exact ⟨_, cap, rfl, .inr ⟨g, cur, rfl, blk_lt' hg, hg, ht⟩⟩

/-- Through an append of one mark more to a list of marks. -/
theorem MrkG.append {f : Fam} (hf : ∀ m, (f.mv m).length = f.sz) {w w' : World} {base : Nat} {u v : Value} {k n g c : Nat} {m : Int} (h : MrkG f w w.heap.size u k m) (hg : w.grownBy w' v.ownBlock) (hown : w'.ownsRow base f.e f.sz (.slice (some ⟨g, 0, none⟩) (n + 1) c) (n + 1) (reps f (n + 1) m))
    (hat : v.ownBlock = some g ∨ (g = w.heap.size ∧ ∀ k, k < w.heap.size → w'.heap[k]? = w.heap[k]?)) (hk : k ≤ n + 1) : MrkG f w' w'.heap.size u k m := by
  obtain ⟨ao, cap, hv, h⟩ := h
  refine ⟨ao, cap, hv, ?_⟩
  rcases h with h | ⟨gu, cur, ha, hgu, hh, ht⟩
  · exact .inl h
  · have hlt := blk_lt' hh
    by_cases he : gu = g ∧ v.ownBlock = some g
    · obtain ⟨rfl, -⟩ := he
      rcases hown.2 with ⟨h0, -⟩ | ⟨g', cap', cur', hv', -, hg', -, -, -, ht'⟩
      · cases h0
      · cases hv'
        exact .inr ⟨gu, cur', ha, blk_lt' hg', hg', reps_take hf hk m ht'⟩
    · have hsame : w'.heap[gu]? = w.heap[gu]? := by
        rcases hat with h1 | ⟨-, h1⟩
        · exact hg.block gu hlt (fun e => he ⟨by rw [h1] at e; exact Option.some.inj e, h1⟩)
        · exact h1 gu hlt
      exact .inr ⟨gu, cur, ha, Nat.lt_of_lt_of_le hlt hg.size, hsame.trans hh, ht⟩

theorem MrkG.alloc {f : Fam} {w : World} {u : Value} {k : Nat} {m : Int} (h : MrkG f w w.heap.size u k m) (o : Obj) : MrkG f (w.alloc o) (w.alloc o).heap.size u k m :=
  h.keep (by simp) fun g _ hg _ => Below.heap_alloc w o g hg

/-- The j-th cell of a list of marks. -/
theorem MrkG.cell {f : Fam} {w : World} {B : Nat} {ao : Option Addr} {n cap : Nat} {m : Int} (h : MrkG f w B (.slice ao n cap) n m) (hn : 0 < n) : ∃ g, ao = some ⟨g, 0, none⟩ ∧ g < w.heap.size ∧ ∀ j, j < n * f.sz → w.cell? ⟨g, j, none⟩ = (reps f n m)[j]? := by
  obtain ⟨ao', cap', hv, h⟩ := h
  cases hv
  rcases h with h | ⟨g, cur, ha, -, hh, ht⟩
  · omega
  · refine ⟨g, ha, blk_lt' hh, fun j hj => ?_⟩
    rw [cell_of_row w g j cur f.e (0, 0) hh, ← ht, List.getElem?_take, if_pos hj]
    simp

def EOkG (f : Fam) (w : World) (B : Nat) (e : Ent) : Prop := MrkG f w B e.l e.n e.m ∧ MrkG f w B e.one (e.n + 1) e.m ∧ MrkG f w B e.three (e.n + 3) e.m ∧ e.n ≤ 4000

theorem EOkG.keep {f : Fam} {w w' : World} {B B' : Nat} {e : Ent} (h : EOkG f w B e) (hB : B ≤ B') (hk : ∀ g cur, g < B → w.heap[g]? = some (.cells cur f.e) → w'.heap[g]? = w.heap[g]?) : EOkG f w' B' e :=
  ⟨h.1.keep hB hk, h.2.1.keep hB hk, h.2.2.1.keep hB hk, h.2.2.2⟩

/-- The lists of one kind, kept in the slice v. -/
def RowG (f : Fam) (w : World) (B BW : Nat) (v : Value) (es : List Ent) : Prop := w.ownsRow (BW + 1) f.st 4 v es.length (flatE es) ∧ (∀ g, v.ownBlock = some g → g < B) ∧ ∀ e ∈ es, EOkG f w B e

theorem RowG.up {f : Fam} {w w' : World} {B BW : Nat} {v : Value} {es : List Ent} (h : RowG f w B BW v es) (hb : Below B w w') : RowG f w' B BW v es :=
  ⟨owns_below h.1 h.2.1 hb, h.2.1, fun e he => (h.2.2 e he).keep (Nat.le_refl _) fun g _ hg _ => hb.block g hg⟩
theorem RowG.wide {f : Fam} {w : World} {B B' BW : Nat} {v : Value} {es : List Ent} (h : RowG f w B BW v es) (hB : B ≤ B') : RowG f w B' BW v es :=
  ⟨h.1, fun g hg => Nat.lt_of_lt_of_le (h.2.1 g hg) hB, fun e he => (h.2.2 e he).keep hB fun _ _ _ _ => rfl⟩

/-- All that the law keeps: the list of machines vps, and the lists that came out. -/
def InvG (w : World) (B BW : Nat) (vps : Value) (ei ec eg : List Ent) : Prop := ∃ vi vc vg, w.heap[BW]? = some (.cells #[vps, vi, vc, vg] 34) ∧ BW < B ∧ RowG famI w B BW vi ei ∧ RowG famC w B BW vc ec ∧ RowG famG w B BW vg eg

theorem InvG.up {w w' : World} {B BW : Nat} {vps : Value} {ei ec eg : List Ent} (h : InvG w B BW vps ei ec eg) (hb : Below B w w') : InvG w' B BW vps ei ec eg := by
  obtain ⟨vi, vc, vg, h1, h2, h3, h4, h5⟩ := h
  exact ⟨vi, vc, vg, (hb.block BW h2).trans h1, h2, h3.up hb, h4.up hb, h5.up hb⟩
theorem InvG.wide {w : World} {B B' BW : Nat} {vps : Value} {ei ec eg : List Ent} (h : InvG w B BW vps ei ec eg) (hB : B ≤ B') : InvG w B' BW vps ei ec eg := by
  obtain ⟨vi, vc, vg, h1, h2, h3, h4, h5⟩ := h
  exact ⟨vi, vc, vg, h1, by omega, h3.wide hB, h4.wide hB, h5.wide hB⟩

theorem owns_not {w : World} {base : Nat} {e : TypeId} {size : Nat} {v : Value} {n : Nat} {xs : List Value} (h : w.ownsRow base e size v n xs) {g : Nat} {cs : Array Value} {t : TypeId} {fr : Nat × Nat} (hg : w.heap[g]? = some (.cells cs t fr)) (hne : t ≠ e) : some g ≠ v.ownBlock := by
  intro e0
  rcases h.2 with ⟨rfl, -⟩ | ⟨g', cap, cur, rfl, -, hh, -⟩
  · simp [Value.ownBlock] at e0
  · simp only [Value.ownBlock, Option.some.injEq] at e0
    subst e0
    rw [hg] at hh
    simp only [Option.some.injEq, Obj.cells.injEq] at hh
    exact hne hh.2.1

/-- A row of another kind stays through an append to the entries of one kind and the store of their field. -/
theorem RowG.other {f f' : Fam} {w w' : World} {B B' BW o : Nat} {v v' vx : Value} {es es' : List Ent} {ob : Obj} {cs : Array Value} (h : RowG f w B BW v es) (hB : B ≤ B') (hBw : B ≤ w.heap.size) (hBW : w.heap[BW]? = some (.cells cs 34)) (hr : w.ownsRow (BW + 1) f'.st 4 v' es'.length (flatE es'))
    (hg : (w.alloc ob).grownBy w' v'.ownBlock) (h1 : f.st ≠ f'.st) (h2 : f.e ≠ f'.st) (h3 : f.e ≠ 34) : RowG f (w'.setCell ⟨BW, o, none⟩ vx) B' BW v es := by
  have hkeep : ∀ g t cur fr, g < w.heap.size → w.heap[g]? = some (.cells cur t fr) → t ≠ f'.st → g ≠ BW → (w'.setCell ⟨BW, o, none⟩ vx).heap[g]? = w.heap[g]? := fun g t cur fr hgl hgt hne hgb => by
    rw [Below.heap_setCell _ _ _ _ hgb, hg.block g (by simp; omega) (owns_not hr hgt hne), Below.heap_alloc _ _ _ hgl]
  refine ⟨?_, fun g hg' => Nat.lt_of_lt_of_le (h.2.1 g hg') hB, fun e he => (h.2.2 e he).keep hB fun g cur hgl hg34 => ?_⟩
  · obtain ⟨k1, k2⟩ := h.1
    refine ⟨k1, ?_⟩
    rcases k2 with k2 | ⟨g, cap, cur, rfl, hgb, hh, r⟩
    · exact .inl k2
    · exact .inr ⟨g, cap, cur, rfl, hgb, (hkeep g f.st cur (0, 0) (blk_lt' hh) hh h1 (by omega)).trans hh, r⟩
  · refine hkeep g f.e cur (0, 0) (by omega) hg34 h2 (fun e0 => ?_)
    rw [e0, hBW] at hg34
    simp only [Option.some.injEq, Obj.cells.injEq] at hg34
    exact h3 hg34.2.1.symm

/-- One entry more of one kind. -/
theorem RowG.more {f : Fam} {w w' : World} {B BW o : Nat} {v v' : Value} {es : List Ent} {en : Ent} {ob : Obj} {cs : Array Value} (h : RowG f w B BW v es) (hBw : B ≤ w.heap.size) (hBW : w.heap[BW]? = some (.cells cs 34)) (hen : EOkG f w w.heap.size en)
    (hown : w'.ownsRow (BW + 1) f.st 4 v' (es.length + 1) (flatE es ++ en.vals)) (hg : (w.alloc ob).grownBy w' v.ownBlock) (h2 : f.e ≠ f.st) (h3 : f.e ≠ 34) : RowG f (w'.setCell ⟨BW, o, none⟩ v') w'.heap.size BW v' (es ++ [en]) := by
  have hgs := hg.size
  simp only [World.size_alloc] at hgs
  have hkeep : ∀ g cur, g < w.heap.size → w.heap[g]? = some (.cells cur f.e) → (w'.setCell ⟨BW, o, none⟩ v').heap[g]? = w.heap[g]? := fun g cur hgl hg34 => by
    have hne : g ≠ BW := fun e0 => by
      rw [e0, hBW] at hg34
      simp only [Option.some.injEq, Obj.cells.injEq] at hg34
      exact h3 hg34.2.1.symm
    rw [Below.heap_setCell _ _ _ _ hne, hg.block g (by simp; omega) (owns_not h.1 hg34 h2), Below.heap_alloc _ _ _ hgl]
  have he : flatE (es ++ [en]) = flatE es ++ en.vals := by simp [flatE]
  refine ⟨?_, fun g hgv => (hown.lt g hgv).2, fun e hee => ?_⟩
  · rw [List.length_append, he]
    obtain ⟨k1, k2⟩ := hown
    refine ⟨k1, ?_⟩
    rcases k2 with k2 | ⟨g, cap, cur, hv, hgb, hh, r⟩
    · exact .inl k2
    · exact .inr ⟨g, cap, cur, hv, hgb, by rw [Below.heap_setCell _ _ _ _ (by show g ≠ BW; omega)]; exact hh, r⟩
  · simp only [List.mem_append, List.mem_singleton] at hee
    rcases hee with hee | rfl
    · exact (h.2.2 e hee).keep (by omega) fun g cur hgl hg34 => hkeep g cur (by omega) hg34
    · exact hen.keep (by omega) hkeep

end Go.Proofs.YtbhbacphiinpeaaGreat

