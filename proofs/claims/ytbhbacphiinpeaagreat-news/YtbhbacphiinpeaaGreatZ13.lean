/- Fa Fb Fc: joined. -/
import Derived.Test.YtbhbacphiinpeaaGreatZ12

/- Sets of lanes as numbers and as lists of threads; plain. -/
namespace Go.Proofs.YtbhbacphiinpeaaGreat
open Go.RowKit

def lanes (m : Nat) : List Nat := (List.range 4).filter fun l => m.testBit l
def gOf (b m : Nat) : List Nat := (lanes m).map fun l => b + l
def pop (m : Nat) : Nat := (lanes m).length
def mns (a b : Nat) : Nat := a &&& (15 - b)

theorem mem_gOf {b m t : Nat} : t ∈ gOf b m ↔ ∃ l, l < 4 ∧ m.testBit l = true ∧ t = b + l := by
  unfold gOf lanes
  simp only [List.mem_map, List.mem_filter, List.mem_range]
  constructor
  · rintro ⟨l, ⟨h1, h2⟩, h3⟩; exact ⟨l, h1, h2, h3.symm⟩
  · rintro ⟨l, h1, h2, h3⟩; exact ⟨l, ⟨h1, h2⟩, h3.symm⟩

theorem gOf_filter {b m m' : Nat} {P : Nat → Bool} (h : ∀ l, l < 4 → m'.testBit l = (m.testBit l && P (b + l))) : (gOf b m).filter P = gOf b m' := by
  unfold gOf lanes
  rw [List.filter_map, List.filter_filter]
  congr 1
  apply List.filter_congr
  intro l hl
  rw [List.mem_range] at hl
  rw [h l hl]
  simp [Function.comp, Bool.and_comm]

theorem gOf_len (b m : Nat) : (gOf b m).length = pop m := by simp [gOf, pop]
theorem pop_le (m : Nat) : pop m ≤ 4 := by
  unfold pop lanes
  exact Nat.le_trans (List.length_filter_le _ _) (by simp)

theorem gOf_zero (b : Nat) : gOf b 0 = [] := by simp [gOf, lanes]

theorem bits16 : ∀ m : Fin 16, ((lanes m.1).map fun l => 2 ^ l).sum = m.1 := by decide
theorem bits_gOf {b m : Nat} (hm : m < 16) (hb : b % 4 = 0) : bits (gOf b m) = m := by
  have h := bits16 ⟨m, hm⟩
  unfold bits gOf
  rw [List.map_map]
  refine Eq.trans ?_ h
  congr 1
  refine List.map_congr_left fun l hl => ?_
  unfold lanes at hl
  have hl4 : l < 4 := List.mem_range.1 (List.mem_filter.1 hl).1
  have : (b + l) % 4 = l := by omega
  simp [Function.comp, this]

theorem ext16 : ∀ a b : Fin 16, (∀ l : Fin 4, a.1.testBit l.1 = b.1.testBit l.1) → a.1 = b.1 := by decide
theorem mask_ext {a b : Nat} (ha : a < 16) (hb : b < 16) (h : ∀ l, l < 4 → a.testBit l = b.testBit l) : a = b := ext16 ⟨a, ha⟩ ⟨b, hb⟩ fun l => h l.1 l.2

theorem not16 : ∀ b : Fin 16, ∀ l : Fin 4, (15 - b.1).testBit l.1 = !b.1.testBit l.1 := by decide
theorem mns_bit {a b l : Nat} (hb : b < 16) (hl : l < 4) : (mns a b).testBit l = (a.testBit l && !b.testBit l) := by
  unfold mns
  rw [Nat.testBit_and, not16 ⟨b, hb⟩ ⟨l, hl⟩]
theorem mns_lt {a b : Nat} (ha : a < 16) : mns a b < 16 := Nat.lt_of_le_of_lt Nat.and_le_left ha
theorem and_lt16 {a : Nat} (b : Nat) (ha : a < 16) : a &&& b < 16 := Nat.lt_of_le_of_lt Nat.and_le_left ha
theorem or_lt16 {a b : Nat} (ha : a < 16) (hb : b < 16) : a ||| b < 16 := Nat.or_lt_two_pow (n := 4) ha hb

theorem zero_iff {a : Nat} (ha : a < 16) : a = 0 ↔ ∀ l, l < 4 → a.testBit l = false := by
  constructor
  · rintro rfl l _; simp
  · intro h; exact mask_ext ha (by omega) fun l hl => by rw [h l hl]; simp
theorem gOf_nil {b m : Nat} (hm : m < 16) : gOf b m = [] ↔ m = 0 := by
  constructor
  · intro h
    rw [zero_iff hm]
    intro l hl
    cases e : m.testBit l with
    | false => rfl
    | true =>
      have : b + l ∈ gOf b m := mem_gOf.2 ⟨l, hl, e, rfl⟩
      rw [h] at this; cases this
  · rintro rfl; exact gOf_zero b

theorem pop16 : ∀ a b : Fin 16, (∀ l : Fin 4, a.1.testBit l.1 = true → b.1.testBit l.1 = true) → pop a.1 ≤ pop b.1 ∧ (a.1 ≠ b.1 → pop a.1 < pop b.1) := by decide
theorem pop_sub {a b : Nat} (ha : a < 16) (hb : b < 16) (h : ∀ l, l < 4 → a.testBit l = true → b.testBit l = true) : pop a ≤ pop b ∧ (a ≠ b → pop a < pop b) := pop16 ⟨a, ha⟩ ⟨b, hb⟩ fun l => h l.1 l.2
theorem pop_zero : pop 0 = 0 := by decide

/-- The first lane of a set. -/
def firstL (m : Nat) : Nat := if m.testBit 0 then 0 else if m.testBit 1 then 1 else if m.testBit 2 then 2 else if m.testBit 3 then 3 else 0
theorem first16 : ∀ m : Fin 16, m.1 ≠ 0 → (lanes m.1).head? = some (firstL m.1) := by decide
theorem first_gOf {b m : Nat} (hm : m < 16) (h0 : m ≠ 0) : (gOf b m).headD 0 = b + firstL m := by
  have h := first16 ⟨m, hm⟩ h0
  unfold gOf
  cases hl : lanes m with
  | nil => rw [show lanes (⟨m, hm⟩ : Fin 16).1 = lanes m from rfl, hl] at h; cases h
  | cons a l =>
    rw [show lanes (⟨m, hm⟩ : Fin 16).1 = lanes m from rfl, hl] at h
    simp only [List.head?_cons, Option.some.injEq] at h
    simp [h]

end Go.Proofs.YtbhbacphiinpeaaGreat

/- A warp with its open splits as a list, and that it does what the runs within runs do; plain. -/
namespace Go.Proofs.YtbhbacphiinpeaaGreat
open Go.RowKit

structure Spl where
  group : Nat
  to : Int
  later : Nat
  next : Int
  join : Int
abbrev spl0 : Spl := ⟨0, 0, 0, 0, 0⟩

structure Wq where
  group : Nat
  pc : Int
  to : Int
  done : Nat
  waits : Bool
  opn : Nat
  sp : List Spl
abbrev wq0 : Wq := ⟨0, 0, 0, 0, false, 0, []⟩

abbrev endQ (q : Wq) : Prop := q.group = 0 ∨ q.pc = q.to
def topQ (q : Wq) : Spl := q.sp.getD (q.opn - 1) spl0
def sideQ (q : Wq) : Wq := { q with sp := q.sp.set (q.opn - 1) { topQ q with later := 0 }, group := (topQ q).later, pc := (topQ q).next, to := (topQ q).join }
def shutQ (q : Wq) : Wq := { q with opn := q.opn - 1, group := mns (topQ q).group q.done, pc := (topQ q).join, to := (topQ q).to }
def folQ (q : Wq) : Wq := if (topQ q).later ≠ 0 then sideQ q else shutQ q
def muS (s : Spl) : Nat := if s.later ≠ 0 then 2 else 1
def mu (q : Wq) : Nat := ((q.sp.take q.opn).map muS).sum
def folN : Nat → Wq → Wq
  | 0, q => q
  | n + 1, q => if endQ q ∧ 0 < q.opn then folN n (folQ q) else q
def fol (q : Wq) : Wq := folN (mu q) q

def stk (q : Wq) : List Spl := (q.sp.take q.opn).reverse
def low (q : Wq) : List Spl := (q.sp.take (q.opn - 1)).reverse

theorem take_top {q : Wq} (h0 : 0 < q.opn) (hl : q.opn ≤ q.sp.length) : q.sp.take q.opn = q.sp.take (q.opn - 1) ++ [topQ q] := by
  have h : q.opn - 1 < q.sp.length := by omega
  have e : q.sp.take ((q.opn - 1) + 1) = q.sp.take (q.opn - 1) ++ [q.sp[q.opn - 1]] := by rw [List.take_add_one, List.getElem?_eq_getElem h]; rfl
  rw [show q.opn - 1 + 1 = q.opn by omega] at e
  rw [e]
  unfold topQ
  rw [List.getD_eq_getElem?_getD, List.getElem?_eq_getElem h]
  rfl

theorem stk_top {q : Wq} (h0 : 0 < q.opn) (hl : q.opn ≤ q.sp.length) : stk q = topQ q :: low q := by
  unfold stk low
  rw [take_top h0 hl]; simp

theorem stk_side {q : Wq} (h0 : 0 < q.opn) (hl : q.opn ≤ q.sp.length) : stk (sideQ q) = { topQ q with later := 0 } :: low q := by
  have h1 := stk_top (q := sideQ q) h0 (by simp [sideQ]; exact hl)
  rw [h1]
  congr 1
  · unfold topQ sideQ
    simp only
    rw [List.getD_eq_getElem?_getD, List.getElem?_set_self (by omega)]
    rfl
  · unfold low sideQ
    simp only
    rw [List.take_set_of_le (by omega)]

theorem stk_shut (q : Wq) : stk (shutQ q) = low q := rfl

theorem mu_stk (q : Wq) : mu q = ((stk q).map muS).sum := by
  unfold mu stk
  rw [List.map_reverse, List.sum_reverse]

theorem mu_fol {q : Wq} (h0 : 0 < q.opn) (hl : q.opn ≤ q.sp.length) : mu (folQ q) + 1 = mu q := by
  rw [mu_stk, mu_stk, stk_top h0 hl]
  unfold folQ
  split
  · rename_i h
    rw [stk_side h0 hl]
    simp [muS, h]; omega
  · rename_i h
    rw [stk_shut]
    simp [muS, h]; omega

theorem fol_stop {q : Wq} (h : ¬ (endQ q ∧ 0 < q.opn)) : fol q = q := by
  unfold fol
  cases mu q with
  | zero => rfl
  | succ n => unfold folN; rw [if_neg h]

theorem fol_more {q : Wq} (he : endQ q) (h0 : 0 < q.opn) (hl : q.opn ≤ q.sp.length) : fol q = fol (folQ q) := by
  have h := mu_fol h0 hl
  unfold fol
  rw [← h, folN, if_pos ⟨he, h0⟩]

def goOn (pc : Int) (q : Wq) : Wq := fol { q with pc := pc }
def exitQ (q : Wq) : Wq := fol { q with done := q.done ||| q.group, group := 0 }
def waitQ (pc : Int) (q : Wq) : Wq := { goOn pc q with waits := true }
def splitQ (z : Nat) (next join : Int) (q : Wq) : Wq :=
  { q with sp := if q.opn < 3 then q.sp.set q.opn ⟨q.group, q.to, mns q.group z, next, join⟩ else q.sp, opn := if q.opn < 3 then q.opn + 1 else q.opn, group := z, to := join }
def branchQ (zeros : Nat) (target next join : Int) (q : Wq) : Wq :=
  if zeros &&& q.group = 0 then goOn next q
  else if mns q.group (zeros &&& q.group) = 0 then goOn target q
  else goOn target (splitQ (zeros &&& q.group) next join q)

/-- What the runs that are still open make of a turn. -/
def unw (R : Pl → List Nat → Int → Int → Pl) (b : Nat) : List Spl → Pl → Pl
  | [], p => p
  | s :: r, p =>
    let p1 := if s.later = 0 then p else R p (gOf b s.later) s.next s.join
    unw R b r (R { p1 with opn := p1.opn - 1 } (gOf b s.group) s.join s.to)

def Chain (n b : Nat) (len : Nat) (d : Nat) : Nat → Int → List Spl → Prop
  | _, to, [] => to = -1
  | c, to, s :: r => to = s.join ∧ s.group < 16 ∧ s.later < 16 ∧ (∀ l, l < 4 → c.testBit l = true → s.group.testBit l = true ∧ s.later.testBit l = false) ∧
      (∀ l, l < 4 → s.later.testBit l = true → s.group.testBit l = true ∧ d.testBit l = false) ∧ (s.join = -1 ∨ (0 ≤ s.join ∧ s.join < n)) ∧ (s.later ≠ 0 → 0 ≤ s.next ∧ s.next < n) ∧
      (s.join = -1 → ∀ l, l < 4 → s.group.testBit l = true → s.later.testBit l = false → d.testBit l = false → c.testBit l = true) ∧
      pop s.later + (r.length + 1) ≤ 4 ∧ pop s.group + r.length ≤ 4 ∧ (∀ l, l < 4 → s.group.testBit l = true → b + l < len) ∧ Chain n b len d s.group s.to r

theorem chain_shrink {n b len d c c' : Nat} {to : Int} {r : List Spl} (h : Chain n b len d c to r) (h1 : ∀ l, l < 4 → c'.testBit l = true → c.testBit l = true) (h2 : ∀ l, l < 4 → c.testBit l = true → d.testBit l = false → c'.testBit l = true) : Chain n b len d c' to r := by
  cases r with
  | nil => exact h
  | cons s r =>
    obtain ⟨a1, a2, a3, a4, a5, a6, a7, a8, a9⟩ := h
    exact ⟨a1, a2, a3, fun l hl hc => a4 l hl (h1 l hl hc), a5, a6, a7, fun hj l hl x1 x2 x3 => h2 l hl (a8 hj l hl x1 x2 x3) x3, a9⟩

theorem chain_done {n b len d d' e : Nat} (hd : ∀ l, l < 4 → d'.testBit l = (d.testBit l || e.testBit l)) : ∀ {r : List Spl} {c : Nat} {to : Int}, Chain n b len d c to r → (∀ l, l < 4 → e.testBit l = true → c.testBit l = true) → Chain n b len d' c to r
  | [], c, to, h, _ => h
  | s :: r, c, to, h, he => by
    obtain ⟨a1, a2, a3, a4, a5, a6, a7, a8, a9, a10, a11, a12⟩ := h
    refine ⟨a1, a2, a3, a4, fun l hl h1 => ⟨(a5 l hl h1).1, ?_⟩, a6, a7, fun hj l hl x1 x2 x3 => a8 hj l hl x1 x2 ?_, a9, a10, a11, chain_done hd a12 fun l hl h1 => (a4 l hl (he l hl h1)).1⟩
    · rw [hd l hl, (a5 l hl h1).2]
      cases x : e.testBit l with
      | false => rfl
      | true => have := (a4 l hl (he l hl x)).2; rw [h1] at this; cases this
    · rw [hd l hl] at x3
      cases x : d.testBit l with
      | false => rfl
      | true => rw [x] at x3; cases x3

/-- What is always so of a warp that runs: n instructions, base b, the turn p. -/
structure SI (n b : Nat) (p : Pl) (q : Wq) : Prop where
  sp3 : q.sp.length = 3
  g16 : q.group < 16
  d16 : q.done < 16
  dn : ∀ l, l < 4 → isDone p.ts (b + l) = q.done.testBit l
  lv : ∀ l, l < 4 → q.group.testBit l = true → q.done.testBit l = false ∧ b + l < p.ts.length
  pcs : q.group ≠ 0 → 0 ≤ q.pc ∧ q.pc < n
  opn : q.opn ≤ 3
  po : p.opn = q.opn
  chain : Chain n b p.ts.length q.done q.group q.to (stk q)
  size : pop q.group + q.opn ≤ 4

theorem live_of {n b : Nat} {p : Pl} {q : Wq} (h : SI n b p q) {m : Nat} (hm : ∀ l, l < 4 → m.testBit l = true → q.done.testBit l = false) : liveL p.ts (gOf b m) = gOf b m := by
  unfold liveL
  refine gOf_filter fun l hl => ?_
  rw [h.dn l hl]
  cases e : m.testBit l with
  | false => rfl
  | true => rw [hm l hl e]; rfl

theorem run_live {k : List Ins} {J : List Int} {bud f : Nat} {p : Pl} {g g' : List Nat} {pc to : Int} (h : liveL p.ts g = liveL p.ts g') : runP k J bud f p g pc to = runP k J bud f p g' pc to := by
  cases f <;> (unfold runP; rw [h])

theorem run_end {k : List Ins} {J : List Int} {bud f : Nat} {p : Pl} {g : List Nat} {pc to : Int} (h : liveL p.ts g = [] ∨ pc = to) : runP k J bud f p g pc to = p := by
  by_cases hh : (p.ends || p.waits) = true
  · cases f <;> (unfold runP; rw [if_pos hh])
  · cases f <;> (unfold runP; rw [if_neg hh, if_pos h])

def restQ (R : Pl → List Nat → Int → Int → Pl) (b : Nat) (q : Wq) (p : Pl) : Pl := unw R b (stk q) (R p (gOf b q.group) q.pc q.to)

theorem end_zero {n b : Nat} {p : Pl} {q : Wq} (h : SI n b p q) (he : endQ q) (ht : q.to = -1) : q.group = 0 := by
  rcases he with e | e
  · exact e
  · by_cases h0 : q.group = 0
    · exact h0
    · have := h.pcs h0; omega

/-- One round of the search for the group that goes on. -/
theorem fol_one {k : List Ins} {J : List Int} {bud f n b : Nat} {p : Pl} {q : Wq} (h : SI n b p q) (he : endQ q) (h0 : 0 < q.opn) :
    SI n b { p with opn := (folQ q).opn } (folQ q) ∧ restQ (runP k J bud f) b (folQ q) { p with opn := (folQ q).opn } = restQ (runP k J bud f) b q p := by
  have hl : q.opn ≤ q.sp.length := by rw [h.sp3]; exact h.opn
  have hc := h.chain
  have hlow : (low q).length = q.opn - 1 := by unfold low; simp; omega
  rw [stk_top h0 hl] at hc
  obtain ⟨a1, a2, a3, a4, a5, a6, a7, a8, a9, a10, a11, a12⟩ := hc
  have hz := end_zero h he
  rw [hlow] at a9 a10
  have hr : runP k J bud f p (gOf b q.group) q.pc q.to = p := by
    refine run_end ?_
    rcases he with e | e
    · left; rw [e, gOf_zero]; rfl
    · exact .inr e
  unfold folQ
  split
  · rename_i hlt
    have hp : { p with opn := (sideQ q).opn } = p := by
      have : (sideQ q).opn = p.opn := h.po.symm
      rw [this]
    rw [hp]
    refine ⟨⟨by simp [sideQ, h.sp3], a3, h.d16, h.dn, fun l hl h1 => ⟨(a5 l hl h1).2, a11 l hl (a5 l hl h1).1⟩, fun _ => a7 hlt, h.opn, h.po, ?_, ?_⟩, ?_⟩
    · rw [stk_side h0 hl]
      refine ⟨rfl, a2, Nat.zero_lt_succ _, fun l hl h1 => ⟨(a5 l hl h1).1, by simp⟩, fun l hl h1 => by simp at h1, a6, fun hx => absurd rfl hx, fun hj l hl x1 x2 x3 => ?_, by rw [hlow]; simp only [pop_zero]; have := h.opn; omega, by rw [hlow]; exact a10, a11, a12⟩
      show (topQ q).later.testBit l = true
      cases e : (topQ q).later.testBit l with
      | true => rfl
      | false =>
        have := a8 hj l hl x1 e x3
        rw [hz (a1.trans hj)] at this
        simp at this
    · show pop (topQ q).later + q.opn ≤ 4
      have := h.opn; omega
    · unfold restQ
      rw [stk_side h0 hl, stk_top h0 hl, hr]
      simp only [unw]
      rw [if_neg hlt]
      rfl
  · rename_i hlt
    have hlt : (topQ q).later = 0 := by simpa using hlt
    have hb : ∀ l, l < 4 → (mns (topQ q).group q.done).testBit l = ((topQ q).group.testBit l && !q.done.testBit l) := fun l hl => mns_bit h.d16 hl
    refine ⟨⟨h.sp3, mns_lt a2, h.d16, h.dn, fun l hl h1 => ?_, fun hx => ?_, by have := h.opn; simp only [shutQ]; omega, rfl, ?_, ?_⟩, ?_⟩
    · have := hb l hl
      rw [show (mns (topQ q).group q.done).testBit l = true from h1] at this
      simp only [Bool.true_eq, Bool.and_eq_true, Bool.not_eq_true'] at this
      exact ⟨this.2, a11 l hl this.1⟩
    · rcases a6 with e | e
      · exfalso
        apply hx
        show mns (topQ q).group q.done = 0
        rw [zero_iff (mns_lt a2)]
        intro l hl
        rw [hb l hl]
        cases x1 : (topQ q).group.testBit l with
        | false => rfl
        | true =>
          cases x2 : q.done.testBit l with
          | true => rfl
          | false =>
            have := a8 e l hl x1 (by rw [hlt]; simp) x2
            rw [hz (a1.trans e)] at this
            simp at this
      · exact e
    · rw [stk_shut]
      refine chain_shrink a12 (fun l hl h1 => ?_) (fun l hl h1 h2 => ?_)
      · rw [show (shutQ q).group = mns (topQ q).group q.done from rfl, hb l hl] at h1
        simp only [Bool.and_eq_true] at h1
        exact h1.1
      · rw [show (shutQ q).group = mns (topQ q).group q.done from rfl, hb l hl, h1, show q.done.testBit l = false from h2]; rfl
    · show pop (mns (topQ q).group q.done) + (q.opn - 1) ≤ 4
      have := (pop_sub (mns_lt (b := q.done) a2) a2 fun l hl h1 => by rw [hb l hl] at h1; simp only [Bool.and_eq_true] at h1; exact h1.1).1
      omega
    · unfold restQ
      rw [stk_shut, stk_top h0 hl, hr]
      simp only [unw]
      rw [if_pos hlt]
      congr 1
      rw [show (shutQ q).opn = p.opn - 1 by rw [h.po]; rfl]
      refine run_live ?_
      have e1 : liveL p.ts (gOf b (topQ q).group) = gOf b (mns (topQ q).group q.done) := by
        unfold liveL
        refine gOf_filter fun l hl => ?_
        rw [h.dn l hl, hb l hl]
      show liveL p.ts (gOf b (mns (topQ q).group q.done)) = liveL p.ts (gOf b (topQ q).group)
      rw [e1]
      refine live_of h fun l hl h1 => ?_
      rw [hb l hl] at h1
      simp only [Bool.and_eq_true, Bool.not_eq_true'] at h1
      exact h1.2

/-- The search for the group that goes on. -/
theorem fol_all {k : List Ins} {J : List Int} {bud f n b : Nat} : ∀ (m : Nat) {p : Pl} {q : Wq}, mu q = m → SI n b p q →
    SI n b { p with opn := (fol q).opn } (fol q) ∧ restQ (runP k J bud f) b (fol q) { p with opn := (fol q).opn } = restQ (runP k J bud f) b q p ∧ ¬ (endQ (fol q) ∧ 0 < (fol q).opn) ∧ (fol q).done = q.done ∧ (fol q).waits = q.waits
  | m, p, q, hm, h => by
    by_cases he : endQ q ∧ 0 < q.opn
    · have hl : q.opn ≤ q.sp.length := by rw [h.sp3]; exact h.opn
      have hmu := mu_fol he.2 hl
      obtain ⟨h1, h2⟩ := fol_one (k := k) (J := J) (bud := bud) (f := f) h he.1 he.2
      obtain ⟨m', rfl⟩ : ∃ m', m = m' + 1 := ⟨m - 1, by omega⟩
      obtain ⟨i1, i2, i3, i4, i5⟩ := fol_all (k := k) (J := J) (bud := bud) (f := f) m' (q := folQ q) (by omega) h1
      rw [fol_more he.1 he.2 hl]
      refine ⟨i1, i2.trans h2, i3, i4.trans ?_, i5.trans ?_⟩ <;> (unfold folQ; split <;> rfl)
    · rw [fol_stop he]
      have hp : { p with opn := q.opn } = p := by rw [← h.po]
      rw [hp]
      exact ⟨h, rfl, he, rfl, rfl⟩

end Go.Proofs.YtbhbacphiinpeaaGreat

/- One instruction of a warp, by its open splits: what is still to come stays the same; plain. -/
namespace Go.Proofs.YtbhbacphiinpeaaGreat
open Go.RowKit

theorem run_step {k : List Ins} {J : List Int} {bud : Nat} {p : Pl} {g : List Nat} {pc to : Int} (hr : Reg4 p.ts) (hg : g.length ≤ 4) (hc : Cnt bud p) (h : Goes bud p g pc to) :
    runP k J bud bud p g pc to = runP k J bud bud (doesP k J (runP k J bud bud) (issuedP p g pc) g pc).1 g (doesP k J (runP k J bud bud) (issuedP p g pc) g pc).2 to := by
  have h1 := hc.steps
  have h2 := h.steps
  obtain ⟨F, rfl⟩ : ∃ F, bud = F + 1 := ⟨bud - 1, by omega⟩
  have hc1 : Cnt (F + 1) { issuedP p g pc with opn := (issuedP p g pc).opn + 1 } := ⟨by simp only [issuedP]; omega, by simp [issuedP, hc.log], by have := hc.segs; simp only [issuedP]; omega, by have := hc.opn; simp only [issuedP]; omega⟩
  have e := does_fuel (k := k) (J := J) (bud := F + 1) (f := F) (f' := F + 1) (fun p g pc to a b c d e => run_fuel F (F + 1) p g pc to a b c d e) (q := issuedP p g pc) (l := g) pc hr hg hc1 (by simp only [issuedP]; omega) (by simp only [issuedP]; omega)
  have hk := keep_does k J (runP k J (F + 1) (F + 1)) (fun p g a b => keep_run k J (F + 1) (F + 1) p g a b) (issuedP p g pc) g pc hr
  have hcd := cnt_does' (k := k) (J := J) (F := F + 1) (pc := pc) hc h.steps hg
  rw [h.live] at hcd
  rw [goes_run h, e]
  have hs : p.steps + 1 ≤ (doesP k J (runP k J (F + 1) (F + 1)) (issuedP p g pc) g pc).1.steps := hk.2.2.2.2
  exact run_fuel F (F + 1) _ _ _ _ hk.1 hg hcd (by omega) (by omega)

def maskOf (P : Nat → Bool) : Nat := (if P 0 then 1 else 0) + (if P 1 then 2 else 0) + (if P 2 then 4 else 0) + (if P 3 then 8 else 0)
theorem mask4 : ∀ a b c d : Bool, ((if a then 1 else 0) + (if b then 2 else 0) + (if c then 4 else 0) + (if d then 8 else 0) : Nat) < 16 ∧
    ((if a then 1 else 0) + (if b then 2 else 0) + (if c then 4 else 0) + (if d then 8 else 0) : Nat).testBit 0 = a ∧ ((if a then 1 else 0) + (if b then 2 else 0) + (if c then 4 else 0) + (if d then 8 else 0) : Nat).testBit 1 = b ∧
    ((if a then 1 else 0) + (if b then 2 else 0) + (if c then 4 else 0) + (if d then 8 else 0) : Nat).testBit 2 = c ∧ ((if a then 1 else 0) + (if b then 2 else 0) + (if c then 4 else 0) + (if d then 8 else 0) : Nat).testBit 3 = d := by decide
theorem maskOf_lt (P : Nat → Bool) : maskOf P < 16 := (mask4 (P 0) (P 1) (P 2) (P 3)).1
theorem maskOf_bit (P : Nat → Bool) {l : Nat} (hl : l < 4) : (maskOf P).testBit l = P l := by
  obtain ⟨-, h0, h1, h2, h3⟩ := mask4 (P 0) (P 1) (P 2) (P 3)
  rcases (by omega : l = 0 ∨ l = 1 ∨ l = 2 ∨ l = 3) with rfl | rfl | rfl | rfl
  · exact h0
  · exact h1
  · exact h2
  · exact h3

def zerM (ts : List Thr) (a : Int) (b m : Nat) : Nat := maskOf fun l => m.testBit l && isZ ts a (b + l)

def stepQ (k : List Ins) (J : List Int) (b : Nat) (q : Wq) (p : Pl) : Wq × Pl :=
  match k[q.pc.toNat]? with
  | none => (q, p)
  | some x =>
    if x.o = 0 then (exitQ q, { issuedP p (gOf b q.group) q.pc with ts := doneAll p.ts (gOf b q.group), opn := (exitQ q).opn })
    else if x.o = 12 then (goOn x.b q, { issuedP p (gOf b q.group) q.pc with opn := (goOn x.b q).opn })
    else if x.o = 13 then (branchQ (zerM p.ts x.a b q.group) x.b (q.pc + 1) (J.getD q.pc.toNat (-1)) q, { issuedP p (gOf b q.group) q.pc with opn := (branchQ (zerM p.ts x.a b q.group) x.b (q.pc + 1) (J.getD q.pc.toNat (-1)) q).opn })
    else if x.o = 14 then (if 0 < q.opn then (q, faultP (issuedP p (gOf b q.group) q.pc) 3 q.pc ((b + firstL q.group : Nat) : Int)) else (waitQ (q.pc + 1) q, { issuedP p (gOf b q.group) q.pc with waits := true, at0 := q.pc + 1 }))
    else if (eachP (issuedP p (gOf b q.group) q.pc) (gOf b q.group) q.pc x).ends = true then (q, eachP (issuedP p (gOf b q.group) q.pc) (gOf b q.group) q.pc x)
    else (goOn (q.pc + 1) q, { eachP (issuedP p (gOf b q.group) q.pc) (gOf b q.group) q.pc x with opn := (goOn (q.pc + 1) q).opn })

theorem fol_opn : ∀ (m : Nat) (q : Wq), (folN m q).opn ≤ q.opn
  | 0, q => Nat.le_refl _
  | m + 1, q => by
    unfold folN
    split
    · refine Nat.le_trans (fol_opn m (folQ q)) ?_
      unfold folQ
      split
      · exact Nat.le_refl _
      · exact Nat.sub_le _ _
    · exact Nat.le_refl _
theorem goOn_opn (pc : Int) (q : Wq) : (goOn pc q).opn ≤ q.opn := fol_opn _ _

/-- A turn that goes on behind an instruction. -/
structure Still (k : List Ins) (J : List Int) (bud b : Nat) (q : Wq) (p : Pl) (q' : Wq) (p' : Pl) : Prop where
  ends : p'.ends = false
  waits : p'.waits = false
  si : SI k.length b p' q'
  stop : ¬ (endQ q' ∧ 0 < q'.opn)
  rest : restQ (runP k J bud bud) b q' p' = restQ (runP k J bud bud) b q p
  wq : q'.waits = q.waits

theorem unw_stop {k : List Ins} {J : List Int} {bud f b : Nat} : ∀ {r : List Spl} {p : Pl}, p.ends = true → ∃ o, unw (runP k J bud f) b r p = { p with opn := o }
  | [], p, _ => ⟨p.opn, rfl⟩
  | s :: r, p, h => by
    unfold unw
    have e1 : (if s.later = 0 then p else runP k J bud f p (gOf b s.later) s.next s.join) = p := by
      split
      · rfl
      · exact run_stop (.inl h)
    simp only [e1]
    rw [run_stop (.inl (show ({ p with opn := p.opn - 1 } : Pl).ends = true from h))]
    exact unw_stop (p := { p with opn := p.opn - 1 }) h

theorem si_goOn {k : List Ins} {J : List Int} {bud b : Nat} {p p1 : Pl} {q : Wq} (h : SI k.length b p q) (ht : ∀ l, isDone p1.ts l = isDone p.ts l) (hl : p1.ts.length = p.ts.length) (ho : p1.opn = p.opn) (he : p1.ends = false) (hw : p1.waits = false) {pc : Int} (hpc : q.group ≠ 0 → 0 ≤ pc ∧ pc < k.length)
    (hR : unw (runP k J bud bud) b (stk q) (runP k J bud bud p1 (gOf b q.group) pc q.to) = restQ (runP k J bud bud) b q p) :
    Still k J bud b q p (goOn pc q) { p1 with opn := (goOn pc q).opn } := by
  have h1 : SI k.length b p1 { q with pc := pc } := ⟨h.sp3, h.g16, h.d16, fun l hl => (ht _).trans (h.dn l hl), fun l hl' h1 => by rw [hl]; exact h.lv l hl' h1, hpc, h.opn, ho.trans h.po, by rw [hl]; exact h.chain, h.size⟩
  obtain ⟨i1, i2, i3, i4, i5⟩ := fol_all (k := k) (J := J) (bud := bud) (f := bud) _ rfl h1
  exact ⟨he, hw, i1, i3, i2.trans hR, i5⟩

theorem each_ends (p : Pl) (g : List Nat) (pc : Int) (x : Ins) : ((eachP p g pc x).ends = true → p.ends = false → (eachP p g pc x).fault ≠ 0) ∧ (eachP p g pc x).waits = p.waits ∧ ((eachP p g pc x).ends = false → (eachP p g pc x).fault = p.fault ∧ (eachP p g pc x).st = p.st) := by
  unfold eachP
  split
  · exact ⟨fun h h' => (by simp only [] at h; rw [h'] at h; cases h), rfl, fun _ => ⟨rfl, rfl⟩⟩
  · rename_i what t he
    refine ⟨fun _ _ => ?_, rfl, fun h => (by simp [faultP] at h)⟩
    show what ≠ 0
    have : ∀ (g : List Nat) (ts : List Thr) (mem : List Int), (eachL x g ts mem).2.2.2 = some (what, t) → what ≠ 0 := by
      intro g
      induction g with
      | nil => intro ts mem h; simp [eachL] at h
      | cons u g ih =>
        intro ts mem h
        unfold eachL at h
        split at h
        · rename_i hx
          simp only [Option.some.injEq, Prod.mk.injEq] at h
          rw [← h.1]; exact hx
        · exact ih _ _ h
    exact this _ _ _ he

end Go.Proofs.YtbhbacphiinpeaaGreat

