/- Pm Q1 Rp Pn: joined. -/
import Derived.Test.YtbhbacphiinpeaaZ06
import Derived.Test.YtbhbacphiinpeaaRows
import Derived.Test.YtbhbacphiinpeaaZ01
import Derived.Deep.QuietTactic
import Derived.BigQuiet
import Derived.WalkSmall
import Derived.Laws.AppendOwnNone

/- The machine of the document, as plain lists and numbers; nothing of the program is in this text. -/
namespace Go.Proofs.Ytbhbacphiinpeaa
open Go.RowKit

abbrev W64 (z : Int) : Int := wrap64 z

/-- A thread: its name, its registers, whether it is done. -/
structure Thr where
  name : Int
  regs : List Int
  done : Bool
abbrev thr0 : Thr := ⟨0, [0, 0, 0, 0], false⟩

def Thr.get (t : Thr) (a : Int) : Int := t.regs.getD a.toNat 0
def Thr.put (t : Thr) (a v : Int) : Thr := { t with regs := t.regs.set a.toNat v }

/-- Load, Store, Fetch: the fault, the address (-1: none), the thread, the words. -/
def memP (x : Ins) (t : Thr) (mem : List Int) : Int × Int × Thr × List Int :=
  if W64 (t.get x.b + x.c) < 0 ∨ (mem.length : Int) ≤ W64 (t.get x.b + x.c) then (2, -1, t, mem)
  else if x.o = 9 then (0, W64 (t.get x.b + x.c), t.put x.a (mem.getD (W64 (t.get x.b + x.c)).toNat 0), mem)
  else if x.o = 10 then (0, W64 (t.get x.b + x.c), t, mem.set (W64 (t.get x.b + x.c)).toNat (t.get x.a))
  else if x.o = 11 then (0, W64 (t.get x.b + x.c), t.put x.a (mem.getD (W64 (t.get x.b + x.c)).toNat 0), mem.set (W64 (t.get x.b + x.c)).toNat (W64 (mem.getD (W64 (t.get x.b + x.c)).toNat 0 + t.get x.a)))
  else (0, W64 (t.get x.b + x.c), t, mem)

/-- What a thread does by itself. -/
def oneP (x : Ins) (t : Thr) (mem : List Int) : Int × Int × Thr × List Int :=
  if x.o = 1 then (0, -1, t.put x.a x.b, mem)
  else if x.o = 8 then (0, -1, t.put x.a t.name, mem)
  else if x.o = 2 then (0, -1, t.put x.a (W64 (t.get x.b + t.get x.c)), mem)
  else if x.o = 3 then (0, -1, t.put x.a (W64 (t.get x.b - t.get x.c)), mem)
  else if x.o = 4 then (0, -1, t.put x.a (W64 (t.get x.b * t.get x.c)), mem)
  else if x.o = 5 then (if t.get x.c = 0 then (1, -1, t, mem) else (0, -1, t.put x.a (W64 (Int.tdiv (t.get x.b) (t.get x.c))), mem))
  else if x.o = 6 then (0, -1, t.put x.a (if t.get x.b < t.get x.c then 1 else 0), mem)
  else if x.o = 7 then (0, -1, t.put x.a (if t.get x.b = t.get x.c then 1 else 0), mem)
  else memP x t mem

/-- The threads of a group, one after the other: threads, words, the segments touched, the fault. -/
def eachL (x : Ins) : List Nat → List Thr → List Int → List Thr × List Int × List Int × Option (Int × Nat)
  | [], ts, mem => (ts, mem, [], none)
  | t :: g, ts, mem =>
    if (oneP x (ts.getD t thr0) mem).1 ≠ 0 then (ts, mem, [], some ((oneP x (ts.getD t thr0) mem).1, t))
    else
      ((eachL x g (ts.set t (oneP x (ts.getD t thr0) mem).2.2.1) (oneP x (ts.getD t thr0) mem).2.2.2).1,
       (eachL x g (ts.set t (oneP x (ts.getD t thr0) mem).2.2.1) (oneP x (ts.getD t thr0) mem).2.2.2).2.1,
       (if 0 ≤ (oneP x (ts.getD t thr0) mem).2.1 then [(oneP x (ts.getD t thr0) mem).2.1 / 4] else []) ++ (eachL x g (ts.set t (oneP x (ts.getD t thr0) mem).2.2.1) (oneP x (ts.getD t thr0) mem).2.2.2).2.2.1,
       (eachL x g (ts.set t (oneP x (ts.getD t thr0) mem).2.2.1) (oneP x (ts.getD t thr0) mem).2.2.2).2.2.2)

/-- How many different ones are there, beside those that have been seen? -/
def segC (seen : List Int) : List Int → Nat
  | [] => 0
  | a :: l => (if a ∈ seen then 0 else 1) + segC (seen ++ [a]) l

/-- A turn that goes on. -/
structure Pl where
  ts : List Thr
  mem : List Int
  st : Int
  steps : Nat
  segs : Nat
  fault : Int
  fpc : Int
  fth : Int
  log : List (Int × Int)
  opn : Nat
  ends : Bool
  waits : Bool
  at0 : Int

def isDone (ts : List Thr) (t : Nat) : Bool := (ts.getD t thr0).done
def liveL (ts : List Thr) (g : List Nat) : List Nat := g.filter fun t => !isDone ts t
def bits (g : List Nat) : Nat := (g.map fun t => 2 ^ (t % 4)).sum
def issuedP (p : Pl) (g : List Nat) (pc : Int) : Pl := { p with steps := p.steps + 1, log := p.log ++ [(pc, (bits g : Int))] }
def faultP (p : Pl) (what pc t : Int) : Pl := { p with fault := what, fpc := pc, fth := t, st := 2, ends := true }
def doneAll (ts : List Thr) (g : List Nat) : List Thr := g.foldl (fun ts t => ts.set t { ts.getD t thr0 with done := true }) ts

def eachP (p : Pl) (g : List Nat) (pc : Int) (x : Ins) : Pl :=
  match (eachL x g p.ts p.mem).2.2.2 with
  | none => { p with ts := (eachL x g p.ts p.mem).1, mem := (eachL x g p.ts p.mem).2.1, segs := p.segs + segC [] (eachL x g p.ts p.mem).2.2.1 }
  | some (what, t) => { faultP { p with ts := (eachL x g p.ts p.mem).1, mem := (eachL x g p.ts p.mem).2.1 } what pc t with segs := p.segs + segC [] (eachL x g p.ts p.mem).2.2.1 }

def isZ (ts : List Thr) (a : Int) (t : Nat) : Bool := (ts.getD t thr0).get a == 0

/-- Zero: those that jump, and those that do not. -/
def partsP (J : List Int) (rn : Pl → List Nat → Int → Int → Pl) (p : Pl) (g : List Nat) (pc : Int) (x : Ins) : Pl × Int :=
  if g.filter (fun t => !isZ p.ts x.a t) = [] then (p, x.b)
  else if g.filter (isZ p.ts x.a) = [] then (p, pc + 1)
  else
    let q := rn (rn { p with opn := p.opn + 1 } (g.filter (isZ p.ts x.a)) x.b (J.getD pc.toNat (-1))) (g.filter (fun t => !isZ p.ts x.a t)) (pc + 1) (J.getD pc.toNat (-1))
    ({ q with opn := q.opn - 1 }, J.getD pc.toNat (-1))

def doesP (k : List Ins) (J : List Int) (rn : Pl → List Nat → Int → Int → Pl) (p : Pl) (g : List Nat) (pc : Int) : Pl × Int :=
  match k[pc.toNat]? with
  | none => (p, pc)
  | some x =>
    if x.o = 0 then ({ p with ts := doneAll p.ts g }, pc + 1)
    else if x.o = 12 then (p, x.b)
    else if x.o = 13 then partsP J rn p g pc x
    else if x.o = 14 then (if 0 < p.opn then (faultP p 3 pc ((g.headD 0 : Nat) : Int), pc + 1) else ({ p with waits := true, at0 := pc + 1 }, pc + 1))
    else (eachP p g pc x, pc + 1)

/-- A group runs from an instruction to another (-1: to none). -/
def runP (k : List Ins) (J : List Int) (bud : Nat) : Nat → Pl → List Nat → Int → Int → Pl
  | 0, p, g, pc, to =>
    if p.ends || p.waits then p
    else if liveL p.ts g = [] ∨ pc = to then p
    else if p.steps = bud then { p with st := 3, ends := true }
    else { p with ends := true }
  | f + 1, p, g, pc, to =>
    if p.ends || p.waits then p
    else if liveL p.ts g = [] ∨ pc = to then p
    else if p.steps = bud then { p with st := 3, ends := true }
    else
      let q := doesP k J (runP k J bud f) (issuedP p (liveL p.ts g) pc) (liveL p.ts g) pc
      runP k J bud f q.1 (liveL p.ts g) q.2 to

structure Wrp where
  at0 : Int
  waits : Bool
  done : Bool
abbrev wrp0 : Wrp := ⟨0, false, false⟩

/-- A machine. -/
structure PM where
  k : List Ins
  J : List Int
  ts : List Thr
  ws : List Wrp
  mem : List Int
  st : Int

def rdy (x : Wrp) : Bool := !x.done && !x.waits
def readyL (ws : List Wrp) : List Nat := (List.range ws.length).filter fun i => rdy (ws.getD i wrp0)
def warpG (n i : Nat) : List Nat := List.range' (4 * i) (min 4 (n - 4 * i))

def settleP (m : PM) : PM :=
  if m.ws.all (fun x => x.done) then { m with st := 1 }
  else if readyL m.ws = [] then { m with ws := m.ws.map fun x => { x with waits := false } }
  else m

/-- What a turn answers. -/
structure Trn where
  warp : Int
  steps : Int
  segs : Int
  fault : Int
  fpc : Int
  fth : Int
  log : List (Int × Int)

def Trn.none : Trn := ⟨0, 0, 0, 0, 0, 0, []⟩

def pickW (l : List Nat) (pick : Int) : Nat := if 0 ≤ pick ∧ pick < l.length then l.getD pick.toNat 0 else l.getD 0 0

def playP (m : PM) (i bud : Nat) : Pl :=
  runP m.k m.J bud bud ⟨m.ts, m.mem, m.st, 0, 0, 0, 0, 0, [], 0, false, false, 0⟩ (warpG m.ts.length i) (m.ws.getD i wrp0).at0 (-1)

def afterP (m : PM) (i : Nat) (p : Pl) : PM :=
  let m1 := { m with ts := p.ts, mem := p.mem, st := p.st }
  if p.ends then m1
  else settleP { m1 with ws := m.ws.set i (if p.waits then { m.ws.getD i wrp0 with waits := true, at0 := p.at0 } else { m.ws.getD i wrp0 with done := true }) }

def turnOf (i : Nat) (p : Pl) : Trn := ⟨i, p.steps, p.segs, p.fault, p.fpc, p.fth, p.log⟩

/-- The machine behind a turn, the answer, the error. -/
def turnP (m : PM) (pick bud : Int) : PM × Trn × Int :=
  if m.st ≠ 0 then (m, Trn.none, 6)
  else if bud < 1 ∨ 2000 < bud then (m, Trn.none, 7)
  else
    (afterP m (pickW (readyL m.ws) pick) (playP m (pickW (readyL m.ws) pick) bud.toNat), turnOf (pickW (readyL m.ws) pick) (playP m (pickW (readyL m.ws) pick) bud.toNat), 0)

/-- A machine at its beginning. -/
def newP (k : List Ins) (J : List Int) (threads first : Nat) (mem : List Int) : PM :=
  ⟨k, J, (List.range threads).map fun (i : Nat) => ⟨(first : Int) + (i : Int), [0, 0, 0, 0], false⟩, List.replicate ((threads + 3) / 4) ⟨0, false, false⟩, mem, 0⟩

/-- The error of a New whose image is decoded. -/
def newErr (threads first : Int) (words : Nat) : Int :=
  if threads < 1 ∨ 16 < threads ∨ first < 0 ∨ 1000 < first then 4 else if words < 1 ∨ 32 < words then 5 else 0

end Go.Proofs.Ytbhbacphiinpeaa

/- What 'sameInts', 'wide' and 'still' do with lists of numbers, and 'sameLog' with logs. -/
namespace Go.Proofs.Ytbhbacphiinpeaa
open Go.RowKit

theorem Try.infoQ3 : (Try.prog.info? 3).map (fun i => (i.zero, i.size, i.bytes)) = some (some (.int .i64 0), 1, 8) := by kernel_rfl

def zVals (l : List Int) : List Value := l.map fun m => Value.int .i64 m
theorem zVals_at {l : List Int} {i : Nat} {x : Int} (h : l[i]? = some x) : (zVals l)[i]? = some (.int .i64 x) := by simp [zVals, List.getElem?_map, h]
theorem zVals_append (l m : List Int) : zVals (l ++ m) = zVals l ++ zVals m := by simp [zVals]
theorem zVals_length (l : List Int) : (zVals l).length = l.length := by simp [zVals]
theorem oneCell_z (l : List Int) : ∀ u ∈ zVals l, u.oneCell' = true := by
  intro u hu
  obtain ⟨x, -, rfl⟩ := List.mem_map.1 hu
  rfl

/-- The slice v, as the world w has it, reads as the numbers l. -/
def SeesZ (w : World) (v : Value) (l : List Int) : Prop :=
  l.length ≤ 17592186044416 ∧ ((l = [] ∧ ∃ ao cap, v = .slice ao 0 cap) ∨
    ∃ b off cap, v = .slice (some ⟨b, off, none⟩) l.length cap ∧ b < w.heap.size ∧ ∀ (i : Nat) x, l[i]? = some x → w.cell? ⟨b, off + i, none⟩ = some (.int .i64 x))

theorem SeesZ.up {w w' : World} {v : Value} {l : List Int} {B : Nat} (h : SeesZ w v l) (hB : w.heap.size ≤ B) (hb : Below B w w') : SeesZ w' v l := by
  refine ⟨h.1, ?_⟩
  rcases h.2 with h0 | ⟨b, off, cap, rfl, hlt, hc⟩
  · exact .inl h0
  · exact .inr ⟨b, off, cap, rfl, Nat.lt_of_lt_of_le hlt hb.size, fun i x hx => (hb.cell (Nat.lt_of_lt_of_le hlt hB)).trans (hc i x hx)⟩

theorem ownsRow_seesZ {w : World} {base : Nat} {v : Value} {l : List Int} (hm : l.length ≤ 17592186044416) (h : w.ownsRow base 3 1 v l.length (zVals l)) : SeesZ w v l := by
  refine ⟨hm, ?_⟩
  rcases h.2 with ⟨rfl, h0⟩ | ⟨g, cap, cur, rfl, hb, hg, hr⟩
  · exact .inl ⟨List.eq_nil_of_length_eq_zero h0, none, 0, rfl⟩
  · refine .inr ⟨g, 0, cap, rfl, (Array.getElem?_eq_some_iff.1 hg).1, fun i x hx => ?_⟩
    have hi : i < l.length := (List.getElem?_eq_some_iff.1 hx).1
    rw [Nat.zero_add]
    exact (h.cellAt i (by omega)).trans (zVals_at hx)

theorem seesZ_cells {w : World} {b off : Nat} {l : List Int} (hc : ∀ (i : Nat) x, l[i]? = some x → w.cell? ⟨b, off + i, none⟩ = some (.int .i64 x)) : ∀ j u, (zVals l)[j]? = some u → w.cell? ((⟨b, off, none⟩ : Addr).add j) = some u := by
  intro j u hu
  have e1 : (⟨b, off, none⟩ : Addr).add j = ⟨b, off + j, none⟩ := by unfold Addr.add; split <;> simp_all
  unfold zVals at hu
  rw [List.getElem?_map, Option.map_eq_some_iff] at hu
  obtain ⟨x, hx, rfl⟩ := hu
  rw [e1]
  exact hc j x hx

end Go.Proofs.Ytbhbacphiinpeaa

/- How the document's machine lies in memory, and what stays of memory while it runs: facts on memory; nothing of the program is in this text. -/
namespace Go.Proofs.Ytbhbacphiinpeaa
open Go.RowKit

def Thr.vals (t : Thr) : List Value := .int .i64 t.name :: (t.regs.map (Value.int .i64) ++ [.bool t.done])
def flatT (l : List Thr) : List Value := l.flatMap Thr.vals
def Reg4 (l : List Thr) : Prop := ∀ t ∈ l, t.regs.length = 4

theorem Reg4.set {l : List Thr} (h : Reg4 l) (i : Nat) {t : Thr} (ht : t.regs.length = 4) : Reg4 (l.set i t) := by
  intro x hx
  rcases List.mem_or_eq_of_mem_set hx with hx | rfl
  · exact h x hx
  · exact ht

theorem thr_len {t : Thr} (h : t.regs.length = 4) : t.vals.length = 6 := by simp [Thr.vals, h]

theorem flatT_length {l : List Thr} (h : Reg4 l) : (flatT l).length = l.length * 6 := by
  induction l with
  | nil => rfl
  | cons x l ih =>
    have := ih fun t ht => h t (by simp [ht])
    simp only [flatT, List.flatMap_cons, List.length_append, List.length_cons] at this ⊢
    rw [this, thr_len (h x (by simp))]; omega

theorem flatT_cons (x : Thr) (l : List Thr) : flatT (x :: l) = x.vals ++ flatT l := rfl

/-- The j-th cell of the i-th thread. -/
theorem flatT_at {l : List Thr} (h : Reg4 l) {i j : Nat} {t : Thr} (ht : l[i]? = some t) (hj : j < 6) : (flatT l)[i * 6 + j]? = t.vals[j]? := by
  induction l generalizing i with
  | nil => simp at ht
  | cons x l ih =>
    have hx := thr_len (h x (by simp))
    cases i with
    | zero =>
      simp only [List.getElem?_cons_zero, Option.some.injEq] at ht
      subst ht
      rw [flatT_cons, Nat.zero_mul, Nat.zero_add, List.getElem?_append_left (by omega)]
    | succ i =>
      simp only [List.getElem?_cons_succ] at ht
      rw [flatT_cons, List.getElem?_append_right (by omega), hx, show (i + 1) * 6 + j - 6 = i * 6 + j by omega]
      exact ih (fun t ht => h t (by simp [ht])) ht

theorem flatT_set {l : List Thr} (h : Reg4 l) {i j : Nat} {t t' : Thr} {v : Value} (ht : l[i]? = some t) (hj : j < 6) (h' : t.vals.set j v = t'.vals) : (flatT l).set (i * 6 + j) v = flatT (l.set i t') := by
  induction l generalizing i with
  | nil => simp at ht
  | cons x l ih =>
    have hx := thr_len (h x (by simp))
    cases i with
    | zero =>
      simp only [List.getElem?_cons_zero, Option.some.injEq] at ht
      subst ht
      rw [flatT_cons, Nat.zero_mul, Nat.zero_add, List.set_append_left _ _ (by omega), h']
      rfl
    | succ i =>
      simp only [List.getElem?_cons_succ] at ht
      rw [flatT_cons, List.set_append_right _ _ (by omega), hx, show (i + 1) * 6 + j - 6 = i * 6 + j by omega, ih (fun t ht => h t (by simp [ht])) ht]
      rfl

theorem vals_name (t : Thr) : t.vals[0]? = some (.int .i64 t.name) := rfl
theorem vals_done {t : Thr} (h : t.regs.length = 4) : t.vals[5]? = some (.bool t.done) := by
  unfold Thr.vals
  rw [List.getElem?_cons_succ, List.getElem?_append_right (by simp [h])]
  simp [h]
theorem vals_reg {t : Thr} (h : t.regs.length = 4) {a : Int} (h0 : 0 ≤ a) (h4 : a < 4) : t.vals[1 + a.toNat]? = some (.int .i64 (t.get a)) := by
  unfold Thr.vals Thr.get
  have ha : a.toNat < t.regs.length := by omega
  rw [Nat.add_comm, List.getElem?_cons_succ, List.getElem?_append_left (by simp; omega)]
  simp [List.getElem?_map, List.getElem?_eq_getElem ha]
theorem put_len {t : Thr} (h : t.regs.length = 4) (a v : Int) : (t.put a v).regs.length = 4 := by simp [Thr.put, h]
theorem vals_put {t : Thr} (h : t.regs.length = 4) {a : Int} (h0 : 0 ≤ a) (h4 : a < 4) (v : Int) : t.vals.set (1 + a.toNat) (.int .i64 v) = (t.put a v).vals := by
  unfold Thr.vals Thr.put
  rw [Nat.add_comm, List.set_cons_succ, List.set_append_left _ _ (by simp; omega), List.map_set]
theorem vals_setDone {t : Thr} (h : t.regs.length = 4) (b : Bool) : t.vals.set 5 (.bool b) = ({ t with done := b } : Thr).vals := by
  unfold Thr.vals
  rw [List.set_cons_succ, List.set_append_right _ _ (by simp [h])]
  simp [h]

def flatL (l : List (Int × Int)) : List Value := l.flatMap fun x => [.int .i64 x.1, .int .i64 x.2]
theorem flatL_snoc (l : List (Int × Int)) (a b : Int) : flatL (l ++ [(a, b)]) = flatL l ++ [.int .i64 a, .int .i64 b] := by simp [flatL]

/-- Nothing that was there has turned but the blocks X, and rows of logs from block B on. -/
structure Fr (B : Nat) (X : List Nat) (w w' : World) : Prop where
  os : w'.os = w.os
  tape : w'.tape = w.tape
  output : w'.output = w.output
  size : w.heap.size ≤ w'.heap.size
  block : ∀ b, b < w.heap.size → b ∉ X → (b < B ∨ ∀ cs fr, w.heap[b]? ≠ some (.cells cs 64 fr)) → w'.heap[b]? = w.heap[b]?

theorem Fr.refl (B : Nat) (X : List Nat) (w : World) : Fr B X w w := ⟨rfl, rfl, rfl, Nat.le_refl _, fun _ _ _ _ => rfl⟩
theorem Fr.trans {B : Nat} {X : List Nat} {a b c : World} (h : Fr B X a b) (k : Fr B X b c) : Fr B X a c :=
  ⟨k.os.trans h.os, k.tape.trans h.tape, k.output.trans h.output, Nat.le_trans h.size k.size, fun i hi hX ht => by
    have e := h.block i hi hX ht
    refine (k.block i (Nat.lt_of_lt_of_le hi h.size) hX ?_).trans e
    rcases ht with ht | ht
    · exact .inl ht
    · exact .inr fun cs fr => by rw [e]; exact ht cs fr⟩
theorem Fr.sub {B : Nat} {X Y : List Nat} {w w' : World} (h : Fr B X w w') (hs : ∀ x ∈ X, x ∈ Y) : Fr B Y w w' :=
  ⟨h.os, h.tape, h.output, h.size, fun b hb hY ht => h.block b hb (fun hx => hY (hs b hx)) ht⟩
theorem Fr.of_below {B : Nat} {X : List Nat} {w w' : World} (h : Below w.heap.size w w') : Fr B X w w' :=
  ⟨h.os, h.tape, h.output, h.size, fun b hb _ _ => h.block b hb⟩
theorem Fr.alloc {B : Nat} {X : List Nat} {w w' : World} (h : Fr B X w w') (o : Obj) : Fr B X w (w'.alloc o) :=
  h.trans (.of_below ((Below.refl _ _).alloc (Nat.le_refl _) _))
theorem Fr.drew {B : Nat} {X : List Nat} {w w' : World} (h : Fr B X w w') : Fr B X w w'.drew :=
  h.trans (.of_below (Below.refl _ _).drew)
theorem Fr.set {B : Nat} {X : List Nat} {w w' : World} (h : Fr B X w w') {a : Addr} (ha : a.block ∈ X) (v : Value) : Fr B X w (w'.setCell a v) :=
  h.trans ⟨rfl, rfl, rfl, by simp [World.setCell], fun b _ hX _ => Below.heap_setCell _ _ _ _ (fun e => hX (e ▸ ha))⟩

/-- A row of another block than X, and of no logs, stays. -/
theorem Fr.owns {B : Nat} {X : List Nat} {w w' : World} {base : Nat} {e : TypeId} {size : Nat} {v : Value} {n : Nat} {xs : List Value} (h : Fr B X w w') (ho : w.ownsRow base e size v n xs) (hX : ∀ g, v.ownBlock = some g → g ∉ X) (hne : e ≠ 64) : w'.ownsRow base e size v n xs := by
  refine ⟨ho.1, ?_⟩
  rcases ho.2 with h0 | ⟨g, cap, cur, hv, hb, hg, r⟩
  · exact .inl h0
  · refine .inr ⟨g, cap, cur, hv, hb, ?_, r⟩
    rw [h.block g (blk_lt hg) (hX g (by rw [hv]; rfl)) (.inr fun cs fr e0 => ?_)]
    · exact hg
    · rw [hg] at e0
      simp only [Option.some.injEq, Obj.cells.injEq] at e0
      exact hne e0.2.1

/-- Where the machine lies. -/
structure RM where
  bM : Nat
  gK : Nat
  cK : Nat
  gJ : Nat
  cJ : Nat
  gT : Nat
  cT : Nat
  gM : Nat
  cM : Nat

/-- What is fixed of the plain machine. -/
structure Good (k : List Ins) (J : List Int) (n mn : Nat) (ts : List Thr) (mem : List Int) : Prop where
  chk : chk k = (0, 0)
  joins : JoinsAre k J
  regs : Reg4 ts
  lenT : ts.length = n
  n1 : 1 ≤ n
  n16 : n ≤ 16
  lenM : mem.length = mn
  m1 : 1 ≤ mn
  m32 : mn ≤ 32

def RM.X (L : RM) (bP : Nat) : List Nat := [bP, L.bM, L.gT, L.gM]

end Go.Proofs.Ytbhbacphiinpeaa

/- Of the plain machine: what stays as it is while it runs. -/
namespace Go.Proofs.Ytbhbacphiinpeaa
open Go.RowKit

theorem mem_keeps (x : Ins) {t : Thr} (mem : List Int) (h : t.regs.length = 4) : (memP x t mem).2.2.1.regs.length = 4 ∧ (memP x t mem).2.2.2.length = mem.length := by
  unfold memP
  split
  · exact ⟨h, rfl⟩
  split
  · exact ⟨put_len h _ _, rfl⟩
  split
  · exact ⟨h, by simp⟩
  split
  · exact ⟨put_len h _ _, by simp⟩
  · exact ⟨h, rfl⟩

theorem one_keeps (x : Ins) {t : Thr} (mem : List Int) (h : t.regs.length = 4) : (oneP x t mem).2.2.1.regs.length = 4 ∧ (oneP x t mem).2.2.2.length = mem.length := by
  unfold oneP
  split
  · exact ⟨put_len h _ _, rfl⟩
  split
  · exact ⟨put_len h _ _, rfl⟩
  split
  · exact ⟨put_len h _ _, rfl⟩
  split
  · exact ⟨put_len h _ _, rfl⟩
  split
  · exact ⟨put_len h _ _, rfl⟩
  split
  · split
    · exact ⟨h, rfl⟩
    · exact ⟨put_len h _ _, rfl⟩
  split
  · exact ⟨put_len h _ _, rfl⟩
  split
  · exact ⟨put_len h _ _, rfl⟩
  · exact mem_keeps x mem h

theorem mem_fault {x : Ins} {t : Thr} {mem : List Int} (h : (memP x t mem).1 ≠ 0) : (memP x t mem).2.2 = (t, mem) := by
  unfold memP at h ⊢
  split
  · rfl
  · rename_i h1
    rw [if_neg h1] at h
    split at h
    · simp at h
    split at h
    · simp at h
    split at h <;> simp at h

theorem one_fault {x : Ins} {t : Thr} {mem : List Int} (h : (oneP x t mem).1 ≠ 0) : (oneP x t mem).2.2 = (t, mem) := by
  unfold oneP at h ⊢
  split
  · rename_i h1; simp [h1] at h
  rename_i h1; rw [if_neg h1] at h
  split
  · rename_i h1; simp [h1] at h
  rename_i h1; rw [if_neg h1] at h
  split
  · rename_i h1; simp [h1] at h
  rename_i h1; rw [if_neg h1] at h
  split
  · rename_i h1; simp [h1] at h
  rename_i h1; rw [if_neg h1] at h
  split
  · rename_i h1; simp [h1] at h
  rename_i h1; rw [if_neg h1] at h
  split
  · rename_i h1
    rw [if_pos h1] at h
    split
    · rfl
    · rename_i h2; rw [if_neg h2] at h; simp at h
  rename_i h1; rw [if_neg h1] at h
  split
  · rename_i h1; simp [h1] at h
  rename_i h1; rw [if_neg h1] at h
  split
  · rename_i h1; simp [h1] at h
  rename_i h1; rw [if_neg h1] at h
  exact mem_fault h

/-- The address of an operation that is done: none, or a word's. -/
theorem one_addr {x : Ins} {t : Thr} {mem : List Int} : (oneP x t mem).2.1 = -1 ∨ (0 ≤ (oneP x t mem).2.1 ∧ (oneP x t mem).2.1 < mem.length) := by
  have hm : (memP x t mem).2.1 = -1 ∨ (0 ≤ (memP x t mem).2.1 ∧ (memP x t mem).2.1 < mem.length) := by
    unfold memP
    split
    · exact .inl rfl
    · rename_i h1
      have h2 : 0 ≤ W64 (t.get x.b + x.c) ∧ W64 (t.get x.b + x.c) < mem.length := by omega
      split
      · exact .inr h2
      split
      · exact .inr h2
      split <;> exact .inr h2
  unfold oneP
  repeat' split
  all_goals first | exact .inl rfl | exact hm

theorem each_keeps (x : Ins) : ∀ (g : List Nat) (ts : List Thr) (mem : List Int), Reg4 ts → Reg4 (eachL x g ts mem).1 ∧ (eachL x g ts mem).1.length = ts.length ∧ (eachL x g ts mem).2.1.length = mem.length
  | [], ts, mem, h => ⟨h, rfl, rfl⟩
  | t :: g, ts, mem, h => by
    have h4 : (ts.getD t thr0).regs.length = 4 := by
      rw [List.getD_eq_getElem?_getD]
      cases hx : ts[t]? with
      | none => rfl
      | some y => exact h y (List.mem_of_getElem? hx)
    obtain ⟨k1, k2⟩ := one_keeps x mem h4
    unfold eachL
    split
    · exact ⟨h, rfl, rfl⟩
    · obtain ⟨a1, a2, a3⟩ := each_keeps x g (ts.set t (oneP x (ts.getD t thr0) mem).2.2.1) (oneP x (ts.getD t thr0) mem).2.2.2 (h.set t k1)
      exact ⟨a1, by rw [a2]; simp, by rw [a3, k2]⟩

theorem each_yes {x : Ins} {g : List Nat} {ts : List Thr} {mem : List Int} {i t : Nat} (ht : g[i]? = some t) (h0 : (oneP x (ts.getD t thr0) mem).1 = 0) :
    eachL x (g.drop i) ts mem = ((eachL x (g.drop (i + 1)) (ts.set t (oneP x (ts.getD t thr0) mem).2.2.1) (oneP x (ts.getD t thr0) mem).2.2.2).1,
       (eachL x (g.drop (i + 1)) (ts.set t (oneP x (ts.getD t thr0) mem).2.2.1) (oneP x (ts.getD t thr0) mem).2.2.2).2.1,
       (if 0 ≤ (oneP x (ts.getD t thr0) mem).2.1 then [(oneP x (ts.getD t thr0) mem).2.1 / 4] else []) ++ (eachL x (g.drop (i + 1)) (ts.set t (oneP x (ts.getD t thr0) mem).2.2.1) (oneP x (ts.getD t thr0) mem).2.2.2).2.2.1,
       (eachL x (g.drop (i + 1)) (ts.set t (oneP x (ts.getD t thr0) mem).2.2.1) (oneP x (ts.getD t thr0) mem).2.2.2).2.2.2) := by
  obtain ⟨hl, he⟩ := List.getElem?_eq_some_iff.1 ht
  rw [List.drop_eq_getElem_cons hl, he, eachL, if_neg (by simpa using h0)]

theorem each_no {x : Ins} {g : List Nat} {ts : List Thr} {mem : List Int} {i t : Nat} (ht : g[i]? = some t) (h0 : (oneP x (ts.getD t thr0) mem).1 ≠ 0) :
    eachL x (g.drop i) ts mem = (ts, mem, [], some ((oneP x (ts.getD t thr0) mem).1, t)) := by
  obtain ⟨hl, he⟩ := List.getElem?_eq_some_iff.1 ht
  rw [List.drop_eq_getElem_cons hl, he, eachL, if_pos h0]

theorem segC_at {l : List Int} {i : Nat} {a : Int} (h : l[i]? = some a) : segC (l.take i) (l.drop i) = (if a ∈ l.take i then 0 else 1) + segC (l.take (i + 1)) (l.drop (i + 1)) := by
  obtain ⟨hl, he⟩ := List.getElem?_eq_some_iff.1 h
  rw [List.drop_eq_getElem_cons hl, he, segC, List.take_add_one, h]
  rfl

theorem segC_le : ∀ (seen l : List Int), segC seen l ≤ l.length
  | seen, [] => Nat.le_refl _
  | seen, a :: l => by
    have := segC_le (seen ++ [a]) l
    unfold segC
    simp only [List.length_cons]
    split <;> omega

end Go.Proofs.Ytbhbacphiinpeaa

