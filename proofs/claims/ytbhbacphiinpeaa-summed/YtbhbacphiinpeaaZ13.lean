/- Mh Mi Mj: joined. -/
import Derived.Test.YtbhbacphiinpeaaZ12
import Derived.Handy

/- What a thread does in the program is what it does in the document; plain. -/
namespace Go.Proofs.Ytbhbacphiinpeaa
open Go.RowKit

theorem CellsAt.get {ts : List Thr} {mem : List Int} {x : QM} (h : CellsAt ts mem x) {t : Nat} (ht : t < ts.length) {r : Nat} (hr : r < 4) : rgA x t r = (ts.getD t thr0).get (r : Int) := by
  unfold rgA Thr.get
  rw [List.getD_eq_getElem?_getD, h.regs t ht r hr, List.getD_eq_getElem?_getD]
  rfl
theorem CellsAt.word {ts : List Thr} {mem : List Int} {x : QM} (h : CellsAt ts mem x) {i : Nat} (hi : i < x.cnt) : x.wd.getD i 0 = mem.getD i 0 := by
  rw [← h.wd, List.getD_eq_getElem?_getD, List.getD_eq_getElem?_getD, List.getElem?_take_of_lt hi]

theorem getD_self {ts : List Thr} {t : Nat} (ht : t < ts.length) : ts.getD t thr0 = ts[t] := by
  rw [List.getD_eq_getElem?_getD, List.getElem?_eq_getElem ht]; rfl
theorem reg4_at {ts : List Thr} (h : Reg4 ts) {t : Nat} (ht : t < ts.length) : (ts.getD t thr0).regs.length = 4 := by
  rw [getD_self ht]; exact h _ (List.getElem_mem ht)

theorem CellsAt.put {ts : List Thr} {mem : List Int} {x : QM} (h : CellsAt ts mem x) {t : Nat} (ht : t < ts.length) {a : Nat} (ha : a < 4) (v : Int) : CellsAt (ts.set t ((ts.getD t thr0).put (a : Int) v)) mem (rgPut x t a v) := by
  refine ⟨h.n.trans (by simp), h.n16, h.f0, fun u hu => ?_, by simp [rgPut, h.rl], fun u hu r hr => ?_, h.reg4.set t (put_len (reg4_at h.reg4 ht) _ _), h.cnt, h.c32, h.wl, h.wd⟩
  · rw [List.length_set] at hu
    rw [getD_set]
    split
    · rename_i e; rw [← e.1]; exact h.names t ht
    · exact h.names u hu
  · rw [List.length_set] at hu
    show (x.rg.set (t * 4 + a) v)[u * 4 + r]? = _
    by_cases hut : t = u
    · subst hut
      rw [show (ts.set t ((ts.getD t thr0).put (a : Int) v)).getD t thr0 = (ts.getD t thr0).put (a : Int) v by rw [getD_set, if_pos ⟨rfl, ht⟩]]
      unfold Thr.put
      simp only [Int.toNat_natCast]
      rw [List.getElem?_set, List.getElem?_set, reg4_at h.reg4 ht]
      have hn := h.n
      have hn16 := h.n16
      have hrl := h.rl
      by_cases har : a = r
      · subst har; simp only [if_true]; rw [if_pos (by omega), if_pos ha]
      · rw [if_neg (by omega), if_neg har]; exact h.regs t ht r hr
    · rw [getD_set, List.getElem?_set, if_neg (by omega), if_neg (fun e => hut e.1)]; exact h.regs u hu r hr

theorem CellsAt.setW {ts : List Thr} {mem : List Int} {x : QM} (h : CellsAt ts mem x) (i : Nat) (v : Int) : CellsAt ts (mem.set i v) (wdPut x i v) := by
  refine ⟨h.n, h.n16, h.f0, h.names, h.rl, h.regs, h.reg4, h.cnt.trans (by simp), h.c32, by simp [wdPut, h.wl], ?_⟩
  show (x.wd.set i v).take x.cnt = mem.set i v
  rw [List.take_set, h.wd]

/-- What else of the machine stays. -/
structure Only (x x' : QM) : Prop where
  n : x'.n = x.n
  st : x'.st = x.st
  first : x'.first = x.first
  cnt : x'.cnt = x.cnt
  qs : x'.qs = x.qs
theorem Only.refl (x : QM) : Only x x := ⟨rfl, rfl, rfl, rfl, rfl⟩
theorem Only.trans {x y z : QM} (h : Only x y) (k : Only y z) : Only x z := ⟨k.n.trans h.n, k.st.trans h.st, k.first.trans h.first, k.cnt.trans h.cnt, k.qs.trans h.qs⟩

def segBit (ad : Int) : Int := if 0 ≤ ad then ((2 ^ (ad.toNat / 4) : Nat) : Int) else 0

theorem set_self {ts : List Thr} {t : Nat} (ht : t < ts.length) : ts.set t (ts.getD t thr0) = ts := by
  apply List.ext_getElem?
  intro i
  rw [List.getElem?_set]
  by_cases e : t = i
  · subst e
    simp only [if_true]
    rw [if_pos ht, getD_self ht, List.getElem?_eq_getElem ht]
  · rw [if_neg e]

theorem acc_one {ts : List Thr} {mem : List Int} {x : QM} (h : CellsAt ts mem x) {t : Nat} (ht : t < ts.length) {o : Int} {a b c : Nat} (ha : a < 4) (hb : b < 4) (ho : o = 9 ∨ o = 10 ∨ o = 11) :
    (accQ x t o a b c).1 = segBit (memP ⟨o, a, b, c⟩ (ts.getD t thr0) mem).2.1 ∧ (accQ x t o a b c).2.1 = (memP ⟨o, a, b, c⟩ (ts.getD t thr0) mem).1 ∧
      CellsAt (ts.set t (memP ⟨o, a, b, c⟩ (ts.getD t thr0) mem).2.2.1) (memP ⟨o, a, b, c⟩ (ts.getD t thr0) mem).2.2.2 (accQ x t o a b c).2.2 ∧ Only x (accQ x t o a b c).2.2 := by
  have gb := h.get ht hb
  have ga := h.get ht ha
  unfold accQ memP
  dsimp only
  rw [← gb, ← ga, ← h.cnt]
  by_cases hbad : W64 (rgA x t b + (c : Int)) < 0 ∨ (x.cnt : Int) ≤ W64 (rgA x t b + (c : Int))
  · rw [if_pos hbad, if_pos hbad]
    exact ⟨rfl, rfl, by dsimp only; rw [set_self ht]; exact h, Only.refl _⟩
  · rw [if_neg hbad, if_neg hbad]
    generalize W64 (rgA x t b + (c : Int)) = ad at hbad
    obtain ⟨q, rfl⟩ : ∃ q : Nat, ad = (q : Int) := ⟨ad.toNat, by omega⟩
    simp only [Int.toNat_natCast]
    have hq : q < x.cnt := by omega
    rw [h.word hq]
    have hs : segBit (q : Int) = ((2 ^ (q / 4) : Nat) : Int) := by unfold segBit; rw [if_pos (by omega)]; simp
    rcases ho with rfl | rfl | rfl
    · rw [if_pos rfl, if_pos rfl]
      exact ⟨hs.symm, rfl, h.put ht ha _, ⟨rfl, rfl, rfl, rfl, rfl⟩⟩
    · rw [if_neg (by decide), if_pos rfl, if_neg (by decide), if_pos rfl]
      refine ⟨hs.symm, rfl, ?_, ⟨rfl, rfl, rfl, rfl, rfl⟩⟩
      dsimp only
      rw [set_self ht]; exact h.setW _ _
    · simp only [show ((11 : Int) = 9) ↔ False by decide, show ((11 : Int) = 10) ↔ False by decide, if_false, if_true]
      exact ⟨hs.symm, trivial, (h.setW _ _).put ht ha _, ⟨rfl, rfl, rfl, rfl, rfl⟩⟩

theorem oper_one {ts : List Thr} {mem : List Int} {x : QM} (h : CellsAt ts mem x) {t : Nat} (ht : t < ts.length) {o : Int} {a b c : Nat} (ha : a < 4) (hb : o ≠ 1 → b < 4) (hc : 2 ≤ o ∧ o ≤ 7 → c < 4) (ho : 1 ≤ o ∧ o ≤ 11) :
    (operQ x t o a b c).1 = segBit (oneP ⟨o, a, b, c⟩ (ts.getD t thr0) mem).2.1 ∧ (operQ x t o a b c).2.1 = (oneP ⟨o, a, b, c⟩ (ts.getD t thr0) mem).1 ∧
      CellsAt (ts.set t (oneP ⟨o, a, b, c⟩ (ts.getD t thr0) mem).2.2.1) (oneP ⟨o, a, b, c⟩ (ts.getD t thr0) mem).2.2.2 (operQ x t o a b c).2.2 ∧ Only x (operQ x t o a b c).2.2 := by
  by_cases hm : o = 9 ∨ o = 10 ∨ o = 11
  · rw [show operQ x t o a b c = accQ x t o a b c by unfold operQ; rw [if_pos hm]]
    have e : oneP ⟨o, a, b, c⟩ (ts.getD t thr0) mem = memP ⟨o, a, b, c⟩ (ts.getD t thr0) mem := by
      unfold oneP
      dsimp only
      rw [if_neg (by omega), if_neg (by omega), if_neg (by omega), if_neg (by omega), if_neg (by omega), if_neg (by omega), if_neg (by omega), if_neg (by omega)]
    rw [e]
    exact acc_one h ht ha (hb (by omega)) hm
  unfold operQ
  rw [if_neg hm]
  by_cases h1 : o = 1
  · subst h1
    exact ⟨rfl, rfl, h.put ht ha _, ⟨rfl, rfl, rfl, rfl, rfl⟩⟩
  rw [if_neg h1]
  have hb' := hb h1
  by_cases h8 : o = 8
  · subst h8
    refine ⟨rfl, rfl, ?_, ⟨rfl, rfl, rfl, rfl, rfl⟩⟩
    have e : W64 (x.first + (t : Int)) = (ts.getD t thr0).name := by
      rw [h.names t ht]
      have := h.f0
      have := h.n
      have := h.n16
      unfold W64 wrap64
      omega
    show CellsAt (ts.set t ((ts.getD t thr0).put a (ts.getD t thr0).name)) mem (rgPut x t a (W64 (x.first + (t : Int))))
    rw [e]; exact h.put ht ha _
  rw [if_neg h8]
  have hc' := hc (by omega)
  rw [h.get ht hb', h.get ht hc']
  have set0 := set_self ht
  rcases (by omega : o = 2 ∨ o = 3 ∨ o = 4 ∨ o = 5 ∨ o = 6 ∨ o = 7) with rfl | rfl | rfl | rfl | rfl | rfl
  · exact ⟨rfl, rfl, h.put ht ha _, ⟨rfl, rfl, rfl, rfl, rfl⟩⟩
  · exact ⟨rfl, rfl, h.put ht ha _, ⟨rfl, rfl, rfl, rfl, rfl⟩⟩
  · exact ⟨rfl, rfl, h.put ht ha _, ⟨rfl, rfl, rfl, rfl, rfl⟩⟩
  · have e1 : oneP ⟨5, a, b, c⟩ (ts.getD t thr0) mem = if (ts.getD t thr0).get c = 0 then (1, -1, ts.getD t thr0, mem) else (0, -1, (ts.getD t thr0).put a (W64 (Int.tdiv ((ts.getD t thr0).get b) ((ts.getD t thr0).get c))), mem) := rfl
    have e2 : compP 5 ((ts.getD t thr0).get b) ((ts.getD t thr0).get c) = if (ts.getD t thr0).get c = 0 then (0, 1) else (wrap64 (Int.tdiv ((ts.getD t thr0).get b) ((ts.getD t thr0).get c)), 0) := rfl
    rw [e1, e2]
    by_cases hz : (ts.getD t thr0).get (c : Int) = 0
    · rw [if_pos hz, if_pos hz]
      exact ⟨rfl, rfl, by dsimp only; rw [set0]; exact h, Only.refl _⟩
    · rw [if_neg hz, if_neg hz]
      exact ⟨rfl, rfl, h.put ht ha _, ⟨rfl, rfl, rfl, rfl, rfl⟩⟩
  · exact ⟨rfl, rfl, h.put ht ha _, ⟨rfl, rfl, rfl, rfl, rfl⟩⟩
  · exact ⟨rfl, rfl, h.put ht ha _, ⟨rfl, rfl, rfl, rfl, rfl⟩⟩

end Go.Proofs.Ytbhbacphiinpeaa

/- Segments as bits, and a group's threads one after the other, by lanes; plain. -/
namespace Go.Proofs.Ytbhbacphiinpeaa
open Go.RowKit

def segMask (l : List Int) : Nat := l.foldl (fun m s => m ||| 2 ^ s.toNat) 0

theorem segMask_snoc (l : List Int) (s : Int) : segMask (l ++ [s]) = segMask l ||| 2 ^ s.toNat := by simp [segMask]

theorem popB_or : ∀ m : Fin 256, ∀ s : Fin 8, popB (m.1 ||| 2 ^ s.1) = popB m.1 + (if m.1.testBit s.1 then 0 else 1) := by set_option maxRecDepth 100000 in decide

theorem or_lt256 {m s : Nat} (hm : m < 256) (hs : s < 8) : m ||| 2 ^ s < 256 := Nat.or_lt_two_pow (n := 8) hm (Nat.pow_lt_pow_right (by omega) hs)

def Seg8 (l : List Int) : Prop := ∀ s ∈ l, 0 ≤ s ∧ s < 8

theorem segMask_lt {l : List Int} (h : Seg8 l) : segMask l < 256 := by
  have gen : ∀ (l : List Int) (m : Nat), Seg8 l → m < 256 → l.foldl (fun m s => m ||| 2 ^ s.toNat) m < 256 := by
    intro l
    induction l with
    | nil => intro m _ hm; exact hm
    | cons a l ih =>
      intro m h hm
      rw [List.foldl_cons]
      exact ih _ (fun s hs => h s (by simp [hs])) (or_lt256 hm (by have := h a (by simp); omega))
  exact gen l 0 h (by omega)

theorem segMask_bit (l : List Int) (h : Seg8 l) (s : Nat) (_hs : s < 8) : (segMask l).testBit s = decide ((s : Int) ∈ l) := by
  have gen : ∀ (l : List Int) (m : Nat), Seg8 l → (l.foldl (fun m s => m ||| 2 ^ s.toNat) m).testBit s = (m.testBit s || decide ((s : Int) ∈ l)) := by
    intro l
    induction l with
    | nil => intro m _; simp
    | cons a l ih =>
      intro m h
      rw [List.foldl_cons, ih _ (fun s hs => h s (by simp [hs])), Nat.testBit_or, Bool.or_assoc]
      congr 1
      rw [Nat.testBit_two_pow]
      have ha := h a (by simp)
      by_cases e : (s : Int) = a
      · subst e; simp
      · have : ¬ (a.toNat = s) := by omega
        simp [this, e]
  have := gen l 0 h
  unfold segMask
  rw [this]; simp

theorem segC_mask : ∀ (l seen : List Int), Seg8 (seen ++ l) → popB (segMask seen) + segC seen l = popB (segMask (seen ++ l))
  | [], seen, _ => by simp [segC]
  | a :: l, seen, h => by
    have hs : Seg8 seen := fun s hs => h s (by simp [hs])
    have ha := h a (by simp)
    have ih := segC_mask l (seen ++ [a]) (by rw [List.append_assoc]; exact h)
    rw [List.append_assoc] at ih
    rw [show seen ++ a :: l = seen ++ ([a] ++ l) from rfl, ← ih, segMask_snoc, segC]
    have hm := segMask_lt hs
    have hp := popB_or ⟨segMask seen, hm⟩ ⟨a.toNat, by omega⟩
    simp only at hp
    rw [hp, segMask_bit seen hs a.toNat (by omega), show ((a.toNat : Nat) : Int) = a by omega]
    by_cases e : a ∈ seen
    · simp [e]
    · simp [e]; omega

theorem segC_all {l : List Int} (h : Seg8 l) : segC [] l = popB (segMask l) := by
  have := segC_mask l [] (by simpa using h)
  simp only [List.nil_append] at this
  rw [← this]
  simp [segMask, popB]

/-- The threads of a group from lane l on. -/
def gFrom (b m l : Nat) : List Nat := ((List.range' l (4 - l)).filter fun j => m.testBit j).map fun j => b + j
theorem gFrom_zero (b m : Nat) : gFrom b m 0 = gOf b m := by
  unfold gFrom gOf lanes
  rw [List.range_eq_range']
theorem gFrom_end (b m : Nat) : gFrom b m 4 = [] := by simp [gFrom]
theorem gFrom_in {b m l : Nat} (hl : l < 4) (h : m.testBit l = true) : gFrom b m l = (b + l) :: gFrom b m (l + 1) := by
  unfold gFrom
  rw [show 4 - l = (4 - (l + 1)) + 1 by omega, List.range'_succ, List.filter_cons_of_pos h, List.map_cons]
theorem gFrom_out {b m l : Nat} (hl : l < 4) (h : m.testBit l = false) : gFrom b m l = gFrom b m (l + 1) := by
  unfold gFrom
  rw [show 4 - l = (4 - (l + 1)) + 1 by omega, List.range'_succ, List.filter_cons_of_neg (by simp [h])]

/-- What the threads from a lane on make, added to what those ahead have made. -/
def eachSum (s : List Int) (E : List Thr × List Int × List Int × Option (Int × Nat)) : List Thr × List Int × List Int × Option (Int × Nat) := (E.1, E.2.1, s ++ E.2.2.1, E.2.2.2)

def segL (ad : Int) : List Int := if 0 ≤ ad then [ad / 4] else []
theorem segMask_or (s : List Int) (ad : Int) : ((segMask (s ++ segL ad) : Nat) : Int) = ((segMask s ||| (segBit ad).toNat : Nat) : Int) := by
  unfold segL segBit
  by_cases h : 0 ≤ ad
  · rw [if_pos h, if_pos h, segMask_snoc]
    obtain ⟨q, rfl⟩ : ∃ q : Nat, ad = (q : Int) := ⟨ad.toNat, by omega⟩
    have e : ((q : Int) / 4).toNat = q / 4 := by omega
    rw [e, Int.toNat_natCast, Int.toNat_natCast]
  · rw [if_neg h, if_neg h]; simp

theorem each_step {x : Ins} {b m l : Nat} {s : List Int} {ts : List Thr} {mem : List Int} {F : List Thr × List Int × List Int × Option (Int × Nat)} (hl : l < 4) (hm : m.testBit l = true) (h : F = eachSum s (eachL x (gFrom b m l) ts mem)) (h0 : (oneP x (ts.getD (b + l) thr0) mem).1 = 0) :
    F = eachSum (s ++ segL (oneP x (ts.getD (b + l) thr0) mem).2.1) (eachL x (gFrom b m (l + 1)) (ts.set (b + l) (oneP x (ts.getD (b + l) thr0) mem).2.2.1) (oneP x (ts.getD (b + l) thr0) mem).2.2.2) := by
  rw [h, gFrom_in hl hm, eachL, if_neg (by simpa using h0)]
  unfold eachSum segL
  simp

theorem each_stop {x : Ins} {b m l : Nat} {s : List Int} {ts : List Thr} {mem : List Int} {F : List Thr × List Int × List Int × Option (Int × Nat)} (hl : l < 4) (hm : m.testBit l = true) (h : F = eachSum s (eachL x (gFrom b m l) ts mem)) (h0 : (oneP x (ts.getD (b + l) thr0) mem).1 ≠ 0) :
    F = (ts, mem, s, some ((oneP x (ts.getD (b + l) thr0) mem).1, b + l)) := by
  rw [h, gFrom_in hl hm, eachL, if_pos h0]
  unfold eachSum
  simp

end Go.Proofs.Ytbhbacphiinpeaa

/- What 'Do' of package cells does. -/
namespace Go.Proofs.Ytbhbacphiinpeaa
open Go.RowKit

structure DoInv (w wr : World) (L : XM) (k : List Ins) (J : List Int) (x xl : QM) (ins : Ins) (b m l : Nat) (s : List Int) (ts : List Thr) (mem : List Int) (n : Nat) (F : List Thr × List Int × List Int × Option (Int × Nat)) : Prop where
  mx : MX wr L k J xl
  at0 : CellsAt ts mem xl
  only : Only x xl
  fr : ∀ B, Fr B [L.bX] w wr
  box : wr.heap[w.heap.size]? = some (.cells #[.int .i64 ins.o, .int .i64 ins.a, .int .i64 ins.b, .int .i64 ins.c] 31)
  out : wr.heap[w.heap.size + 1]? = some (.cells #[.int .i64 0, .int .i64 0, .int .i64 0] 119)
  sum : F = eachSum s (eachL ins (gFrom b m l) ts mem)
  seg : Seg8 s
  len : ts.length = n

def faultOf (o : Option (Int × Nat)) : Int × Int := match o with | none => (0, 0) | some (f, t) => (f, (t : Int))

def DoAns (w : World) (L : XM) (k : List Ins) (J : List Int) (x : QM) (F : List Thr × List Int × List Int × Option (Int × Nat)) (e : Ending) (w' : World) : Prop :=
  e = .returned (.agg #[.int .i64 (segC [] F.2.2.1), .int .i64 (faultOf F.2.2.2).1, .int .i64 (faultOf F.2.2.2).2]) ∧ ∃ x', MX w' L k J x' ∧ CellsAt F.1 F.2.1 x' ∧ Only x x' ∧ ∀ B, Fr B [L.bX] w w'

theorem fr_block {w w' : World} {X : List Nat} (h : ∀ B, Fr B X w w') {g : Nat} {o : Obj} (hg : w.heap[g]? = some o) (hX : g ∉ X) : w'.heap[g]? = some o :=
  ((h (g + 1)).block g (blk_lt hg) hX (.inl (Nat.lt_succ_self g))).trans hg
theorem seg_ok {s : List Int} (h : Seg8 s) {ad : Int} {n : Nat} (hn : n ≤ 32) (ha : ad = -1 ∨ (0 ≤ ad ∧ ad < n)) : Seg8 (s ++ segL ad) := by
  intro z hz
  rw [List.mem_append] at hz
  rcases hz with hz | hz
  · exact h z hz
  · unfold segL at hz
    split at hz
    · rw [List.mem_singleton] at hz; omega
    · cases hz
theorem segBit_nat (ad : Int) : segBit ad = (((segBit ad).toNat : Nat) : Int) := by
  unfold segBit
  split
  · rw [Int.toNat_natCast]
  · rfl
theorem seg_or {s : List Int} (h : Seg8 s) {ad : Int} {n : Nat} (hn : n ≤ 32) (ha : ad = -1 ∨ (0 ≤ ad ∧ ad < n)) : _root_.Go.bits .or .i64 (segMask s : Int) (segBit ad) = ((segMask (s ++ segL ad) : Nat) : Int) := by
  have h1 := segMask_lt h
  have h2 := segBit_nat ad
  have h3 : (segBit ad).toNat < 4294967296 := by
    unfold segBit
    split
    · have : ad.toNat / 4 < 8 := by omega
      rw [Int.toNat_natCast]
      exact Nat.lt_of_lt_of_le (Nat.pow_lt_pow_right (by omega) this) (by decide)
    · decide
  rw [segMask_or, h2, bor_big (by omega) h3]
  rw [← h2]

theorem box3_set {w : World} {B : Nat} {x y z : Value} {t : TypeId} (h : w.heap[B]? = some (.cells #[x, y, z] t)) (a b c : Value) : (((w.setCell ⟨B, 0, none⟩ a).setCell ⟨B, 1, none⟩ b).setCell ⟨B, 2, none⟩ c).heap[B]? = some (.cells #[a, b, c] t) := by
  have h1 := heap_setCell_same w B 0 _ t a h
  have h2 := heap_setCell_same _ B 1 _ t b h1
  have h3 := heap_setCell_same _ B 2 _ t c h2
  rw [h3]; rfl
theorem MX.setOther {w : World} {L : XM} {k : List Ins} {J : List Int} {x : QM} (h : MX w L k J x) {B : Nat} (hB : B ≠ L.bX ∧ B ≠ L.gK ∧ B ≠ L.gJ) (i : Nat) (v : Value) : MX (w.setCell ⟨B, i, none⟩ v) L k J x :=
  h.keep fun g hg => Below.heap_setCell _ _ _ _ (fun e => by dsimp only at e; omega)
theorem Fr.setNew {B : Nat} {X : List Nat} {w w' : World} (h : Fr B X w w') {g : Nat} (hg : w.heap.size ≤ g) (i : Nat) (v : Value) : Fr B X w (w'.setCell ⟨g, i, none⟩ v) :=
  ⟨h.os, h.tape, h.output, by simp only [World.setCell, Array.size_modify]; exact h.size, fun b hb hX ht => (Below.heap_setCell _ _ _ _ (fun e => by dsimp only at e; omega)).trans (h.block b hb hX ht)⟩
theorem box3 {w : World} {B : Nat} {a b c : Value} {t : TypeId} (h : w.heap[B]? = some (.cells #[a, b, c] t)) : w.cell? ⟨B, 0, none⟩ = some a ∧ w.cell? ⟨B, 1, none⟩ = some b ∧ w.cell? ⟨B, 2, none⟩ = some c ∧ w.frozen? ⟨B, 0, none⟩ = false ∧ w.frozen? ⟨B, 1, none⟩ = false ∧ w.frozen? ⟨B, 2, none⟩ = false := by
  refine ⟨?_, ?_, ?_, frozen_of_row w B 0 _ t h, frozen_of_row w B 1 _ t h, frozen_of_row w B 2 _ t h⟩ <;> (rw [cell_of_row w B _ _ t _ h]; rfl)

set_option maxHeartbeats 1000000 in
set_option maxRecDepth 100000 in
theorem do_any {w : World} {L : XM} {k : List Ins} {J : List Int} {x : QM} (h : MX w L k J x) {ts : List Thr} {mem : List Int} (hc : CellsAt ts mem x) (o : Int) (a b c : Nat) (ha : a < 4) (hb : o ≠ 1 → b < 4) (hcc : 2 ≤ o ∧ o ≤ 7 → c < 4) (ho : 1 ≤ o ∧ o ≤ 11)
    (bs m : Nat) (hbs : bs ≤ 12) (hm : m < 16) (hg : ∀ l, l < 4 → m.testBit l = true → bs + l < ts.length) :
    Calls Try.prog 76 #[pC L, .agg #[.int .i64 o, .int .i64 a, .int .i64 b, .int .i64 c], .int .i64 bs, .int .i64 m] w (DoAns w L k J x (eachL ⟨o, a, b, c⟩ (gOf bs m) ts mem)) := by
  have H := hyd h
  have HC := hyd hc
  obtain ⟨n, Hn⟩ : ∃ n, Hid (ts.length = n) := ⟨_, rfl⟩
  rw [Hn.out] at hg
  have HG := hyd hg
  have HO := hyd ho
  have HB := hyd hb
  have HCC := hyd hcc
  clear h hc hg ho hb hcc
  obtain ⟨F, HFe⟩ : ∃ F, Hid (F = eachL ⟨o, a, b, c⟩ (gOf bs m) ts mem) := ⟨_, rfl⟩
  rw [← HFe.out]
  have HF : Hid (∀ B o, Fr B [L.bX] w (w.alloc o)) := fun B o => (Fr.refl _ _ _).alloc o
  unfold pC
  go_enter Try.func76, Try.ntmps76
  go_wp2_with fail
  have X1 := hyd (heap_alloc_new w (.cells #[.int .i64 o, .int .i64 a, .int .i64 b, .int .i64 c] 31))
  have X2 := hyd (heap_alloc_new (w.alloc (.cells #[.int .i64 o, .int .i64 a, .int .i64 b, .int .i64 c] 31)) (.cells #[.int .i64 0, .int .i64 0, .int .i64 0] 119))
  rw [World.size_alloc] at X2
  have D0 : Hid (DoInv w ((w.alloc (.cells #[.int .i64 o, .int .i64 a, .int .i64 b, .int .i64 c] 31)).alloc (.cells #[.int .i64 0, .int .i64 0, .int .i64 0] 119)) L k J x x ⟨o, a, b, c⟩ bs m 0 [] ts mem n F) :=
    ⟨(H.out.alloc _).alloc _, HC.out, Only.refl _, fun B => (HF.out B _).alloc _, (Below.heap_alloc _ _ _ (blk_lt X1.out)).trans X1.out, X2.out, by rw [gFrom_zero, HFe.out]; rfl, (fun s hs => by cases hs), Hn.out⟩
  generalize (w.alloc (.cells #[.int .i64 o, .int .i64 a, .int .i64 b, .int .i64 c] 31)).alloc (.cells #[.int .i64 0, .int .i64 0, .int .i64 0] 119) = w1 at X2 D0 ⊢
  clear X1 X2
  have hsz : Hid (L.bX < w.heap.size) := H.out.lt (.inl rfl)
  have hnb : Hid (w.heap.size + 1 ≠ L.bX ∧ w.heap.size + 1 ≠ L.gK ∧ w.heap.size + 1 ≠ L.gJ) := by
    have h1 := H.out.lt (g := L.bX) (.inl rfl)
    have h2 := H.out.lt (g := L.gK) (.inr (.inl rfl))
    have h3 := H.out.lt (g := L.gJ) (.inr (.inr rfl))
    unfold Hid; omega
  go_loopw [9, 10] (fun tv lv wr => ∃ (l : Nat) (xl : QM) (s : List Int) (tl : List Thr) (ml : List Int), l ≤ 4 ∧ lv = .int .i64 l ∧ tv = .int .i64 (segMask s) ∧ Hid (DoInv w wr L k J x xl ⟨o, a, b, c⟩ bs m l s tl ml n F)) (fun _ lv _ => 4 - (intOf lv).toNat)
  case atStart => exact ⟨0, x, [], ts, mem, by omega, rfl, rfl, D0⟩
  case round =>
    obtain ⟨l, xl, s, tl, ml, hl4, rfl, rfl, D⟩ := hrel
    by_cases hl : l < 4
    · have l1 : (0 : Int) ≤ (l : Int) := by omega
      have l2 : (l : Int) < 4 := by omega
      cases hbit : m.testBit l
      · have hbt := bit_no hm hl hbit
        go_wp2_with fail
        refine ⟨⟨l + 1, xl, s, tl, ml, by omega, rfl, rfl, ?_⟩, ?_⟩
        · exact ⟨D.out.mx, D.out.at0, D.out.only, D.out.fr, D.out.box, D.out.out, by rw [← gFrom_out hl hbit]; exact D.out.sum, D.out.seg, D.out.len⟩
        · simp only [intOf]; omega
      · have hbt := bit_yes hm hl hbit
        obtain ⟨x0, x1, x2, x3⟩ := box4 D.out.box
        dsimp only at x0 x1 x2 x3
        have hT : bs + l < tl.length := by rw [D.out.len]; exact HG.out l hl hbit
        have hq := hyd (oper_any D.out.mx D.out.at0.c32 (bs + l) (by omega) o a b c ha HB.out HCC.out HO.out)
        rw [Int.natCast_add] at hq
        have hq2 := hyd (oper_one D.out.at0 hT ha HB.out HCC.out HO.out)
        have Had := hyd (one_addr (x := ⟨o, a, b, c⟩) (t := tl.getD (bs + l) thr0) (mem := ml))
        have Hst := hyd (each_step (x := ⟨o, a, b, c⟩) hl hbit D.out.sum)
        have Hsp := hyd (each_stop (x := ⟨o, a, b, c⟩) hl hbit D.out.sum)
        have Hk := hyd (one_keeps ⟨o, a, b, c⟩ ml (reg4_at D.out.at0.reg4 hT))
        obtain ⟨f, ad, th', ml', HR⟩ : ∃ f ad th' ml', Hid (oneP ⟨o, a, b, c⟩ (tl.getD (bs + l) thr0) ml = (f, ad, th', ml')) := ⟨_, _, _, _, rfl⟩
        rw [HR.out] at hq2 Had Hst Hsp Hk
        obtain ⟨sg, ft, x2', HQ⟩ : ∃ sg ft x2', Hid (operQ xl (bs + l) o a b c = (sg, ft, x2')) := ⟨_, _, _, rfl⟩
        rw [HQ.out] at hq hq2
        dsimp only at hq2 Had Hst Hsp Hk
        obtain ⟨k1, k2, k3, k4⟩ := hq2.out
        subst k1 k2
        have K3 := hyd k3
        have K4 := hyd k4
        have hm32 : Hid (ml.length ≤ 32) := by have h1 := D.out.at0.cnt; have h2 := D.out.at0.c32; unfold Hid; omega
        have hor := seg_or D.out.seg hm32.out Had.out
        clear hq2 k3 k4
        go_wp2_with fail
        refine hq.out.mono ?_
        rintro e w4 ⟨rfl, hM, hFr⟩
        have M4 := hyd hM
        have F4 := hyd hFr
        have B4 : Hid (w4.heap[w.heap.size]? = some (.cells #[.int .i64 o, .int .i64 a, .int .i64 b, .int .i64 c] 31)) := fr_block hFr D.out.box (fun hm => by have := List.mem_singleton.1 hm; have := hsz.out; omega)
        have O4 : Hid (w4.heap[w.heap.size + 1]? = some (.cells #[.int .i64 0, .int .i64 0, .int .i64 0] 119)) := fr_block hFr D.out.out (fun hm => by have := List.mem_singleton.1 hm; have := hsz.out; omega)
        clear hM hFr x0 x1 x2 x3
        by_cases hf : ft = 0
        · subst hf
          go_wp2_with fail
          refine ⟨⟨l + 1, x2', s ++ segL ad, tl.set (bs + l) th', ml', by omega, rfl, rfl, ?_⟩, ?_⟩
          · exact ⟨M4.out, K3.out, D.out.only.trans K4.out, fun B => (D.out.fr B).trans (F4.out B), B4.out, O4.out, Hst.out (by trivial), seg_ok D.out.seg hm32.out Had.out, by rw [List.length_set]; exact D.out.len⟩
          · simp only [intOf]; omega
        · have hfb : (ft == 0) = false := by simpa using hf
          have Hs := hyd (Hsp.out hf)
          have hne := hyd (one_fault (x := ⟨o, a, b, c⟩) (t := tl.getD (bs + l) thr0) (mem := ml) (by rw [HR.out]; exact hf))
          rw [HR.out] at hne
          go_wp2_with fail
          refine (sizeOf_any (segMask s) (segMask_lt D.out.seg) w4).mono ?_
          rintro e w5 ⟨rfl, hbl⟩
          have O5 : Hid (w5.heap[w.heap.size + 1]? = some (.cells #[.int .i64 0, .int .i64 0, .int .i64 0] 119)) := (hbl.block _ (blk_lt O4.out)).trans O4.out
          have M5 : Hid (MX w5 L k J x2') := M4.out.up hbl
          have F5 : Hid (∀ B, Fr B [L.bX] w w5) := fun B => ((D.out.fr B).trans (F4.out B)).trans (Fr.of_below hbl)
          obtain ⟨z0, z1, z2, z3, z4, z5⟩ := box3 O5.out
          clear hbl
          go_wp2_with fail
          have O6 := hyd (box3_set O5.out (.int .i64 (popB (segMask s))) (.int .i64 ft) (.int .i64 ((bs : Int) + (l : Int))))
          have M6 := hyd (((M5.out.setOther (B := w.heap.size + 1) hnb.out 0 (.int .i64 (popB (segMask s)))).setOther hnb.out 1 (.int .i64 ft)).setOther hnb.out 2 (.int .i64 ((bs : Int) + (l : Int))))
          have F6 : Hid (∀ B, Fr B [L.bX] w (((w5.setCell ⟨w.heap.size + 1, 0, none⟩ (.int .i64 (popB (segMask s)))).setCell ⟨w.heap.size + 1, 1, none⟩ (.int .i64 ft)).setCell ⟨w.heap.size + 1, 2, none⟩ (.int .i64 ((bs : Int) + (l : Int))))) := fun B => (((F5.out B).setNew (Nat.le_succ _) _ _).setNew (Nat.le_succ _) _ _).setNew (Nat.le_succ _) _ _
          generalize (((w5.setCell ⟨w.heap.size + 1, 0, none⟩ (.int .i64 (popB (segMask s)))).setCell ⟨w.heap.size + 1, 1, none⟩ (.int .i64 ft)).setCell ⟨w.heap.size + 1, 2, none⟩ (.int .i64 ((bs : Int) + (l : Int)))) = w6 at O6 M6 F6 ⊢
          obtain ⟨y0, y1, y2, -, -, -⟩ := box3 O6.out
          (try simp only [Exit.inBlock, Exit.then])
          refine bodyPost_ret (by simp [results, Try.results76, go_sem, y0, y1, y2]; try rfl) rfl ?_
          rw [Hs.out]
          refine ⟨?_, x2', M6.out, ?_, D.out.only.trans K4.out, F6.out⟩
          · dsimp only; rw [segC_all D.out.seg]; rfl
          · have hk3 := K3.out
            have e1 := congrArg Prod.fst hne.out
            have e2 := congrArg Prod.snd hne.out
            dsimp only at e1 e2
            rw [e1, e2, set_self hT] at hk3
            exact hk3
    · have : l = 4 := by omega
      subst this
      have hsum := D.out.sum
      rw [gFrom_end] at hsum
      have Hs := hyd hsum
      clear hsum
      go_wp2_with fail
      refine (sizeOf_any (segMask s) (segMask_lt D.out.seg) wr).mono ?_
      rintro e w5 ⟨rfl, hbl⟩
      have O5 : Hid (w5.heap[w.heap.size + 1]? = some (.cells #[.int .i64 0, .int .i64 0, .int .i64 0] 119)) := (hbl.block _ (blk_lt D.out.out)).trans D.out.out
      have M5 : Hid (MX w5 L k J xl) := D.out.mx.up hbl
      have F5 : Hid (∀ B, Fr B [L.bX] w w5) := fun B => (D.out.fr B).trans (Fr.of_below hbl)
      obtain ⟨z0, z1, z2, z3, z4, z5⟩ := box3 O5.out
      clear hbl
      go_wp2_with fail
      have O6 := hyd (box3_set O5.out (.int .i64 (popB (segMask s))) (.int .i64 0) (.int .i64 0))
      have M6 := hyd (((M5.out.setOther (B := w.heap.size + 1) hnb.out 0 (.int .i64 (popB (segMask s)))).setOther hnb.out 1 (.int .i64 0)).setOther hnb.out 2 (.int .i64 0))
      have F6 : Hid (∀ B, Fr B [L.bX] w (((w5.setCell ⟨w.heap.size + 1, 0, none⟩ (.int .i64 (popB (segMask s)))).setCell ⟨w.heap.size + 1, 1, none⟩ (.int .i64 0)).setCell ⟨w.heap.size + 1, 2, none⟩ (.int .i64 0))) := fun B => (((F5.out B).setNew (Nat.le_succ _) _ _).setNew (Nat.le_succ _) _ _).setNew (Nat.le_succ _) _ _
      generalize (((w5.setCell ⟨w.heap.size + 1, 0, none⟩ (.int .i64 (popB (segMask s)))).setCell ⟨w.heap.size + 1, 1, none⟩ (.int .i64 0)).setCell ⟨w.heap.size + 1, 2, none⟩ (.int .i64 0)) = w6 at O6 M6 F6 ⊢
      obtain ⟨y0, y1, y2, -, -, -⟩ := box3 O6.out
      (try simp only [Exit.inBlock, Exit.then])
      refine bodyPost_ret (by simp [results, Try.results76, go_sem, y0, y1, y2]; try rfl) rfl ?_
      rw [Hs.out]
      refine ⟨?_, xl, M6.out, D.out.at0, D.out.only, F6.out⟩
      simp only [eachSum, eachL, List.append_nil]
      rw [segC_all D.out.seg]; rfl

end Go.Proofs.Ytbhbacphiinpeaa

