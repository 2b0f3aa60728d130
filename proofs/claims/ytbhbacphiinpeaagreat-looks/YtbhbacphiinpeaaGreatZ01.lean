/- Spec View Ap Inv Lk: joined. -/
import Derived.WalkKit
import Derived.WalkSpells
import Derived.WalkLawsBesides
import Derived.Deep.AppendLies
import Derived.Test.YtbhbacphiinpeaaGreatRows
import Derived.WalkSmall

/- The plain functions of instructions, kernels and images by which the contracts of this seat are said; nothing of Go is in this text. -/
namespace Go.Proofs.YtbhbacphiinpeaaGreat
open Go.RowKit

structure Ins where
  o : Int
  a : Int
  b : Int
  c : Int

def bel (n m : Int) : Bool := decide (0 ≤ n) && decide (n < m)

def okB (n : Int) (x : Ins) : Bool :=
  if x.o = 0 ∨ x.o = 14 then x.a == 0 && x.b == 0 && x.c == 0
  else if x.o = 1 then bel x.a 4 && bel x.b 256 && x.c == 0
  else if 2 ≤ x.o ∧ x.o ≤ 7 then bel x.a 4 && bel x.b 4 && bel x.c 4
  else if x.o = 8 then bel x.a 4 && x.b == 0 && x.c == 0
  else if 9 ≤ x.o ∧ x.o ≤ 11 then bel x.a 4 && bel x.b 4 && bel x.c 32
  else if x.o = 12 then x.a == 0 && bel x.b n && x.c == 0
  else if x.o = 13 then bel x.a 4 && bel x.b n && x.c == 0
  else false

end Go.Proofs.YtbhbacphiinpeaaGreat

/- What a check of a kernel comes to, and how a slice in memory reads as a list of instructions; nothing of the program is in this text. -/
namespace Go.Proofs.YtbhbacphiinpeaaGreat
open Go.RowKit

def badAt (n : Int) (l : List Ins) : Option Nat := l.findIdx? fun x => !okB n x

def lastOp (l : List Ins) : Int := match l[l.length - 1]? with
  | some x => x.o
  | none => 0

def chk (l : List Ins) : Int × Int :=
  if l.length < 1 ∨ 40 < l.length then (1, 0)
  else match badAt l.length l with
    | some i => (2, i)
    | none => if lastOp l ≠ 0 ∧ lastOp l ≠ 12 then (3, (l.length : Int) - 1) else (0, 0)

theorem chk_size {l : List Ins} (h : l.length < 1 ∨ 40 < l.length) : chk l = (1, 0) := by unfold chk; rw [if_pos h]

theorem badAt_some {n : Int} {l : List Ins} {k : Nat} {x : Ins} (hx : l[k]? = some x) (hb : okB n x = false) (hall : ∀ (j : Nat) y, j < k → l[j]? = some y → okB n y = true) : badAt n l = some k := by
  unfold badAt
  rw [List.findIdx?_eq_some_iff_getElem]
  obtain ⟨hk, rfl⟩ := List.getElem?_eq_some_iff.1 hx
  refine ⟨hk, by simp [hb], fun j hj => ?_⟩
  have := hall j l[j] hj (List.getElem?_eq_getElem (by omega))
  simp [this]

theorem badAt_none {n : Int} {l : List Ins} (hall : ∀ (j : Nat) y, l[j]? = some y → okB n y = true) : badAt n l = none := by
  unfold badAt
  rw [List.findIdx?_eq_none_iff]
  intro x hx
  obtain ⟨j, hj⟩ := List.mem_iff_getElem?.1 hx
  simp [hall j x hj]

theorem chk_bad {l : List Ins} {k : Nat} {x : Ins} (h1 : 1 ≤ l.length) (h2 : l.length ≤ 40) (hx : l[k]? = some x) (hb : okB l.length x = false) (hall : ∀ (j : Nat) y, j < k → l[j]? = some y → okB l.length y = true) : chk l = (2, (k : Int)) := by
  unfold chk
  rw [if_neg (by omega), badAt_some hx hb hall]

theorem chk_flow {l : List Ins} {x : Ins} (h1 : 1 ≤ l.length) (h2 : l.length ≤ 40) (hall : ∀ (j : Nat) y, l[j]? = some y → okB l.length y = true) (hx : l[l.length - 1]? = some x) (h3 : x.o ≠ 0) (h4 : x.o ≠ 12) : chk l = (3, (l.length : Int) - 1) := by
  unfold chk
  rw [if_neg (by omega), badAt_none hall]
  simp [lastOp, hx, h3, h4]

theorem chk_ok {l : List Ins} {x : Ins} (h1 : 1 ≤ l.length) (h2 : l.length ≤ 40) (hall : ∀ (j : Nat) y, l[j]? = some y → okB l.length y = true) (hx : l[l.length - 1]? = some x) (h3 : x.o = 0 ∨ x.o = 12) : chk l = (0, 0) := by
  unfold chk
  rw [if_neg (by omega), badAt_none hall]
  simp only [lastOp, hx]
  rw [if_neg (by omega)]

/-- The slice v, as the world w has it, reads as the instructions l. -/
def Sees (w : World) (v : Value) (l : List Ins) : Prop :=
  l.length ≤ 4398046511104 ∧ ((l = [] ∧ ∃ ao cap, v = .slice ao 0 cap) ∨
    ∃ b off cap, v = .slice (some ⟨b, off, none⟩) l.length cap ∧ b < w.heap.size ∧ ∀ (i : Nat) x, l[i]? = some x →
      w.cell? ⟨b, off + i * 4, none⟩ = some (.int .i64 x.o) ∧ w.cell? ⟨b, off + i * 4 + 1, none⟩ = some (.int .i64 x.a) ∧ w.cell? ⟨b, off + i * 4 + 2, none⟩ = some (.int .i64 x.b) ∧ w.cell? ⟨b, off + i * 4 + 3, none⟩ = some (.int .i64 x.c))

theorem Sees.later {w w' : World} {v : Value} {l : List Ins} {B : Nat} (h : Sees w v l) (hb : Below B w w') (hB : ∀ b off cap n, v = .slice (some ⟨b, off, none⟩) n cap → 0 < n → b < B) : Sees w' v l := by
  refine ⟨h.1, ?_⟩
  rcases h.2 with h0 | ⟨b, off, cap, rfl, hlt, hc⟩
  · exact .inl h0
  · by_cases hn : l.length = 0
    · exact .inl ⟨List.eq_nil_of_length_eq_zero hn, some ⟨b, off, none⟩, cap, by rw [hn]⟩
    · have hbB := hB b off cap l.length rfl (by omega)
      refine .inr ⟨b, off, cap, rfl, Nat.lt_of_lt_of_le hlt hb.size, fun i x hx => ?_⟩
      obtain ⟨c0, c1, c2, c3⟩ := hc i x hx
      exact ⟨(hb.cell hbB).trans c0, (hb.cell hbB).trans c1, (hb.cell hbB).trans c2, (hb.cell hbB).trans c3⟩

/-- The cells of an instruction, and of a list of them. -/
def Ins.vals (x : Ins) : List Value := [.int .i64 x.o, .int .i64 x.a, .int .i64 x.b, .int .i64 x.c]
def flat (l : List Ins) : List Value := l.flatMap Ins.vals

/-- The byte at a place of an image, and its first k instructions. -/
def byt (s : ByteArray) (j : Nat) : Int := ((s.data.toList.getD j 0).toNat : Int)
def insAt (s : ByteArray) (i : Nat) : Ins := ⟨byt s (4 * i), byt s (4 * i + 1), byt s (4 * i + 2), byt s (4 * i + 3)⟩
def unp (s : ByteArray) (k : Nat) : List Ins := (List.range k).map (insAt s)

theorem flat_length (l : List Ins) : (flat l).length = l.length * 4 := by
  induction l with
  | nil => rfl
  | cons x l ih => simp only [flat, List.flatMap_cons, List.length_append, List.length_cons] at ih ⊢; rw [ih]; simp [Ins.vals]; omega

theorem flat_append (l m : List Ins) : flat (l ++ m) = flat l ++ flat m := by simp [flat]

theorem flat_one (x : Ins) : flat [x] = x.vals := by simp [flat]

theorem unp_length (s : ByteArray) (k : Nat) : (unp s k).length = k := by simp [unp]

theorem unp_succ (s : ByteArray) (k : Nat) : unp s (k + 1) = unp s k ++ [insAt s k] := by simp [unp, List.range_succ]

theorem flat_at {l : List Ins} {i : Nat} {x : Ins} (h : l[i]? = some x) : (flat l)[i * 4]? = some (.int .i64 x.o) ∧ (flat l)[i * 4 + 1]? = some (.int .i64 x.a) ∧ (flat l)[i * 4 + 2]? = some (.int .i64 x.b) ∧ (flat l)[i * 4 + 3]? = some (.int .i64 x.c) := by
  induction l generalizing i with
  | nil => simp at h
  | cons y l ih =>
    have e : flat (y :: l) = y.vals ++ flat l := by simp [flat]
    rw [e]
    have hl : y.vals.length = 4 := rfl
    match i, h with
    | 0, h =>
      simp at h
      subst h
      simp [Ins.vals]
    | i + 1, h =>
      have h' : l[i]? = some x := by simpa using h
      obtain ⟨a0, a1, a2, a3⟩ := ih h'
      refine ⟨?_, ?_, ?_, ?_⟩
      · rw [List.getElem?_append_right (by omega), hl, show (i + 1) * 4 - 4 = i * 4 by omega]; exact a0
      · rw [List.getElem?_append_right (by omega), hl, show (i + 1) * 4 + 1 - 4 = i * 4 + 1 by omega]; exact a1
      · rw [List.getElem?_append_right (by omega), hl, show (i + 1) * 4 + 2 - 4 = i * 4 + 2 by omega]; exact a2
      · rw [List.getElem?_append_right (by omega), hl, show (i + 1) * 4 + 3 - 4 = i * 4 + 3 by omega]; exact a3

/-- What is owned reads as the instructions that are in it. -/
theorem ownsRow_sees {w : World} {base : Nat} {v : Value} {l : List Ins} (hm : l.length ≤ 4398046511104) (h : w.ownsRow base 92 4 v l.length (flat l)) : Sees w v l := by
  refine ⟨hm, ?_⟩
  rcases h.2 with ⟨rfl, h0⟩ | ⟨g, cap, cur, rfl, hb, hg, hr⟩
  · exact .inl ⟨List.eq_nil_of_length_eq_zero h0, none, 0, rfl⟩
  · refine .inr ⟨g, 0, cap, rfl, (Array.getElem?_eq_some_iff.1 hg).1, fun i x hx => ?_⟩
    have hi : i < l.length := (List.getElem?_eq_some_iff.1 hx).1
    obtain ⟨a0, a1, a2, a3⟩ := flat_at hx
    simp only [Nat.zero_add]
    exact ⟨(h.cellAt (i * 4) (by omega)).trans a0, (h.cellAt (i * 4 + 1) (by omega)).trans a1, (h.cellAt (i * 4 + 2) (by omega)).trans a2, (h.cellAt (i * 4 + 3) (by omega)).trans a3⟩

/-- What is owned stays owned, where nothing that is there turns. -/
theorem _root_.Go.World.ownsRow.keptB {w w' : World} {base : Nat} {e : TypeId} {size : Nat} {v : Value} {n : Nat} {xs : List Value} (h : w.ownsRow base e size v n xs) (hb : Below w.heap.size w w') : w'.ownsRow base e size v n xs := by
  refine ⟨h.1, ?_⟩
  rcases h.2 with h2 | ⟨g, cap, cur, hv, hg, hh, r⟩
  · exact .inl h2
  · exact .inr ⟨g, cap, cur, hv, hg, by rw [hb.block g (Array.getElem?_eq_some_iff.1 hh).1]; exact hh, r⟩

end Go.Proofs.YtbhbacphiinpeaaGreat

/- An append to a list that is owned, told exactly: it stays in its row, or a new row is made and nothing that was there has turned. -/
namespace Go.Proofs.YtbhbacphiinpeaaGreat
open Go Go.RowKit

theorem hyd {p : Prop} (h : p) : Hid p := h

theorem run_append_two {P : Program} (w : World) (t ty : TypeId) (base : Nat) (e : TypeId) (i : TypeInfo) (z : Value) (size bytes : Nat) (ht : P.underlying t = some (.slice e)) (hi : P.info? e = some i) (hz : i.zero = some z)
    (hsize : i.size = size) (hby : i.bytes = bytes) (hzs : z.cells.size = size) (hsz : 0 < size) (v : Value) (n : Nat) (xs : List Value) (hown : w.ownsRow base e size v n xs)
    (ad : Addr) (m c : Nat) (news : List Value) (hl : news.length = m * size) (hnews : ∀ j u, news[j]? = some u → w.cell? (ad.add j) = some u) (h1 : ∀ u ∈ news, u.oneCell' = true)
    (hm : 0 < m) (h63 : n + m ≤ maxLen) (hbytes : (n + m) * bytes ≤ 140737488355328) (hbase : base ≤ w.heap.size) :
    ∃ g cap w', (Builtin.append_ #[t, t] ty #[v, .slice (some ad) m c]).run P w = .ok (.slice (some ⟨g, 0, none⟩) (n + m) cap) w' ∧
      w'.ownsRow base e size (.slice (some ⟨g, 0, none⟩) (n + m) cap) (n + m) (xs ++ news) ∧ w.grownBy w' v.ownBlock ∧
      (v.ownBlock = some g ∨ (g = w.heap.size ∧ ∀ k, k < w.heap.size → w'.heap[k]? = w.heap[k]?)) := by
  obtain ⟨g, cap, w', hr, h2, h3, -, -⟩ := run_append_lies (P := P) w t ty base e i z size bytes ht hi hz hsize hby hzs hsz v n xs hown ad m c news hl hnews h1 hm h63 hbytes hbase _ rfl
  refine ⟨g, cap, w', hr, h2, h3, ?_⟩
  subst hsize
  subst hby
  have hsmall : n + m ≤ 9223372036854775807 := by simp only [maxLen] at h63; omega
  rcases hown.2 with ⟨rfl, rfl⟩ | ⟨g0, cap0, cur, rfl, hbg, hg, hnc, hcm, hcs, htake⟩
  · have hr' := run_append_nil (P := P) w t ty e i z ht hi hz ad m c news hl hnews hm (by omega) (by have hb := hbytes; simp only [Nat.zero_add] at hb; omega)
    rw [hr] at hr'
    injection hr' with e1 e2
    refine .inr ⟨?_, ?_⟩
    · simp only [Value.slice.injEq, Option.some.injEq, Addr.mk.injEq] at e1
      exact e1.1.1
    · intro k hk
      rw [e2]
      exact Below.heap_alloc w.drew _ k hk
  · by_cases hroom : n + m ≤ cap0
    · have hfit : n * i.size + news.length ≤ cur.size := by rw [hl, hcs, ← Nat.add_mul]; exact Nat.mul_le_mul_right _ hroom
      have hr' := run_append_room (P := P) w t ty e i ht hi g0 n cap0 cur hg ad m c news hl hnews h1 hroom hfit
      rw [hr] at hr'
      injection hr' with e1 e2
      simp only [Value.slice.injEq, Option.some.injEq, Addr.mk.injEq] at e1
      exact .inl (by rw [e1.1.1]; rfl)
    · have holds : ∀ j u, xs[j]? = some u → w.cell? ((⟨g0, 0, none⟩ : Addr).add j) = some u := hown.cells (g := g0) rfl
      have hr' := run_append_grow (P := P) w t ty e i z ht hi hz ⟨g0, 0, none⟩ n cap0 xs hown.1 holds ad m c news hl hnews (by omega) (by omega) (growslice_fits (by omega) hbytes)
      rw [hr] at hr'
      injection hr' with e1 e2
      refine .inr ⟨?_, ?_⟩
      · simp only [Value.slice.injEq, Option.some.injEq, Addr.mk.injEq] at e1
        exact e1.1.1
      · intro k hk
        rw [e2]
        exact Below.heap_alloc w.drew _ k hk

theorem wpList_append_two {P : Program} (w : World) {ops : Array Oper} {rest : List Oper} {o : Oper} {a : Act} {Q : Exit → Act → World → Prop} (hgd : o.guard = none) (s x : Operand) (t : TypeId)
    (ho : o.op = .call { callee := .builtin .append, args := #[s, x], argTypes := #[t, t] })
    (base : Nat) (e : TypeId) (i : TypeInfo) (z : Value) (size bytes : Nat) (ht : P.underlying t = some (.slice e)) (hi : P.info? e = some i) (hz : i.zero = some z)
    (hsize : i.size = size) (hby : i.bytes = bytes) (hzs : z.cells.size = size) (hsz : 0 < size)
    (v : Value) (n : Nat) (xs : List Value) (hs : a.eval s = v) (hown : w.ownsRow base e size v n xs)
    (ad : Addr) (m c : Nat) (news : List Value) (hx : a.eval x = .slice (some ad) m c) (hl : news.length = m * size) (hnews : ∀ j u, news[j]? = some u → w.cell? (ad.add j) = some u) (h1 : ∀ u ∈ news, u.oneCell' = true)
    (hm : 0 < m) (h63 : n + m ≤ maxLen) (hbytes : (n + m) * bytes ≤ 140737488355328) (hbase : base ≤ w.heap.size)
    (h : ∀ g cap w', w'.ownsRow base e size (.slice (some ⟨g, 0, none⟩) (n + m) cap) (n + m) (xs ++ news) → w.grownBy w' v.ownBlock →
      (v.ownBlock = some g ∨ (g = w.heap.size ∧ ∀ k, k < w.heap.size → w'.heap[k]? = w.heap[k]?)) → wpList P ops Q rest (a.put o.dst (.slice (some ⟨g, 0, none⟩) (n + m) cap)) w') : wpList P ops Q (o :: rest) a w := by
  refine wpList_plain hgd fun K hK => ?_
  obtain ⟨g, cap, w', hr, h2, h3, h4⟩ := run_append_two (P := P) w t o.type base e i z size bytes ht hi hz hsize hby hzs hsz v n xs hown ad m c news hl hnews h1 hm h63 hbytes hbase
  unfold Oper.wp execOp
  simp only [ho, resolve, invoke, builtin, Sem.run_bind, Sem.run_pure, Result.andThen_ok, List.map_toArray, List.map_cons, List.map_nil, hs, hx, hr]
  exact hK _ _ (h g cap w' h2 h3 h4)

end Go.Proofs.YtbhbacphiinpeaaGreat

/- The lists that came out, and what stays true of them: facts on memory; nothing of the program is in this text. -/
namespace Go.Proofs.YtbhbacphiinpeaaGreat
open Go.RowKit

theorem blk_lt' {w : World} {B : Nat} {o : Obj} (h : w.heap[B]? = some o) : B < w.heap.size := (Array.getElem?_eq_some_iff.1 h).1

/-- n instructions that are the mark m. -/
def marks (n : Nat) (m : Int) : List Ins := List.replicate n ⟨m, 0, 0, 0⟩

theorem marks_length (n : Nat) (m : Int) : (marks n m).length = n := by simp [marks]
theorem marks_succ (n : Nat) (m : Int) : flat (marks (n + 1) m) = flat (marks n m) ++ Ins.vals ⟨m, 0, 0, 0⟩ := by
  unfold marks
  rw [List.replicate_succ', flat_append, flat_one]
theorem marks_take {k n : Nat} (h : k ≤ n) (m : Int) {l : List Value} (hl : l.take (n * 4) = flat (marks n m)) : l.take (k * 4) = flat (marks k m) := by
  have e : marks n m = marks k m ++ marks (n - k) m := by
    unfold marks
    rw [List.replicate_append_replicate]
    congr 1; omega
  have h1 : (l.take (n * 4)).take (k * 4) = (flat (marks n m)).take (k * 4) := by rw [hl]
  rw [List.take_take, Nat.min_eq_left (by omega), e, flat_append] at h1
  have h2 : (flat (marks k m)).length = k * 4 := by rw [flat_length, marks_length]
  rw [h1, ← h2]
  exact List.take_left

/-- The slice v has n entries, all the mark m; its row lies below block B. -/
def Mrk (w : World) (B : Nat) (v : Value) (n : Nat) (m : Int) : Prop := ∃ ao cap, v = .slice ao n cap ∧ (n = 0 ∨ ∃ g cur, ao = some ⟨g, 0, none⟩ ∧ g < B ∧ w.heap[g]? = some (.cells cur 92) ∧ cur.toList.take (n * 4) = flat (marks n m))

theorem Mrk.keep {w w' : World} {B B' : Nat} {v : Value} {n : Nat} {m : Int} (h : Mrk w B v n m) (hB : B ≤ B') (hk : ∀ g cur, g < B → w.heap[g]? = some (.cells cur 92) → w'.heap[g]? = w.heap[g]?) : Mrk w' B' v n m := by
  obtain ⟨ao, cap, hv, h⟩ := h
  refine ⟨ao, cap, hv, ?_⟩
  rcases h with h | ⟨g, cur, ha, hg, hh, ht⟩
  · exact .inl h
  · exact .inr ⟨g, cur, ha, by omega, (hk g cur hg hh).trans hh, ht⟩

theorem Mrk.below {w w' : World} {B : Nat} {v : Value} {n : Nat} {m : Int} (h : Mrk w B v n m) (hb : Below B w w') : Mrk w' B v n m := h.keep (Nat.le_refl _) fun g _ hg _ => hb.block g hg

theorem Mrk.of_owned {w : World} {base : Nat} {v : Value} {n : Nat} {m : Int} (h : w.ownsRow base 92 4 v n (flat (marks n m))) : Mrk w w.heap.size v n m := by
  rcases h.2 with ⟨rfl, rfl⟩ | ⟨g, cap, cur, rfl, hb, hg, -, -, -, ht⟩
  · exact ⟨none, 0, rfl, .inl rfl⟩
  · exact ⟨_, cap, rfl, .inr ⟨g, cur, rfl, blk_lt' hg, hg, ht⟩⟩

/-- Through an append of one mark more to a list of marks. -/
theorem Mrk.append {w w' : World} {base : Nat} {u v : Value} {k n g c : Nat} {m : Int} (h : Mrk w w.heap.size u k m) (hg : w.grownBy w' v.ownBlock) (hown : w'.ownsRow base 92 4 (.slice (some ⟨g, 0, none⟩) (n + 1) c) (n + 1) (flat (marks (n + 1) m)))
    (hat : v.ownBlock = some g ∨ (g = w.heap.size ∧ ∀ k, k < w.heap.size → w'.heap[k]? = w.heap[k]?)) (hk : k ≤ n + 1) : Mrk w' w'.heap.size u k m := by
  obtain ⟨ao, cap, hv, h⟩ := h
  refine ⟨ao, cap, hv, ?_⟩
  rcases h with h | ⟨gu, cur, ha, hgu, hh, ht⟩
  · exact .inl h
  · have hlt := blk_lt' hh
    by_cases he : gu = g ∧ v.ownBlock = some g
    · obtain ⟨rfl, -⟩ := he
      rcases hown.2 with ⟨h0, -⟩ | ⟨g', cap', cur', hv', -, hg', -, -, -, ht'⟩
      · cases h0
      · cases hv'
        exact .inr ⟨gu, cur', ha, blk_lt' hg', hg', marks_take hk m ht'⟩
    · have hsame : w'.heap[gu]? = w.heap[gu]? := by
        rcases hat with h1 | ⟨-, h1⟩
        · exact hg.block gu hlt (fun e => he ⟨by rw [h1] at e; exact Option.some.inj e, h1⟩)
        · exact h1 gu hlt
      exact .inr ⟨gu, cur, ha, Nat.lt_of_lt_of_le hlt hg.size, hsame.trans hh, ht⟩

theorem Mrk.alloc {w : World} {u : Value} {k : Nat} {m : Int} (h : Mrk w w.heap.size u k m) (o : Obj) : Mrk (w.alloc o) (w.alloc o).heap.size u k m :=
  h.keep (by simp) fun g _ hg _ => Below.heap_alloc w o g hg

theorem Mrk.sees {w : World} {B : Nat} {v : Value} {n : Nat} {m : Int} (hn : n ≤ 4398046511104) (h : Mrk w B v n m) : Sees w v (marks n m) := by
  obtain ⟨ao, cap, rfl, h⟩ := h
  refine ⟨by rw [marks_length]; exact hn, ?_⟩
  rcases h with rfl | ⟨g, cur, rfl, -, hh, ht⟩
  · exact .inl ⟨rfl, ao, cap, rfl⟩
  · refine .inr ⟨g, 0, cap, by rw [marks_length], blk_lt' hh, fun i x hx => ?_⟩
    have hi : i < n := by have := (List.getElem?_eq_some_iff.1 hx).1; rwa [marks_length] at this
    obtain ⟨a0, a1, a2, a3⟩ := flat_at hx
    have key : ∀ j, j < n * 4 → w.cell? ⟨g, 0 + j, none⟩ = (flat (marks n m))[j]? := fun j hj => by
      rw [cell_of_row w g (0 + j) cur 92 (0, 0) hh, Nat.zero_add, ← ht, List.getElem?_take, if_pos hj]
      simp
    refine ⟨?_, ?_, ?_, ?_⟩
    · rw [key _ (by omega)]; exact a0
    · rw [show 0 + i * 4 + 1 = 0 + (i * 4 + 1) by omega, key _ (by omega)]; exact a1
    · rw [show 0 + i * 4 + 2 = 0 + (i * 4 + 2) by omega, key _ (by omega)]; exact a2
    · rw [show 0 + i * 4 + 3 = 0 + (i * 4 + 3) by omega, key _ (by omega)]; exact a3

/-- A list that came out: itself, with one entry more, with three; its mark. -/
structure Ent where
  l : Value
  one : Value
  three : Value
  m : Int
  n : Nat

def Ent.vals (e : Ent) : List Value := [e.l, e.one, e.three, .int .i64 e.m]
def flatE (es : List Ent) : List Value := es.flatMap Ent.vals

def EOk (w : World) (B : Nat) (e : Ent) : Prop := Mrk w B e.l e.n e.m ∧ Mrk w B e.one (e.n + 1) e.m ∧ Mrk w B e.three (e.n + 3) e.m ∧ e.n ≤ 40

theorem EOk.keep {w w' : World} {B B' : Nat} {e : Ent} (h : EOk w B e) (hB : B ≤ B') (hk : ∀ g cur, g < B → w.heap[g]? = some (.cells cur 92) → w'.heap[g]? = w.heap[g]?) : EOk w' B' e :=
  ⟨h.1.keep hB hk, h.2.1.keep hB hk, h.2.2.1.keep hB hk, h.2.2.2⟩

theorem flatE_length (l : List Ent) : (flatE l).length = l.length * 4 := by
  induction l with
  | nil => rfl
  | cons x l ih => simp only [flatE, List.flatMap_cons, List.length_append, List.length_cons] at ih ⊢; rw [ih]; simp [Ent.vals]; omega

theorem flatE_at {l : List Ent} {i : Nat} {x : Ent} (h : l[i]? = some x) : (flatE l)[i * 4]? = some x.l ∧ (flatE l)[i * 4 + 1]? = some x.one ∧ (flatE l)[i * 4 + 2]? = some x.three ∧ (flatE l)[i * 4 + 3]? = some (.int .i64 x.m) := by
  induction l generalizing i with
  | nil => simp at h
  | cons y l ih =>
    have e : flatE (y :: l) = y.vals ++ flatE l := by simp [flatE]
    rw [e]
    have hl : y.vals.length = 4 := rfl
    match i, h with
    | 0, h =>
      simp at h
      subst h
      simp [Ent.vals]
    | i + 1, h =>
      have h' : l[i]? = some x := by simpa using h
      obtain ⟨a0, a1, a2, a3⟩ := ih h'
      refine ⟨?_, ?_, ?_, ?_⟩
      · rw [List.getElem?_append_right (by omega), hl, show (i + 1) * 4 - 4 = i * 4 by omega]; exact a0
      · rw [List.getElem?_append_right (by omega), hl, show (i + 1) * 4 + 1 - 4 = i * 4 + 1 by omega]; exact a1
      · rw [List.getElem?_append_right (by omega), hl, show (i + 1) * 4 + 2 - 4 = i * 4 + 2 by omega]; exact a2
      · rw [List.getElem?_append_right (by omega), hl, show (i + 1) * 4 + 3 - 4 = i * 4 + 3 by omega]; exact a3

/-- All that the law keeps, in block BW and in the rows that lie below block B. -/
def Inv (w : World) (B BW : Nat) (es : List Ent) : Prop := ∃ vc, w.heap[BW]? = some (.cells #[.slice none 0 0, .slice none 0 0, vc, .slice none 0 0] 34) ∧ w.ownsRow (BW + 1) 48 4 vc es.length (flatE es) ∧ (∀ g, vc.ownBlock = some g → g < B) ∧ BW < B ∧ ∀ e ∈ es, EOk w B e

theorem owns_below {w w' : World} {B base : Nat} {e : TypeId} {size : Nat} {v : Value} {n : Nat} {xs : List Value} (h : w.ownsRow base e size v n xs) (hB : ∀ g, v.ownBlock = some g → g < B) (hb : Below B w w') : w'.ownsRow base e size v n xs := by
  refine ⟨h.1, ?_⟩
  rcases h.2 with h2 | ⟨g, cap, cur, rfl, hg, hh, r⟩
  · exact .inl h2
  · exact .inr ⟨g, cap, cur, rfl, hg, (hb.block g (hB g rfl)).trans hh, r⟩

theorem Inv.up {w w' : World} {B BW : Nat} {es : List Ent} (h : Inv w B BW es) (hb : Below B w w') : Inv w' B BW es := by
  obtain ⟨vc, h1, h2, h3, h4, h5⟩ := h
  exact ⟨vc, (hb.block BW h4).trans h1, owns_below h2 h3 hb, h3, h4, fun e he => (h5 e he).keep (Nat.le_refl _) fun g _ hg _ => hb.block g hg⟩

theorem Inv.wide {w : World} {B B' BW : Nat} {es : List Ent} (h : Inv w B BW es) (hB : B ≤ B') : Inv w B' BW es := by
  obtain ⟨vc, h1, h2, h3, h4, h5⟩ := h
  exact ⟨vc, h1, h2, fun g hg => Nat.lt_of_lt_of_le (h3 g hg) hB, by omega, fun e he => (h5 e he).keep hB fun _ _ _ _ => rfl⟩

end Go.Proofs.YtbhbacphiinpeaaGreat

/- What 'allCode' and 'looks' answer. -/
namespace Go.Proofs.YtbhbacphiinpeaaGreat
open Go.RowKit

set_option maxHeartbeats 400000 in
theorem all_none (a0 : Option Addr) (c0 : Nat) (m : Int) (w : World) :
    Calls Tryz.prog 19 #[.slice a0 0 c0, .int .i64 m] w fun e w' => e = .returned (.bool true) ∧ w' = w := by
  go_enter Tryz.func19, Tryz.ntmps19
  go_wp2_with fail
  go_loop [5] (fun i => i = .int .i64 0) (fun _ => 0)
  case atStart => rfl
  case round =>
    subst hrel
    go_wp2
    go_ret
    exact ⟨rfl, rfl⟩

set_option maxHeartbeats 1000000 in
set_option maxRecDepth 100000 in
theorem all_some (b off n c : Nat) (m : Int) (hn : n ≤ 1000) (w : World)
    (hc : ∀ (i : Nat) x, (marks n m)[i]? = some x → w.cell? ⟨b, off + i * 4, none⟩ = some (.int .i64 x.o) ∧ w.cell? ⟨b, off + i * 4 + 1, none⟩ = some (.int .i64 x.a) ∧ w.cell? ⟨b, off + i * 4 + 2, none⟩ = some (.int .i64 x.b) ∧ w.cell? ⟨b, off + i * 4 + 3, none⟩ = some (.int .i64 x.c)) :
    Calls Tryz.prog 19 #[.slice (some ⟨b, off, none⟩) n c, .int .i64 m] w fun e w' => e = .returned (.bool true) ∧ w' = w := by
  have H := hyd hc
  clear hc
  have hn2 : (n : Int) ≤ 1000 := by omega
  go_enter Tryz.func19, Tryz.ntmps19
  go_wp2_with fail
  go_loop [5] (fun i => ∃ k : Nat, k ≤ n ∧ i = .int .i64 k) (fun i => n - (intOf i).toNat)
  case atStart => exact ⟨0, Nat.zero_le _, rfl⟩
  case round =>
    obtain ⟨k, hk, rfl⟩ := hrel
    by_cases hkn : k < n
    · obtain ⟨d0, d1, d2, d3⟩ := H.out k ⟨m, 0, 0, 0⟩ (by unfold marks; rw [List.getElem?_replicate, if_pos hkn])
      dsimp only at d0 d1 d2 d3
      have i2 : (k : Int) < (n : Int) := by omega
      go_wp2
      go_round
      case rel => exact ⟨k + 1, by omega, by go_num⟩
      case measure => simp [intOf]; omega
    · go_wp2
      go_ret
      exact ⟨rfl, rfl⟩

theorem all_any {w : World} {B : Nat} {v : Value} {n : Nat} {m : Int} (hn : n ≤ 1000) (h : Mrk w B v n m) :
    Calls Tryz.prog 19 #[v, .int .i64 m] w fun e w' => e = .returned (.bool true) ∧ w' = w := by
  have hs := h.sees (by omega)
  rcases hs.2 with ⟨-, ao, cap, rfl⟩ | ⟨b, off, cap, rfl, -, hc⟩
  · exact all_none ao cap m w
  · rw [marks_length]
    exact all_some b off n cap m hn w hc

set_option maxHeartbeats 2000000 in
set_option maxRecDepth 100000 in
theorem looks_any {w : World} {B BW : Nat} {es : List Ent} (h : Inv w B BW es) (hes : es.length ≤ 4398046511104) (hB : B ≤ w.heap.size) :
    Calls Tryz.prog 11 #[.pointer (some ⟨BW, 1, none⟩)] w fun e w' => e = .returned (.bool true) ∧ Below w.heap.size w w' := by
  have H := hyd h
  obtain ⟨vc, h1, h2, h3, h4, h5⟩ := h
  have q : w.cell? ⟨BW, 1, none⟩ = some (.slice none 0 0) ∧ w.cell? ⟨BW, 2, none⟩ = some vc ∧ w.cell? ⟨BW, 3, none⟩ = some (.slice none 0 0) :=
    ⟨by rw [cell_of_row w BW 1 _ 34 _ h1]; rfl, by rw [cell_of_row w BW 2 _ 34 _ h1]; rfl, by rw [cell_of_row w BW 3 _ 34 _ h1]; rfl⟩
  obtain ⟨q1, q2, q3⟩ := q
  have hvc : ∃ ao cap, vc = .slice ao es.length cap := by
    rcases h2.2 with ⟨rfl, h0⟩ | ⟨g, cap, cur, rfl, -⟩
    · exact ⟨none, 0, by rw [h0]⟩
    · exact ⟨_, cap, rfl⟩
  obtain ⟨ao, cap, rfl⟩ := hvc
  have hBW : BW < w.heap.size := by omega
  obtain ⟨n, Hn⟩ : ∃ n, Hid (es.length = n) := ⟨_, rfl⟩
  rw [Hn.out] at q2 h2
  have hn : n ≤ 4398046511104 := by rw [← Hn.out]; exact hes
  have hn2 : (n : Int) ≤ 4398046511104 := by omega
  have H2 := hyd h2
  have H5 := hyd h5
  clear h1 h2 h3 h4 h5 hes
  go_enter Tryz.func11, Tryz.ntmps11
  go_wp2_with fail
  go_loop [3] (fun i => i = .int .i64 0) (fun _ => 0)
  case atStart => rfl
  case round =>
    subst hrel
    go_wp2_with fail
    go_loopw [8] (fun i wr => ∃ k : Nat, k ≤ n ∧ i = .int .i64 k ∧ Below w.heap.size w wr) (fun i _ => n - (intOf i).toNat)
    case atStart => exact ⟨0, Nat.zero_le _, rfl, Below.refl _ _⟩
    case round =>
      obtain ⟨k, hk, rfl, hb⟩ := hrel
      have r2 := (hb.cell (p := ⟨BW, 2, none⟩) hBW).trans q2
      have r3 := (hb.cell (p := ⟨BW, 3, none⟩) hBW).trans q3
      by_cases hkn : k < n
      · obtain ⟨x, hx⟩ : ∃ x, es[k]? = some x := ⟨_, List.getElem?_eq_getElem (by rw [Hn.out]; exact hkn)⟩
        obtain ⟨m0, m1, m2, m3⟩ := H5.out x (List.mem_of_getElem? hx)
        have hbk : ∀ g cur, g < B → w.heap[g]? = some (.cells cur 92) → wr.heap[g]? = w.heap[g]? := fun g _ hg _ => hb.block g (by omega)
        have M0 := hyd (m0.keep (Nat.le_refl _) hbk)
        have M1 := hyd (m1.keep (Nat.le_refl _) hbk)
        have M2 := hyd (m2.keep (Nat.le_refl _) hbk)
        obtain ⟨f0, f1, f2, f3⟩ := flatE_at hx
        obtain ⟨g, hg⟩ : ∃ g, ao = some ⟨g, 0, none⟩ := by
          rcases H2.out.2 with ⟨h0, h00⟩ | ⟨g, cap', cur, hv, -⟩
          · omega
          · simp only [Value.slice.injEq] at hv; exact ⟨g, hv.1⟩
        subst hg
        have ho := H2.out.keptB hb
        have c0 := (ho.cellAt (k * 4) (by omega)).trans f0
        have c1 := (ho.cellAt (k * 4 + 1) (by omega)).trans f1
        have c2 := (ho.cellAt (k * 4 + 2) (by omega)).trans f2
        have c3 := (ho.cellAt (k * 4 + 3) (by omega)).trans f3
        obtain ⟨l0, p0, hl0, -⟩ := id m0
        obtain ⟨l1, p1, hl1, -⟩ := id m1
        obtain ⟨l2, p2, hl2, -⟩ := id m2
        rw [hl0] at c0 M0
        rw [hl1] at c1 M1
        rw [hl2] at c2 M2
        have i2 : (k : Int) < (n : Int) := by omega
        have m3' : x.n ≤ 40 := m3
        clear f0 f1 f2 f3 ho hx m0 m1 m2 m3 hbk hl0 hl1 hl2
        go_wp2_with fail
        refine (all_any (by omega) (M0.out.keep (Nat.le_refl _) (fun g' _ hg' _ => Below.heap_alloc wr _ g' (by have := hb.size; omega)))).mono ?_
        rintro e w1 ⟨rfl, rfl⟩
        go_wp2_with fail
        refine (all_any (by omega) (M1.out.keep (Nat.le_refl _) (fun g' _ hg' _ => Below.heap_alloc wr _ g' (by have := hb.size; omega)))).mono ?_
        rintro e w1 ⟨rfl, rfl⟩
        go_wp2_with fail
        refine (all_any (by omega) (M2.out.keep (Nat.le_refl _) (fun g' _ hg' _ => Below.heap_alloc wr _ g' (by have := hb.size; omega)))).mono ?_
        rintro e w1 ⟨rfl, rfl⟩
        go_wp2
        go_roundw
        case rel => exact ⟨k + 1, by omega, by go_num, hb.alloc hb.size _⟩
        case measure => simp [intOf]; omega
      · go_wp2_with fail
        go_loop [13] (fun i => i = .int .i64 0) (fun _ => 0)
        case atStart => rfl
        case round =>
          subst hrel
          go_wp2
          go_ret
          exact ⟨rfl, hb⟩

end Go.Proofs.YtbhbacphiinpeaaGreat

