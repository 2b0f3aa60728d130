/- What a check of a kernel comes to, and how a slice in memory reads as a list of instructions; nothing of the program is in this text. -/
import Derived.Test.YtbhbacphiinpeaaGreatSpec
namespace Go.Proofs.YtbhbacphiinpeaaGreat
open Go.RowKit

def badAt (n : Int) (l : List Ins) : Option Nat := l.findIdx? fun x => !okB n x

def lastOp (l : List Ins) : Int := match l[l.length - 1]? with
  | some x => x.o
  | none => 0

def chk (l : List Ins) : Int × Int :=
  if l.length < 1 ∨ 40 < l.length then (1, 0)
  else match badAt l.length l with
    | some i => (2, i)
    | none => if lastOp l ≠ 0 ∧ lastOp l ≠ 12 then (3, (l.length : Int) - 1) else (0, 0)

theorem chk_size {l : List Ins} (h : l.length < 1 ∨ 40 < l.length) : chk l = (1, 0) := by unfold chk; rw [if_pos h]

theorem badAt_some {n : Int} {l : List Ins} {k : Nat} {x : Ins} (hx : l[k]? = some x) (hb : okB n x = false) (hall : ∀ (j : Nat) y, j < k → l[j]? = some y → okB n y = true) : badAt n l = some k := by
  unfold badAt
  rw [List.findIdx?_eq_some_iff_getElem]
  obtain ⟨hk, rfl⟩ := List.getElem?_eq_some_iff.1 hx
  refine ⟨hk, by simp [hb], fun j hj => ?_⟩
  have := hall j l[j] hj (List.getElem?_eq_getElem (by omega))
  simp [this]

theorem badAt_none {n : Int} {l : List Ins} (hall : ∀ (j : Nat) y, l[j]? = some y → okB n y = true) : badAt n l = none := by
  unfold badAt
  rw [List.findIdx?_eq_none_iff]
  intro x hx
  obtain ⟨j, hj⟩ := List.mem_iff_getElem?.1 hx
  simp [hall j x hj]

theorem chk_bad {l : List Ins} {k : Nat} {x : Ins} (h1 : 1 ≤ l.length) (h2 : l.length ≤ 40) (hx : l[k]? = some x) (hb : okB l.length x = false) (hall : ∀ (j : Nat) y, j < k → l[j]? = some y → okB l.length y = true) : chk l = (2, (k : Int)) := by
  unfold chk
  rw [if_neg (by omega), badAt_some hx hb hall]

theorem chk_flow {l : List Ins} {x : Ins} (h1 : 1 ≤ l.length) (h2 : l.length ≤ 40) (hall : ∀ (j : Nat) y, l[j]? = some y → okB l.length y = true) (hx : l[l.length - 1]? = some x) (h3 : x.o ≠ 0) (h4 : x.o ≠ 12) : chk l = (3, (l.length : Int) - 1) := by
  unfold chk
  rw [if_neg (by omega), badAt_none hall]
  simp [lastOp, hx, h3, h4]

theorem chk_ok {l : List Ins} {x : Ins} (h1 : 1 ≤ l.length) (h2 : l.length ≤ 40) (hall : ∀ (j : Nat) y, l[j]? = some y → okB l.length y = true) (hx : l[l.length - 1]? = some x) (h3 : x.o = 0 ∨ x.o = 12) : chk l = (0, 0) := by
  unfold chk
  rw [if_neg (by omega), badAt_none hall]
  simp only [lastOp, hx]
  rw [if_neg (by omega)]

/-- The slice v, as the world w has it, reads as the instructions l. -/
def Sees (w : World) (v : Value) (l : List Ins) : Prop :=
  l.length ≤ 4398046511104 ∧ ((l = [] ∧ ∃ ao cap, v = .slice ao 0 cap) ∨
    ∃ b off cap, v = .slice (some ⟨b, off, none⟩) l.length cap ∧ b < w.heap.size ∧ ∀ (i : Nat) x, l[i]? = some x →
      w.cell? ⟨b, off + i * 4, none⟩ = some (.int .i64 x.o) ∧ w.cell? ⟨b, off + i * 4 + 1, none⟩ = some (.int .i64 x.a) ∧ w.cell? ⟨b, off + i * 4 + 2, none⟩ = some (.int .i64 x.b) ∧ w.cell? ⟨b, off + i * 4 + 3, none⟩ = some (.int .i64 x.c))

theorem Sees.later {w w' : World} {v : Value} {l : List Ins} {B : Nat} (h : Sees w v l) (hb : Below B w w') (hB : ∀ b off cap n, v = .slice (some ⟨b, off, none⟩) n cap → 0 < n → b < B) : Sees w' v l := by
  refine ⟨h.1, ?_⟩
  rcases h.2 with h0 | ⟨b, off, cap, rfl, hlt, hc⟩
  · exact .inl h0
  · by_cases hn : l.length = 0
    · exact .inl ⟨List.eq_nil_of_length_eq_zero hn, some ⟨b, off, none⟩, cap, by rw [hn]⟩
    · have hbB := hB b off cap l.length rfl (by omega)
      refine .inr ⟨b, off, cap, rfl, Nat.lt_of_lt_of_le hlt hb.size, fun i x hx => ?_⟩
      obtain ⟨c0, c1, c2, c3⟩ := hc i x hx
      exact ⟨(hb.cell hbB).trans c0, (hb.cell hbB).trans c1, (hb.cell hbB).trans c2, (hb.cell hbB).trans c3⟩

/-- The cells of an instruction, and of a list of them. -/
def Ins.vals (x : Ins) : List Value := [.int .i64 x.o, .int .i64 x.a, .int .i64 x.b, .int .i64 x.c]
def flat (l : List Ins) : List Value := l.flatMap Ins.vals

/-- The byte at a place of an image, and its first k instructions. -/
def byt (s : ByteArray) (j : Nat) : Int := ((s.data.toList.getD j 0).toNat : Int)
def insAt (s : ByteArray) (i : Nat) : Ins := ⟨byt s (4 * i), byt s (4 * i + 1), byt s (4 * i + 2), byt s (4 * i + 3)⟩
def unp (s : ByteArray) (k : Nat) : List Ins := (List.range k).map (insAt s)

theorem flat_length (l : List Ins) : (flat l).length = l.length * 4 := by
  induction l with
  | nil => rfl
  | cons x l ih => simp only [flat, List.flatMap_cons, List.length_append, List.length_cons] at ih ⊢; rw [ih]; simp [Ins.vals]; omega

theorem flat_append (l m : List Ins) : flat (l ++ m) = flat l ++ flat m := by simp [flat]

theorem flat_one (x : Ins) : flat [x] = x.vals := by simp [flat]

theorem unp_length (s : ByteArray) (k : Nat) : (unp s k).length = k := by simp [unp]

theorem unp_succ (s : ByteArray) (k : Nat) : unp s (k + 1) = unp s k ++ [insAt s k] := by simp [unp, List.range_succ]

theorem flat_at {l : List Ins} {i : Nat} {x : Ins} (h : l[i]? = some x) : (flat l)[i * 4]? = some (.int .i64 x.o) ∧ (flat l)[i * 4 + 1]? = some (.int .i64 x.a) ∧ (flat l)[i * 4 + 2]? = some (.int .i64 x.b) ∧ (flat l)[i * 4 + 3]? = some (.int .i64 x.c) := by
  induction l generalizing i with
  | nil => simp at h
  | cons y l ih =>
    have e : flat (y :: l) = y.vals ++ flat l := by simp [flat]
    rw [e]
    have hl : y.vals.length = 4 := rfl
    match i, h with
    | 0, h =>
      simp at h
      subst h
      simp [Ins.vals]
    | i + 1, h =>
      have h' : l[i]? = some x := by simpa using h
      obtain ⟨a0, a1, a2, a3⟩ := ih h'
      refine ⟨?_, ?_, ?_, ?_⟩
      · rw [List.getElem?_append_right (by omega), hl, show (i + 1) * 4 - 4 = i * 4 by omega]; exact a0
      · rw [List.getElem?_append_right (by omega), hl, show (i + 1) * 4 + 1 - 4 = i * 4 + 1 by omega]; exact a1
      · rw [List.getElem?_append_right (by omega), hl, show (i + 1) * 4 + 2 - 4 = i * 4 + 2 by omega]; exact a2
      · rw [List.getElem?_append_right (by omega), hl, show (i + 1) * 4 + 3 - 4 = i * 4 + 3 by omega]; exact a3

/-- What is owned reads as the instructions that are in it. -/
theorem ownsRow_sees {w : World} {base : Nat} {v : Value} {l : List Ins} (hm : l.length ≤ 4398046511104) (h : w.ownsRow base 92 4 v l.length (flat l)) : Sees w v l := by
  refine ⟨hm, ?_⟩
  rcases h.2 with ⟨rfl, h0⟩ | ⟨g, cap, cur, rfl, hb, hg, hr⟩
  · exact .inl ⟨List.eq_nil_of_length_eq_zero h0, none, 0, rfl⟩
  · refine .inr ⟨g, 0, cap, rfl, (Array.getElem?_eq_some_iff.1 hg).1, fun i x hx => ?_⟩
    have hi : i < l.length := (List.getElem?_eq_some_iff.1 hx).1
    obtain ⟨a0, a1, a2, a3⟩ := flat_at hx
    simp only [Nat.zero_add]
    exact ⟨(h.cellAt (i * 4) (by omega)).trans a0, (h.cellAt (i * 4 + 1) (by omega)).trans a1, (h.cellAt (i * 4 + 2) (by omega)).trans a2, (h.cellAt (i * 4 + 3) (by omega)).trans a3⟩

/-- What is owned stays owned, where nothing that is there turns. -/
theorem _root_.Go.World.ownsRow.keptB {w w' : World} {base : Nat} {e : TypeId} {size : Nat} {v : Value} {n : Nat} {xs : List Value} (h : w.ownsRow base e size v n xs) (hb : Below w.heap.size w w') : w'.ownsRow base e size v n xs := by
  refine ⟨h.1, ?_⟩
  rcases h.2 with h2 | ⟨g, cap, cur, hv, hg, hh, r⟩
  · exact .inl h2
  · exact .inr ⟨g, cap, cur, hv, hg, by rw [hb.block g (Array.getElem?_eq_some_iff.1 hh).1]; exact hh, r⟩

end Go.Proofs.YtbhbacphiinpeaaGreat
