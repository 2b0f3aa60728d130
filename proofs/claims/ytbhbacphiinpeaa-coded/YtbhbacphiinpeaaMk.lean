/- A kernel that is being made, as plain lists; and how it lies in memory; nothing of the program is in this text. -/
import Derived.Test.YtbhbacphiinpeaaEnc
import Derived.Deep.AppendLies
namespace Go.Proofs.Ytbhbacphiinpeaa
open Go.RowKit

structure Blk where
  at0 : Nat
  loop : Bool
  sides : Bool

structure St where
  k : List Ins
  op : List Blk
  lp : Bool
  al : Bool

def St.put (s : St) (x : Ins) : St := { s with k := s.k ++ [x] }
def St.opn (s : St) (b : Blk) : St := { s with op := s.op ++ [b] }
def St.names (s : St) (r : Int) : St := s.put (if s.al then ⟨1, r, 3, 0⟩ else ⟨8, r, 0, 0⟩)
def St.enters (s : St) (loop : Bool) : St :=
  if loop && !s.lp then ((({ s with lp := true } : St).names 3).opn ⟨s.k.length + 1, true, false⟩).put ⟨13, 3, 0, 0⟩
  else (s.opn ⟨s.k.length, false, true⟩).put ⟨13, 1, 0, 0⟩
def St.aim (s : St) (i : Nat) : St := { s with k := s.k.modify i fun x => { x with b := (s.k.length : Int) } }
def St.ends (s : St) (b : Blk) : St := if b.loop then ((s.put ⟨1, 1, 1, 0⟩).put ⟨3, 3, 3, 1⟩).put ⟨12, 0, b.at0, 0⟩ else s
def St.other (s : St) (b : Blk) (second : Bool) : St :=
  if second && b.sides && !b.loop then (s.put ⟨12, 0, 0, 0⟩).opn ⟨s.k.length, false, false⟩ else s
def St.close (s : St) (second : Bool) : St := match s.op.getLast? with
  | none => s
  | some b => (((({ s with op := s.op.dropLast } : St).ends b).other b second)).aim b.at0

def Blk.vals (b : Blk) : List Value := [.int .i64 b.at0, .bool b.loop, .bool b.sides]
def flatB (l : List Blk) : List Value := l.flatMap Blk.vals

theorem flatB_length (l : List Blk) : (flatB l).length = l.length * 3 := by
  induction l with
  | nil => rfl
  | cons x l ih => simp only [flatB, List.flatMap_cons, List.length_append, List.length_cons] at ih ⊢; rw [ih]; simp [Blk.vals]; omega

theorem flatB_append (l m : List Blk) : flatB (l ++ m) = flatB l ++ flatB m := by simp [flatB]
theorem flatB_one (x : Blk) : flatB [x] = x.vals := by simp [flatB]
theorem oneCell_valsB (x : Blk) : ∀ u ∈ x.vals, u.oneCell' = true := by
  intro u hu
  simp only [Blk.vals, List.mem_cons, List.not_mem_nil, or_false] at hu
  rcases hu with rfl | rfl | rfl <;> rfl

theorem oneCell_vals (x : Ins) : ∀ u ∈ x.vals, u.oneCell' = true := by
  intro u hu
  simp only [Ins.vals, List.mem_cons, List.not_mem_nil, or_false] at hu
  rcases hu with rfl | rfl | rfl | rfl <;> rfl

/-- The kernel that is being made lies in block B and in the rows of its two lists. -/
def Mk (w : World) (B : Nat) (s : St) : Prop := ∃ vk vo, w.heap[B]? = some (.cells #[vk, vo, .bool s.lp, .bool s.al] 71) ∧
  w.ownsRow (B + 1) 31 4 vk s.k.length (flat s.k) ∧ w.ownsRow (B + 1) 99 3 vo s.op.length (flatB s.op)

theorem blk_cells {w : World} {B : Nat} {a b c d : Value} {t : TypeId} (h : w.heap[B]? = some (.cells #[a, b, c, d] t)) :
    w.cell? ⟨B, 0, none⟩ = some a ∧ w.cell? ⟨B, 1, none⟩ = some b ∧ w.cell? ⟨B, 2, none⟩ = some c ∧ w.cell? ⟨B, 3, none⟩ = some d ∧
    (w.frozen? ⟨B, 0, none⟩ = false ∧ w.frozen? ⟨B, 1, none⟩ = false ∧ w.frozen? ⟨B, 2, none⟩ = false ∧ w.frozen? ⟨B, 3, none⟩ = false) :=
  ⟨by rw [cell_of_row w B 0 _ t _ h]; rfl, by rw [cell_of_row w B 1 _ t _ h]; rfl, by rw [cell_of_row w B 2 _ t _ h]; rfl, by rw [cell_of_row w B 3 _ t _ h]; rfl,
   frozen_of_row w B 0 _ t h, frozen_of_row w B 1 _ t h, frozen_of_row w B 2 _ t h, frozen_of_row w B 3 _ t h⟩

theorem blk_lt {w : World} {B : Nat} {o : Obj} (h : w.heap[B]? = some o) : B < w.heap.size := (Array.getElem?_eq_some_iff.1 h).1

/-- Two rows of different element types are two rows. -/
theorem rows_apart {w : World} {base base' : Nat} {e e' : TypeId} {s s' : Nat} {v v' : Value} {n n' : Nat} {xs xs' : List Value} (h : w.ownsRow base e s v n xs) (h' : w.ownsRow base' e' s' v' n' xs') (hne : e ≠ e') : v.ownBlock = none ∨ v.ownBlock ≠ v'.ownBlock := by
  rcases h.2 with ⟨rfl, -⟩ | ⟨g, cap, cur, rfl, -, hg, -⟩
  · exact .inl rfl
  · right
    rcases h'.2 with ⟨rfl, -⟩ | ⟨g', cap', cur', rfl, -, hg', -⟩
    · simp [Value.ownBlock]
    · intro e0
      simp only [Value.ownBlock, Option.some.injEq] at e0
      subst e0
      rw [hg] at hg'
      simp only [Option.some.injEq, Obj.cells.injEq] at hg'
      exact hne hg'.2.1

/-- What is owned stays owned while a cell of another block is written. -/
theorem owns_setCell {w : World} {base : Nat} {e : TypeId} {size : Nat} {v : Value} {n : Nat} {xs : List Value} (h : w.ownsRow base e size v n xs) {a : Addr} (ha : ∀ g, v.ownBlock = some g → g ≠ a.block) (u : Value) : (w.setCell a u).ownsRow base e size v n xs := by
  obtain ⟨h1, h2⟩ := h
  refine ⟨h1, ?_⟩
  rcases h2 with h2 | ⟨g, cap, cur, hv, hg, hh, r⟩
  · exact Or.inl h2
  · exact Or.inr ⟨g, cap, cur, hv, hg, by rw [Below.heap_setCell _ _ _ _ (ha g (by rw [hv]; rfl))]; exact hh, r⟩

theorem owns_ne {w : World} {base : Nat} {e : TypeId} {size : Nat} {v : Value} {n : Nat} {xs : List Value} (h : w.ownsRow base e size v n xs) {B : Nat} (hB : B < base) : some B ≠ v.ownBlock ∧ ∀ g, v.ownBlock = some g → g ≠ B := by
  refine ⟨fun e0 => ?_, fun g hg => ?_⟩
  · have := (h.lt B e0.symm).1; omega
  · have := (h.lt g hg).1; omega

/-- Behind an append to the instructions: the field stored. -/
theorem Mk.putK {w w1 : World} {B : Nat} {s : St} {vk vo v' : Value} {x : Ins} (h : w.heap[B]? = some (.cells #[vk, vo, .bool s.lp, .bool s.al] 71))
    (hk : w.ownsRow (B + 1) 31 4 vk s.k.length (flat s.k)) (ho : w.ownsRow (B + 1) 99 3 vo s.op.length (flatB s.op))
    (hown : w1.ownsRow (B + 1) 31 4 v' (s.k.length + 1) (flat s.k ++ x.vals)) (hg : w.grownBy w1 vk.ownBlock) :
    w1.heap[B]? = some (.cells #[vk, vo, .bool s.lp, .bool s.al] 71) ∧ Mk (w1.setCell ⟨B, 0, none⟩ v') B (s.put x) := by
  have hb : w1.heap[B]? = some (.cells #[vk, vo, .bool s.lp, .bool s.al] 71) := by
    rw [hg.block B (blk_lt h) (owns_ne hk (by omega)).1]; exact h
  refine ⟨hb, v', vo, ?_, ?_, ?_⟩
  · rw [heap_setCell_same w1 B 0 _ 71 v' hb]; rfl
  · have e1 : (s.put x).k.length = s.k.length + 1 := by simp [St.put]
    have e2 : flat (s.put x).k = flat s.k ++ x.vals := by simp only [St.put, flat_append, flat_one]
    rw [e1, e2]
    exact owns_setCell hown (owns_ne hown (Nat.lt_succ_self B)).2 _
  · have ho1 := ho.kept hg (rows_apart ho hk (by decide))
    exact owns_setCell ho1 (owns_ne ho1 (Nat.lt_succ_self B)).2 _

/-- Behind an append to the open blocks: the field stored. -/
theorem Mk.putO {w w1 : World} {B : Nat} {s : St} {vk vo v' : Value} {x : Blk} (h : w.heap[B]? = some (.cells #[vk, vo, .bool s.lp, .bool s.al] 71))
    (hk : w.ownsRow (B + 1) 31 4 vk s.k.length (flat s.k)) (ho : w.ownsRow (B + 1) 99 3 vo s.op.length (flatB s.op))
    (hown : w1.ownsRow (B + 1) 99 3 v' (s.op.length + 1) (flatB s.op ++ x.vals)) (hg : w.grownBy w1 vo.ownBlock) :
    w1.heap[B]? = some (.cells #[vk, vo, .bool s.lp, .bool s.al] 71) ∧ Mk (w1.setCell ⟨B, 1, none⟩ v') B (s.opn x) := by
  have hb : w1.heap[B]? = some (.cells #[vk, vo, .bool s.lp, .bool s.al] 71) := by
    rw [hg.block B (blk_lt h) (owns_ne ho (by omega)).1]; exact h
  refine ⟨hb, vk, v', ?_, ?_, ?_⟩
  · rw [heap_setCell_same w1 B 1 _ 71 v' hb]; rfl
  · have hk1 := hk.kept hg (rows_apart hk ho (by decide))
    exact owns_setCell hk1 (owns_ne hk1 (Nat.lt_succ_self B)).2 _
  · have e1 : (s.opn x).op.length = s.op.length + 1 := by simp [St.opn]
    have e2 : flatB (s.opn x).op = flatB s.op ++ x.vals := by simp only [St.opn, flatB_append, flatB_one]
    rw [e1, e2]
    exact owns_setCell hown (owns_ne hown (Nat.lt_succ_self B)).2 _

end Go.Proofs.Ytbhbacphiinpeaa
