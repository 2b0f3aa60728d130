/- Mk C M1 M2 M3 Cl: joined. -/
import Derived.Test.YtbhbacphiinpeaaZ01
import Derived.Deep.AppendLies
import Derived.BigRegion
import Derived.Deep.RegionHeld3
import Derived.Deep.RegionLaw
import Derived.WalkSmall

/- A kernel that is being made, as plain lists; and how it lies in memory; nothing of the program is in this text. -/
namespace Go.Proofs.Ytbhbacphiinpeaa
open Go.RowKit

structure Blk where
  at0 : Nat
  loop : Bool
  sides : Bool

structure St where
  k : List Ins
  op : List Blk
  lp : Bool
  al : Bool

def St.put (s : St) (x : Ins) : St := { s with k := s.k ++ [x] }
def St.opn (s : St) (b : Blk) : St := { s with op := s.op ++ [b] }
def St.names (s : St) (r : Int) : St := s.put (if s.al then ⟨1, r, 3, 0⟩ else ⟨8, r, 0, 0⟩)
def St.enters (s : St) (loop : Bool) : St :=
  if loop && !s.lp then ((({ s with lp := true } : St).names 3).opn ⟨s.k.length + 1, true, false⟩).put ⟨13, 3, 0, 0⟩
  else (s.opn ⟨s.k.length, false, true⟩).put ⟨13, 1, 0, 0⟩
def St.aim (s : St) (i : Nat) : St := { s with k := s.k.modify i fun x => { x with b := (s.k.length : Int) } }
def St.ends (s : St) (b : Blk) : St := if b.loop then ((s.put ⟨1, 1, 1, 0⟩).put ⟨3, 3, 3, 1⟩).put ⟨12, 0, b.at0, 0⟩ else s
def St.other (s : St) (b : Blk) (second : Bool) : St :=
  if second && b.sides && !b.loop then (s.put ⟨12, 0, 0, 0⟩).opn ⟨s.k.length, false, false⟩ else s
def St.close (s : St) (second : Bool) : St := match s.op.getLast? with
  | none => s
  | some b => (((({ s with op := s.op.dropLast } : St).ends b).other b second)).aim b.at0

def Blk.vals (b : Blk) : List Value := [.int .i64 b.at0, .bool b.loop, .bool b.sides]
def flatB (l : List Blk) : List Value := l.flatMap Blk.vals

theorem flatB_length (l : List Blk) : (flatB l).length = l.length * 3 := by
  induction l with
  | nil => rfl
  | cons x l ih => simp only [flatB, List.flatMap_cons, List.length_append, List.length_cons] at ih ⊢; rw [ih]; simp [Blk.vals]; omega

theorem flatB_append (l m : List Blk) : flatB (l ++ m) = flatB l ++ flatB m := by simp [flatB]
theorem flatB_one (x : Blk) : flatB [x] = x.vals := by simp [flatB]
theorem oneCell_valsB (x : Blk) : ∀ u ∈ x.vals, u.oneCell' = true := by
  intro u hu
  simp only [Blk.vals, List.mem_cons, List.not_mem_nil, or_false] at hu
  rcases hu with rfl | rfl | rfl <;> rfl

theorem oneCell_vals (x : Ins) : ∀ u ∈ x.vals, u.oneCell' = true := by
  intro u hu
  simp only [Ins.vals, List.mem_cons, List.not_mem_nil, or_false] at hu
  rcases hu with rfl | rfl | rfl | rfl <;> rfl

/-- The kernel that is being made lies in block B and in the rows of its two lists. -/
def Mk (w : World) (B : Nat) (s : St) : Prop := ∃ vk vo, w.heap[B]? = some (.cells #[vk, vo, .bool s.lp, .bool s.al] 71) ∧
  w.ownsRow (B + 1) 31 4 vk s.k.length (flat s.k) ∧ w.ownsRow (B + 1) 99 3 vo s.op.length (flatB s.op)

theorem blk_cells {w : World} {B : Nat} {a b c d : Value} {t : TypeId} (h : w.heap[B]? = some (.cells #[a, b, c, d] t)) :
    w.cell? ⟨B, 0, none⟩ = some a ∧ w.cell? ⟨B, 1, none⟩ = some b ∧ w.cell? ⟨B, 2, none⟩ = some c ∧ w.cell? ⟨B, 3, none⟩ = some d ∧
    (w.frozen? ⟨B, 0, none⟩ = false ∧ w.frozen? ⟨B, 1, none⟩ = false ∧ w.frozen? ⟨B, 2, none⟩ = false ∧ w.frozen? ⟨B, 3, none⟩ = false) :=
  ⟨by rw [cell_of_row w B 0 _ t _ h]; rfl, by rw [cell_of_row w B 1 _ t _ h]; rfl, by rw [cell_of_row w B 2 _ t _ h]; rfl, by rw [cell_of_row w B 3 _ t _ h]; rfl,
   frozen_of_row w B 0 _ t h, frozen_of_row w B 1 _ t h, frozen_of_row w B 2 _ t h, frozen_of_row w B 3 _ t h⟩

theorem blk_lt {w : World} {B : Nat} {o : Obj} (h : w.heap[B]? = some o) : B < w.heap.size := (Array.getElem?_eq_some_iff.1 h).1

/-- Two rows of different element types are two rows. -/
theorem rows_apart {w : World} {base base' : Nat} {e e' : TypeId} {s s' : Nat} {v v' : Value} {n n' : Nat} {xs xs' : List Value} (h : w.ownsRow base e s v n xs) (h' : w.ownsRow base' e' s' v' n' xs') (hne : e ≠ e') : v.ownBlock = none ∨ v.ownBlock ≠ v'.ownBlock := by
  rcases h.2 with ⟨rfl, -⟩ | ⟨g, cap, cur, rfl, -, hg, -⟩
  · exact .inl rfl
  · right
    rcases h'.2 with ⟨rfl, -⟩ | ⟨g', cap', cur', rfl, -, hg', -⟩
    · simp [Value.ownBlock]
    · intro e0
      simp only [Value.ownBlock, Option.some.injEq] at e0
      subst e0
      rw [hg] at hg'
      simp only [Option.some.injEq, Obj.cells.injEq] at hg'
      exact hne hg'.2.1

/-- What is owned stays owned while a cell of another block is written. -/
theorem owns_setCell {w : World} {base : Nat} {e : TypeId} {size : Nat} {v : Value} {n : Nat} {xs : List Value} (h : w.ownsRow base e size v n xs) {a : Addr} (ha : ∀ g, v.ownBlock = some g → g ≠ a.block) (u : Value) : (w.setCell a u).ownsRow base e size v n xs := by
  obtain ⟨h1, h2⟩ := h
  refine ⟨h1, ?_⟩
  rcases h2 with h2 | ⟨g, cap, cur, hv, hg, hh, r⟩
  · exact Or.inl h2
  · exact Or.inr ⟨g, cap, cur, hv, hg, by rw [Below.heap_setCell _ _ _ _ (ha g (by rw [hv]; rfl))]; exact hh, r⟩

theorem owns_ne {w : World} {base : Nat} {e : TypeId} {size : Nat} {v : Value} {n : Nat} {xs : List Value} (h : w.ownsRow base e size v n xs) {B : Nat} (hB : B < base) : some B ≠ v.ownBlock ∧ ∀ g, v.ownBlock = some g → g ≠ B := by
  refine ⟨fun e0 => ?_, fun g hg => ?_⟩
  · have := (h.lt B e0.symm).1; omega
  · have := (h.lt g hg).1; omega

/-- Behind an append to the instructions: the field stored. -/
theorem Mk.putK {w w1 : World} {B : Nat} {s : St} {vk vo v' : Value} {x : Ins} (h : w.heap[B]? = some (.cells #[vk, vo, .bool s.lp, .bool s.al] 71))
    (hk : w.ownsRow (B + 1) 31 4 vk s.k.length (flat s.k)) (ho : w.ownsRow (B + 1) 99 3 vo s.op.length (flatB s.op))
    (hown : w1.ownsRow (B + 1) 31 4 v' (s.k.length + 1) (flat s.k ++ x.vals)) (hg : w.grownBy w1 vk.ownBlock) :
    w1.heap[B]? = some (.cells #[vk, vo, .bool s.lp, .bool s.al] 71) ∧ Mk (w1.setCell ⟨B, 0, none⟩ v') B (s.put x) := by
  have hb : w1.heap[B]? = some (.cells #[vk, vo, .bool s.lp, .bool s.al] 71) := by
    rw [hg.block B (blk_lt h) (owns_ne hk (by omega)).1]; exact h
  refine ⟨hb, v', vo, ?_, ?_, ?_⟩
  · rw [heap_setCell_same w1 B 0 _ 71 v' hb]; rfl
  · have e1 : (s.put x).k.length = s.k.length + 1 := by simp [St.put]
    have e2 : flat (s.put x).k = flat s.k ++ x.vals := by simp only [St.put, flat_append, flat_one]
    rw [e1, e2]
    exact owns_setCell hown (owns_ne hown (Nat.lt_succ_self B)).2 _
  · have ho1 := ho.kept hg (rows_apart ho hk (by decide))
    exact owns_setCell ho1 (owns_ne ho1 (Nat.lt_succ_self B)).2 _

/-- Behind an append to the open blocks: the field stored. -/
theorem Mk.putO {w w1 : World} {B : Nat} {s : St} {vk vo v' : Value} {x : Blk} (h : w.heap[B]? = some (.cells #[vk, vo, .bool s.lp, .bool s.al] 71))
    (hk : w.ownsRow (B + 1) 31 4 vk s.k.length (flat s.k)) (ho : w.ownsRow (B + 1) 99 3 vo s.op.length (flatB s.op))
    (hown : w1.ownsRow (B + 1) 99 3 v' (s.op.length + 1) (flatB s.op ++ x.vals)) (hg : w.grownBy w1 vo.ownBlock) :
    w1.heap[B]? = some (.cells #[vk, vo, .bool s.lp, .bool s.al] 71) ∧ Mk (w1.setCell ⟨B, 1, none⟩ v') B (s.opn x) := by
  have hb : w1.heap[B]? = some (.cells #[vk, vo, .bool s.lp, .bool s.al] 71) := by
    rw [hg.block B (blk_lt h) (owns_ne ho (by omega)).1]; exact h
  refine ⟨hb, vk, v', ?_, ?_, ?_⟩
  · rw [heap_setCell_same w1 B 1 _ 71 v' hb]; rfl
  · have hk1 := hk.kept hg (rows_apart hk ho (by decide))
    exact owns_setCell hk1 (owns_ne hk1 (Nat.lt_succ_self B)).2 _
  · have e1 : (s.opn x).op.length = s.op.length + 1 := by simp [St.opn]
    have e2 : flatB (s.opn x).op = flatB s.op ++ x.vals := by simp only [St.opn, flatB_append, flatB_one]
    rw [e1, e2]
    exact owns_setCell hown (owns_ne hown (Nat.lt_succ_self B)).2 _

end Go.Proofs.Ytbhbacphiinpeaa

/- What 'unpack' makes. -/
namespace Go.Proofs.Ytbhbacphiinpeaa
open Go.RowKit

theorem Try.info31 : (Try.prog.info? 31).map (fun i => (i.zero, i.size, i.bytes)) = some (some (.agg #[.int .i64 0, .int .i64 0, .int .i64 0, .int .i64 0]), 4, 32) := by kernel_rfl

theorem wrap_byt (s : ByteArray) (j : Nat) (h : j < s.size) : wrap64 (((s[j]'h).toNat : Nat) : Int) = byt s j := by
  have e : byt s j = (((s[j]'h).toNat : Nat) : Int) := by
    unfold byt
    have h' : j < s.data.toList.length := by simpa using h
    rw [List.getD_eq_getElem?_getD, List.getElem?_eq_getElem h']
    rfl
  rw [e]
  have := (s[j]'h).toNat_lt
  exact IntWalk.wrap64_in _ ⟨by omega, by omega⟩

set_option maxHeartbeats 400000 in
set_option maxRecDepth 100000 in
theorem unpack_any (s : ByteArray) (n : Nat) (hs : s.size = 4 * n) (hn : n ≤ 40) (w : World) :
    Calls Try.prog 45 #[.string s] w fun e w' => ∃ v, e = .returned v ∧ w'.ownsRow w.heap.size 31 4 v n (flat (unp s n)) ∧ Below w.heap.size w w' := by
  have Hs : Hid (s.size = 4 * n) := hs
  have hs1 : s.size ≤ 4 * n := by omega
  have hs2 : 4 * n ≤ s.size := by omega
  clear hs
  obtain ⟨i0, hi, hz0, hz1, hz2⟩ := info_parts Try.info31
  go_enter Try.func45, Try.ntmps45
  go_wp2
  go_loopw [3, 4] (fun v i wr => ∃ k : Nat, k ≤ n ∧ i = .int .i64 (4 * k : Nat) ∧ wr.ownsRow w.heap.size 31 4 v k (flat (unp s k)) ∧ Below w.heap.size w wr) (fun _ i _ => 4 * n + 4 - (intOf i).toNat)
  case atStart => exact ⟨0, Nat.zero_le _, rfl, World.ownsRow_nil _ _ _ _, Below.refl _ _⟩
  case round =>
    obtain ⟨k, hk, rfl, hown, hb⟩ := hrel
    by_cases hkn : k < n
    · have q0 : (0 : Int) ≤ 4 * (k : Int) ∧ 4 * (k : Int) < (s.size : Int) := by omega
      have q1 : (0 : Int) ≤ 4 * (k : Int) + 1 ∧ 4 * (k : Int) + 1 < (s.size : Int) := by omega
      have q2 : (0 : Int) ≤ 4 * (k : Int) + 2 ∧ 4 * (k : Int) + 2 < (s.size : Int) := by omega
      have q3 : (0 : Int) ≤ 4 * (k : Int) + 3 ∧ 4 * (k : Int) + 3 < (s.size : Int) := by omega
      go_wp2_with fail
      go_region
      simp only [wrap_byt]
      go_wp2_with (first | (at_builtin; go_must (refine wpList_append_own _ rfl _ _ 23 rfl w.heap.size 31 i0 (.agg #[.int .i64 0, .int .i64 0, .int .i64 0, .int .i64 0]) 4 32 Try.underlying23 hi hz0 hz1 hz2 rfl (by decide) u3 k (flat (unp s k)) rfl ?c0 ⟨wr.heap.size + 1, 0, none⟩ 1 1 (insAt s k).vals rfl rfl ?c1 ?c2 ?c3 ?c4 ?c5 ?_)) | go_in)
      case c0 => exact (hown.alloc _).alloc _
      case c1 => exact World.news_of_block (heap_alloc2_new wr _ _)
      case c2 => exact oneCell_vals _
      case c3 => unfold maxLen; omega
      case c4 => omega
      case c5 => have := hb.size; simp; omega
      · intro v' w1 hown' hgrow _
        have hb' : Below w.heap.size w w1 := (((hb.alloc hb.size _).alloc (by have := hb.size; simp; omega) _).drew).grown hgrow (by have := hb.size; simp; omega) (fun g hg => (hown.lt g hg).1)
        rw [← flat_one, ← flat_append, ← unp_succ] at hown'
        clear hgrow hown
        go_wp2
        go_roundw
        case rel => exact ⟨k + 1, by omega, by go_num, hown', hb'⟩
        case measure => simp [intOf]; omega
    · have e : k = n := by omega
      subst e
      go_wp2
      go_ret
      exact ⟨_, rfl, hown, hb⟩

end Go.Proofs.Ytbhbacphiinpeaa

/- What 'put' and 'names' do to a kernel that is being made. -/
namespace Go.Proofs.Ytbhbacphiinpeaa
open Go.RowKit

/-- The kernel that is being made, its two lists named. -/
def MkV (w : World) (B : Nat) (s : St) (vk vo : Value) : Prop := w.heap[B]? = some (.cells #[vk, vo, .bool s.lp, .bool s.al] 71) ∧
  w.ownsRow (B + 1) 31 4 vk s.k.length (flat s.k) ∧ w.ownsRow (B + 1) 99 3 vo s.op.length (flatB s.op)

theorem MkV.mk {w : World} {B : Nat} {s : St} {vk vo : Value} (h : MkV w B s vk vo) : Mk w B s := ⟨vk, vo, h⟩

/-- Nothing that was there has turned but block B and rows of instructions. -/
def Spares (w w' : World) (B : Nat) : Prop := ∀ x, x < w.heap.size → x ≠ B → (∀ cs fr, w.heap[x]? ≠ some (.cells cs 31 fr)) → w'.heap[x]? = w.heap[x]?

theorem owns_type {w : World} {base : Nat} {e : TypeId} {size : Nat} {v : Value} {n : Nat} {xs : List Value} (h : w.ownsRow base e size v n xs) {g : Nat} (hg : v.ownBlock = some g) : ∃ cs fr, w.heap[g]? = some (.cells cs e fr) := by
  rcases h.2 with ⟨rfl, -⟩ | ⟨g', cap, cur, rfl, -, hh, -⟩
  · simp [Value.ownBlock] at hg
  · simp only [Value.ownBlock, Option.some.injEq] at hg
    subst hg
    exact ⟨cur, (0, 0), hh⟩

/-- Behind an append to the instructions: the field stored. -/
theorem MkV.putK {w w1 : World} {B : Nat} {s : St} {vk vo v' : Value} {x : Ins} (h : w.heap[B]? = some (.cells #[vk, vo, .bool s.lp, .bool s.al] 71))
    (hk : w.ownsRow (B + 1) 31 4 vk s.k.length (flat s.k)) (ho : w.ownsRow (B + 1) 99 3 vo s.op.length (flatB s.op))
    (hown : w1.ownsRow (B + 1) 31 4 v' (s.k.length + 1) (flat s.k ++ x.vals)) (hg : w.grownBy w1 vk.ownBlock) :
    w1.heap[B]? = some (.cells #[vk, vo, .bool s.lp, .bool s.al] 71) ∧ MkV (w1.setCell ⟨B, 0, none⟩ v') B (s.put x) v' vo := by
  have hb : w1.heap[B]? = some (.cells #[vk, vo, .bool s.lp, .bool s.al] 71) := by
    rw [hg.block B (blk_lt h) (owns_ne hk (by omega)).1]; exact h
  refine ⟨hb, ?_, ?_, ?_⟩
  · rw [heap_setCell_same w1 B 0 _ 71 v' hb]; rfl
  · have e1 : (s.put x).k.length = s.k.length + 1 := by simp [St.put]
    have e2 : flat (s.put x).k = flat s.k ++ x.vals := by simp only [St.put, flat_append, flat_one]
    rw [e1, e2]
    exact owns_setCell hown (owns_ne hown (Nat.lt_succ_self B)).2 _
  · have ho1 := ho.kept hg (rows_apart ho hk (by decide))
    exact owns_setCell ho1 (owns_ne ho1 (Nat.lt_succ_self B)).2 _

set_option maxHeartbeats 400000 in
set_option maxRecDepth 100000 in
theorem put_full {w : World} {B : Nat} {s : St} {vk vo : Value} (o a b c : Int) (h : MkV w B s vk vo) (hl : s.k.length ≤ 1000) :
    Calls Try.prog 30 #[.pointer (some ⟨B, 0, none⟩), .int .i64 o, .int .i64 a, .int .i64 b, .int .i64 c] w fun e w' => e = .returned (.tuple #[]) ∧ (∃ vk', MkV w' B (s.put ⟨o, a, b, c⟩) vk' vo) ∧ Below B w w' ∧ Spares w w' B := by
  obtain ⟨hB, hk, ho⟩ := h
  obtain ⟨c0, c1, c2, c3, f0, f1, f2, f3⟩ := blk_cells hB
  have hlt := blk_lt hB
  obtain ⟨i0, hi, hz0, hz1, hz2⟩ := info_parts Try.info31
  go_enter Try.func30, Try.ntmps30
  go_wp2_with (first | (at_builtin; go_must (refine wpList_append_lies _ rfl _ _ 23 rfl (B + 1) 31 i0 (.agg #[.int .i64 0, .int .i64 0, .int .i64 0, .int .i64 0]) 4 32 Try.underlying23 hi hz0 hz1 hz2 rfl (by decide) vk s.k.length (flat s.k) rfl ?c0 ⟨w.heap.size, 0, none⟩ 1 1 (Ins.vals ⟨o, a, b, c⟩) rfl rfl ?c1 ?c2 (by decide) ?c3 ?c4 ?c5 (w.heap.size + 1) ?c6 ?_)) | go_in)
  case c0 => exact hk.alloc _
  case c1 => exact World.news_of_block (heap_alloc_new w _)
  case c2 => exact oneCell_vals _
  case c3 => unfold maxLen; omega
  case c4 => omega
  case c5 => simp; omega
  case c6 => simp
  · intro g cap w1 hown' hgrow _ _
    have hB' : (w.alloc (.cells #[.int .i64 o, .int .i64 a, .int .i64 b, .int .i64 c] 31)).heap[B]? = some (.cells #[vk, vo, .bool s.lp, .bool s.al] 71) := by rw [Below.heap_alloc _ _ _ hlt]; exact hB
    obtain ⟨hB1, hM⟩ := MkV.putK (x := ⟨o, a, b, c⟩) hB' (hk.alloc _) (ho.alloc _) hown' hgrow
    have hb : Below B w w1 := ((Below.refl B w).alloc (by omega) _).grown hgrow (by simp; omega) (fun g hg => by have := (hk.lt g hg).1; omega)
    have HM : Hid (MkV (w1.setCell ⟨B, 0, none⟩ (.slice (some ⟨g, 0, none⟩) (s.k.length + 1) cap)) B (s.put ⟨o, a, b, c⟩) (.slice (some ⟨g, 0, none⟩) (s.k.length + 1) cap) vo) := hM
    obtain ⟨d0, -, -, -, g0, -⟩ := blk_cells hB1
    have hsp : Hid (Spares w (w1.setCell ⟨B, 0, none⟩ (.slice (some ⟨g, 0, none⟩) (s.k.length + 1) cap)) B) := fun x hx hxB hx34 => by
      rw [Below.heap_setCell _ _ _ _ hxB, hgrow.block x (by simp; omega) (fun e0 => ?_), Below.heap_alloc _ _ _ hx]
      obtain ⟨cs, fr, h34⟩ := owns_type hk e0.symm
      exact hx34 cs fr h34
    clear hM hown' hgrow hB1 hB'
    go_wp2
    go_end0
    exact ⟨rfl, ⟨_, HM.out⟩, hb.setCell (Nat.le_refl _) _, hsp.out⟩

theorem put_any {w : World} {B : Nat} {s : St} (o a b c : Int) (h : Mk w B s) (hl : s.k.length ≤ 1000) :
    Calls Try.prog 30 #[.pointer (some ⟨B, 0, none⟩), .int .i64 o, .int .i64 a, .int .i64 b, .int .i64 c] w fun e w' => e = .returned (.tuple #[]) ∧ Mk w' B (s.put ⟨o, a, b, c⟩) ∧ Below B w w' := by
  obtain ⟨vk, vo, h⟩ := h
  refine (put_full o a b c h hl).mono ?_
  rintro e w' ⟨rfl, ⟨vk', hM⟩, hb, -⟩
  exact ⟨rfl, hM.mk, hb⟩

set_option maxHeartbeats 400000 in
theorem names_any {w : World} {B : Nat} {s : St} (r : Int) (h : Mk w B s) (hl : s.k.length ≤ 1000) :
    Calls Try.prog 27 #[.pointer (some ⟨B, 0, none⟩), .int .i64 r] w fun e w' => e = .returned (.tuple #[]) ∧ Mk w' B (s.names r) ∧ Below B w w' := by
  have H : Hid (Mk w B s) := h
  obtain ⟨vk, vo, hB, -, -⟩ := h
  obtain ⟨-, -, -, c3, -⟩ := blk_cells hB
  clear hB
  unfold St.names
  cases ha : s.al
  · rw [ha] at c3
    go_enter Try.func27, Try.ntmps27
    go_wp2_with (go_at_call 30; refine (put_any _ _ _ _ H.out hl).mono ?_; rintro e w' ⟨rfl, hM, hb⟩)
    go_end0
    exact ⟨rfl, hM, hb⟩
  · rw [ha] at c3
    go_enter Try.func27, Try.ntmps27
    go_wp2_with (go_at_call 30; refine (put_any _ _ _ _ H.out hl).mono ?_; rintro e w' ⟨rfl, hM, hb⟩)
    go_end0
    exact ⟨rfl, hM, hb⟩

end Go.Proofs.Ytbhbacphiinpeaa

/- What 'enters' does to a kernel that is being made. -/
namespace Go.Proofs.Ytbhbacphiinpeaa
open Go.RowKit

theorem Try.info99 : (Try.prog.info? 99).map (fun i => (i.zero, i.size, i.bytes)) = some (some (.agg #[.int .i64 0, .bool false, .bool false]), 3, 16) := by kernel_rfl

theorem owns_slice {w : World} {base : Nat} {e : TypeId} {size : Nat} {v : Value} {n : Nat} {xs : List Value} (h : w.ownsRow base e size v n xs) : ∃ ao cap, v = .slice ao n cap := by
  rcases h.2 with ⟨rfl, rfl⟩ | ⟨g, cap, cur, rfl, -⟩
  · exact ⟨none, 0, rfl⟩
  · exact ⟨some ⟨g, 0, none⟩, cap, rfl⟩


set_option maxHeartbeats 1000000 in
set_option maxRecDepth 100000 in
theorem enters_else {w : World} {B : Nat} {s : St} (loop : Bool) (hcond : (loop && !s.lp) = false) (h : Mk w B s) (hl : s.k.length ≤ 1000) (hl2 : s.op.length ≤ 1000) :
    Calls Try.prog 43 #[.pointer (some ⟨B, 0, none⟩), .bool loop] w fun e w' => e = .returned (.tuple #[]) ∧ Mk w' B (s.enters loop) ∧ Below B w w' := by
  have es : s.enters loop = (s.opn ⟨s.k.length, false, true⟩).put ⟨13, 1, 0, 0⟩ := by unfold St.enters; rw [hcond]; rfl
  rw [es]
  clear es
  obtain ⟨vk, vo, hB, hk, ho⟩ := h
  obtain ⟨ka, kc, hvk⟩ := owns_slice hk
  subst hvk
  obtain ⟨c0, c1, c2, c3, f0, f1, f2, f3⟩ := blk_cells hB
  have hlt := blk_lt hB
  obtain ⟨i0, hi, hz0, hz1, hz2⟩ := info_parts Try.info99
  have hne := owns_ne ho (Nat.lt_succ_self B)
  have hne1 : some B ≠ vo.ownBlock := hne.1
  have hB' : ∀ o, (w.alloc o).drew.heap[B]? = some (.cells #[.slice ka s.k.length kc, vo, .bool s.lp, .bool s.al] 71) := fun o => (Below.heap_alloc w o B hlt).trans hB
  have c1' : ∀ o, (w.alloc o).cell? ⟨B, 1, none⟩ = some vo := fun o => (World.cell?_of_block (a := ⟨B, 1, none⟩) (Below.heap_alloc w o B hlt)).trans c1
  have f1' : ∀ o, (w.alloc o).frozen? ⟨B, 1, none⟩ = false := fun o => (World.frozen?_of_block (a := ⟨B, 1, none⟩) (Below.heap_alloc w o B hlt)).trans f1
  cases loop
  · go_enter Try.func43, Try.ntmps43
    go_wp2_with fail
    go_region_law ((refine step_append_lies _ (by rfl) _ _ _ (by rfl) (B + 1) 99 i0 _ 3 16 Try.underlying69 hi hz0 hz1 hz2 rfl (by omega) vo s.op.length (flatB s.op) (by rfl) ((ho.alloc _).drew) ⟨w.heap.size, 0, none⟩ 1 1 (Blk.vals ⟨s.k.length, false, true⟩) (by rfl) (by rfl) (World.news_of_block (cs := #[.int .i64 s.k.length, .bool false, .bool true]) (t := 99) (fr := (0, 0)) (heap_alloc_new w _)) (oneCell_valsB _) (by omega) (by unfold maxLen; omega) (by omega) (by simp; omega) (w.heap.size + 1) (by simp) ?_; intro gg cap w1 hown1 hgrow hat hlt1; have d1 : w1.cell? ⟨B, 1, none⟩ = some vo := (hgrow.cell_far _ (by simp; omega) hne1).trans (c1' _); have d2 : w1.frozen? ⟨B, 1, none⟩ = false := (hgrow.frozen_far _ (by simp; omega) hne1).trans (f1' _)))
    all_goals
      have hM := (Mk.putO (x := ⟨s.k.length, false, true⟩) (hB' _) ((hk.alloc _).drew) ((ho.alloc _).drew) hown1 hgrow).2
      have hb : Below B w w1 := (((Below.refl B w).alloc (by omega) _).drew).grown hgrow (by simp; omega) (fun g hg => by have := (ho.lt g hg).1; omega)
      have hb2 := hb.setCell (p := ⟨B, 1, none⟩) (Nat.le_refl _) (.slice (some ⟨gg, 0, none⟩) (s.op.length + 1) cap)
      have HM : Hid (Mk (w1.setCell ⟨B, 1, none⟩ (.slice (some ⟨gg, 0, none⟩) (s.op.length + 1) cap)) B (s.opn ⟨s.k.length, false, true⟩)) := hM
      clear hM hown1 hgrow hat hb d1 d2
      go_wp2_with (go_at_call 30; refine (put_any _ _ _ _ HM.out hl).mono ?_; rintro e w' ⟨rfl, hM2, hb3⟩)
      go_end0
      exact ⟨rfl, hM2, hb2.trans hb3⟩
  · have hlp : s.lp = true := by simpa using hcond
    rw [hlp] at c2
    clear hcond
    go_enter Try.func43, Try.ntmps43
    go_wp2_with fail
    go_region_law ((refine step_append_lies _ (by rfl) _ _ _ (by rfl) (B + 1) 99 i0 _ 3 16 Try.underlying69 hi hz0 hz1 hz2 rfl (by omega) vo s.op.length (flatB s.op) (by rfl) ((ho.alloc _).drew) ⟨w.heap.size, 0, none⟩ 1 1 (Blk.vals ⟨s.k.length, false, true⟩) (by rfl) (by rfl) (World.news_of_block (cs := #[.int .i64 s.k.length, .bool false, .bool true]) (t := 99) (fr := (0, 0)) (heap_alloc_new w _)) (oneCell_valsB _) (by omega) (by unfold maxLen; omega) (by omega) (by simp; omega) (w.heap.size + 1) (by simp) ?_; intro gg cap w1 hown1 hgrow hat hlt1; have d1 : w1.cell? ⟨B, 1, none⟩ = some vo := (hgrow.cell_far _ (by simp; omega) hne1).trans (c1' _); have d2 : w1.frozen? ⟨B, 1, none⟩ = false := (hgrow.frozen_far _ (by simp; omega) hne1).trans (f1' _)))
    all_goals
      have hM := (Mk.putO (x := ⟨s.k.length, false, true⟩) (hB' _) ((hk.alloc _).drew) ((ho.alloc _).drew) hown1 hgrow).2
      have hb : Below B w w1 := (((Below.refl B w).alloc (by omega) _).drew).grown hgrow (by simp; omega) (fun g hg => by have := (ho.lt g hg).1; omega)
      have hb2 := hb.setCell (p := ⟨B, 1, none⟩) (Nat.le_refl _) (.slice (some ⟨gg, 0, none⟩) (s.op.length + 1) cap)
      have HM : Hid (Mk (w1.setCell ⟨B, 1, none⟩ (.slice (some ⟨gg, 0, none⟩) (s.op.length + 1) cap)) B (s.opn ⟨s.k.length, false, true⟩)) := hM
      clear hM hown1 hgrow hat hb d1 d2
      go_wp2_with (go_at_call 30; refine (put_any _ _ _ _ HM.out hl).mono ?_; rintro e w' ⟨rfl, hM2, hb3⟩)
      go_end0
      exact ⟨rfl, hM2, hb2.trans hb3⟩

end Go.Proofs.Ytbhbacphiinpeaa

/- What 'enters' does to a kernel that is being made, a loop's beginning too. -/
namespace Go.Proofs.Ytbhbacphiinpeaa
open Go.RowKit

set_option maxHeartbeats 1000000 in
set_option maxRecDepth 100000 in
theorem enters_loop {w : World} {B : Nat} {s : St} (hcond : s.lp = false) (h : Mk w B s) (hl : s.k.length ≤ 900) (hl2 : s.op.length ≤ 900) :
    Calls Try.prog 43 #[.pointer (some ⟨B, 0, none⟩), .bool true] w fun e w' => e = .returned (.tuple #[]) ∧ Mk w' B (s.enters true) ∧ Below B w w' := by
  have es : s.enters true = ((({ s with lp := true } : St).names 3).opn ⟨(({ s with lp := true } : St).names 3).k.length, true, false⟩).put ⟨13, 3, 0, 0⟩ := by
    unfold St.enters; rw [hcond]; simp [St.names, St.put]
  rw [es]
  clear es
  have hn : (({ s with lp := true } : St).names 3).k.length ≤ 1000 := by simp [St.names, St.put]; omega
  have ho2 : (({ s with lp := true } : St).names 3).op.length ≤ 1000 := by simp [St.names, St.put]; omega
  obtain ⟨t, Ht⟩ : ∃ t, Hid (({ s with lp := true } : St).names 3 = t) := ⟨_, rfl⟩
  rw [Ht.out] at hn ho2 ⊢
  obtain ⟨vk, vo, hB, hk, ho⟩ := h
  obtain ⟨c0, c1, c2, c3, f0, f1, f2, f3⟩ := blk_cells hB
  rw [hcond] at c2
  have HM0 : Hid (Mk (w.setCell ⟨B, 2, none⟩ (.bool true)) B ({ s with lp := true } : St)) := by
    refine ⟨vk, vo, ?_, owns_setCell hk (owns_ne hk (Nat.lt_succ_self B)).2 _, owns_setCell ho (owns_ne ho (Nat.lt_succ_self B)).2 _⟩
    rw [heap_setCell_same w B 2 _ 71 _ hB]; rfl
  have hb0 := (Below.refl B w).setCell (p := ⟨B, 2, none⟩) (Nat.le_refl _) (.bool true)
  clear hB hk ho hcond
  go_enter Try.func43, Try.ntmps43
  go_wp2_with fail
  refine (names_any _ HM0.out (by show s.k.length ≤ 1000; omega)).mono ?_
  rintro e w2 ⟨rfl, hM2, hb2⟩
  clear HM0 c0 c1 c2 c3 f0 f1 f2 f3
  have hb02 := hb0.trans hb2
  clear hb0 hb2
  rw [Ht.out] at hM2
  obtain ⟨vk, vo, hB, hk, ho⟩ := hM2
  obtain ⟨ka, kc, hvk⟩ := owns_slice hk
  subst hvk
  obtain ⟨c0, c1, c2, c3, f0, f1, f2, f3⟩ := blk_cells hB
  have hlt := blk_lt hB
  obtain ⟨i0, hi, hz0, hz1, hz2⟩ := info_parts Try.info99
  have hne := owns_ne ho (Nat.lt_succ_self B)
  have hne1 : some B ≠ vo.ownBlock := hne.1
  have hB' : ∀ o, (w2.alloc o).drew.heap[B]? = some (.cells #[.slice ka t.k.length kc, vo, .bool t.lp, .bool t.al] 71) := fun o => (Below.heap_alloc w2 o B hlt).trans hB
  have c1' : ∀ o, (w2.alloc o).cell? ⟨B, 1, none⟩ = some vo := fun o => (World.cell?_of_block (a := ⟨B, 1, none⟩) (Below.heap_alloc w2 o B hlt)).trans c1
  have f1' : ∀ o, (w2.alloc o).frozen? ⟨B, 1, none⟩ = false := fun o => (World.frozen?_of_block (a := ⟨B, 1, none⟩) (Below.heap_alloc w2 o B hlt)).trans f1
  go_wp2_with fail
  go_region_law ((refine step_append_lies _ (by rfl) _ _ _ (by rfl) (B + 1) 99 i0 _ 3 16 Try.underlying69 hi hz0 hz1 hz2 rfl (by omega) vo t.op.length (flatB t.op) (by rfl) ((ho.alloc _).drew) ⟨w2.heap.size, 0, none⟩ 1 1 (Blk.vals ⟨t.k.length, true, false⟩) (by rfl) (by rfl) (World.news_of_block (cs := #[.int .i64 t.k.length, .bool true, .bool false]) (t := 99) (fr := (0, 0)) (heap_alloc_new w2 _)) (oneCell_valsB _) (by omega) (by unfold maxLen; omega) (by omega) (by simp; omega) (w2.heap.size + 1) (by simp) ?_; intro gg cap w1 hown1 hgrow hat hlt1; have d1 : w1.cell? ⟨B, 1, none⟩ = some vo := (hgrow.cell_far _ (by simp; omega) hne1).trans (c1' _); have d2 : w1.frozen? ⟨B, 1, none⟩ = false := (hgrow.frozen_far _ (by simp; omega) hne1).trans (f1' _)))
  all_goals
    have hM := (Mk.putO (x := ⟨t.k.length, true, false⟩) (hB' _) ((hk.alloc _).drew) ((ho.alloc _).drew) hown1 hgrow).2
    have hb : Below B w2 w1 := (((Below.refl B w2).alloc (by omega) _).drew).grown hgrow (by simp; omega) (fun g hg => by have := (ho.lt g hg).1; omega)
    have hb2 := hb.setCell (p := ⟨B, 1, none⟩) (Nat.le_refl _) (.slice (some ⟨gg, 0, none⟩) (t.op.length + 1) cap)
    have HM : Hid (Mk (w1.setCell ⟨B, 1, none⟩ (.slice (some ⟨gg, 0, none⟩) (t.op.length + 1) cap)) B (t.opn ⟨t.k.length, true, false⟩)) := hM
    clear hM hown1 hgrow hat hb d1 d2
    go_wp2_with (go_at_call 30; refine (put_any _ _ _ _ HM.out hn).mono ?_; rintro e w' ⟨rfl, hM2, hb3⟩)
    (try simp only [Exit.inBlock, Exit.then])
    refine bodyPost_ret (results_none rfl _ _ _) rfl ?_
    exact ⟨rfl, hM2, hb02.trans (hb2.trans hb3)⟩

theorem enters_any {w : World} {B : Nat} {s : St} (loop : Bool) (h : Mk w B s) (hl : s.k.length ≤ 900) (hl2 : s.op.length ≤ 900) :
    Calls Try.prog 43 #[.pointer (some ⟨B, 0, none⟩), .bool loop] w fun e w' => e = .returned (.tuple #[]) ∧ Mk w' B (s.enters loop) ∧ Below B w w' := by
  by_cases hc : (loop && !s.lp) = false
  · exact enters_else loop hc h (by omega) (by omega)
  · have h1 : loop = true ∧ s.lp = false := by simpa using hc
    rw [h1.1]
    exact enters_loop h1.2 h hl hl2

end Go.Proofs.Ytbhbacphiinpeaa

/- Plain facts on the end of a block of a kernel that is being made; nothing of the program is in this text. -/
namespace Go.Proofs.Ytbhbacphiinpeaa
open Go.RowKit

theorem flatB_last (l : List Blk) (b : Blk) : (flatB (l ++ [b]))[l.length * 3]? = some (.int .i64 b.at0) ∧ (flatB (l ++ [b]))[l.length * 3 + 1]? = some (.bool b.loop) ∧ (flatB (l ++ [b]))[l.length * 3 + 2]? = some (.bool b.sides) := by
  rw [flatB_append, flatB_one]
  have hl := flatB_length l
  refine ⟨?_, ?_, ?_⟩
  · rw [List.getElem?_append_right (by omega), hl, show l.length * 3 - l.length * 3 = 0 by omega]; rfl
  · rw [List.getElem?_append_right (by omega), hl, show l.length * 3 + 1 - l.length * 3 = 1 by omega]; rfl
  · rw [List.getElem?_append_right (by omega), hl, show l.length * 3 + 2 - l.length * 3 = 2 by omega]; rfl

theorem flat_cons (x : Ins) (l : List Ins) : flat (x :: l) = x.vals ++ flat l := by simp [flat]

theorem flat_modify : ∀ (l : List Ins) (i : Nat) (n : Int), i < l.length → flat (l.modify i fun x => { x with b := n }) = (flat l).set (i * 4 + 2) (.int .i64 n)
  | [], i, n, h => by simp at h
  | x :: l, 0, n, _ => by
    rw [List.modify_zero_cons, flat_cons, flat_cons]
    simp [Ins.vals]
  | x :: l, i + 1, n, h => by
    rw [List.modify_succ_cons, flat_cons, flat_cons, flat_modify l i n (by simpa using h), List.set_append_right _ _ (by simp [Ins.vals]; omega)]
    have e : (i + 1) * 4 + 2 - x.vals.length = i * 4 + 2 := by simp [Ins.vals]; omega
    rw [e]

theorem close_eq {s : St} {ops : List Blk} {b : Blk} (h : s.op = ops ++ [b]) (second : Bool) : s.close second = (((({ s with op := ops } : St).ends b).other b second)).aim b.at0 := by
  unfold St.close
  rw [h]
  simp

end Go.Proofs.Ytbhbacphiinpeaa

