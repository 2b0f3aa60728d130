/- What 'put' and 'names' do to a kernel that is being made. -/
import Derived.Test.YtbhbacphiinpeaaC
namespace Go.Proofs.Ytbhbacphiinpeaa
open Go.RowKit

/-- The kernel that is being made, its two lists named. -/
def MkV (w : World) (B : Nat) (s : St) (vk vo : Value) : Prop := w.heap[B]? = some (.cells #[vk, vo, .bool s.lp, .bool s.al] 71) ∧
  w.ownsRow (B + 1) 31 4 vk s.k.length (flat s.k) ∧ w.ownsRow (B + 1) 99 3 vo s.op.length (flatB s.op)

theorem MkV.mk {w : World} {B : Nat} {s : St} {vk vo : Value} (h : MkV w B s vk vo) : Mk w B s := ⟨vk, vo, h⟩

/-- Nothing that was there has turned but block B and rows of instructions. -/
def Spares (w w' : World) (B : Nat) : Prop := ∀ x, x < w.heap.size → x ≠ B → (∀ cs fr, w.heap[x]? ≠ some (.cells cs 31 fr)) → w'.heap[x]? = w.heap[x]?

theorem owns_type {w : World} {base : Nat} {e : TypeId} {size : Nat} {v : Value} {n : Nat} {xs : List Value} (h : w.ownsRow base e size v n xs) {g : Nat} (hg : v.ownBlock = some g) : ∃ cs fr, w.heap[g]? = some (.cells cs e fr) := by
  rcases h.2 with ⟨rfl, -⟩ | ⟨g', cap, cur, rfl, -, hh, -⟩
  · simp [Value.ownBlock] at hg
  · simp only [Value.ownBlock, Option.some.injEq] at hg
    subst hg
    exact ⟨cur, (0, 0), hh⟩

/-- Behind an append to the instructions: the field stored. -/
theorem MkV.putK {w w1 : World} {B : Nat} {s : St} {vk vo v' : Value} {x : Ins} (h : w.heap[B]? = some (.cells #[vk, vo, .bool s.lp, .bool s.al] 71))
    (hk : w.ownsRow (B + 1) 31 4 vk s.k.length (flat s.k)) (ho : w.ownsRow (B + 1) 99 3 vo s.op.length (flatB s.op))
    (hown : w1.ownsRow (B + 1) 31 4 v' (s.k.length + 1) (flat s.k ++ x.vals)) (hg : w.grownBy w1 vk.ownBlock) :
    w1.heap[B]? = some (.cells #[vk, vo, .bool s.lp, .bool s.al] 71) ∧ MkV (w1.setCell ⟨B, 0, none⟩ v') B (s.put x) v' vo := by
  have hb : w1.heap[B]? = some (.cells #[vk, vo, .bool s.lp, .bool s.al] 71) := by
    rw [hg.block B (blk_lt h) (owns_ne hk (by omega)).1]; exact h
  refine ⟨hb, ?_, ?_, ?_⟩
  · rw [heap_setCell_same w1 B 0 _ 71 v' hb]; rfl
  · have e1 : (s.put x).k.length = s.k.length + 1 := by simp [St.put]
    have e2 : flat (s.put x).k = flat s.k ++ x.vals := by simp only [St.put, flat_append, flat_one]
    rw [e1, e2]
    exact owns_setCell hown (owns_ne hown (Nat.lt_succ_self B)).2 _
  · have ho1 := ho.kept hg (rows_apart ho hk (by decide))
    exact owns_setCell ho1 (owns_ne ho1 (Nat.lt_succ_self B)).2 _

set_option maxHeartbeats 400000 in
set_option maxRecDepth 100000 in
theorem put_full {w : World} {B : Nat} {s : St} {vk vo : Value} (o a b c : Int) (h : MkV w B s vk vo) (hl : s.k.length ≤ 1000) :
    Calls Try.prog 30 #[.pointer (some ⟨B, 0, none⟩), .int .i64 o, .int .i64 a, .int .i64 b, .int .i64 c] w fun e w' => e = .returned (.tuple #[]) ∧ (∃ vk', MkV w' B (s.put ⟨o, a, b, c⟩) vk' vo) ∧ Below B w w' ∧ Spares w w' B := by
  obtain ⟨hB, hk, ho⟩ := h
  obtain ⟨c0, c1, c2, c3, f0, f1, f2, f3⟩ := blk_cells hB
  have hlt := blk_lt hB
  obtain ⟨i0, hi, hz0, hz1, hz2⟩ := info_parts Try.info31
  go_enter Try.func30, Try.ntmps30
  go_wp2_with (first | (at_builtin; go_must (refine wpList_append_lies _ rfl _ _ 23 rfl (B + 1) 31 i0 (.agg #[.int .i64 0, .int .i64 0, .int .i64 0, .int .i64 0]) 4 32 Try.underlying23 hi hz0 hz1 hz2 rfl (by decide) vk s.k.length (flat s.k) rfl ?c0 ⟨w.heap.size, 0, none⟩ 1 1 (Ins.vals ⟨o, a, b, c⟩) rfl rfl ?c1 ?c2 (by decide) ?c3 ?c4 ?c5 (w.heap.size + 1) ?c6 ?_)) | go_in)
  case c0 => exact hk.alloc _
  case c1 => exact World.news_of_block (heap_alloc_new w _)
  case c2 => exact oneCell_vals _
  case c3 => unfold maxLen; omega
  case c4 => omega
  case c5 => simp; omega
  case c6 => simp
  · intro g cap w1 hown' hgrow _ _
    have hB' : (w.alloc (.cells #[.int .i64 o, .int .i64 a, .int .i64 b, .int .i64 c] 31)).heap[B]? = some (.cells #[vk, vo, .bool s.lp, .bool s.al] 71) := by rw [Below.heap_alloc _ _ _ hlt]; exact hB
    obtain ⟨hB1, hM⟩ := MkV.putK (x := ⟨o, a, b, c⟩) hB' (hk.alloc _) (ho.alloc _) hown' hgrow
    have hb : Below B w w1 := ((Below.refl B w).alloc (by omega) _).grown hgrow (by simp; omega) (fun g hg => by have := (hk.lt g hg).1; omega)
    have HM : Hid (MkV (w1.setCell ⟨B, 0, none⟩ (.slice (some ⟨g, 0, none⟩) (s.k.length + 1) cap)) B (s.put ⟨o, a, b, c⟩) (.slice (some ⟨g, 0, none⟩) (s.k.length + 1) cap) vo) := hM
    obtain ⟨d0, -, -, -, g0, -⟩ := blk_cells hB1
    have hsp : Hid (Spares w (w1.setCell ⟨B, 0, none⟩ (.slice (some ⟨g, 0, none⟩) (s.k.length + 1) cap)) B) := fun x hx hxB hx34 => by
      rw [Below.heap_setCell _ _ _ _ hxB, hgrow.block x (by simp; omega) (fun e0 => ?_), Below.heap_alloc _ _ _ hx]
      obtain ⟨cs, fr, h34⟩ := owns_type hk e0.symm
      exact hx34 cs fr h34
    clear hM hown' hgrow hB1 hB'
    go_wp2
    go_end0
    exact ⟨rfl, ⟨_, HM.out⟩, hb.setCell (Nat.le_refl _) _, hsp.out⟩

theorem put_any {w : World} {B : Nat} {s : St} (o a b c : Int) (h : Mk w B s) (hl : s.k.length ≤ 1000) :
    Calls Try.prog 30 #[.pointer (some ⟨B, 0, none⟩), .int .i64 o, .int .i64 a, .int .i64 b, .int .i64 c] w fun e w' => e = .returned (.tuple #[]) ∧ Mk w' B (s.put ⟨o, a, b, c⟩) ∧ Below B w w' := by
  obtain ⟨vk, vo, h⟩ := h
  refine (put_full o a b c h hl).mono ?_
  rintro e w' ⟨rfl, ⟨vk', hM⟩, hb, -⟩
  exact ⟨rfl, hM.mk, hb⟩

set_option maxHeartbeats 400000 in
theorem names_any {w : World} {B : Nat} {s : St} (r : Int) (h : Mk w B s) (hl : s.k.length ≤ 1000) :
    Calls Try.prog 27 #[.pointer (some ⟨B, 0, none⟩), .int .i64 r] w fun e w' => e = .returned (.tuple #[]) ∧ Mk w' B (s.names r) ∧ Below B w w' := by
  have H : Hid (Mk w B s) := h
  obtain ⟨vk, vo, hB, -, -⟩ := h
  obtain ⟨-, -, -, c3, -⟩ := blk_cells hB
  clear hB
  unfold St.names
  cases ha : s.al
  · rw [ha] at c3
    go_enter Try.func27, Try.ntmps27
    go_wp2_with (go_at_call 30; refine (put_any _ _ _ _ H.out hl).mono ?_; rintro e w' ⟨rfl, hM, hb⟩)
    go_end0
    exact ⟨rfl, hM, hb⟩
  · rw [ha] at c3
    go_enter Try.func27, Try.ntmps27
    go_wp2_with (go_at_call 30; refine (put_any _ _ _ _ H.out hl).mono ?_; rintro e w' ⟨rfl, hM, hb⟩)
    go_end0
    exact ⟨rfl, hM, hb⟩

end Go.Proofs.Ytbhbacphiinpeaa
