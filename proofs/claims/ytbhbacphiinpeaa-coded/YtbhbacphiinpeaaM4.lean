/- What 'close' does to a kernel that is being made. -/
import Derived.Test.YtbhbacphiinpeaaM1
import Derived.Test.YtbhbacphiinpeaaCl
import Derived.Deep.RegionLaw
import Derived.BigRegion
namespace Go.Proofs.Ytbhbacphiinpeaa
open Go.RowKit

/-- What 'close' reads first. -/
theorem close_opens {w : World} {B : Nat} {s : St} {vk vo : Value} {ops : List Blk} {b : Blk} (h : MkV w B s vk vo) (hs : s.op = ops ++ [b]) :
    ∃ g cap, vo = .slice (some ⟨g, 0, none⟩) (ops.length + 1) cap ∧ ops.length + 1 ≤ cap ∧ g < w.heap.size ∧ B < g ∧ w.cell? ⟨g, ops.length * 3, none⟩ = some (.int .i64 b.at0) ∧ w.cell? ⟨g, ops.length * 3 + 1, none⟩ = some (.bool b.loop) ∧ w.cell? ⟨g, ops.length * 3 + 2, none⟩ = some (.bool b.sides) := by
  obtain ⟨-, -, ho⟩ := h
  rw [hs] at ho
  have hl : (ops ++ [b]).length = ops.length + 1 := by simp
  rw [hl] at ho
  rcases ho.2 with ⟨-, h0⟩ | ⟨g, cap, cur, rfl, hg, hh, hc, -⟩
  · omega
  · obtain ⟨a0, a1, a2⟩ := flatB_last ops b
    exact ⟨g, cap, rfl, hc, blk_lt hh, by omega, (ho.cellAt _ (by omega)).trans a0, (ho.cellAt _ (by omega)).trans a1, (ho.cellAt _ (by omega)).trans a2⟩

/-- What 'close' writes last. -/
theorem aim_opens {w : World} {B : Nat} {s : St} {vk vo : Value} {i : Nat} (h : MkV w B s vk vo) (hat : i < s.k.length) :
    ∃ g cap, vk = .slice (some ⟨g, 0, none⟩) s.k.length cap ∧ s.k.length ≤ cap ∧ g < w.heap.size ∧ B < g ∧ (∃ v, w.cell? ⟨g, i * 4 + 2, none⟩ = some (.int .i64 v)) ∧ w.frozen? ⟨g, i * 4 + 2, none⟩ = false := by
  obtain ⟨-, hk, -⟩ := h
  rcases hk.2 with ⟨-, h0⟩ | ⟨g, cap, cur, rfl, hg, hh, hc, -⟩
  · omega
  · obtain ⟨-, -, a2, -⟩ := flat_at (List.getElem?_eq_getElem hat)
    exact ⟨g, cap, rfl, hc, blk_lt hh, by omega, ⟨_, (hk.cellAt _ (by omega)).trans a2⟩, hk.frozenAt _⟩

theorem aim_ends {w : World} {B : Nat} {s : St} {g cap : Nat} {vo : Value} {i : Nat} (h : MkV w B s (.slice (some ⟨g, 0, none⟩) s.k.length cap) vo) (hat : i < s.k.length) (hg : B < g) :
    MkV (w.setCell ⟨g, i * 4 + 2, none⟩ (.int .i64 s.k.length)) B (s.aim i) (.slice (some ⟨g, 0, none⟩) s.k.length cap) vo ∧ Below B w (w.setCell ⟨g, i * 4 + 2, none⟩ (.int .i64 s.k.length)) := by
  obtain ⟨hB, hk, ho⟩ := h
  obtain ⟨h1, h2⟩ := hk.stored (i * 4 + 2) (.int .i64 s.k.length)
  refine ⟨⟨?_, ?_, ?_⟩, (Below.refl B w).setCell (Nat.le_of_lt hg) _⟩
  · rw [Below.heap_setCell _ _ _ _ (by show B ≠ g; omega)]; exact hB
  · have e1 : (s.aim i).k.length = s.k.length := by simp [St.aim]
    have e2 : flat (s.aim i).k = (flat s.k).set (i * 4 + 2) (.int .i64 s.k.length) := by unfold St.aim; exact flat_modify _ _ _ hat
    rw [e1, e2]
    exact h1
  · exact ho.kept h2 (rows_apart ho hk (by decide))

/-- Behind the reading of the last block: the box, and the list without it. -/
theorem close_pops {w : World} {B : Nat} {s : St} {vk : Value} {ops : List Blk} {b : Blk} {g cap : Nat} {o : Obj} (h : MkV w B s vk (.slice (some ⟨g, 0, none⟩) (ops.length + 1) cap)) (hs : s.op = ops ++ [b]) :
    MkV ((w.alloc o).setCell ⟨B, 1, none⟩ (.slice (some ⟨g, 0, none⟩) ops.length cap)) B ({ s with op := ops } : St) vk (.slice (some ⟨g, 0, none⟩) ops.length cap) ∧
    Below B w ((w.alloc o).setCell ⟨B, 1, none⟩ (.slice (some ⟨g, 0, none⟩) ops.length cap)) := by
  obtain ⟨hB, hk, ho⟩ := h
  have hlt := blk_lt hB
  have hB' : (w.alloc o).heap[B]? = _ := (Below.heap_alloc w o B hlt).trans hB
  refine ⟨⟨?_, ?_, ?_⟩, ((Below.refl B w).alloc (by omega) _).setCell (Nat.le_refl _) _⟩
  · rw [heap_setCell_same _ B 1 _ 71 _ hB']; rfl
  · exact owns_setCell (hk.alloc _) (owns_ne hk (Nat.lt_succ_self B)).2 _
  · have hl : (ops ++ [b]).length = ops.length + 1 := by simp
    rw [hs, hl, flatB_append] at ho
    have h2 := ownsRow_pop (flatB_length ops) ho
    exact owns_setCell (h2.alloc _) (owns_ne h2 (Nat.lt_succ_self B)).2 _

set_option maxHeartbeats 1000000 in
set_option maxRecDepth 100000 in
theorem close_plain {w : World} {B : Nat} {s : St} {vk vo : Value} {ops : List Blk} {b : Blk} (second : Bool) (h : MkV w B s vk vo) (hs : s.op = ops ++ [b]) (_hl : s.k.length ≤ 900) (hlo : ops.length ≤ 900) (hat : b.at0 < s.k.length)
    (hloop : b.loop = false) (hsec : (second && b.sides) = false) :
    Calls Try.prog 29 #[.pointer (some ⟨B, 0, none⟩), .bool second] w fun e w' => e = .returned (.tuple #[]) ∧ Mk w' B (s.close second) ∧ Below B w w' := by
  have es : s.close second = ({ s with op := ops } : St).aim b.at0 := by
    rw [close_eq hs]; unfold St.ends St.other; rw [hloop, hsec]; rfl
  rw [es]
  clear es
  obtain ⟨g, cap, hvo, hcap, hg, hBg, o0, o1, o2⟩ := close_opens h hs
  subst hvo
  obtain ⟨hM1, hb1⟩ := close_pops (o := .cells #[.int .i64 b.at0, .bool false, .bool b.sides] 99) h hs
  obtain ⟨gk, ck, hvk, hck, hgk, hBk, ⟨v2, r0⟩, r1⟩ := aim_opens h hat
  subst hvk
  obtain ⟨hM2, hb2⟩ := aim_ends (s := ({ s with op := ops } : St)) hM1 hat hBk
  have hM3 := And.intro hM2.mk (hb1.trans hb2)
  obtain ⟨hB, -, -⟩ := h
  rw [World.setCell_alloc_past _ _ _ _ (blk_lt hB), World.setCell_alloc_past _ _ _ _ (by simpa using hgk)] at hM3
  have HM := id (show Hid _ from hM3)
  obtain ⟨c0, c1, c2, c3, f0, f1, f2, f3⟩ := blk_cells hB
  have hlt := blk_lt hB
  rw [hloop] at o1
  have hatI : ((b.at0 : Nat) : Int) < (s.k.length : Int) := by omega
  have hatJ : (0 : Int) ≤ ((b.at0 : Nat) : Int) := by omega
  clear hM1 hb1 hM2 hb2 hB hM3
  cases second
  · go_enter Try.func29, Try.ntmps29
    go_wp2_with fail
    go_region
    go_end0
    exact ⟨rfl, HM.out.1, HM.out.2.drew⟩
  · have hsd : b.sides = false := by simpa using hsec
    rw [hsd] at o2
    rw [hsd] at HM
    go_enter Try.func29, Try.ntmps29
    go_wp2_with fail
    go_region
    go_end0
    exact ⟨rfl, HM.out.1, HM.out.2.drew⟩

end Go.Proofs.Ytbhbacphiinpeaa
