/- M4 M5 M6: joined. -/
import Derived.Test.YtbhbacphiinpeaaZ02
import Derived.Deep.RegionLaw
import Derived.BigRegion

/- What 'close' does to a kernel that is being made. -/
namespace Go.Proofs.Ytbhbacphiinpeaa
open Go.RowKit

/-- What 'close' reads first. -/
theorem close_opens {w : World} {B : Nat} {s : St} {vk vo : Value} {ops : List Blk} {b : Blk} (h : MkV w B s vk vo) (hs : s.op = ops ++ [b]) :
    ∃ g cap, vo = .slice (some ⟨g, 0, none⟩) (ops.length + 1) cap ∧ ops.length + 1 ≤ cap ∧ g < w.heap.size ∧ B < g ∧ w.cell? ⟨g, ops.length * 3, none⟩ = some (.int .i64 b.at0) ∧ w.cell? ⟨g, ops.length * 3 + 1, none⟩ = some (.bool b.loop) ∧ w.cell? ⟨g, ops.length * 3 + 2, none⟩ = some (.bool b.sides) := by
  obtain ⟨-, -, ho⟩ := h
  rw [hs] at ho
  have hl : (ops ++ [b]).length = ops.length + 1 := by simp
  rw [hl] at ho
  rcases ho.2 with ⟨-, h0⟩ | ⟨g, cap, cur, rfl, hg, hh, hc, -⟩
  · omega
  · obtain ⟨a0, a1, a2⟩ := flatB_last ops b
    exact ⟨g, cap, rfl, hc, blk_lt hh, by omega, (ho.cellAt _ (by omega)).trans a0, (ho.cellAt _ (by omega)).trans a1, (ho.cellAt _ (by omega)).trans a2⟩

/-- What 'close' writes last. -/
theorem aim_opens {w : World} {B : Nat} {s : St} {vk vo : Value} {i : Nat} (h : MkV w B s vk vo) (hat : i < s.k.length) :
    ∃ g cap, vk = .slice (some ⟨g, 0, none⟩) s.k.length cap ∧ s.k.length ≤ cap ∧ g < w.heap.size ∧ B < g ∧ (∃ v, w.cell? ⟨g, i * 4 + 2, none⟩ = some (.int .i64 v)) ∧ w.frozen? ⟨g, i * 4 + 2, none⟩ = false := by
  obtain ⟨-, hk, -⟩ := h
  rcases hk.2 with ⟨-, h0⟩ | ⟨g, cap, cur, rfl, hg, hh, hc, -⟩
  · omega
  · obtain ⟨-, -, a2, -⟩ := flat_at (List.getElem?_eq_getElem hat)
    exact ⟨g, cap, rfl, hc, blk_lt hh, by omega, ⟨_, (hk.cellAt _ (by omega)).trans a2⟩, hk.frozenAt _⟩

theorem aim_ends {w : World} {B : Nat} {s : St} {g cap : Nat} {vo : Value} {i : Nat} (h : MkV w B s (.slice (some ⟨g, 0, none⟩) s.k.length cap) vo) (hat : i < s.k.length) (hg : B < g) :
    MkV (w.setCell ⟨g, i * 4 + 2, none⟩ (.int .i64 s.k.length)) B (s.aim i) (.slice (some ⟨g, 0, none⟩) s.k.length cap) vo ∧ Below B w (w.setCell ⟨g, i * 4 + 2, none⟩ (.int .i64 s.k.length)) := by
  obtain ⟨hB, hk, ho⟩ := h
  obtain ⟨h1, h2⟩ := hk.stored (i * 4 + 2) (.int .i64 s.k.length)
  refine ⟨⟨?_, ?_, ?_⟩, (Below.refl B w).setCell (Nat.le_of_lt hg) _⟩
  · rw [Below.heap_setCell _ _ _ _ (by show B ≠ g; omega)]; exact hB
  · have e1 : (s.aim i).k.length = s.k.length := by simp [St.aim]
    have e2 : flat (s.aim i).k = (flat s.k).set (i * 4 + 2) (.int .i64 s.k.length) := by unfold St.aim; exact flat_modify _ _ _ hat
    rw [e1, e2]
    exact h1
  · exact ho.kept h2 (rows_apart ho hk (by decide))

/-- Behind the reading of the last block: the box, and the list without it. -/
theorem close_pops {w : World} {B : Nat} {s : St} {vk : Value} {ops : List Blk} {b : Blk} {g cap : Nat} {o : Obj} (h : MkV w B s vk (.slice (some ⟨g, 0, none⟩) (ops.length + 1) cap)) (hs : s.op = ops ++ [b]) :
    MkV ((w.alloc o).setCell ⟨B, 1, none⟩ (.slice (some ⟨g, 0, none⟩) ops.length cap)) B ({ s with op := ops } : St) vk (.slice (some ⟨g, 0, none⟩) ops.length cap) ∧
    Below B w ((w.alloc o).setCell ⟨B, 1, none⟩ (.slice (some ⟨g, 0, none⟩) ops.length cap)) := by
  obtain ⟨hB, hk, ho⟩ := h
  have hlt := blk_lt hB
  have hB' : (w.alloc o).heap[B]? = _ := (Below.heap_alloc w o B hlt).trans hB
  refine ⟨⟨?_, ?_, ?_⟩, ((Below.refl B w).alloc (by omega) _).setCell (Nat.le_refl _) _⟩
  · rw [heap_setCell_same _ B 1 _ 71 _ hB']; rfl
  · exact owns_setCell (hk.alloc _) (owns_ne hk (Nat.lt_succ_self B)).2 _
  · have hl : (ops ++ [b]).length = ops.length + 1 := by simp
    rw [hs, hl, flatB_append] at ho
    have h2 := ownsRow_pop (flatB_length ops) ho
    exact owns_setCell (h2.alloc _) (owns_ne h2 (Nat.lt_succ_self B)).2 _

set_option maxHeartbeats 1000000 in
set_option maxRecDepth 100000 in
theorem close_plain {w : World} {B : Nat} {s : St} {vk vo : Value} {ops : List Blk} {b : Blk} (second : Bool) (h : MkV w B s vk vo) (hs : s.op = ops ++ [b]) (_hl : s.k.length ≤ 900) (hlo : ops.length ≤ 900) (hat : b.at0 < s.k.length)
    (hloop : b.loop = false) (hsec : (second && b.sides) = false) :
    Calls Try.prog 29 #[.pointer (some ⟨B, 0, none⟩), .bool second] w fun e w' => e = .returned (.tuple #[]) ∧ Mk w' B (s.close second) ∧ Below B w w' := by
  have es : s.close second = ({ s with op := ops } : St).aim b.at0 := by
    rw [close_eq hs]; unfold St.ends St.other; rw [hloop, hsec]; rfl
  rw [es]
  clear es
  obtain ⟨g, cap, hvo, hcap, hg, hBg, o0, o1, o2⟩ := close_opens h hs
  subst hvo
  obtain ⟨hM1, hb1⟩ := close_pops (o := .cells #[.int .i64 b.at0, .bool false, .bool b.sides] 99) h hs
  obtain ⟨gk, ck, hvk, hck, hgk, hBk, ⟨v2, r0⟩, r1⟩ := aim_opens h hat
  subst hvk
  obtain ⟨hM2, hb2⟩ := aim_ends (s := ({ s with op := ops } : St)) hM1 hat hBk
  have hM3 := And.intro hM2.mk (hb1.trans hb2)
  obtain ⟨hB, -, -⟩ := h
  rw [World.setCell_alloc_past _ _ _ _ (blk_lt hB), World.setCell_alloc_past _ _ _ _ (by simpa using hgk)] at hM3
  have HM := id (show Hid _ from hM3)
  obtain ⟨c0, c1, c2, c3, f0, f1, f2, f3⟩ := blk_cells hB
  have hlt := blk_lt hB
  rw [hloop] at o1
  have hatI : ((b.at0 : Nat) : Int) < (s.k.length : Int) := by omega
  have hatJ : (0 : Int) ≤ ((b.at0 : Nat) : Int) := by omega
  clear hM1 hb1 hM2 hb2 hB hM3
  cases second
  · go_enter Try.func29, Try.ntmps29
    go_wp2_with fail
    go_region
    go_end0
    exact ⟨rfl, HM.out.1, HM.out.2.drew⟩
  · have hsd : b.sides = false := by simpa using hsec
    rw [hsd] at o2
    rw [hsd] at HM
    go_enter Try.func29, Try.ntmps29
    go_wp2_with fail
    go_region
    go_end0
    exact ⟨rfl, HM.out.1, HM.out.2.drew⟩

end Go.Proofs.Ytbhbacphiinpeaa

/- What 'close' does to a kernel that is being made, where a loop ends. -/
namespace Go.Proofs.Ytbhbacphiinpeaa
open Go.RowKit

/-- The box of a block. -/
def BoxAt (w : World) (H : Nat) (b : Blk) : Prop := w.heap[H]? = some (.cells #[.int .i64 b.at0, .bool b.loop, .bool b.sides] 99)

theorem BoxAt.later {w w' : World} {H B : Nat} {b : Blk} (h : BoxAt w H b) (hs : Spares w w' B) (hne : H ≠ B) : BoxAt w' H b := by
  unfold BoxAt at h ⊢
  rw [hs H (blk_lt h) hne (fun cs fr e => by rw [h] at e; simp at e)]
  exact h

theorem BoxAt.cells {w : World} {H : Nat} {b : Blk} (h : BoxAt w H b) : w.cell? ⟨H, 0, none⟩ = some (.int .i64 b.at0) ∧ w.cell? ⟨H, 1, none⟩ = some (.bool b.loop) ∧ w.cell? ⟨H, 2, none⟩ = some (.bool b.sides) :=
  ⟨by rw [cell_of_row w H 0 _ 99 _ h]; rfl, by rw [cell_of_row w H 1 _ 99 _ h]; rfl, by rw [cell_of_row w H 2 _ 99 _ h]; rfl⟩

theorem hid {p : Prop} (h : p) : Hid p := h

theorem heap_setCell_size (w : World) (a : Addr) (v : Value) : (w.setCell a v).heap.size = w.heap.size := by simp [World.setCell]

/-- Where 'close' stands when it has taken the last block off. -/
theorem close_start {w : World} {B : Nat} {s : St} {vk : Value} {ops : List Blk} {b : Blk} {g cap : Nat} (h : MkV w B s vk (.slice (some ⟨g, 0, none⟩) (ops.length + 1) cap)) (hs : s.op = ops ++ [b]) :
    MkV ((w.setCell ⟨B, 1, none⟩ (.slice (some ⟨g, 0, none⟩) ops.length cap)).alloc (.cells #[.int .i64 b.at0, .bool b.loop, .bool b.sides] 99)) B ({ s with op := ops } : St) vk (.slice (some ⟨g, 0, none⟩) ops.length cap) ∧
    Below B w ((w.setCell ⟨B, 1, none⟩ (.slice (some ⟨g, 0, none⟩) ops.length cap)).alloc (.cells #[.int .i64 b.at0, .bool b.loop, .bool b.sides] 99)) ∧
    BoxAt ((w.setCell ⟨B, 1, none⟩ (.slice (some ⟨g, 0, none⟩) ops.length cap)).alloc (.cells #[.int .i64 b.at0, .bool b.loop, .bool b.sides] 99)) w.heap.size b := by
  obtain ⟨hM1, hb1⟩ := close_pops (o := .cells #[.int .i64 b.at0, .bool b.loop, .bool b.sides] 99) h hs
  have hlt := blk_lt h.1
  rw [World.setCell_alloc_past _ _ _ _ hlt] at hM1 hb1
  refine ⟨hM1, hb1, ?_⟩
  have := heap_alloc_new (w.setCell ⟨B, 1, none⟩ (.slice (some ⟨g, 0, none⟩) ops.length cap)) (.cells #[.int .i64 b.at0, .bool b.loop, .bool b.sides] 99)
  rw [heap_setCell_size] at this
  exact this

set_option maxHeartbeats 1000000 in
set_option maxRecDepth 100000 in
theorem close_loop {w : World} {B : Nat} {s : St} {vk vo : Value} {ops : List Blk} (i : Nat) (sd : Bool) (second : Bool) (h : MkV w B s vk vo) (hs : s.op = ops ++ [⟨i, true, sd⟩]) (hl : s.k.length ≤ 900) (hlo : ops.length ≤ 900) (hat : i < s.k.length) :
    Calls Try.prog 29 #[.pointer (some ⟨B, 0, none⟩), .bool second] w fun e w' => e = .returned (.tuple #[]) ∧ Mk w' B (s.close second) ∧ Below B w w' := by
  have es : s.close second = ((((({ s with op := ops } : St).put ⟨1, 1, 1, 0⟩).put ⟨3, 3, 3, 1⟩).put ⟨12, 0, i, 0⟩)).aim i := by
    rw [close_eq hs]; unfold St.ends St.other; simp
  rw [es]
  clear es
  obtain ⟨g, cap, hvo, hcap, hg, hBg, o0, o1, o2⟩ := close_opens h hs
  subst hvo
  obtain ⟨hM1, hb1, hX⟩ := close_start h hs
  obtain ⟨hB, -, -⟩ := h
  obtain ⟨c0, c1, c2, c3, f0, f1, f2, f3⟩ := blk_cells hB
  have hlt := blk_lt hB
  have HM := hid hM1
  have HB := hid hb1
  have HX := hid hX
  clear hM1 hb1 hX hB
  obtain ⟨s1, Hs1⟩ : ∃ s1, Hid (({ s with op := ops } : St) = s1) := ⟨_, rfl⟩
  have hl1 : s1.k.length ≤ 900 := by rw [← Hs1.out]; exact hl
  have hat1 : i < s1.k.length := by rw [← Hs1.out]; exact hat
  rw [Hs1.out] at HM ⊢
  have hne : w.heap.size ≠ B := by omega
  obtain ⟨s2, Hs2⟩ : ∃ s2, Hid (s1.put ⟨1, 1, 1, 0⟩ = s2) := ⟨_, rfl⟩
  have hl2 : s2.k.length ≤ 901 := by rw [← Hs2.out]; simp [St.put]; omega
  obtain ⟨s3, Hs3⟩ : ∃ s3, Hid (s2.put ⟨3, 3, 3, 1⟩ = s3) := ⟨_, rfl⟩
  have hl3 : s3.k.length ≤ 902 := by rw [← Hs3.out]; simp [St.put]; omega
  obtain ⟨s4, Hs4⟩ : ∃ s4, Hid (s3.put ⟨12, 0, i, 0⟩ = s4) := ⟨_, rfl⟩
  have hl4 : s4.k.length ≤ 903 := by rw [← Hs4.out]; simp [St.put]; omega
  have hat4 : i < s4.k.length := by rw [← Hs4.out, ← Hs3.out, ← Hs2.out]; simp [St.put]; omega
  rw [Hs2.out, Hs3.out, Hs4.out]
  have hatI : (i : Int) < (s4.k.length : Int) := by omega
  have hatJ : (0 : Int) ≤ (i : Int) := by omega
  go_enter Try.func29, Try.ntmps29
  go_wp2_with fail
  refine (put_full _ _ _ _ HM.out (by omega)).mono ?_
  rintro e w1 ⟨rfl, ⟨vk1, hM1⟩, hb1, hsp1⟩
  have hX1 := HX.out.later hsp1 hne
  rw [Hs2.out] at hM1
  have HM1 := hid hM1
  clear hM1 HX hsp1 HM c0 c1 c2 c3 f0 f1 f2 f3 o0 o1 o2
  obtain ⟨x0, x1, x2⟩ := hX1.cells
  have HX1 := hid hX1
  clear hX1
  go_wp2_with fail
  refine (put_full _ _ _ _ HM1.out (by omega)).mono ?_
  rintro e w2 ⟨rfl, ⟨vk2, hM2⟩, hb2, hsp2⟩
  have hX2 := HX1.out.later hsp2 hne
  rw [Hs3.out] at hM2
  have HM2 := hid hM2
  clear hM2 HX1 hsp2 HM1 x0 x1 x2
  obtain ⟨x0, x1, x2⟩ := hX2.cells
  have HX2 := hid hX2
  clear hX2
  go_wp2_with fail
  refine (put_full _ _ _ _ HM2.out (by omega)).mono ?_
  rintro e w3 ⟨rfl, ⟨vk3, hM3⟩, hb3, hsp3⟩
  have hX3 := HX2.out.later hsp3 hne
  rw [Hs4.out] at hM3
  clear HX2 hsp3 HM2 x0 x1 x2
  obtain ⟨x0, x1, x2⟩ := hX3.cells
  obtain ⟨c0, -, -, -, -⟩ := blk_cells hM3.1
  obtain ⟨gk, ck, hvk, hck, hgk, hBk, ⟨v2, r0⟩, r1⟩ := aim_opens hM3 hat4
  subst hvk
  obtain ⟨hM4, hb4⟩ := aim_ends hM3 hat4 hBk
  have HM4 := hid hM4.mk
  have HB4 := hid ((HB.out.trans (hb1.trans (hb2.trans hb3))).trans hb4)
  clear hX3 hM3 hM4 hb1 hb2 hb3 hb4 HB
  cases second
  · go_wp2_with fail
    go_region
    go_end0
    exact ⟨rfl, HM4.out, HB4.out.drew⟩
  · cases sd
    · go_wp2_with fail
      go_region
      go_end0
      exact ⟨rfl, HM4.out, HB4.out.drew⟩
    · go_wp2_with fail
      go_region
      go_end0
      exact ⟨rfl, HM4.out, HB4.out.drew⟩

end Go.Proofs.Ytbhbacphiinpeaa

/- What 'close' does to a kernel that is being made, in every case. -/
namespace Go.Proofs.Ytbhbacphiinpeaa
open Go.RowKit

theorem MkV.putO {w w1 : World} {B : Nat} {s : St} {vk vo v' : Value} {x : Blk} (h : w.heap[B]? = some (.cells #[vk, vo, .bool s.lp, .bool s.al] 71))
    (hk : w.ownsRow (B + 1) 31 4 vk s.k.length (flat s.k)) (ho : w.ownsRow (B + 1) 99 3 vo s.op.length (flatB s.op))
    (hown : w1.ownsRow (B + 1) 99 3 v' (s.op.length + 1) (flatB s.op ++ x.vals)) (hg : w.grownBy w1 vo.ownBlock) :
    MkV (w1.setCell ⟨B, 1, none⟩ v') B (s.opn x) vk v' := by
  have hb : w1.heap[B]? = some (.cells #[vk, vo, .bool s.lp, .bool s.al] 71) := by
    rw [hg.block B (blk_lt h) (owns_ne ho (by omega)).1]; exact h
  refine ⟨?_, ?_, ?_⟩
  · rw [heap_setCell_same w1 B 1 _ 71 v' hb]; rfl
  · have hk1 := hk.kept hg (rows_apart hk ho (by decide))
    exact owns_setCell hk1 (owns_ne hk1 (Nat.lt_succ_self B)).2 _
  · have e1 : (s.opn x).op.length = s.op.length + 1 := by simp [St.opn]
    have e2 : flatB (s.opn x).op = flatB s.op ++ x.vals := by simp only [St.opn, flatB_append, flatB_one]
    rw [e1, e2]
    exact owns_setCell hown (owns_ne hown (Nat.lt_succ_self B)).2 _

set_option maxHeartbeats 2000000 in
set_option maxRecDepth 100000 in
theorem close_second {w : World} {B : Nat} {s : St} {vk vo : Value} {ops : List Blk} (i : Nat) (h : MkV w B s vk vo) (hs : s.op = ops ++ [⟨i, false, true⟩]) (hl : s.k.length ≤ 900) (hlo : ops.length ≤ 900) (hat : i < s.k.length) :
    Calls Try.prog 29 #[.pointer (some ⟨B, 0, none⟩), .bool true] w fun e w' => e = .returned (.tuple #[]) ∧ Mk w' B (s.close true) ∧ Below B w w' := by
  have es : s.close true = ((({ s with op := ops } : St).put ⟨12, 0, 0, 0⟩).opn ⟨s.k.length, false, false⟩).aim i := by
    rw [close_eq hs]; unfold St.ends St.other; simp
  rw [es]
  clear es
  obtain ⟨g, cap, hvo, hcap, hg, hBg, o0, o1, o2⟩ := close_opens h hs
  subst hvo
  obtain ⟨hM1, hb1, hX⟩ := close_start h hs
  obtain ⟨hB, -, -⟩ := h
  obtain ⟨c0, c1, c2, c3, f0, f1, f2, f3⟩ := blk_cells hB
  have hlt := blk_lt hB
  have HM := hid hM1
  have HB := hid hb1
  have HX := hid hX
  clear hM1 hb1 hX hB
  have hne : w.heap.size ≠ B := by omega
  have hgH : g ≠ w.heap.size := by omega
  obtain ⟨n, Hn⟩ : ∃ n, Hid (s.k.length = n) := ⟨_, rfl⟩
  obtain ⟨s2, Hs2⟩ : ∃ s2, Hid (({ s with op := ops } : St).put ⟨12, 0, 0, 0⟩ = s2) := ⟨_, rfl⟩
  have hl2 : Hid (s2.k.length = n + 1) := by rw [← Hs2.out, ← Hn.out]; exact hid (by simp [St.put])
  have ho2 : Hid (s2.op = ops) := by rw [← Hs2.out]; exact rfl
  have hn9 : n ≤ 900 := by rw [← Hn.out]; exact hl
  have hat2 : i < n := by rw [← Hn.out]; exact hat
  rw [Hs2.out, Hn.out]
  have hatI : (i : Int) < (n : Int) + 1 := by omega
  have hatJ : (0 : Int) ≤ (i : Int) := by omega
  go_enter Try.func29, Try.ntmps29
  go_wp2_with fail
  refine (put_full _ _ _ _ HM.out (by show s.k.length ≤ 1000; omega)).mono ?_
  rintro e w1 ⟨rfl, ⟨vk1, hM1⟩, hb1, hsp1⟩
  have hX1 := HX.out.later hsp1 hne
  rw [Hs2.out] at hM1
  clear HX hsp1 HM c0 c1 c2 c3 f0 f1 f2 f3 o0 o1 o2
  obtain ⟨x0, x1, x2⟩ := hX1.cells
  have HX1 := hid hX1
  have hXlt := blk_lt hX1
  clear hX1
  obtain ⟨hB, hk, ho⟩ := hM1
  obtain ⟨ka, kc, hvk⟩ := owns_slice hk
  rw [hl2.out] at hvk
  subst hvk
  obtain ⟨c0, c1, c2, c3, f0, f1, f2, f3⟩ := blk_cells hB
  have hlt1 := blk_lt hB
  obtain ⟨i0, hi, hz0, hz1, hz2⟩ := info_parts Try.info99
  have hne1 : some B ≠ Value.ownBlock (.slice (some ⟨g, 0, none⟩) ops.length cap) := by simp [Value.ownBlock]; omega
  have hne2 : some w.heap.size ≠ Value.ownBlock (.slice (some ⟨g, 0, none⟩) ops.length cap) := by simp [Value.ownBlock]; omega
  have hB' : ∀ o, (w1.alloc o).drew.heap[B]? = some (.cells #[.slice ka (n + 1) kc, .slice (some ⟨g, 0, none⟩) ops.length cap, .bool s2.lp, .bool s2.al] 71) := fun o => (Below.heap_alloc w1 o B hlt1).trans hB
  have c1' : ∀ o, (w1.alloc o).cell? ⟨B, 1, none⟩ = some (.slice (some ⟨g, 0, none⟩) ops.length cap) := fun o => (World.cell?_of_block (a := ⟨B, 1, none⟩) (Below.heap_alloc w1 o B hlt1)).trans c1
  have f1' : ∀ o, (w1.alloc o).frozen? ⟨B, 1, none⟩ = false := fun o => (World.frozen?_of_block (a := ⟨B, 1, none⟩) (Below.heap_alloc w1 o B hlt1)).trans f1
  have ho' : w1.ownsRow (B + 1) 99 3 (.slice (some ⟨g, 0, none⟩) ops.length cap) ops.length (flatB ops) := by rw [ho2.out] at ho; exact ho
  have hwr : IntKind.i64.wrap (n : Int) = (n : Int) := IntWalk.i64_in _ ⟨by omega, by omega⟩
  have Hk := hid hk
  have Ho := hid ho
  have HB1 := hid hb1
  clear hB hk ho hb1
  go_wp2_with fail
  go_region_law ((refine step_append_lies _ (by rfl) _ _ _ (by rfl) (B + 1) 99 i0 _ 3 16 Try.underlying69 hi hz0 hz1 hz2 rfl (by omega) (.slice (some ⟨g, 0, none⟩) ops.length cap) ops.length (flatB ops) (by rfl) ((ho'.alloc _).drew) ⟨w1.heap.size, 0, none⟩ 1 1 (Blk.vals ⟨n, false, false⟩) (by rfl) (by rfl) (World.news_of_block (cs := #[.int .i64 n, .bool false, .bool false]) (t := 99) (fr := (0, 0)) (heap_alloc_new w1 _)) (oneCell_valsB _) (by omega) (by unfold maxLen; omega) (by omega) (by simp; omega) (w1.heap.size + 1) (by simp) ?_; intro gg cap2 w2 hown2 hgrow hat3 hlt3; have d1 : w2.cell? ⟨B, 1, none⟩ = some (.slice (some ⟨g, 0, none⟩) ops.length cap) := (hgrow.cell_far _ (by simp; omega) hne1).trans (c1' _); have d2 : w2.frozen? ⟨B, 1, none⟩ = false := (hgrow.frozen_far _ (by simp; omega) hne1).trans (f1' _)))
  all_goals
    have hM := MkV.putO (s := s2) (x := ⟨n, false, false⟩) (hB' _) ((Hk.out.alloc _).drew) ((Ho.out.alloc _).drew) (by rw [ho2.out]; exact hown2) hgrow
    have hX2 : BoxAt (w2.setCell ⟨B, 1, none⟩ (.slice (some ⟨gg, 0, none⟩) (ops.length + 1) cap2)) w.heap.size ⟨i, false, true⟩ := by
      unfold BoxAt
      rw [Below.heap_setCell _ _ _ _ hne, hgrow.block _ (by simp; omega) hne2]
      exact (Below.heap_alloc w1 _ _ hXlt).trans HX1.out
    have hb : Below B w1 w2 := (((Below.refl B w1).alloc (by omega) _).drew).grown hgrow (by simp; omega) (fun g' hg' => by simp [Value.ownBlock] at hg'; omega)
    have hb2 := hb.setCell (p := ⟨B, 1, none⟩) (Nat.le_refl _) (.slice (some ⟨gg, 0, none⟩) (ops.length + 1) cap2)
    have hl3 : (s2.opn ⟨n, false, false⟩).k.length = n + 1 := hl2.out
    obtain ⟨gk, ck, hvk, hck, hgk, hBk, ⟨v2, r0⟩, r1⟩ := aim_opens (i := i) hM (by rw [hl3]; omega)
    rw [hl3] at hvk
    simp only [Value.slice.injEq, true_and] at hvk
    obtain ⟨hka, hkc⟩ := hvk
    subst hka
    subst hkc
    obtain ⟨hM4, hb4⟩ := aim_ends (s := s2.opn ⟨n, false, false⟩) (i := i) (by rw [hl3]; exact hM) (by rw [hl3]; omega) hBk
    rw [hl3] at hM4 hb4
    obtain ⟨x0, x1, x2⟩ := hX2.cells
    obtain ⟨y0, -, -, -, -⟩ := blk_cells hM.1
    have HM4 := hid hM4.mk
    have HB4 := hid ((HB.out.trans (HB1.out.trans hb2)).trans hb4)
    clear hM hX2 hb hb2 hM4 hb4 hown2 hgrow hat3 d1 d2 hB' c1' f1' hck hl3
    go_wp2_with fail
    go_region
    go_end0
    exact ⟨rfl, HM4.out, HB4.out.drew⟩

theorem close_any {w : World} {B : Nat} {s : St} {ops : List Blk} {b : Blk} (second : Bool) (h : Mk w B s) (hs : s.op = ops ++ [b]) (hl : s.k.length ≤ 900) (hlo : ops.length ≤ 900) (hat : b.at0 < s.k.length) :
    Calls Try.prog 29 #[.pointer (some ⟨B, 0, none⟩), .bool second] w fun e w' => e = .returned (.tuple #[]) ∧ Mk w' B (s.close second) ∧ Below B w w' := by
  obtain ⟨vk, vo, h⟩ := h
  obtain ⟨i, lp, sd⟩ := b
  cases lp
  · by_cases hsec : (second && sd) = false
    · exact close_plain second h hs hl hlo hat rfl hsec
    · have h2 : second = true ∧ sd = true := by simpa using hsec
      obtain ⟨rfl, rfl⟩ := h2
      exact close_second i h hs hl hlo hat
  · exact close_loop i sd second h hs hl hlo hat

end Go.Proofs.Ytbhbacphiinpeaa

