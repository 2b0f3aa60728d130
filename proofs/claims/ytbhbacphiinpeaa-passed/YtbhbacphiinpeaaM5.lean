/- What 'close' does to a kernel that is being made, where a loop ends. -/
import Derived.Test.YtbhbacphiinpeaaM4
namespace Go.Proofs.Ytbhbacphiinpeaa
open Go.RowKit

/-- The box of a block. -/
def BoxAt (w : World) (H : Nat) (b : Blk) : Prop := w.heap[H]? = some (.cells #[.int .i64 b.at0, .bool b.loop, .bool b.sides] 99)

theorem BoxAt.later {w w' : World} {H B : Nat} {b : Blk} (h : BoxAt w H b) (hs : Spares w w' B) (hne : H ≠ B) : BoxAt w' H b := by
  unfold BoxAt at h ⊢
  rw [hs H (blk_lt h) hne (fun cs fr e => by rw [h] at e; simp at e)]
  exact h

theorem BoxAt.cells {w : World} {H : Nat} {b : Blk} (h : BoxAt w H b) : w.cell? ⟨H, 0, none⟩ = some (.int .i64 b.at0) ∧ w.cell? ⟨H, 1, none⟩ = some (.bool b.loop) ∧ w.cell? ⟨H, 2, none⟩ = some (.bool b.sides) :=
  ⟨by rw [cell_of_row w H 0 _ 99 _ h]; rfl, by rw [cell_of_row w H 1 _ 99 _ h]; rfl, by rw [cell_of_row w H 2 _ 99 _ h]; rfl⟩

theorem hid {p : Prop} (h : p) : Hid p := h

theorem heap_setCell_size (w : World) (a : Addr) (v : Value) : (w.setCell a v).heap.size = w.heap.size := by simp [World.setCell]

/-- Where 'close' stands when it has taken the last block off. -/
theorem close_start {w : World} {B : Nat} {s : St} {vk : Value} {ops : List Blk} {b : Blk} {g cap : Nat} (h : MkV w B s vk (.slice (some ⟨g, 0, none⟩) (ops.length + 1) cap)) (hs : s.op = ops ++ [b]) :
    MkV ((w.setCell ⟨B, 1, none⟩ (.slice (some ⟨g, 0, none⟩) ops.length cap)).alloc (.cells #[.int .i64 b.at0, .bool b.loop, .bool b.sides] 99)) B ({ s with op := ops } : St) vk (.slice (some ⟨g, 0, none⟩) ops.length cap) ∧
    Below B w ((w.setCell ⟨B, 1, none⟩ (.slice (some ⟨g, 0, none⟩) ops.length cap)).alloc (.cells #[.int .i64 b.at0, .bool b.loop, .bool b.sides] 99)) ∧
    BoxAt ((w.setCell ⟨B, 1, none⟩ (.slice (some ⟨g, 0, none⟩) ops.length cap)).alloc (.cells #[.int .i64 b.at0, .bool b.loop, .bool b.sides] 99)) w.heap.size b := by
  obtain ⟨hM1, hb1⟩ := close_pops (o := .cells #[.int .i64 b.at0, .bool b.loop, .bool b.sides] 99) h hs
  have hlt := blk_lt h.1
  rw [World.setCell_alloc_past _ _ _ _ hlt] at hM1 hb1
  refine ⟨hM1, hb1, ?_⟩
  have := heap_alloc_new (w.setCell ⟨B, 1, none⟩ (.slice (some ⟨g, 0, none⟩) ops.length cap)) (.cells #[.int .i64 b.at0, .bool b.loop, .bool b.sides] 99)
  rw [heap_setCell_size] at this
  exact this

set_option maxHeartbeats 1000000 in
set_option maxRecDepth 100000 in
theorem close_loop {w : World} {B : Nat} {s : St} {vk vo : Value} {ops : List Blk} (i : Nat) (sd : Bool) (second : Bool) (h : MkV w B s vk vo) (hs : s.op = ops ++ [⟨i, true, sd⟩]) (hl : s.k.length ≤ 900) (hlo : ops.length ≤ 900) (hat : i < s.k.length) :
    Calls Try.prog 29 #[.pointer (some ⟨B, 0, none⟩), .bool second] w fun e w' => e = .returned (.tuple #[]) ∧ Mk w' B (s.close second) ∧ Below B w w' := by
  have es : s.close second = ((((({ s with op := ops } : St).put ⟨1, 1, 1, 0⟩).put ⟨3, 3, 3, 1⟩).put ⟨12, 0, i, 0⟩)).aim i := by
    rw [close_eq hs]; unfold St.ends St.other; simp
  rw [es]
  clear es
  obtain ⟨g, cap, hvo, hcap, hg, hBg, o0, o1, o2⟩ := close_opens h hs
  subst hvo
  obtain ⟨hM1, hb1, hX⟩ := close_start h hs
  obtain ⟨hB, -, -⟩ := h
  obtain ⟨c0, c1, c2, c3, f0, f1, f2, f3⟩ := blk_cells hB
  have hlt := blk_lt hB
  have HM := hid hM1
  have HB := hid hb1
  have HX := hid hX
  clear hM1 hb1 hX hB
  obtain ⟨s1, Hs1⟩ : ∃ s1, Hid (({ s with op := ops } : St) = s1) := ⟨_, rfl⟩
  have hl1 : s1.k.length ≤ 900 := by rw [← Hs1.out]; exact hl
  have hat1 : i < s1.k.length := by rw [← Hs1.out]; exact hat
  rw [Hs1.out] at HM ⊢
  have hne : w.heap.size ≠ B := by omega
  obtain ⟨s2, Hs2⟩ : ∃ s2, Hid (s1.put ⟨1, 1, 1, 0⟩ = s2) := ⟨_, rfl⟩
  have hl2 : s2.k.length ≤ 901 := by rw [← Hs2.out]; simp [St.put]; omega
  obtain ⟨s3, Hs3⟩ : ∃ s3, Hid (s2.put ⟨3, 3, 3, 1⟩ = s3) := ⟨_, rfl⟩
  have hl3 : s3.k.length ≤ 902 := by rw [← Hs3.out]; simp [St.put]; omega
  obtain ⟨s4, Hs4⟩ : ∃ s4, Hid (s3.put ⟨12, 0, i, 0⟩ = s4) := ⟨_, rfl⟩
  have hl4 : s4.k.length ≤ 903 := by rw [← Hs4.out]; simp [St.put]; omega
  have hat4 : i < s4.k.length := by rw [← Hs4.out, ← Hs3.out, ← Hs2.out]; simp [St.put]; omega
  rw [Hs2.out, Hs3.out, Hs4.out]
  have hatI : (i : Int) < (s4.k.length : Int) := by omega
  have hatJ : (0 : Int) ≤ (i : Int) := by omega
  go_enter Try.func29, Try.ntmps29
  go_wp2_with fail
  refine (put_full _ _ _ _ HM.out (by omega)).mono ?_
  rintro e w1 ⟨rfl, ⟨vk1, hM1⟩, hb1, hsp1⟩
  have hX1 := HX.out.later hsp1 hne
  rw [Hs2.out] at hM1
  have HM1 := hid hM1
  clear hM1 HX hsp1 HM c0 c1 c2 c3 f0 f1 f2 f3 o0 o1 o2
  obtain ⟨x0, x1, x2⟩ := hX1.cells
  have HX1 := hid hX1
  clear hX1
  go_wp2_with fail
  refine (put_full _ _ _ _ HM1.out (by omega)).mono ?_
  rintro e w2 ⟨rfl, ⟨vk2, hM2⟩, hb2, hsp2⟩
  have hX2 := HX1.out.later hsp2 hne
  rw [Hs3.out] at hM2
  have HM2 := hid hM2
  clear hM2 HX1 hsp2 HM1 x0 x1 x2
  obtain ⟨x0, x1, x2⟩ := hX2.cells
  have HX2 := hid hX2
  clear hX2
  go_wp2_with fail
  refine (put_full _ _ _ _ HM2.out (by omega)).mono ?_
  rintro e w3 ⟨rfl, ⟨vk3, hM3⟩, hb3, hsp3⟩
  have hX3 := HX2.out.later hsp3 hne
  rw [Hs4.out] at hM3
  clear HX2 hsp3 HM2 x0 x1 x2
  obtain ⟨x0, x1, x2⟩ := hX3.cells
  obtain ⟨c0, -, -, -, -⟩ := blk_cells hM3.1
  obtain ⟨gk, ck, hvk, hck, hgk, hBk, ⟨v2, r0⟩, r1⟩ := aim_opens hM3 hat4
  subst hvk
  obtain ⟨hM4, hb4⟩ := aim_ends hM3 hat4 hBk
  have HM4 := hid hM4.mk
  have HB4 := hid ((HB.out.trans (hb1.trans (hb2.trans hb3))).trans hb4)
  clear hX3 hM3 hM4 hb1 hb2 hb3 hb4 HB
  cases second
  · go_wp2_with fail
    go_region
    go_end0
    exact ⟨rfl, HM4.out, HB4.out.drew⟩
  · cases sd
    · go_wp2_with fail
      go_region
      go_end0
      exact ⟨rfl, HM4.out, HB4.out.drew⟩
    · go_wp2_with fail
      go_region
      go_end0
      exact ⟨rfl, HM4.out, HB4.out.drew⟩

end Go.Proofs.Ytbhbacphiinpeaa
