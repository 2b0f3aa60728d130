/- What 'enters' does to a kernel that is being made. -/
import Derived.Test.YtbhbacphiinpeaaM1
import Derived.Deep.RegionHeld3
import Derived.Deep.RegionLaw
import Derived.BigRegion
namespace Go.Proofs.Ytbhbacphiinpeaa
open Go.RowKit

theorem Try.info99 : (Try.prog.info? 99).map (fun i => (i.zero, i.size, i.bytes)) = some (some (.agg #[.int .i64 0, .bool false, .bool false]), 3, 16) := by kernel_rfl

theorem owns_slice {w : World} {base : Nat} {e : TypeId} {size : Nat} {v : Value} {n : Nat} {xs : List Value} (h : w.ownsRow base e size v n xs) : ∃ ao cap, v = .slice ao n cap := by
  rcases h.2 with ⟨rfl, rfl⟩ | ⟨g, cap, cur, rfl, -⟩
  · exact ⟨none, 0, rfl⟩
  · exact ⟨some ⟨g, 0, none⟩, cap, rfl⟩


set_option maxHeartbeats 1000000 in
set_option maxRecDepth 100000 in
theorem enters_else {w : World} {B : Nat} {s : St} (loop : Bool) (hcond : (loop && !s.lp) = false) (h : Mk w B s) (hl : s.k.length ≤ 1000) (hl2 : s.op.length ≤ 1000) :
    Calls Try.prog 43 #[.pointer (some ⟨B, 0, none⟩), .bool loop] w fun e w' => e = .returned (.tuple #[]) ∧ Mk w' B (s.enters loop) ∧ Below B w w' := by
  have es : s.enters loop = (s.opn ⟨s.k.length, false, true⟩).put ⟨13, 1, 0, 0⟩ := by unfold St.enters; rw [hcond]; rfl
  rw [es]
  clear es
  obtain ⟨vk, vo, hB, hk, ho⟩ := h
  obtain ⟨ka, kc, hvk⟩ := owns_slice hk
  subst hvk
  obtain ⟨c0, c1, c2, c3, f0, f1, f2, f3⟩ := blk_cells hB
  have hlt := blk_lt hB
  obtain ⟨i0, hi, hz0, hz1, hz2⟩ := info_parts Try.info99
  have hne := owns_ne ho (Nat.lt_succ_self B)
  have hne1 : some B ≠ vo.ownBlock := hne.1
  have hB' : ∀ o, (w.alloc o).drew.heap[B]? = some (.cells #[.slice ka s.k.length kc, vo, .bool s.lp, .bool s.al] 71) := fun o => (Below.heap_alloc w o B hlt).trans hB
  have c1' : ∀ o, (w.alloc o).cell? ⟨B, 1, none⟩ = some vo := fun o => (World.cell?_of_block (a := ⟨B, 1, none⟩) (Below.heap_alloc w o B hlt)).trans c1
  have f1' : ∀ o, (w.alloc o).frozen? ⟨B, 1, none⟩ = false := fun o => (World.frozen?_of_block (a := ⟨B, 1, none⟩) (Below.heap_alloc w o B hlt)).trans f1
  cases loop
  · go_enter Try.func43, Try.ntmps43
    go_wp2_with fail
    go_region_law ((refine step_append_lies _ (by rfl) _ _ _ (by rfl) (B + 1) 99 i0 _ 3 16 Try.underlying69 hi hz0 hz1 hz2 rfl (by omega) vo s.op.length (flatB s.op) (by rfl) ((ho.alloc _).drew) ⟨w.heap.size, 0, none⟩ 1 1 (Blk.vals ⟨s.k.length, false, true⟩) (by rfl) (by rfl) (World.news_of_block (cs := #[.int .i64 s.k.length, .bool false, .bool true]) (t := 99) (fr := (0, 0)) (heap_alloc_new w _)) (oneCell_valsB _) (by omega) (by unfold maxLen; omega) (by omega) (by simp; omega) (w.heap.size + 1) (by simp) ?_; intro gg cap w1 hown1 hgrow hat hlt1; have d1 : w1.cell? ⟨B, 1, none⟩ = some vo := (hgrow.cell_far _ (by simp; omega) hne1).trans (c1' _); have d2 : w1.frozen? ⟨B, 1, none⟩ = false := (hgrow.frozen_far _ (by simp; omega) hne1).trans (f1' _)))
    all_goals
      have hM := (Mk.putO (x := ⟨s.k.length, false, true⟩) (hB' _) ((hk.alloc _).drew) ((ho.alloc _).drew) hown1 hgrow).2
      have hb : Below B w w1 := (((Below.refl B w).alloc (by omega) _).drew).grown hgrow (by simp; omega) (fun g hg => by have := (ho.lt g hg).1; omega)
      have hb2 := hb.setCell (p := ⟨B, 1, none⟩) (Nat.le_refl _) (.slice (some ⟨gg, 0, none⟩) (s.op.length + 1) cap)
      have HM : Hid (Mk (w1.setCell ⟨B, 1, none⟩ (.slice (some ⟨gg, 0, none⟩) (s.op.length + 1) cap)) B (s.opn ⟨s.k.length, false, true⟩)) := hM
      clear hM hown1 hgrow hat hb d1 d2
      go_wp2_with (go_at_call 30; refine (put_any _ _ _ _ HM.out hl).mono ?_; rintro e w' ⟨rfl, hM2, hb3⟩)
      go_end0
      exact ⟨rfl, hM2, hb2.trans hb3⟩
  · have hlp : s.lp = true := by simpa using hcond
    rw [hlp] at c2
    clear hcond
    go_enter Try.func43, Try.ntmps43
    go_wp2_with fail
    go_region_law ((refine step_append_lies _ (by rfl) _ _ _ (by rfl) (B + 1) 99 i0 _ 3 16 Try.underlying69 hi hz0 hz1 hz2 rfl (by omega) vo s.op.length (flatB s.op) (by rfl) ((ho.alloc _).drew) ⟨w.heap.size, 0, none⟩ 1 1 (Blk.vals ⟨s.k.length, false, true⟩) (by rfl) (by rfl) (World.news_of_block (cs := #[.int .i64 s.k.length, .bool false, .bool true]) (t := 99) (fr := (0, 0)) (heap_alloc_new w _)) (oneCell_valsB _) (by omega) (by unfold maxLen; omega) (by omega) (by simp; omega) (w.heap.size + 1) (by simp) ?_; intro gg cap w1 hown1 hgrow hat hlt1; have d1 : w1.cell? ⟨B, 1, none⟩ = some vo := (hgrow.cell_far _ (by simp; omega) hne1).trans (c1' _); have d2 : w1.frozen? ⟨B, 1, none⟩ = false := (hgrow.frozen_far _ (by simp; omega) hne1).trans (f1' _)))
    all_goals
      have hM := (Mk.putO (x := ⟨s.k.length, false, true⟩) (hB' _) ((hk.alloc _).drew) ((ho.alloc _).drew) hown1 hgrow).2
      have hb : Below B w w1 := (((Below.refl B w).alloc (by omega) _).drew).grown hgrow (by simp; omega) (fun g hg => by have := (ho.lt g hg).1; omega)
      have hb2 := hb.setCell (p := ⟨B, 1, none⟩) (Nat.le_refl _) (.slice (some ⟨gg, 0, none⟩) (s.op.length + 1) cap)
      have HM : Hid (Mk (w1.setCell ⟨B, 1, none⟩ (.slice (some ⟨gg, 0, none⟩) (s.op.length + 1) cap)) B (s.opn ⟨s.k.length, false, true⟩)) := hM
      clear hM hown1 hgrow hat hb d1 d2
      go_wp2_with (go_at_call 30; refine (put_any _ _ _ _ HM.out hl).mono ?_; rintro e w' ⟨rfl, hM2, hb3⟩)
      go_end0
      exact ⟨rfl, hM2, hb2.trans hb3⟩

end Go.Proofs.Ytbhbacphiinpeaa
