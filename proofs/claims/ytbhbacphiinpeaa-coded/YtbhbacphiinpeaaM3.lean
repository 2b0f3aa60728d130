/- What 'enters' does to a kernel that is being made, a loop's beginning too. -/
import Derived.Test.YtbhbacphiinpeaaM2
namespace Go.Proofs.Ytbhbacphiinpeaa
open Go.RowKit

set_option maxHeartbeats 1000000 in
set_option maxRecDepth 100000 in
theorem enters_loop {w : World} {B : Nat} {s : St} (hcond : s.lp = false) (h : Mk w B s) (hl : s.k.length ≤ 900) (hl2 : s.op.length ≤ 900) :
    Calls Try.prog 43 #[.pointer (some ⟨B, 0, none⟩), .bool true] w fun e w' => e = .returned (.tuple #[]) ∧ Mk w' B (s.enters true) ∧ Below B w w' := by
  have es : s.enters true = ((({ s with lp := true } : St).names 3).opn ⟨(({ s with lp := true } : St).names 3).k.length, true, false⟩).put ⟨13, 3, 0, 0⟩ := by
    unfold St.enters; rw [hcond]; simp [St.names, St.put]
  rw [es]
  clear es
  have hn : (({ s with lp := true } : St).names 3).k.length ≤ 1000 := by simp [St.names, St.put]; omega
  have ho2 : (({ s with lp := true } : St).names 3).op.length ≤ 1000 := by simp [St.names, St.put]; omega
  obtain ⟨t, Ht⟩ : ∃ t, Hid (({ s with lp := true } : St).names 3 = t) := ⟨_, rfl⟩
  rw [Ht.out] at hn ho2 ⊢
  obtain ⟨vk, vo, hB, hk, ho⟩ := h
  obtain ⟨c0, c1, c2, c3, f0, f1, f2, f3⟩ := blk_cells hB
  rw [hcond] at c2
  have HM0 : Hid (Mk (w.setCell ⟨B, 2, none⟩ (.bool true)) B ({ s with lp := true } : St)) := by
    refine ⟨vk, vo, ?_, owns_setCell hk (owns_ne hk (Nat.lt_succ_self B)).2 _, owns_setCell ho (owns_ne ho (Nat.lt_succ_self B)).2 _⟩
    rw [heap_setCell_same w B 2 _ 71 _ hB]; rfl
  have hb0 := (Below.refl B w).setCell (p := ⟨B, 2, none⟩) (Nat.le_refl _) (.bool true)
  clear hB hk ho hcond
  go_enter Try.func43, Try.ntmps43
  go_wp2_with fail
  refine (names_any _ HM0.out (by show s.k.length ≤ 1000; omega)).mono ?_
  rintro e w2 ⟨rfl, hM2, hb2⟩
  clear HM0 c0 c1 c2 c3 f0 f1 f2 f3
  have hb02 := hb0.trans hb2
  clear hb0 hb2
  rw [Ht.out] at hM2
  obtain ⟨vk, vo, hB, hk, ho⟩ := hM2
  obtain ⟨ka, kc, hvk⟩ := owns_slice hk
  subst hvk
  obtain ⟨c0, c1, c2, c3, f0, f1, f2, f3⟩ := blk_cells hB
  have hlt := blk_lt hB
  obtain ⟨i0, hi, hz0, hz1, hz2⟩ := info_parts Try.info99
  have hne := owns_ne ho (Nat.lt_succ_self B)
  have hne1 : some B ≠ vo.ownBlock := hne.1
  have hB' : ∀ o, (w2.alloc o).drew.heap[B]? = some (.cells #[.slice ka t.k.length kc, vo, .bool t.lp, .bool t.al] 71) := fun o => (Below.heap_alloc w2 o B hlt).trans hB
  have c1' : ∀ o, (w2.alloc o).cell? ⟨B, 1, none⟩ = some vo := fun o => (World.cell?_of_block (a := ⟨B, 1, none⟩) (Below.heap_alloc w2 o B hlt)).trans c1
  have f1' : ∀ o, (w2.alloc o).frozen? ⟨B, 1, none⟩ = false := fun o => (World.frozen?_of_block (a := ⟨B, 1, none⟩) (Below.heap_alloc w2 o B hlt)).trans f1
  go_wp2_with fail
  go_region_law ((refine step_append_lies _ (by rfl) _ _ _ (by rfl) (B + 1) 99 i0 _ 3 16 Try.underlying69 hi hz0 hz1 hz2 rfl (by omega) vo t.op.length (flatB t.op) (by rfl) ((ho.alloc _).drew) ⟨w2.heap.size, 0, none⟩ 1 1 (Blk.vals ⟨t.k.length, true, false⟩) (by rfl) (by rfl) (World.news_of_block (cs := #[.int .i64 t.k.length, .bool true, .bool false]) (t := 99) (fr := (0, 0)) (heap_alloc_new w2 _)) (oneCell_valsB _) (by omega) (by unfold maxLen; omega) (by omega) (by simp; omega) (w2.heap.size + 1) (by simp) ?_; intro gg cap w1 hown1 hgrow hat hlt1; have d1 : w1.cell? ⟨B, 1, none⟩ = some vo := (hgrow.cell_far _ (by simp; omega) hne1).trans (c1' _); have d2 : w1.frozen? ⟨B, 1, none⟩ = false := (hgrow.frozen_far _ (by simp; omega) hne1).trans (f1' _)))
  all_goals
    have hM := (Mk.putO (x := ⟨t.k.length, true, false⟩) (hB' _) ((hk.alloc _).drew) ((ho.alloc _).drew) hown1 hgrow).2
    have hb : Below B w2 w1 := (((Below.refl B w2).alloc (by omega) _).drew).grown hgrow (by simp; omega) (fun g hg => by have := (ho.lt g hg).1; omega)
    have hb2 := hb.setCell (p := ⟨B, 1, none⟩) (Nat.le_refl _) (.slice (some ⟨gg, 0, none⟩) (t.op.length + 1) cap)
    have HM : Hid (Mk (w1.setCell ⟨B, 1, none⟩ (.slice (some ⟨gg, 0, none⟩) (t.op.length + 1) cap)) B (t.opn ⟨t.k.length, true, false⟩)) := hM
    clear hM hown1 hgrow hat hb d1 d2
    go_wp2_with (go_at_call 30; refine (put_any _ _ _ _ HM.out hn).mono ?_; rintro e w' ⟨rfl, hM2, hb3⟩)
    (try simp only [Exit.inBlock, Exit.then])
    refine bodyPost_ret (results_none rfl _ _ _) rfl ?_
    exact ⟨rfl, hM2, hb02.trans (hb2.trans hb3)⟩

theorem enters_any {w : World} {B : Nat} {s : St} (loop : Bool) (h : Mk w B s) (hl : s.k.length ≤ 900) (hl2 : s.op.length ≤ 900) :
    Calls Try.prog 43 #[.pointer (some ⟨B, 0, none⟩), .bool loop] w fun e w' => e = .returned (.tuple #[]) ∧ Mk w' B (s.enters loop) ∧ Below B w w' := by
  by_cases hc : (loop && !s.lp) = false
  · exact enters_else loop hc h (by omega) (by omega)
  · have h1 : loop = true ∧ s.lp = false := by simpa using hc
    rw [h1.1]
    exact enters_loop h1.2 h hl hl2

end Go.Proofs.Ytbhbacphiinpeaa
