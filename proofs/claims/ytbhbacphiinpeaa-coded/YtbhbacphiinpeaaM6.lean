/- What 'close' does to a kernel that is being made, in every case. -/
import Derived.Test.YtbhbacphiinpeaaM3
import Derived.Test.YtbhbacphiinpeaaM5
namespace Go.Proofs.Ytbhbacphiinpeaa
open Go.RowKit

theorem MkV.putO {w w1 : World} {B : Nat} {s : St} {vk vo v' : Value} {x : Blk} (h : w.heap[B]? = some (.cells #[vk, vo, .bool s.lp, .bool s.al] 71))
    (hk : w.ownsRow (B + 1) 31 4 vk s.k.length (flat s.k)) (ho : w.ownsRow (B + 1) 99 3 vo s.op.length (flatB s.op))
    (hown : w1.ownsRow (B + 1) 99 3 v' (s.op.length + 1) (flatB s.op ++ x.vals)) (hg : w.grownBy w1 vo.ownBlock) :
    MkV (w1.setCell ⟨B, 1, none⟩ v') B (s.opn x) vk v' := by
  have hb : w1.heap[B]? = some (.cells #[vk, vo, .bool s.lp, .bool s.al] 71) := by
    rw [hg.block B (blk_lt h) (owns_ne ho (by omega)).1]; exact h
  refine ⟨?_, ?_, ?_⟩
  · rw [heap_setCell_same w1 B 1 _ 71 v' hb]; rfl
  · have hk1 := hk.kept hg (rows_apart hk ho (by decide))
    exact owns_setCell hk1 (owns_ne hk1 (Nat.lt_succ_self B)).2 _
  · have e1 : (s.opn x).op.length = s.op.length + 1 := by simp [St.opn]
    have e2 : flatB (s.opn x).op = flatB s.op ++ x.vals := by simp only [St.opn, flatB_append, flatB_one]
    rw [e1, e2]
    exact owns_setCell hown (owns_ne hown (Nat.lt_succ_self B)).2 _

set_option maxHeartbeats 2000000 in
set_option maxRecDepth 100000 in
theorem close_second {w : World} {B : Nat} {s : St} {vk vo : Value} {ops : List Blk} (i : Nat) (h : MkV w B s vk vo) (hs : s.op = ops ++ [⟨i, false, true⟩]) (hl : s.k.length ≤ 900) (hlo : ops.length ≤ 900) (hat : i < s.k.length) :
    Calls Try.prog 29 #[.pointer (some ⟨B, 0, none⟩), .bool true] w fun e w' => e = .returned (.tuple #[]) ∧ Mk w' B (s.close true) ∧ Below B w w' := by
  have es : s.close true = ((({ s with op := ops } : St).put ⟨12, 0, 0, 0⟩).opn ⟨s.k.length, false, false⟩).aim i := by
    rw [close_eq hs]; unfold St.ends St.other; simp
  rw [es]
  clear es
  obtain ⟨g, cap, hvo, hcap, hg, hBg, o0, o1, o2⟩ := close_opens h hs
  subst hvo
  obtain ⟨hM1, hb1, hX⟩ := close_start h hs
  obtain ⟨hB, -, -⟩ := h
  obtain ⟨c0, c1, c2, c3, f0, f1, f2, f3⟩ := blk_cells hB
  have hlt := blk_lt hB
  have HM := hid hM1
  have HB := hid hb1
  have HX := hid hX
  clear hM1 hb1 hX hB
  have hne : w.heap.size ≠ B := by omega
  have hgH : g ≠ w.heap.size := by omega
  obtain ⟨n, Hn⟩ : ∃ n, Hid (s.k.length = n) := ⟨_, rfl⟩
  obtain ⟨s2, Hs2⟩ : ∃ s2, Hid (({ s with op := ops } : St).put ⟨12, 0, 0, 0⟩ = s2) := ⟨_, rfl⟩
  have hl2 : Hid (s2.k.length = n + 1) := by rw [← Hs2.out, ← Hn.out]; exact hid (by simp [St.put])
  have ho2 : Hid (s2.op = ops) := by rw [← Hs2.out]; exact rfl
  have hn9 : n ≤ 900 := by rw [← Hn.out]; exact hl
  have hat2 : i < n := by rw [← Hn.out]; exact hat
  rw [Hs2.out, Hn.out]
  have hatI : (i : Int) < (n : Int) + 1 := by omega
  have hatJ : (0 : Int) ≤ (i : Int) := by omega
  go_enter Try.func29, Try.ntmps29
  go_wp2_with fail
  refine (put_full _ _ _ _ HM.out (by show s.k.length ≤ 1000; omega)).mono ?_
  rintro e w1 ⟨rfl, ⟨vk1, hM1⟩, hb1, hsp1⟩
  have hX1 := HX.out.later hsp1 hne
  rw [Hs2.out] at hM1
  clear HX hsp1 HM c0 c1 c2 c3 f0 f1 f2 f3 o0 o1 o2
  obtain ⟨x0, x1, x2⟩ := hX1.cells
  have HX1 := hid hX1
  have hXlt := blk_lt hX1
  clear hX1
  obtain ⟨hB, hk, ho⟩ := hM1
  obtain ⟨ka, kc, hvk⟩ := owns_slice hk
  rw [hl2.out] at hvk
  subst hvk
  obtain ⟨c0, c1, c2, c3, f0, f1, f2, f3⟩ := blk_cells hB
  have hlt1 := blk_lt hB
  obtain ⟨i0, hi, hz0, hz1, hz2⟩ := info_parts Try.info99
  have hne1 : some B ≠ Value.ownBlock (.slice (some ⟨g, 0, none⟩) ops.length cap) := by simp [Value.ownBlock]; omega
  have hne2 : some w.heap.size ≠ Value.ownBlock (.slice (some ⟨g, 0, none⟩) ops.length cap) := by simp [Value.ownBlock]; omega
  have hB' : ∀ o, (w1.alloc o).drew.heap[B]? = some (.cells #[.slice ka (n + 1) kc, .slice (some ⟨g, 0, none⟩) ops.length cap, .bool s2.lp, .bool s2.al] 71) := fun o => (Below.heap_alloc w1 o B hlt1).trans hB
  have c1' : ∀ o, (w1.alloc o).cell? ⟨B, 1, none⟩ = some (.slice (some ⟨g, 0, none⟩) ops.length cap) := fun o => (World.cell?_of_block (a := ⟨B, 1, none⟩) (Below.heap_alloc w1 o B hlt1)).trans c1
  have f1' : ∀ o, (w1.alloc o).frozen? ⟨B, 1, none⟩ = false := fun o => (World.frozen?_of_block (a := ⟨B, 1, none⟩) (Below.heap_alloc w1 o B hlt1)).trans f1
  have ho' : w1.ownsRow (B + 1) 99 3 (.slice (some ⟨g, 0, none⟩) ops.length cap) ops.length (flatB ops) := by rw [ho2.out] at ho; exact ho
  have hwr : IntKind.i64.wrap (n : Int) = (n : Int) := IntWalk.i64_in _ ⟨by omega, by omega⟩
  have Hk := hid hk
  have Ho := hid ho
  have HB1 := hid hb1
  clear hB hk ho hb1
  go_wp2_with fail
  go_region_law ((refine step_append_lies _ (by rfl) _ _ _ (by rfl) (B + 1) 99 i0 _ 3 16 Try.underlying69 hi hz0 hz1 hz2 rfl (by omega) (.slice (some ⟨g, 0, none⟩) ops.length cap) ops.length (flatB ops) (by rfl) ((ho'.alloc _).drew) ⟨w1.heap.size, 0, none⟩ 1 1 (Blk.vals ⟨n, false, false⟩) (by rfl) (by rfl) (World.news_of_block (cs := #[.int .i64 n, .bool false, .bool false]) (t := 99) (fr := (0, 0)) (heap_alloc_new w1 _)) (oneCell_valsB _) (by omega) (by unfold maxLen; omega) (by omega) (by simp; omega) (w1.heap.size + 1) (by simp) ?_; intro gg cap2 w2 hown2 hgrow hat3 hlt3; have d1 : w2.cell? ⟨B, 1, none⟩ = some (.slice (some ⟨g, 0, none⟩) ops.length cap) := (hgrow.cell_far _ (by simp; omega) hne1).trans (c1' _); have d2 : w2.frozen? ⟨B, 1, none⟩ = false := (hgrow.frozen_far _ (by simp; omega) hne1).trans (f1' _)))
  all_goals
    have hM := MkV.putO (s := s2) (x := ⟨n, false, false⟩) (hB' _) ((Hk.out.alloc _).drew) ((Ho.out.alloc _).drew) (by rw [ho2.out]; exact hown2) hgrow
    have hX2 : BoxAt (w2.setCell ⟨B, 1, none⟩ (.slice (some ⟨gg, 0, none⟩) (ops.length + 1) cap2)) w.heap.size ⟨i, false, true⟩ := by
      unfold BoxAt
      rw [Below.heap_setCell _ _ _ _ hne, hgrow.block _ (by simp; omega) hne2]
      exact (Below.heap_alloc w1 _ _ hXlt).trans HX1.out
    have hb : Below B w1 w2 := (((Below.refl B w1).alloc (by omega) _).drew).grown hgrow (by simp; omega) (fun g' hg' => by simp [Value.ownBlock] at hg'; omega)
    have hb2 := hb.setCell (p := ⟨B, 1, none⟩) (Nat.le_refl _) (.slice (some ⟨gg, 0, none⟩) (ops.length + 1) cap2)
    have hl3 : (s2.opn ⟨n, false, false⟩).k.length = n + 1 := hl2.out
    obtain ⟨gk, ck, hvk, hck, hgk, hBk, ⟨v2, r0⟩, r1⟩ := aim_opens (i := i) hM (by rw [hl3]; omega)
    rw [hl3] at hvk
    simp only [Value.slice.injEq, true_and] at hvk
    obtain ⟨hka, hkc⟩ := hvk
    subst hka
    subst hkc
    obtain ⟨hM4, hb4⟩ := aim_ends (s := s2.opn ⟨n, false, false⟩) (i := i) (by rw [hl3]; exact hM) (by rw [hl3]; omega) hBk
    rw [hl3] at hM4 hb4
    obtain ⟨x0, x1, x2⟩ := hX2.cells
    obtain ⟨y0, -, -, -, -⟩ := blk_cells hM.1
    have HM4 := hid hM4.mk
    have HB4 := hid ((HB.out.trans (HB1.out.trans hb2)).trans hb4)
    clear hM hX2 hb hb2 hM4 hb4 hown2 hgrow hat3 d1 d2 hB' c1' f1' hck hl3
    go_wp2_with fail
    go_region
    go_end0
    exact ⟨rfl, HM4.out, HB4.out.drew⟩

theorem close_any {w : World} {B : Nat} {s : St} {ops : List Blk} {b : Blk} (second : Bool) (h : Mk w B s) (hs : s.op = ops ++ [b]) (hl : s.k.length ≤ 900) (hlo : ops.length ≤ 900) (hat : b.at0 < s.k.length) :
    Calls Try.prog 29 #[.pointer (some ⟨B, 0, none⟩), .bool second] w fun e w' => e = .returned (.tuple #[]) ∧ Mk w' B (s.close second) ∧ Below B w w' := by
  obtain ⟨vk, vo, h⟩ := h
  obtain ⟨i, lp, sd⟩ := b
  cases lp
  · by_cases hsec : (second && sd) = false
    · exact close_plain second h hs hl hlo hat rfl hsec
    · have h2 : second = true ∧ sd = true := by simpa using hsec
      obtain ⟨rfl, rfl⟩ := h2
      exact close_second i h hs hl hlo hat
  · exact close_loop i sd second h hs hl hlo hat

end Go.Proofs.Ytbhbacphiinpeaa
