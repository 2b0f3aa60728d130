/- Ow E: joined. -/
import Derived.Test.YtbhbacphiinpeaaGreatZ01
import Derived.Test.YtbhbacphiinpeaaGreatZ03
import Derived.Test.YtbhbacphiinpeaaGreatZ02

/- What 'ownCode' does: one list more that came out, with its own mark. -/
namespace Go.Proofs.YtbhbacphiinpeaaGreat
open Go.RowKit

theorem Tryz.info48 : (Tryz.prog.info? 48).map (fun i => (i.zero, i.size, i.bytes)) = some (some (.agg #[.slice none 0 0, .slice none 0 0, .slice none 0 0, .int .i64 0]), 4, 80) := by kernel_rfl

theorem set4_take (ys : List Value) (k n : Nat) (hl : ys.length = n * 4) (hk : k < n) (a b c d : Value) :
    ((((ys.set (k * 4) a).set (k * 4 + 1) b).set (k * 4 + 2) c).set (k * 4 + 3) d).take ((k + 1) * 4) = ys.take (k * 4) ++ [a, b, c, d] := by
  apply List.ext_getElem?
  intro i
  rw [List.getElem?_take]
  have hlt : (ys.take (k * 4)).length = k * 4 := by rw [List.length_take]; omega
  by_cases h1 : i < k * 4
  · rw [if_pos (by omega), List.getElem?_append_left (by omega), List.getElem?_take, if_pos h1, List.getElem?_set_ne (by omega), List.getElem?_set_ne (by omega), List.getElem?_set_ne (by omega), List.getElem?_set_ne (by omega)]
  · rw [List.getElem?_append_right (by omega), hlt]
    by_cases h2 : i < (k + 1) * 4
    · rw [if_pos h2]
      have h3 : i = k * 4 ∨ i = k * 4 + 1 ∨ i = k * 4 + 2 ∨ i = k * 4 + 3 := by omega
      rcases h3 with rfl | rfl | rfl | rfl
      · rw [List.getElem?_set_ne (by omega), List.getElem?_set_ne (by omega), List.getElem?_set_ne (by omega), List.getElem?_set_self (by omega), show k * 4 - k * 4 = 0 by omega]; rfl
      · rw [List.getElem?_set_ne (by omega), List.getElem?_set_ne (by omega), List.getElem?_set_self (by simp; omega), show k * 4 + 1 - k * 4 = 1 by omega]; rfl
      · rw [List.getElem?_set_ne (by omega), List.getElem?_set_self (by simp; omega), show k * 4 + 2 - k * 4 = 2 by omega]; rfl
      · rw [List.getElem?_set_self (by simp; omega), show k * 4 + 3 - k * 4 = 3 by omega]; rfl
    · rw [if_neg h2, List.getElem?_eq_none (by simp; omega)]

theorem owns_ne' {w : World} {base : Nat} {e : TypeId} {size : Nat} {v : Value} {n : Nat} {xs : List Value} (h : w.ownsRow base e size v n xs) {B : Nat} (hB : B < base) : some B ≠ v.ownBlock ∧ ∀ g, v.ownBlock = some g → g ≠ B := by
  refine ⟨fun e0 => ?_, fun g hg => ?_⟩
  · have := (h.lt B e0.symm).1; omega
  · have := (h.lt g hg).1; omega

theorem owns_other {w : World} {base : Nat} {e : TypeId} {size : Nat} {v : Value} {n : Nat} {xs : List Value} (h : w.ownsRow base e size v n xs) {g : Nat} {cs : Array Value} {t : TypeId} {fr : Nat × Nat} (hg : w.heap[g]? = some (.cells cs t fr)) (hne : t ≠ e) : some g ≠ v.ownBlock := by
  intro e0
  rcases h.2 with ⟨rfl, -⟩ | ⟨g', cap, cur, rfl, -, hh, -⟩
  · simp [Value.ownBlock] at e0
  · simp only [Value.ownBlock, Option.some.injEq] at e0
    subst e0
    rw [hg] at hh
    simp only [Option.some.injEq, Obj.cells.injEq] at hh
    exact hne hh.2.1

theorem inv_more {w w' : World} {B BW : Nat} {es : List Ent} {en : Ent} {vc v' : Value} {o : Obj} (h1 : w.heap[BW]? = some (.cells #[.slice none 0 0, .slice none 0 0, vc, .slice none 0 0] 34)) (h2 : w.ownsRow (BW + 1) 48 4 vc es.length (flatE es)) (h5 : ∀ e ∈ es, EOk w B e) (hB : B ≤ w.heap.size)
    (hen : EOk w w.heap.size en) (hown : w'.ownsRow (BW + 1) 48 4 v' (es.length + 1) (flatE es ++ en.vals)) (hg : (w.alloc o).grownBy w' vc.ownBlock) :
    Inv (w'.setCell ⟨BW, 2, none⟩ v') (w'.setCell ⟨BW, 2, none⟩ v').heap.size BW (es ++ [en]) := by
  have hlt := blk_lt' h1
  have hsz : (w'.setCell ⟨BW, 2, none⟩ v').heap.size = w'.heap.size := by simp [World.setCell]
  have hgs := hg.size
  simp only [World.size_alloc] at hgs
  have hb : w'.heap[BW]? = some (.cells #[.slice none 0 0, .slice none 0 0, vc, .slice none 0 0] 34) := by
    rw [hg.block BW (by simp; omega) (owns_ne' h2 (Nat.lt_succ_self BW)).1, Below.heap_alloc _ _ _ hlt]; exact h1
  have hkeep : ∀ g cur, g < w.heap.size → w.heap[g]? = some (.cells cur 92) → (w'.setCell ⟨BW, 2, none⟩ v').heap[g]? = w.heap[g]? := fun g cur hgl hg34 => by
    have hne : g ≠ BW := fun e0 => by rw [e0, h1] at hg34; simp at hg34
    rw [Below.heap_setCell _ _ _ _ hne, hg.block g (by simp; omega) (owns_other h2 hg34 (by decide)), Below.heap_alloc _ _ _ hgl]
  have he : flatE (es ++ [en]) = flatE es ++ en.vals := by simp [flatE]
  refine ⟨v', ?_, ?_, ?_, by rw [hsz]; omega, ?_⟩
  · rw [heap_setCell_same w' BW 2 _ 34 v' hb]; rfl
  · rw [List.length_append, he]
    obtain ⟨k1, k2⟩ := hown
    refine ⟨k1, ?_⟩
    rcases k2 with k2 | ⟨g, cap, cur, hv, hgb, hh, r⟩
    · exact .inl k2
    · exact .inr ⟨g, cap, cur, hv, hgb, by rw [Below.heap_setCell _ _ _ _ (by show g ≠ BW; omega)]; exact hh, r⟩
  · intro g hgv
    rw [hsz]
    exact (hown.lt g hgv).2
  · intro e hee
    rw [hsz]
    simp only [List.mem_append, List.mem_singleton] at hee
    rcases hee with hee | rfl
    · exact (h5 e hee).keep (by omega) fun g cur hgl hg34 => hkeep g cur (by omega) hg34
    · exact hen.keep (by omega) hkeep

theorem oneCell_ent (e : Ent) (h0 : e.l.oneCell' = true) (h1 : e.one.oneCell' = true) (h2 : e.three.oneCell' = true) : ∀ u ∈ e.vals, u.oneCell' = true := by
  intro u hu
  simp only [Ent.vals, List.mem_cons, List.not_mem_nil, or_false] at hu
  rcases hu with rfl | rfl | rfl | rfl
  · exact h0
  · exact h1
  · exact h2
  · rfl

set_option maxHeartbeats 2000000 in
set_option maxRecDepth 100000 in
theorem own_any {w : World} {B BW : Nat} {es : List Ent} {v : Value} {n : Nat} {xs : List Value} (h : Inv w B BW es) (hes : es.length ≤ 1759218604000) (hB : B ≤ w.heap.size) (hown : w.ownsRow B 92 4 v n xs) (hn : n ≤ 40) :
    Calls Tryz.prog 28 #[.pointer (some ⟨BW, 1, none⟩), v] w fun e w' => e = .returned (.tuple #[]) ∧ (∃ en, Inv w' w'.heap.size BW (es ++ [en])) ∧ Below BW w w' := by
  have H := hyd h
  obtain ⟨vc, h1, h2, h3, h4, h5⟩ := h
  have q2 : w.cell? ⟨BW, 2, none⟩ = some vc := by rw [cell_of_row w BW 2 _ 34 _ h1]; rfl
  have hvc : ∃ ao cap, vc = .slice ao es.length cap := by
    rcases h2.2 with ⟨rfl, h0⟩ | ⟨g, cap, cur, rfl, -⟩
    · exact ⟨none, 0, by rw [h0]⟩
    · exact ⟨_, cap, rfl⟩
  obtain ⟨ca, cc, rfl⟩ := hvc
  have hv : ∃ ao cap, v = .slice ao n cap := by
    rcases hown.2 with ⟨rfl, rfl⟩ | ⟨g, cap, cur, rfl, -⟩
    · exact ⟨none, 0, rfl⟩
    · exact ⟨_, cap, rfl⟩
  obtain ⟨va, vcap, rfl⟩ := hv
  obtain ⟨p, Hp⟩ : ∃ p, Hid (es.length = p) := ⟨_, rfl⟩
  rw [Hp.out] at q2 h1 h2 h3
  have hp : p ≤ 1759218604000 := by rw [← Hp.out]; exact hes
  have hp2 : (p : Int) ≤ 1759218604000 := by omega
  have hn2 : (n : Int) ≤ 40 := by omega
  have H1 := hyd h1
  have H2 := hyd h2
  have H5 := hyd h5
  have Hown := hyd hown
  have hBW : BW < w.heap.size := by omega
  obtain ⟨m, Hm⟩ : ∃ m : Int, Hid (-1000 - (p : Int) = m) := ⟨_, rfl⟩
  obtain ⟨i0, hi, hz0, hz1, hz2⟩ := info_parts Tryz.info92
  obtain ⟨j0, hj, hy0, hy1, hy2⟩ := info_parts Tryz.info48
  clear h1 h2 h5 hes hown
  go_enter Tryz.func28, Tryz.ntmps28
  go_wp2_with fail
  rw [Hm.out]
  go_loopw [6] (fun i wr => ∃ k : Nat, ∃ ys, k ≤ n ∧ i = .int .i64 k ∧ wr.ownsRow B 92 4 (.slice va n vcap) n ys ∧ ys.take (k * 4) = flat (marks k m) ∧ wr.heap[w.heap.size]? = some (.cells #[.int .i64 m, .int .i64 0, .int .i64 0, .int .i64 0] 92) ∧ Below B w wr) (fun i _ => n - (intOf i).toNat)
  case atStart => exact ⟨0, xs, Nat.zero_le _, rfl, Hown.out.alloc _, rfl, heap_alloc_new w _, (Below.refl _ w).alloc hB _⟩
  case round =>
    obtain ⟨k, ys, hk, rfl, ho, ht, hbox, hb⟩ := hrel
    have x0 : wr.cell? ⟨w.heap.size, 0, none⟩ = some (.int .i64 m) := by rw [cell_of_row wr w.heap.size 0 _ 92 _ hbox]; rfl
    have x1 : wr.cell? ⟨w.heap.size, 1, none⟩ = some (.int .i64 0) := by rw [cell_of_row wr w.heap.size 1 _ 92 _ hbox]; rfl
    have x2 : wr.cell? ⟨w.heap.size, 2, none⟩ = some (.int .i64 0) := by rw [cell_of_row wr w.heap.size 2 _ 92 _ hbox]; rfl
    have x3 : wr.cell? ⟨w.heap.size, 3, none⟩ = some (.int .i64 0) := by rw [cell_of_row wr w.heap.size 3 _ 92 _ hbox]; rfl
    have hHlt := blk_lt' hbox
    have HT := hyd ht
    have HX := hyd hbox
    clear ht hbox q2
    by_cases hkn : k < n
    · obtain ⟨g, hg⟩ : ∃ g, va = some ⟨g, 0, none⟩ := by
        rcases Hown.out.2 with ⟨h0, h00⟩ | ⟨g, cap', cur, hv, -⟩
        · omega
        · simp only [Value.slice.injEq] at hv; exact ⟨g, hv.1⟩
      subst hg
      obtain ⟨hgB, hglt⟩ := Hown.out.lt g rfl
      have hlen : ys.length = n * 4 := ho.1
      obtain ⟨u0, e0⟩ : ∃ u, wr.cell? ⟨g, k * 4, none⟩ = some u := ⟨_, (ho.cellAt (k * 4) (by omega)).trans (List.getElem?_eq_getElem (by omega))⟩
      obtain ⟨u1, e1⟩ : ∃ u, wr.cell? ⟨g, k * 4 + 1, none⟩ = some u := ⟨_, (ho.cellAt (k * 4 + 1) (by omega)).trans (List.getElem?_eq_getElem (by omega))⟩
      obtain ⟨u2, e2⟩ : ∃ u, wr.cell? ⟨g, k * 4 + 2, none⟩ = some u := ⟨_, (ho.cellAt (k * 4 + 2) (by omega)).trans (List.getElem?_eq_getElem (by omega))⟩
      obtain ⟨u3, e3⟩ : ∃ u, wr.cell? ⟨g, k * 4 + 3, none⟩ = some u := ⟨_, (ho.cellAt (k * 4 + 3) (by omega)).trans (List.getElem?_eq_getElem (by omega))⟩
      have z0 := ho.frozenAt (k * 4)
      have z1 := ho.frozenAt (k * 4 + 1)
      have z2 := ho.frozenAt (k * 4 + 2)
      have z3 := ho.frozenAt (k * 4 + 3)
      have Ho := hyd ho
      have Hlen := hyd hlen
      clear ho hlen
      have i1 : (0 : Int) ≤ (k : Int) := by omega
      have i2 : (k : Int) < (n : Int) := by omega
      have hne : w.heap.size ≠ g := by omega
      go_wp2
      go_roundw
      case rel =>
        refine ⟨k + 1, _, by omega, by go_num, owns_store4 Ho.out _ _ _ _, ?_, ?_, below_store4 hb hgB _ _ _ _⟩
        · rw [set4_take ys k n Hlen.out hkn, HT.out, marks_succ]; rfl
        · rw [Below.heap_setCell _ _ _ _ hne, Below.heap_setCell _ _ _ _ hne, Below.heap_setCell _ _ _ _ hne, Below.heap_setCell _ _ _ _ hne]; exact HX.out
      case measure => simp [intOf]; omega
    · have hkn' : k = n := by omega
      subst hkn'
      have hys : ys = flat (marks k m) := by
        have := HT.out
        rwa [List.take_of_length_le (by rw [ho.1]; exact Nat.le_refl _)] at this
      subst hys
      have Ho := hyd ho
      clear ho HT
      have hszr : B ≤ wr.heap.size := Nat.le_trans hB hb.size
      have hHv : some w.heap.size ≠ Value.ownBlock (.slice va k vcap) := fun e0 => by have := (Hown.out.lt _ e0.symm).2; omega
      go_wp2_with (at_builtin; go_must (refine wpList_append_two _ rfl (.tmp 27) (.tmp 29) 35 rfl B 92 i0 (.agg #[.int .i64 0, .int .i64 0, .int .i64 0, .int .i64 0]) 4 32 Tryz.underlying35 hi hz0 hz1 hz2 rfl (by decide) (.slice va k vcap) (k) (flat (marks k m)) rfl ?a0 ⟨wr.heap.size, 0, none⟩ 1 1 (Ins.vals ⟨m, 0, 0, 0⟩) rfl rfl ?a1 ?a2 (by omega) ?a3 ?a4 ?a5 ?_))
      case a0 => exact Ho.out.alloc _
      case a1 => exact World.news_of_block (heap_alloc_new wr _)
      case a2 => exact oneCell_vals _
      case a3 => unfold maxLen; omega
      case a4 => omega
      case a5 => simp; omega
      · intro g1 c1 w1 hown1 hg1 hat1
        rw [← marks_succ] at hown1
        have M0 := ((Mrk.of_owned Ho.out).alloc (.cells #[.int .i64 m, .int .i64 0, .int .i64 0, .int .i64 0] 92)).append hg1 hown1 (by simp only [World.size_alloc]; exact hat1) (Nat.le_succ k)
        have M1 := Mrk.of_owned hown1
        have hbox1 : w1.heap[w.heap.size]? = some (.cells #[.int .i64 m, .int .i64 0, .int .i64 0, .int .i64 0] 92) := by
          rw [hg1.block _ (by simp; omega) hHv, Below.heap_alloc _ _ _ hHlt]; exact HX.out
        have hb1 : Below B w w1 := (hb.alloc hszr _).grown hg1 (by simp; omega) (fun x hx => (Ho.out.lt x hx).1)
        have hszr1 : B ≤ w1.heap.size := Nat.le_trans hB hb1.size
        have hH1 : w.heap.size < w1.heap.size := blk_lt' hbox1
        have hHv1 : some w.heap.size ≠ Value.ownBlock (.slice (some ⟨g1, 0, none⟩) (k + 1) c1) := by
          rcases hat1 with h1 | ⟨h1, -⟩
          · intro e0; rw [h1] at hHv; exact hHv e0
          · intro e0; simp only [Value.ownBlock, Option.some.injEq] at e0; omega
        have x0 : w1.cell? ⟨w.heap.size, 0, none⟩ = some (.int .i64 m) := by rw [cell_of_row w1 w.heap.size 0 _ 92 _ hbox1]; rfl
        have x1 : w1.cell? ⟨w.heap.size, 1, none⟩ = some (.int .i64 0) := by rw [cell_of_row w1 w.heap.size 1 _ 92 _ hbox1]; rfl
        have x2 : w1.cell? ⟨w.heap.size, 2, none⟩ = some (.int .i64 0) := by rw [cell_of_row w1 w.heap.size 2 _ 92 _ hbox1]; rfl
        have x3 : w1.cell? ⟨w.heap.size, 3, none⟩ = some (.int .i64 0) := by rw [cell_of_row w1 w.heap.size 3 _ 92 _ hbox1]; rfl
        have HM := hyd (And.intro M0 M1)
        have Ho1 := hyd hown1
        have HX1 := hyd hbox1
        have HB1 := hyd hb1
        clear hown1 hg1 hat1 M0 M1 hbox1 hb1 Ho HX hb
        go_wp2_with (at_builtin; go_must (refine wpList_append_two _ rfl (.tmp 31) (.tmp 33) 35 rfl B 92 i0 (.agg #[.int .i64 0, .int .i64 0, .int .i64 0, .int .i64 0]) 4 32 Tryz.underlying35 hi hz0 hz1 hz2 rfl (by decide) (.slice (some ⟨g1, 0, none⟩) (k + 1) c1) (k + 1) (flat (marks (k + 1) m)) rfl ?b0 ⟨w1.heap.size, 0, none⟩ 1 1 (Ins.vals ⟨m, 0, 0, 0⟩) rfl rfl ?b1 ?b2 (by omega) ?b3 ?b4 ?b5 ?_))
        case b0 => exact Ho1.out.alloc _
        case b1 => exact World.news_of_block (heap_alloc_new w1 _)
        case b2 => exact oneCell_vals _
        case b3 => unfold maxLen; omega
        case b4 => omega
        case b5 => simp; omega
        · intro g2 c2 w2 hown2 hg2 hat2
          rw [← marks_succ] at hown2
          have M0 := (HM.out.1.alloc (.cells #[.int .i64 m, .int .i64 0, .int .i64 0, .int .i64 0] 92)).append hg2 hown2 (by simp only [World.size_alloc]; exact hat2) (by omega)
          have M1 := (HM.out.2.alloc (.cells #[.int .i64 m, .int .i64 0, .int .i64 0, .int .i64 0] 92)).append hg2 hown2 (by simp only [World.size_alloc]; exact hat2) (by omega)
          have hbox2 : w2.heap[w.heap.size]? = some (.cells #[.int .i64 m, .int .i64 0, .int .i64 0, .int .i64 0] 92) := by
            rw [hg2.block _ (by simp; omega) hHv1, Below.heap_alloc _ _ _ hH1]; exact HX1.out
          have hb2 : Below B w w2 := (HB1.out.alloc hszr1 _).grown hg2 (by simp; omega) (fun x hx => (Ho1.out.lt x hx).1)
          have hszr2 : B ≤ w2.heap.size := Nat.le_trans hB hb2.size
          have hH2 : w.heap.size < w2.heap.size := blk_lt' hbox2
          have x0 : w2.cell? ⟨w.heap.size, 0, none⟩ = some (.int .i64 m) := by rw [cell_of_row w2 w.heap.size 0 _ 92 _ hbox2]; rfl
          have x1 : w2.cell? ⟨w.heap.size, 1, none⟩ = some (.int .i64 0) := by rw [cell_of_row w2 w.heap.size 1 _ 92 _ hbox2]; rfl
          have x2 : w2.cell? ⟨w.heap.size, 2, none⟩ = some (.int .i64 0) := by rw [cell_of_row w2 w.heap.size 2 _ 92 _ hbox2]; rfl
          have x3 : w2.cell? ⟨w.heap.size, 3, none⟩ = some (.int .i64 0) := by rw [cell_of_row w2 w.heap.size 3 _ 92 _ hbox2]; rfl
          have HM2 := hyd (And.intro M0 M1)
          have Ho2 := hyd hown2
          have HB2 := hyd hb2
          clear hown2 hg2 hat2 M0 M1 hbox2 hb2 Ho1 HX1 HM HB1
          go_wp2_with (at_builtin; go_must (refine wpList_append_two _ rfl (.tmp 35) (.tmp 37) 35 rfl B 92 i0 (.agg #[.int .i64 0, .int .i64 0, .int .i64 0, .int .i64 0]) 4 32 Tryz.underlying35 hi hz0 hz1 hz2 rfl (by decide) (.slice (some ⟨g2, 0, none⟩) (k + 1 + 1) c2) (k + 1 + 1) (flat (marks (k + 1 + 1) m)) rfl ?c0 ⟨w2.heap.size, 0, none⟩ 1 1 (Ins.vals ⟨m, 0, 0, 0⟩) rfl rfl ?c1 ?c2 (by omega) ?c3 ?c4 ?c5 ?_))
          case c0 => exact Ho2.out.alloc _
          case c1 => exact World.news_of_block (heap_alloc_new w2 _)
          case c2 => exact oneCell_vals _
          case c3 => unfold maxLen; omega
          case c4 => omega
          case c5 => simp; omega
          · intro g3 c3 w3 hown3 hg3 hat3
            rw [← marks_succ] at hown3
            have M0 := (HM2.out.1.alloc (.cells #[.int .i64 m, .int .i64 0, .int .i64 0, .int .i64 0] 92)).append hg3 hown3 (by simp only [World.size_alloc]; exact hat3) (by omega)
            have M1 := (HM2.out.2.alloc (.cells #[.int .i64 m, .int .i64 0, .int .i64 0, .int .i64 0] 92)).append hg3 hown3 (by simp only [World.size_alloc]; exact hat3) (by omega)
            have M3 := Mrk.of_owned hown3
            have hb3 : Below B w w3 := (HB2.out.alloc hszr2 _).grown hg3 (by simp; omega) (fun x hx => (Ho2.out.lt x hx).1)
            have hszr3 : B ≤ w3.heap.size := Nat.le_trans hB hb3.size
            have HEn : Hid (EOk w3 w3.heap.size ⟨.slice va k vcap, .slice (some ⟨g1, 0, none⟩) (k + 1) c1, .slice (some ⟨g3, 0, none⟩) (k + 1 + 1 + 1) c3, m, k⟩) := ⟨M0, M1, M3, hn⟩
            have K1 := hyd ((hb3.block BW h4).trans H1.out)
            have K2 := hyd (owns_below H2.out h3 hb3)
            have K5 : Hid (∀ e ∈ es, EOk w3 B e) := fun e he => (H5.out e he).keep (Nat.le_refl _) fun g _ hg _ => hb3.block g hg
            have q2 : w3.cell? ⟨BW, 2, none⟩ = some (.slice ca p cc) := by rw [cell_of_row w3 BW 2 _ 34 _ K1.out]; rfl
            have qf : w3.frozen? ⟨BW, 2, none⟩ = false := frozen_of_row w3 BW 2 _ 34 K1.out
            have hBW3 : BW < w3.heap.size := by omega
            have HB3 := hyd hb3
            clear hown3 hg3 hat3 M0 M1 M3 hb3 Ho2 HM2 HB2
            go_wp2_with (at_builtin; go_must (refine wpList_append_lies _ rfl (.tmp 43) (.tmp 49) 29 rfl (BW + 1) 48 j0 (.agg #[.slice none 0 0, .slice none 0 0, .slice none 0 0, .int .i64 0]) 4 80 Tryz.underlying29 hj hy0 hy1 hy2 rfl (by decide) (.slice ca p cc) p (flatE es) rfl ?d0 ⟨w3.heap.size, 0, none⟩ 1 1 (Ent.vals ⟨.slice va k vcap, .slice (some ⟨g1, 0, none⟩) (k + 1) c1, .slice (some ⟨g3, 0, none⟩) (k + 1 + 1 + 1) c3, m, k⟩) rfl rfl ?d1 ?d2 (by omega) ?d3 ?d4 ?d5 (w3.heap.size + 1) ?d6 ?_))
            case d0 => exact K2.out.alloc _
            case d1 => exact World.news_of_block (heap_alloc_new w3 _)
            case d2 => exact oneCell_ent _ rfl rfl rfl
            case d3 => unfold maxLen; omega
            case d4 => omega
            case d5 => simp; omega
            case d6 => simp
            · intro g4 c4 w4 hown4 hg4 _ _
              have hne4 := (owns_ne' K2.out (Nat.lt_succ_self BW)).1
              have r2 : w4.cell? ⟨BW, 2, none⟩ = some (.slice ca p cc) := (hg4.cell_far _ (by simp; omega) hne4).trans ((World.cell?_of_block (a := ⟨BW, 2, none⟩) (Below.heap_alloc w3 _ BW hBW3)).trans q2)
              have rf : w4.frozen? ⟨BW, 2, none⟩ = false := (hg4.frozen_far _ (by simp; omega) hne4).trans ((World.frozen?_of_block (a := ⟨BW, 2, none⟩) (Below.heap_alloc w3 _ BW hBW3)).trans qf)
              have hfin := inv_more (en := ⟨.slice va k vcap, .slice (some ⟨g1, 0, none⟩) (k + 1) c1, .slice (some ⟨g3, 0, none⟩) (k + 1 + 1 + 1) c3, m, k⟩) K1.out (by rw [Hp.out]; exact K2.out) K5.out hszr3 HEn.out (by rw [Hp.out]; exact hown4) hg4
              have hb4 : Below BW w w4 := ((HB3.out.mono (by omega)).alloc (by omega) _).grown hg4 (by simp; omega) (fun x hx => by have := (K2.out.lt x hx).1; omega)
              have HF := hyd (And.intro hfin (hb4.setCell (p := ⟨BW, 2, none⟩) (Nat.le_refl _) (.slice (some ⟨g4, 0, none⟩) (p + 1) c4)))
              clear hown4 hg4 hfin hb4 q2 qf
              go_wp2
              go_end0
              exact ⟨rfl, ⟨_, HF.out.1⟩, HF.out.2⟩

end Go.Proofs.YtbhbacphiinpeaaGreat

/- What 'Decode' answers. -/
namespace Go.Proofs.YtbhbacphiinpeaaGreat
open Go.RowKit

set_option maxHeartbeats 400000 in
theorem decode_size (s : ByteArray) (hm : s.size ≤ 140737488355328) (h : s.size % 4 ≠ 0 ∨ 160 < s.size) (w : World) :
    Calls Tryz.prog 49 #[.string s] w fun e w' => e = .returned (.tuple #[.slice none 0 0, .int .i64 1, .int .i64 0]) ∧ w' = w := by
  by_cases h4 : s.size % 4 = 0
  · have g : (((s.size : Int) % 4) != 0) = false := by
      have : (s.size : Int) % 4 = 0 := by omega
      rw [this]; rfl
    have g2 : decide ((160 : Int) < (s.size : Int)) = true := by simp; omega
    have h5 : (160 : Int) < (s.size : Int) := by omega
    have H4 : Hid (s.size % 4 = 0) := h4
    clear h h4
    go_enter Tryz.func49, Tryz.ntmps49
    go_wp2
    go_ret3
    exact ⟨rfl, rfl⟩
  · have g : (((s.size : Int) % 4) != 0) = true := by
      have : (s.size : Int) % 4 ≠ 0 := by omega
      simpa using this
    clear h h4
    go_enter Tryz.func49, Tryz.ntmps49
    go_wp2
    go_ret3
    exact ⟨rfl, rfl⟩

set_option maxHeartbeats 400000 in
theorem decode_fits (s : ByteArray) (n : Nat) (hs : s.size = 4 * n) (hn : n ≤ 40) (w : World) :
    Calls Tryz.prog 49 #[.string s] w fun e w' => ∃ v, e = .returned (.tuple #[v, .int .i64 (chk (unp s n)).1, .int .i64 (chk (unp s n)).2]) ∧ Below w.heap.size w w' ∧
      (((chk (unp s n)).1 = 0 ∧ w'.ownsRow w.heap.size 92 4 v n (flat (unp s n))) ∨ ((chk (unp s n)).1 ≠ 0 ∧ v = .slice none 0 0)) := by
  have g : (((s.size : Int) % 4) != 0) = false := by
    have : (s.size : Int) % 4 = 0 := by omega
    rw [this]; rfl
  have g2 : decide ((160 : Int) < (s.size : Int)) = false := by simp; omega
  have g3 : (s.size : Int) ≤ 160 := by omega
  have Hs : Hid (s.size = 4 * n) := hs
  clear hs
  by_cases he : (chk (unp s n)).1 = 0
  · have hb : ((chk (unp s n)).1 != 0) = false := by rw [he]; rfl
    have He : Hid ((chk (unp s n)).1 = 0) := he
    clear he
    have He2 : Hid (chk (unp s n) = (0, 0)) := (chk_zero He.out).1
    go_enter Tryz.func49, Tryz.ntmps49
    go_wp2_with fail
    refine (unpack_any s n Hs.out hn _).mono ?_
    rintro e w1 ⟨v, rfl, hown, hb1⟩
    have hsee : Hid (Sees w1 v (unp s n)) := ownsRow_sees (by rw [unp_length]; omega) (by rw [unp_length]; exact hown)
    go_wp2_with fail
    refine (check_any hsee.out).mono ?_
    rintro e w2 ⟨rfl, hb2⟩
    go_wp2
    go_ret3
    refine ⟨v, by rw [He2.out]; rfl, hb1.trans (hb2.mono hb1.size), .inl ⟨He.out, hown.keptB hb2⟩⟩
  · have hb : ((chk (unp s n)).1 != 0) = true := by simpa using he
    go_enter Tryz.func49, Tryz.ntmps49
    go_wp2_with fail
    refine (unpack_any s n Hs.out hn _).mono ?_
    rintro e w1 ⟨v, rfl, hown, hb1⟩
    have hsee : Hid (Sees w1 v (unp s n)) := ownsRow_sees (by rw [unp_length]; omega) (by rw [unp_length]; exact hown)
    go_wp2_with fail
    refine (check_any hsee.out).mono ?_
    rintro e w2 ⟨rfl, hb2⟩
    go_wp2
    go_ret3
    exact ⟨_, rfl, hb1.trans (hb2.mono hb1.size), .inr ⟨he, rfl⟩⟩

theorem decode_any (s : ByteArray) (hm : s.size ≤ 140737488355328) (w : World) :
    Calls Tryz.prog 49 #[.string s] w fun e w' => ∃ v, e = .returned (.tuple #[v, .int .i64 (dchk s).1, .int .i64 (dchk s).2]) ∧ Below w.heap.size w w' ∧
      w'.ownsRow w.heap.size 92 4 v (decL s).length (flat (decL s)) ∧ ((dchk s).1 ≠ 0 → v = .slice none 0 0) := by
  by_cases h : s.size % 4 ≠ 0 ∨ 160 < s.size
  · have e1 : dchk s = (1, 0) := by unfold dchk; rw [if_pos h]
    have e2 : decL s = [] := by unfold decL; rw [e1]; simp
    rw [e1, e2]
    refine (decode_size s hm h w).mono ?_
    rintro e w' ⟨rfl, rfl⟩
    exact ⟨_, rfl, Below.refl _ _, World.ownsRow_nil _ _ _ _, fun _ => rfl⟩
  · have e1 : dchk s = chk (unp s (s.size / 4)) := by unfold dchk; rw [if_neg h]
    refine (decode_fits s (s.size / 4) (by omega) (by omega) w).mono ?_
    rintro e w' ⟨v, rfl, hb, hv⟩
    rw [← e1] at hv ⊢
    refine ⟨v, rfl, hb, ?_⟩
    rcases hv with ⟨h0, hown⟩ | ⟨h0, rfl⟩
    · have e2 : decL s = unp s (s.size / 4) := by unfold decL; rw [if_pos h0]
      rw [e2, unp_length]
      exact ⟨hown, fun hn => absurd h0 hn⟩
    · have e2 : decL s = [] := by unfold decL; rw [if_neg h0]
      rw [e2]
      exact ⟨World.ownsRow_nil _ _ _ _, fun _ => rfl⟩

set_option maxHeartbeats 400000 in
theorem Decode_any (s : ByteArray) (hm : s.size ≤ 140737488355328) (w : World) :
    Calls Tryz.prog 25 #[.string s] w fun e w' => ∃ v, e = .returned (.tuple #[v, .int .i64 (dchk s).1, .int .i64 (dchk s).2]) ∧ Below w.heap.size w w' ∧
      w'.ownsRow w.heap.size 92 4 v (decL s).length (flat (decL s)) ∧ ((dchk s).1 ≠ 0 → v = .slice none 0 0) := by
  go_enter Tryz.func25, Tryz.ntmps25
  go_wp2_with (go_at_call 49; refine (decode_any s hm _).mono ?_; rintro e w1 ⟨v, rfl, hb, hown, hnil⟩)
  go_ret3
  exact ⟨v, rfl, hb, hown, hnil⟩

end Go.Proofs.YtbhbacphiinpeaaGreat

