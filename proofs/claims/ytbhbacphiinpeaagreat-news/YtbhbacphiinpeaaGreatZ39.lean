/- O2: joined. -/
import Derived.Test.YtbhbacphiinpeaaGreatZ38
import Derived.Test.YtbhbacphiinpeaaGreatZ04

/- What 'own', 'ownCode' and 'ownLog' do: one list more that came out, with its own mark. -/
namespace Go.Proofs.YtbhbacphiinpeaaGreat
open Go.RowKit

theorem Tryz.info45 : (Tryz.prog.info? 45).map (fun i => (i.zero, i.size, i.bytes)) = some (some (.agg #[.slice none 0 0, .slice none 0 0, .slice none 0 0, .int .i64 0]), 4, 80) := by kernel_rfl
theorem Tryz.info52 : (Tryz.prog.info? 52).map (fun i => (i.zero, i.size, i.bytes)) = some (some (.agg #[.slice none 0 0, .slice none 0 0, .slice none 0 0, .int .i64 0]), 4, 80) := by kernel_rfl
theorem Tryz.infoN3 : (Tryz.prog.info? 3).map (fun i => (i.zero, i.size, i.bytes)) = some (some (.int .i64 0), 1, 8) := by kernel_rfl
theorem Tryz.info94 : (Tryz.prog.info? 94).map (fun i => (i.zero, i.size, i.bytes)) = some (some (.agg #[.int .i64 0, .int .i64 0]), 2, 16) := by kernel_rfl

theorem set1_take (ys : List Value) (k n : Nat) (hl : ys.length = n * 1) (hk : k < n) (a : Value) : (ys.set k a).take ((k + 1) * 1) = ys.take (k * 1) ++ [a] := by
  rw [Nat.mul_one, Nat.mul_one, List.take_succ_eq_append_getElem (by simp; omega), List.take_set, List.set_eq_of_length_le (by rw [List.length_take]; omega)]
  simp
theorem set2_take (ys : List Value) (k n : Nat) (hl : ys.length = n * 2) (hk : k < n) (a b : Value) : ((ys.set (k * 2) a).set (k * 2 + 1) b).take ((k + 1) * 2) = ys.take (k * 2) ++ [a, b] := by
  apply List.ext_getElem?
  intro i
  rw [List.getElem?_take]
  have hlt : (ys.take (k * 2)).length = k * 2 := by rw [List.length_take]; omega
  by_cases h1 : i < k * 2
  · rw [if_pos (by omega), List.getElem?_append_left (by omega), List.getElem?_take, if_pos h1, List.getElem?_set_ne (by omega), List.getElem?_set_ne (by omega)]
  · rw [List.getElem?_append_right (by omega), hlt]
    by_cases h2 : i < (k + 1) * 2
    · rw [if_pos h2]
      have h3 : i = k * 2 ∨ i = k * 2 + 1 := by omega
      rcases h3 with rfl | rfl
      · rw [List.getElem?_set_ne (by omega), List.getElem?_set_self (by omega), show k * 2 - k * 2 = 0 by omega]; rfl
      · rw [List.getElem?_set_self (by simp; omega), show k * 2 + 1 - k * 2 = 1 by omega]; rfl
    · rw [if_neg h2, List.getElem?_eq_none (by simp; omega)]

theorem oneCell_mvI (m : Int) : ∀ u ∈ famI.mv m, u.oneCell' = true := by intro u hu; simp at hu; subst hu; rfl
theorem oneCell_mvG (m : Int) : ∀ u ∈ famG.mv m, u.oneCell' = true := by intro u hu; simp at hu; rcases hu with rfl | rfl <;> rfl
theorem oneCell_mvC (m : Int) : ∀ u ∈ famC.mv m, u.oneCell' = true := by intro u hu; simp at hu; rcases hu with rfl | rfl <;> rfl

theorem owns_store2 {w : World} {base g n cap k : Nat} {xs : List Value} (h : w.ownsRow base 94 2 (.slice (some ⟨g, 0, none⟩) n cap) n xs) (a b : Value) :
    ((w.setCell ⟨g, k * 2, none⟩ a).setCell ⟨g, k * 2 + 1, none⟩ b).ownsRow base 94 2 (.slice (some ⟨g, 0, none⟩) n cap) n ((xs.set (k * 2) a).set (k * 2 + 1) b) :=
  ((h.stored (k * 2) a).1.stored (k * 2 + 1) b).1

/-- An entry whose lists lie from block B on. -/
def NewEnt (B : Nat) (en : Ent) : Prop := ∀ g, (en.l.ownBlock = some g ∨ en.one.ownBlock = some g ∨ en.three.ownBlock = some g) → B ≤ g
/-- Nothing below block B has turned but block BW and rows of the type t. -/
def OwnFr (B BW : Nat) (t : TypeId) (w w' : World) : Prop := ∀ b, b < B → b ≠ BW → (∀ cs fr, w.heap[b]? ≠ some (.cells cs t fr)) → w'.heap[b]? = w.heap[b]?
theorem ownFr_of {B BW o : Nat} {t : TypeId} {size n : Nat} {xs : List Value} {w w3 w4 : World} {v vx : Value} {ob : Obj} (hb : Below B w w3) (hB : B ≤ w3.heap.size) (hr : w3.ownsRow (BW + 1) t size v n xs) (hg : (w3.alloc ob).grownBy w4 v.ownBlock) : OwnFr B BW t w (w4.setCell ⟨BW, o, none⟩ vx) := by
  intro b hbB hne ht
  rw [Below.heap_setCell _ _ _ _ hne, hg.block b (by simp; omega) (fun e => ?_), Below.heap_alloc _ _ _ (by omega), hb.block b hbB]
  rcases hr.2 with ⟨rfl, -⟩ | ⟨g, cap, cur, rfl, -, hh, -⟩
  · simp [Value.ownBlock] at e
  · simp only [Value.ownBlock, Option.some.injEq] at e
    subst e
    rw [hb.block b hbB] at hh
    exact ht _ _ hh

set_option maxHeartbeats 4000000 in
set_option maxRecDepth 100000 in
theorem ownI {w : World} {B BW : Nat} {vps : Value} {ei ec eg : List Ent} {v : Value} {n : Nat} {xs : List Value} (h : InvG w B BW vps ei ec eg) (hes : ei.length ≤ 1759218604000) (hB : B ≤ w.heap.size) (hown : w.ownsRow B 3 1 v n xs) (hn : n ≤ 4000) :
    Calls Tryz.prog 32 #[.pointer (some ⟨BW, 1, none⟩), v] w fun e w' => e = .returned (.tuple #[]) ∧ (∃ en, InvG w' w'.heap.size BW vps (ei ++ [en]) ec eg ∧ NewEnt B en) ∧ Below BW w w' ∧ OwnFr B BW 45 w w' := by
  obtain ⟨vi, vc, vg, h1, h4, hI, hC, hG⟩ := h
  obtain ⟨ca, cc, hvx⟩ := slice_of hI.1
  subst hvx
  obtain ⟨va, vcap, hvv⟩ := slice_of hown
  subst hvv
  have q2 : w.cell? ⟨BW, 1, none⟩ = some (.slice ca ei.length cc) := by rw [cell_of_row w BW 1 _ 34 _ h1]; rfl
  obtain ⟨p, Hp⟩ : ∃ p, Hid (ei.length = p) := ⟨_, rfl⟩
  rw [Hp.out] at q2 h1 hI
  have hp : p ≤ 1759218604000 := by rw [← Hp.out]; exact hes
  have hp2 : (p : Int) ≤ 1759218604000 := by omega
  have hn2 : (n : Int) ≤ 4000 := by omega
  have H1 := hyd h1
  have HI := hyd hI
  have HC := hyd hC
  have HG := hyd hG
  have Hown := hyd hown
  have HL0 : Hid (∀ g, (Value.slice va n vcap).ownBlock = some g → B ≤ g) := fun g hg => (hown.lt g hg).1
  have hBW : BW < w.heap.size := by omega
  obtain ⟨m, Hm⟩ : ∃ m : Int, Hid (-1000 - (p : Int) = m) := ⟨_, rfl⟩
  obtain ⟨i0, hi, hz0, hz1, hz2⟩ := info_parts Tryz.infoN3
  obtain ⟨j0, hj, hy0, hy1, hy2⟩ := info_parts Tryz.info45
  clear h1 hI hC hG hes hown
  go_enter Tryz.func32, Tryz.ntmps32
  go_wp2_with fail
  rw [Hm.out]
  go_loopw [5] (fun i wr => ∃ k : Nat, ∃ ys, k ≤ n ∧ i = .int .i64 k ∧ wr.ownsRow B 3 1 (.slice va n vcap) n ys ∧ ys.take (k * 1) = reps famI k m ∧ Below B w wr) (fun i _ => n - (intOf i).toNat)
  case atStart => exact ⟨0, xs, Nat.zero_le _, rfl, Hown.out, by rw [Nat.zero_mul]; rfl, Below.refl _ w⟩
  case round =>
    obtain ⟨k, ys, hk, rfl, ho, ht, hb⟩ := hrel
    have HT := hyd ht
    clear ht q2
    by_cases hkn : k < n
    · obtain ⟨g, hg⟩ : ∃ g, va = some ⟨g, 0, none⟩ := by
        rcases Hown.out.2 with ⟨h0, h00⟩ | ⟨g, cap', cur, hv, -⟩
        · omega
        · simp only [Value.slice.injEq] at hv; exact ⟨g, hv.1⟩
      subst hg
      obtain ⟨hgB, hglt⟩ := Hown.out.lt g rfl
      have hlen : ys.length = n * 1 := ho.1
      obtain ⟨u0, e0⟩ : ∃ u, wr.cell? ⟨g, k, none⟩ = some u := ⟨_, (ho.cellAt (k) (by omega)).trans (List.getElem?_eq_getElem (by omega))⟩
      have z0 := ho.frozenAt (k)
      have Ho := hyd ho
      have Hlen := hyd hlen
      clear ho hlen
      have i1 : (0 : Int) ≤ (k : Int) := by omega
      have i2 : (k : Int) < (n : Int) := by omega
      go_wp2
      go_roundw
      case rel =>
        refine ⟨k + 1, _, by omega, by go_num, (Ho.out.stored k _).1, ?_, hb.setCell (p := ⟨g, k, none⟩) hgB _⟩
        rw [set1_take ys k n Hlen.out hkn, HT.out, reps_succ]
      case measure => simp [intOf]; omega
    · have hkn' : k = n := by omega
      subst hkn'
      have hys : ys = reps famI k m := by
        have := HT.out
        rwa [List.take_of_length_le (by rw [ho.1]; exact Nat.le_refl _)] at this
      subst hys
      have Ho := hyd ho
      clear ho HT
      have hszr : B ≤ wr.heap.size := Nat.le_trans hB hb.size
      go_wp2_with (at_builtin; go_must (refine wpList_append_two _ rfl (.tmp 24) (.tmp 26) 24 rfl B 3 i0 (.int .i64 0) 1 8 Tryz.underlying24 hi hz0 hz1 hz2 rfl (by decide) (.slice va k vcap) (k) (reps famI (k) m) rfl ?a0 ⟨wr.heap.size, 0, none⟩ 1 1 (famI.mv m) rfl rfl ?a1 ?a2 (by omega) ?a3 ?a4 ?a5 ?_))
      case a0 => exact Ho.out.alloc _
      try case a1 => exact World.news_of_block (heap_alloc_new wr _)
      case a2 => first | exact oneCell_mvI m | rfl | exact ⟨rfl, rfl⟩
      case a3 => unfold maxLen; omega
      case a4 => omega
      case a5 => simp; omega
      · intro g1 c1 w1 hown1 hg1 hat1
        rw [← reps_succ] at hown1
        have M0 := ((MrkG.of_owned (f := famI) Ho.out).alloc (.cells #[.int .i64 m] 3)).append lenI hg1 hown1 (by simp only [World.size_alloc]; exact hat1) (Nat.le_succ k)
        have M1 := MrkG.of_owned (f := famI) hown1
        have hb1 : Below B w w1 := (hb.alloc hszr _).grown hg1 (by simp; omega) (fun x hx => (Ho.out.lt x hx).1)
        have hszr1 : B ≤ w1.heap.size := Nat.le_trans hB hb1.size
        have HM := hyd (And.intro M0 M1)
        have Ho1 := hyd hown1
        have HL1 : Hid (B ≤ g1) := (hown1.lt g1 rfl).1
        have HB1 := hyd hb1
        clear hown1 hg1 hat1 M0 M1 hb1 Ho hb
        go_wp2_with (at_builtin; go_must (refine wpList_append_two _ rfl (.tmp 28) (.tmp 30) 24 rfl B 3 i0 (.int .i64 0) 1 8 Tryz.underlying24 hi hz0 hz1 hz2 rfl (by decide) (.slice (some ⟨g1, 0, none⟩) (k + 1) c1) (k + 1) (reps famI (k + 1) m) rfl ?b0 ⟨w1.heap.size, 0, none⟩ 1 1 (famI.mv m) rfl rfl ?b1 ?b2 (by omega) ?b3 ?b4 ?b5 ?_))
        case b0 => exact Ho1.out.alloc _
        try case b1 => exact World.news_of_block (heap_alloc_new w1 _)
        case b2 => first | exact oneCell_mvI m | rfl | exact ⟨rfl, rfl⟩
        case b3 => unfold maxLen; omega
        case b4 => omega
        case b5 => simp; omega
        · intro g2 c2 w2 hown2 hg2 hat2
          rw [← reps_succ] at hown2
          have M0 := (HM.out.1.alloc (.cells #[.int .i64 m] 3)).append lenI hg2 hown2 (by simp only [World.size_alloc]; exact hat2) (by omega)
          have M1 := (HM.out.2.alloc (.cells #[.int .i64 m] 3)).append lenI hg2 hown2 (by simp only [World.size_alloc]; exact hat2) (by omega)
          have hb2 : Below B w w2 := (HB1.out.alloc hszr1 _).grown hg2 (by simp; omega) (fun x hx => (Ho1.out.lt x hx).1)
          have hszr2 : B ≤ w2.heap.size := Nat.le_trans hB hb2.size
          have HM2 := hyd (And.intro M0 M1)
          have Ho2 := hyd hown2
          have HB2 := hyd hb2
          clear hown2 hg2 hat2 M0 M1 hb2 Ho1 HM HB1
          go_wp2_with (at_builtin; go_must (refine wpList_append_two _ rfl (.tmp 32) (.tmp 34) 24 rfl B 3 i0 (.int .i64 0) 1 8 Tryz.underlying24 hi hz0 hz1 hz2 rfl (by decide) (.slice (some ⟨g2, 0, none⟩) (k + 1 + 1) c2) (k + 1 + 1) (reps famI (k + 1 + 1) m) rfl ?c0 ⟨w2.heap.size, 0, none⟩ 1 1 (famI.mv m) rfl rfl ?c1 ?c2 (by omega) ?c3 ?c4 ?c5 ?_))
          case c0 => exact Ho2.out.alloc _
          try case c1 => exact World.news_of_block (heap_alloc_new w2 _)
          case c2 => first | exact oneCell_mvI m | rfl | exact ⟨rfl, rfl⟩
          case c3 => unfold maxLen; omega
          case c4 => omega
          case c5 => simp; omega
          · intro g3 c3 w3 hown3 hg3 hat3
            rw [← reps_succ] at hown3
            have M0 := (HM2.out.1.alloc (.cells #[.int .i64 m] 3)).append lenI hg3 hown3 (by simp only [World.size_alloc]; exact hat3) (by omega)
            have M1 := (HM2.out.2.alloc (.cells #[.int .i64 m] 3)).append lenI hg3 hown3 (by simp only [World.size_alloc]; exact hat3) (by omega)
            have M3 := MrkG.of_owned (f := famI) hown3
            have hb3 : Below B w w3 := (HB2.out.alloc hszr2 _).grown hg3 (by simp; omega) (fun x hx => (Ho2.out.lt x hx).1)
            have hszr3 : B ≤ w3.heap.size := Nat.le_trans hB hb3.size
            have HEn : Hid (EOkG famI w3 w3.heap.size ⟨.slice va k vcap, .slice (some ⟨g1, 0, none⟩) (k + 1) c1, .slice (some ⟨g3, 0, none⟩) (k + 1 + 1 + 1) c3, m, k⟩) := ⟨M0, M1, M3, hn⟩
            have HNw : Hid (NewEnt B ⟨.slice va k vcap, .slice (some ⟨g1, 0, none⟩) (k + 1) c1, .slice (some ⟨g3, 0, none⟩) (k + 1 + 1 + 1) c3, m, k⟩) := by
              intro g hg
              rcases hg with hg | hg | hg
              · exact HL0.out g hg
              · simp only [Value.ownBlock, Option.some.injEq] at hg; have := HL1.out; omega
              · exact (hown3.lt g hg).1
            have K1 := hyd ((hb3.block BW h4).trans H1.out)
            have KI := hyd (HI.out.up hb3)
            have KC := hyd (HC.out.up hb3)
            have KG := hyd (HG.out.up hb3)
            have q2 : w3.cell? ⟨BW, 1, none⟩ = some (.slice ca p cc) := by rw [cell_of_row w3 BW 1 _ 34 _ K1.out]; rfl
            have qf : w3.frozen? ⟨BW, 1, none⟩ = false := frozen_of_row w3 BW 1 _ 34 K1.out
            have hBW3 : BW < w3.heap.size := by omega
            have HB3 := hyd hb3
            have KO : Hid (w3.ownsRow (BW + 1) 45 4 (.slice ca p cc) p (flatE ei)) := by have h := KI.out.1; rw [Hp.out] at h; exact h
            clear hown3 hg3 hat3 M0 M1 M3 hb3 Ho2 HM2 HB2
            go_wp2_with (at_builtin; go_must (refine wpList_append_lies _ rfl (.tmp 40) (.tmp 46) 28 rfl (BW + 1) 45 j0 (.agg #[.slice none 0 0, .slice none 0 0, .slice none 0 0, .int .i64 0]) 4 80 Tryz.underlying28 hj hy0 hy1 hy2 rfl (by decide) (.slice ca p cc) p (flatE ei) rfl ?d0 ⟨w3.heap.size, 0, none⟩ 1 1 (Ent.vals ⟨.slice va k vcap, .slice (some ⟨g1, 0, none⟩) (k + 1) c1, .slice (some ⟨g3, 0, none⟩) (k + 1 + 1 + 1) c3, m, k⟩) rfl rfl ?d1 ?d2 (by omega) ?d3 ?d4 ?d5 (w3.heap.size + 1) ?d6 ?_))
            case d0 => exact KO.out.alloc _
            case d1 => exact World.news_of_block (heap_alloc_new w3 _)
            case d2 => exact oneCell_ent _ rfl rfl rfl
            case d3 => unfold maxLen; omega
            case d4 => omega
            case d5 => simp; omega
            case d6 => simp
            · intro g4 c4 w4 hown4 hg4 _ _
              have hne4 := (owns_ne' KO.out (Nat.lt_succ_self BW)).1
              have r2 : w4.cell? ⟨BW, 1, none⟩ = some (.slice ca p cc) := (hg4.cell_far _ (by simp; omega) hne4).trans ((World.cell?_of_block (a := ⟨BW, 1, none⟩) (Below.heap_alloc w3 _ BW hBW3)).trans q2)
              have rf : w4.frozen? ⟨BW, 1, none⟩ = false := (hg4.frozen_far _ (by simp; omega) hne4).trans ((World.frozen?_of_block (a := ⟨BW, 1, none⟩) (Below.heap_alloc w3 _ BW hBW3)).trans qf)
              have hgs4 := hg4.size
              simp only [World.size_alloc] at hgs4
              have hbw4 : w4.heap[BW]? = w3.heap[BW]? := (hg4.block BW (by simp; omega) hne4).trans (Below.heap_alloc w3 _ BW hBW3)
              have NC := KC.out.other (f' := famI) (B' := w4.heap.size) (o := 1) (vx := (.slice (some ⟨g4, 0, none⟩) (p + 1) c4)) (es' := ei) (by omega) hszr3 K1.out (by rw [Hp.out]; exact KO.out) hg4 (by decide) (by decide) (by decide)
              have NG := KG.out.other (f' := famI) (B' := w4.heap.size) (o := 1) (vx := (.slice (some ⟨g4, 0, none⟩) (p + 1) c4)) (es' := ei) (by omega) hszr3 K1.out (by rw [Hp.out]; exact KO.out) hg4 (by decide) (by decide) (by decide)
              have NI := KI.out.more (o := 1) hszr3 K1.out HEn.out (by rw [Hp.out]; exact hown4) hg4 (by decide) (by decide)
              have hfin : InvG (w4.setCell ⟨BW, 1, none⟩ (.slice (some ⟨g4, 0, none⟩) (p + 1) c4)) (w4.setCell ⟨BW, 1, none⟩ (.slice (some ⟨g4, 0, none⟩) (p + 1) c4)).heap.size BW vps (ei ++ [⟨.slice va k vcap, .slice (some ⟨g1, 0, none⟩) (k + 1) c1, .slice (some ⟨g3, 0, none⟩) (k + 1 + 1 + 1) c3, m, k⟩]) ec eg := by
                have hss : (w4.setCell ⟨BW, 1, none⟩ (.slice (some ⟨g4, 0, none⟩) (p + 1) c4)).heap.size = w4.heap.size := by simp [World.setCell]
                rw [hss]
                refine ⟨(.slice (some ⟨g4, 0, none⟩) (p + 1) c4), vc, vg, ?_, by omega, NI, NC, NG⟩
                rw [heap_setCell_same w4 BW 1 _ 34 _ (hbw4.trans K1.out)]; rfl
              have hb4 : Below BW w w4 := ((HB3.out.mono (by omega)).alloc (by omega) _).grown hg4 (by simp; omega) (fun x hx => by have := (KO.out.lt x hx).1; omega)
              have HFr : Hid (OwnFr B BW 45 w (w4.setCell ⟨BW, 1, none⟩ (.slice (some ⟨g4, 0, none⟩) (p + 1) c4))) := ownFr_of HB3.out hszr3 KO.out hg4
              have HF := hyd (And.intro hfin (hb4.setCell (p := ⟨BW, 1, none⟩) (Nat.le_refl _) (.slice (some ⟨g4, 0, none⟩) (p + 1) c4)))
              clear hown4 hg4 hfin hb4 q2 qf NI NC NG hbw4
              go_wp2
              go_end0
              exact ⟨rfl, ⟨_, HF.out.1, HNw.out⟩, HF.out.2, HFr.out⟩

set_option maxHeartbeats 4000000 in
set_option maxRecDepth 100000 in
theorem ownC {w : World} {B BW : Nat} {vps : Value} {ei ec eg : List Ent} {v : Value} {n : Nat} {xs : List Value} (h : InvG w B BW vps ei ec eg) (hes : ec.length ≤ 1759218604000) (hB : B ≤ w.heap.size) (hown : w.ownsRow B 92 4 v n xs) (hn : n ≤ 4000) :
    Calls Tryz.prog 28 #[.pointer (some ⟨BW, 1, none⟩), v] w fun e w' => e = .returned (.tuple #[]) ∧ (∃ en, InvG w' w'.heap.size BW vps ei (ec ++ [en]) eg ∧ NewEnt B en) ∧ Below BW w w' ∧ OwnFr B BW 48 w w' := by
  obtain ⟨vi, vc, vg, h1, h4, hI, hC, hG⟩ := h
  obtain ⟨ca, cc, hvx⟩ := slice_of hC.1
  subst hvx
  obtain ⟨va, vcap, hvv⟩ := slice_of hown
  subst hvv
  have q2 : w.cell? ⟨BW, 2, none⟩ = some (.slice ca ec.length cc) := by rw [cell_of_row w BW 2 _ 34 _ h1]; rfl
  obtain ⟨p, Hp⟩ : ∃ p, Hid (ec.length = p) := ⟨_, rfl⟩
  rw [Hp.out] at q2 h1 hC
  have hp : p ≤ 1759218604000 := by rw [← Hp.out]; exact hes
  have hp2 : (p : Int) ≤ 1759218604000 := by omega
  have hn2 : (n : Int) ≤ 4000 := by omega
  have H1 := hyd h1
  have HI := hyd hI
  have HC := hyd hC
  have HG := hyd hG
  have Hown := hyd hown
  have HL0 : Hid (∀ g, (Value.slice va n vcap).ownBlock = some g → B ≤ g) := fun g hg => (hown.lt g hg).1
  have hBW : BW < w.heap.size := by omega
  obtain ⟨m, Hm⟩ : ∃ m : Int, Hid (-1000 - (p : Int) = m) := ⟨_, rfl⟩
  obtain ⟨i0, hi, hz0, hz1, hz2⟩ := info_parts Tryz.info92
  obtain ⟨j0, hj, hy0, hy1, hy2⟩ := info_parts Tryz.info48
  clear h1 hI hC hG hes hown
  go_enter Tryz.func28, Tryz.ntmps28
  go_wp2_with fail
  rw [Hm.out]
  go_loopw [6] (fun i wr => ∃ k : Nat, ∃ ys, k ≤ n ∧ i = .int .i64 k ∧ wr.ownsRow B 92 4 (.slice va n vcap) n ys ∧ ys.take (k * 4) = reps famC k m ∧ wr.heap[w.heap.size]? = some (.cells #[.int .i64 m, .int .i64 0, .int .i64 0, .int .i64 0] 92) ∧ Below B w wr) (fun i _ => n - (intOf i).toNat)
  case atStart => exact ⟨0, xs, Nat.zero_le _, rfl, Hown.out.alloc _, by rw [Nat.zero_mul]; rfl, heap_alloc_new w _, (Below.refl _ w).alloc hB _⟩
  case round =>
    obtain ⟨k, ys, hk, rfl, ho, ht, hbox, hb⟩ := hrel
    have x0 : wr.cell? ⟨w.heap.size, 0, none⟩ = some (.int .i64 m) := by rw [cell_of_row wr w.heap.size 0 _ 92 _ hbox]; rfl
    have x1 : wr.cell? ⟨w.heap.size, 1, none⟩ = some (.int .i64 0) := by rw [cell_of_row wr w.heap.size 1 _ 92 _ hbox]; rfl
    have x2 : wr.cell? ⟨w.heap.size, 2, none⟩ = some (.int .i64 0) := by rw [cell_of_row wr w.heap.size 2 _ 92 _ hbox]; rfl
    have x3 : wr.cell? ⟨w.heap.size, 3, none⟩ = some (.int .i64 0) := by rw [cell_of_row wr w.heap.size 3 _ 92 _ hbox]; rfl
    have hHlt := blk_lt' hbox
    have HX := hyd hbox
    have HT := hyd ht
    clear ht q2 hbox
    by_cases hkn : k < n
    · obtain ⟨g, hg⟩ : ∃ g, va = some ⟨g, 0, none⟩ := by
        rcases Hown.out.2 with ⟨h0, h00⟩ | ⟨g, cap', cur, hv, -⟩
        · omega
        · simp only [Value.slice.injEq] at hv; exact ⟨g, hv.1⟩
      subst hg
      obtain ⟨hgB, hglt⟩ := Hown.out.lt g rfl
      have hlen : ys.length = n * 4 := ho.1
      obtain ⟨u0, e0⟩ : ∃ u, wr.cell? ⟨g, k * 4, none⟩ = some u := ⟨_, (ho.cellAt (k * 4) (by omega)).trans (List.getElem?_eq_getElem (by omega))⟩
      obtain ⟨u1, e1⟩ : ∃ u, wr.cell? ⟨g, k * 4 + 1, none⟩ = some u := ⟨_, (ho.cellAt (k * 4 + 1) (by omega)).trans (List.getElem?_eq_getElem (by omega))⟩
      obtain ⟨u2, e2⟩ : ∃ u, wr.cell? ⟨g, k * 4 + 2, none⟩ = some u := ⟨_, (ho.cellAt (k * 4 + 2) (by omega)).trans (List.getElem?_eq_getElem (by omega))⟩
      obtain ⟨u3, e3⟩ : ∃ u, wr.cell? ⟨g, k * 4 + 3, none⟩ = some u := ⟨_, (ho.cellAt (k * 4 + 3) (by omega)).trans (List.getElem?_eq_getElem (by omega))⟩
      have z0 := ho.frozenAt (k * 4)
      have z1 := ho.frozenAt (k * 4 + 1)
      have z2 := ho.frozenAt (k * 4 + 2)
      have z3 := ho.frozenAt (k * 4 + 3)
      have Ho := hyd ho
      have Hlen := hyd hlen
      clear ho hlen
      have i1 : (0 : Int) ≤ (k : Int) := by omega
      have i2 : (k : Int) < (n : Int) := by omega
      have hne : w.heap.size ≠ g := by omega
      go_wp2
      go_roundw
      case rel =>
        refine ⟨k + 1, _, by omega, by go_num, owns_store4 Ho.out _ _ _ _, ?_, ?_, below_store4 hb hgB _ _ _ _⟩
        · rw [set4_take ys k n Hlen.out hkn, HT.out, reps_succ]
        · rw [Below.heap_setCell _ _ _ _ hne, Below.heap_setCell _ _ _ _ hne, Below.heap_setCell _ _ _ _ hne, Below.heap_setCell _ _ _ _ hne]; exact HX.out
      case measure => simp [intOf]; omega
    · have hkn' : k = n := by omega
      subst hkn'
      have hys : ys = reps famC k m := by
        have := HT.out
        rwa [List.take_of_length_le (by rw [ho.1]; exact Nat.le_refl _)] at this
      subst hys
      have Ho := hyd ho
      clear ho HT
      have hszr : B ≤ wr.heap.size := Nat.le_trans hB hb.size
      have hHv : some w.heap.size ≠ Value.ownBlock (.slice va k vcap) := fun e0 => by have := (Hown.out.lt _ e0.symm).2; omega
      go_wp2_with (at_builtin; go_must (refine wpList_append_two _ rfl (.tmp 27) (.tmp 29) 35 rfl B 92 i0 (.agg #[.int .i64 0, .int .i64 0, .int .i64 0, .int .i64 0]) 4 32 Tryz.underlying35 hi hz0 hz1 hz2 rfl (by decide) (.slice va k vcap) (k) (reps famC (k) m) rfl ?a0 ⟨wr.heap.size, 0, none⟩ 1 1 (famC.mv m) rfl rfl ?a1 ?a2 (by omega) ?a3 ?a4 ?a5 ?_))
      case a0 => exact Ho.out.alloc _
      try case a1 => exact World.news_of_block (heap_alloc_new wr _)
      case a2 => first | exact oneCell_mvC m | rfl | exact ⟨rfl, rfl⟩
      case a3 => unfold maxLen; omega
      case a4 => omega
      case a5 => simp; omega
      · intro g1 c1 w1 hown1 hg1 hat1
        rw [← reps_succ] at hown1
        have M0 := ((MrkG.of_owned (f := famC) Ho.out).alloc (.cells #[.int .i64 m, .int .i64 0, .int .i64 0, .int .i64 0] 92)).append lenC hg1 hown1 (by simp only [World.size_alloc]; exact hat1) (Nat.le_succ k)
        have M1 := MrkG.of_owned (f := famC) hown1
        have hbox1 : w1.heap[w.heap.size]? = some (.cells #[.int .i64 m, .int .i64 0, .int .i64 0, .int .i64 0] 92) := by
          rw [hg1.block _ (by simp; omega) hHv, Below.heap_alloc _ _ _ hHlt]; exact HX.out
        have hb1 : Below B w w1 := (hb.alloc hszr _).grown hg1 (by simp; omega) (fun x hx => (Ho.out.lt x hx).1)
        have hszr1 : B ≤ w1.heap.size := Nat.le_trans hB hb1.size
        have hH1 : w.heap.size < w1.heap.size := blk_lt' hbox1
        have hHv1 : some w.heap.size ≠ Value.ownBlock (.slice (some ⟨g1, 0, none⟩) (k + 1) c1) := by
          rcases hat1 with h1 | ⟨h1, -⟩
          · intro e0; rw [h1] at hHv; exact hHv e0
          · intro e0; simp only [Value.ownBlock, Option.some.injEq] at e0; omega
        have x0 : w1.cell? ⟨w.heap.size, 0, none⟩ = some (.int .i64 m) := by rw [cell_of_row w1 w.heap.size 0 _ 92 _ hbox1]; rfl
        have x1 : w1.cell? ⟨w.heap.size, 1, none⟩ = some (.int .i64 0) := by rw [cell_of_row w1 w.heap.size 1 _ 92 _ hbox1]; rfl
        have x2 : w1.cell? ⟨w.heap.size, 2, none⟩ = some (.int .i64 0) := by rw [cell_of_row w1 w.heap.size 2 _ 92 _ hbox1]; rfl
        have x3 : w1.cell? ⟨w.heap.size, 3, none⟩ = some (.int .i64 0) := by rw [cell_of_row w1 w.heap.size 3 _ 92 _ hbox1]; rfl
        have HM := hyd (And.intro M0 M1)
        have Ho1 := hyd hown1
        have HL1 : Hid (B ≤ g1) := (hown1.lt g1 rfl).1
        have HX1 := hyd hbox1
        have HB1 := hyd hb1
        clear hown1 hg1 hat1 M0 M1 hb1 Ho hbox1 hb HX
        go_wp2_with (at_builtin; go_must (refine wpList_append_two _ rfl (.tmp 31) (.tmp 33) 35 rfl B 92 i0 (.agg #[.int .i64 0, .int .i64 0, .int .i64 0, .int .i64 0]) 4 32 Tryz.underlying35 hi hz0 hz1 hz2 rfl (by decide) (.slice (some ⟨g1, 0, none⟩) (k + 1) c1) (k + 1) (reps famC (k + 1) m) rfl ?b0 ⟨w1.heap.size, 0, none⟩ 1 1 (famC.mv m) rfl rfl ?b1 ?b2 (by omega) ?b3 ?b4 ?b5 ?_))
        case b0 => exact Ho1.out.alloc _
        try case b1 => exact World.news_of_block (heap_alloc_new w1 _)
        case b2 => first | exact oneCell_mvC m | rfl | exact ⟨rfl, rfl⟩
        case b3 => unfold maxLen; omega
        case b4 => omega
        case b5 => simp; omega
        · intro g2 c2 w2 hown2 hg2 hat2
          rw [← reps_succ] at hown2
          have M0 := (HM.out.1.alloc (.cells #[.int .i64 m, .int .i64 0, .int .i64 0, .int .i64 0] 92)).append lenC hg2 hown2 (by simp only [World.size_alloc]; exact hat2) (by omega)
          have M1 := (HM.out.2.alloc (.cells #[.int .i64 m, .int .i64 0, .int .i64 0, .int .i64 0] 92)).append lenC hg2 hown2 (by simp only [World.size_alloc]; exact hat2) (by omega)
          have hbox2 : w2.heap[w.heap.size]? = some (.cells #[.int .i64 m, .int .i64 0, .int .i64 0, .int .i64 0] 92) := by
            rw [hg2.block _ (by simp; omega) hHv1, Below.heap_alloc _ _ _ hH1]; exact HX1.out
          have hb2 : Below B w w2 := (HB1.out.alloc hszr1 _).grown hg2 (by simp; omega) (fun x hx => (Ho1.out.lt x hx).1)
          have hszr2 : B ≤ w2.heap.size := Nat.le_trans hB hb2.size
          have hH2 : w.heap.size < w2.heap.size := blk_lt' hbox2
          have x0 : w2.cell? ⟨w.heap.size, 0, none⟩ = some (.int .i64 m) := by rw [cell_of_row w2 w.heap.size 0 _ 92 _ hbox2]; rfl
          have x1 : w2.cell? ⟨w.heap.size, 1, none⟩ = some (.int .i64 0) := by rw [cell_of_row w2 w.heap.size 1 _ 92 _ hbox2]; rfl
          have x2 : w2.cell? ⟨w.heap.size, 2, none⟩ = some (.int .i64 0) := by rw [cell_of_row w2 w.heap.size 2 _ 92 _ hbox2]; rfl
          have x3 : w2.cell? ⟨w.heap.size, 3, none⟩ = some (.int .i64 0) := by rw [cell_of_row w2 w.heap.size 3 _ 92 _ hbox2]; rfl
          have HM2 := hyd (And.intro M0 M1)
          have Ho2 := hyd hown2
          have HB2 := hyd hb2
          clear hown2 hg2 hat2 M0 M1 hb2 Ho1 hbox2 HM HB1 HX1
          go_wp2_with (at_builtin; go_must (refine wpList_append_two _ rfl (.tmp 35) (.tmp 37) 35 rfl B 92 i0 (.agg #[.int .i64 0, .int .i64 0, .int .i64 0, .int .i64 0]) 4 32 Tryz.underlying35 hi hz0 hz1 hz2 rfl (by decide) (.slice (some ⟨g2, 0, none⟩) (k + 1 + 1) c2) (k + 1 + 1) (reps famC (k + 1 + 1) m) rfl ?c0 ⟨w2.heap.size, 0, none⟩ 1 1 (famC.mv m) rfl rfl ?c1 ?c2 (by omega) ?c3 ?c4 ?c5 ?_))
          case c0 => exact Ho2.out.alloc _
          try case c1 => exact World.news_of_block (heap_alloc_new w2 _)
          case c2 => first | exact oneCell_mvC m | rfl | exact ⟨rfl, rfl⟩
          case c3 => unfold maxLen; omega
          case c4 => omega
          case c5 => simp; omega
          · intro g3 c3 w3 hown3 hg3 hat3
            rw [← reps_succ] at hown3
            have M0 := (HM2.out.1.alloc (.cells #[.int .i64 m, .int .i64 0, .int .i64 0, .int .i64 0] 92)).append lenC hg3 hown3 (by simp only [World.size_alloc]; exact hat3) (by omega)
            have M1 := (HM2.out.2.alloc (.cells #[.int .i64 m, .int .i64 0, .int .i64 0, .int .i64 0] 92)).append lenC hg3 hown3 (by simp only [World.size_alloc]; exact hat3) (by omega)
            have M3 := MrkG.of_owned (f := famC) hown3
            have hb3 : Below B w w3 := (HB2.out.alloc hszr2 _).grown hg3 (by simp; omega) (fun x hx => (Ho2.out.lt x hx).1)
            have hszr3 : B ≤ w3.heap.size := Nat.le_trans hB hb3.size
            have HEn : Hid (EOkG famC w3 w3.heap.size ⟨.slice va k vcap, .slice (some ⟨g1, 0, none⟩) (k + 1) c1, .slice (some ⟨g3, 0, none⟩) (k + 1 + 1 + 1) c3, m, k⟩) := ⟨M0, M1, M3, hn⟩
            have HNw : Hid (NewEnt B ⟨.slice va k vcap, .slice (some ⟨g1, 0, none⟩) (k + 1) c1, .slice (some ⟨g3, 0, none⟩) (k + 1 + 1 + 1) c3, m, k⟩) := by
              intro g hg
              rcases hg with hg | hg | hg
              · exact HL0.out g hg
              · simp only [Value.ownBlock, Option.some.injEq] at hg; have := HL1.out; omega
              · exact (hown3.lt g hg).1
            have K1 := hyd ((hb3.block BW h4).trans H1.out)
            have KI := hyd (HI.out.up hb3)
            have KC := hyd (HC.out.up hb3)
            have KG := hyd (HG.out.up hb3)
            have q2 : w3.cell? ⟨BW, 2, none⟩ = some (.slice ca p cc) := by rw [cell_of_row w3 BW 2 _ 34 _ K1.out]; rfl
            have qf : w3.frozen? ⟨BW, 2, none⟩ = false := frozen_of_row w3 BW 2 _ 34 K1.out
            have hBW3 : BW < w3.heap.size := by omega
            have HB3 := hyd hb3
            have KO : Hid (w3.ownsRow (BW + 1) 48 4 (.slice ca p cc) p (flatE ec)) := by have h := KC.out.1; rw [Hp.out] at h; exact h
            clear hown3 hg3 hat3 M0 M1 M3 hb3 Ho2 HM2 HB2
            go_wp2_with (at_builtin; go_must (refine wpList_append_lies _ rfl (.tmp 43) (.tmp 49) 29 rfl (BW + 1) 48 j0 (.agg #[.slice none 0 0, .slice none 0 0, .slice none 0 0, .int .i64 0]) 4 80 Tryz.underlying29 hj hy0 hy1 hy2 rfl (by decide) (.slice ca p cc) p (flatE ec) rfl ?d0 ⟨w3.heap.size, 0, none⟩ 1 1 (Ent.vals ⟨.slice va k vcap, .slice (some ⟨g1, 0, none⟩) (k + 1) c1, .slice (some ⟨g3, 0, none⟩) (k + 1 + 1 + 1) c3, m, k⟩) rfl rfl ?d1 ?d2 (by omega) ?d3 ?d4 ?d5 (w3.heap.size + 1) ?d6 ?_))
            case d0 => exact KO.out.alloc _
            case d1 => exact World.news_of_block (heap_alloc_new w3 _)
            case d2 => exact oneCell_ent _ rfl rfl rfl
            case d3 => unfold maxLen; omega
            case d4 => omega
            case d5 => simp; omega
            case d6 => simp
            · intro g4 c4 w4 hown4 hg4 _ _
              have hne4 := (owns_ne' KO.out (Nat.lt_succ_self BW)).1
              have r2 : w4.cell? ⟨BW, 2, none⟩ = some (.slice ca p cc) := (hg4.cell_far _ (by simp; omega) hne4).trans ((World.cell?_of_block (a := ⟨BW, 2, none⟩) (Below.heap_alloc w3 _ BW hBW3)).trans q2)
              have rf : w4.frozen? ⟨BW, 2, none⟩ = false := (hg4.frozen_far _ (by simp; omega) hne4).trans ((World.frozen?_of_block (a := ⟨BW, 2, none⟩) (Below.heap_alloc w3 _ BW hBW3)).trans qf)
              have hgs4 := hg4.size
              simp only [World.size_alloc] at hgs4
              have hbw4 : w4.heap[BW]? = w3.heap[BW]? := (hg4.block BW (by simp; omega) hne4).trans (Below.heap_alloc w3 _ BW hBW3)
              have NI := KI.out.other (f' := famC) (B' := w4.heap.size) (o := 2) (vx := (.slice (some ⟨g4, 0, none⟩) (p + 1) c4)) (es' := ec) (by omega) hszr3 K1.out (by rw [Hp.out]; exact KO.out) hg4 (by decide) (by decide) (by decide)
              have NG := KG.out.other (f' := famC) (B' := w4.heap.size) (o := 2) (vx := (.slice (some ⟨g4, 0, none⟩) (p + 1) c4)) (es' := ec) (by omega) hszr3 K1.out (by rw [Hp.out]; exact KO.out) hg4 (by decide) (by decide) (by decide)
              have NC := KC.out.more (o := 2) hszr3 K1.out HEn.out (by rw [Hp.out]; exact hown4) hg4 (by decide) (by decide)
              have hfin : InvG (w4.setCell ⟨BW, 2, none⟩ (.slice (some ⟨g4, 0, none⟩) (p + 1) c4)) (w4.setCell ⟨BW, 2, none⟩ (.slice (some ⟨g4, 0, none⟩) (p + 1) c4)).heap.size BW vps ei (ec ++ [⟨.slice va k vcap, .slice (some ⟨g1, 0, none⟩) (k + 1) c1, .slice (some ⟨g3, 0, none⟩) (k + 1 + 1 + 1) c3, m, k⟩]) eg := by
                have hss : (w4.setCell ⟨BW, 2, none⟩ (.slice (some ⟨g4, 0, none⟩) (p + 1) c4)).heap.size = w4.heap.size := by simp [World.setCell]
                rw [hss]
                refine ⟨vi, (.slice (some ⟨g4, 0, none⟩) (p + 1) c4), vg, ?_, by omega, NI, NC, NG⟩
                rw [heap_setCell_same w4 BW 2 _ 34 _ (hbw4.trans K1.out)]; rfl
              have hb4 : Below BW w w4 := ((HB3.out.mono (by omega)).alloc (by omega) _).grown hg4 (by simp; omega) (fun x hx => by have := (KO.out.lt x hx).1; omega)
              have HFr : Hid (OwnFr B BW 48 w (w4.setCell ⟨BW, 2, none⟩ (.slice (some ⟨g4, 0, none⟩) (p + 1) c4))) := ownFr_of HB3.out hszr3 KO.out hg4
              have HF := hyd (And.intro hfin (hb4.setCell (p := ⟨BW, 2, none⟩) (Nat.le_refl _) (.slice (some ⟨g4, 0, none⟩) (p + 1) c4)))
              clear hown4 hg4 hfin hb4 q2 qf NI NC NG hbw4
              go_wp2
              go_end0
              exact ⟨rfl, ⟨_, HF.out.1, HNw.out⟩, HF.out.2, HFr.out⟩

set_option maxHeartbeats 4000000 in
set_option maxRecDepth 100000 in
theorem ownG {w : World} {B BW : Nat} {vps : Value} {ei ec eg : List Ent} {v : Value} {n : Nat} {xs : List Value} (h : InvG w B BW vps ei ec eg) (hes : eg.length ≤ 1759218604000) (hB : B ≤ w.heap.size) (hown : w.ownsRow B 94 2 v n xs) (hn : n ≤ 4000) :
    Calls Tryz.prog 40 #[.pointer (some ⟨BW, 1, none⟩), v] w fun e w' => e = .returned (.tuple #[]) ∧ (∃ en, InvG w' w'.heap.size BW vps ei ec (eg ++ [en]) ∧ NewEnt B en) ∧ Below BW w w' ∧ OwnFr B BW 52 w w' := by
  obtain ⟨vi, vc, vg, h1, h4, hI, hC, hG⟩ := h
  obtain ⟨ca, cc, hvx⟩ := slice_of hG.1
  subst hvx
  obtain ⟨va, vcap, hvv⟩ := slice_of hown
  subst hvv
  have q2 : w.cell? ⟨BW, 3, none⟩ = some (.slice ca eg.length cc) := by rw [cell_of_row w BW 3 _ 34 _ h1]; rfl
  obtain ⟨p, Hp⟩ : ∃ p, Hid (eg.length = p) := ⟨_, rfl⟩
  rw [Hp.out] at q2 h1 hG
  have hp : p ≤ 1759218604000 := by rw [← Hp.out]; exact hes
  have hp2 : (p : Int) ≤ 1759218604000 := by omega
  have hn2 : (n : Int) ≤ 4000 := by omega
  have H1 := hyd h1
  have HI := hyd hI
  have HC := hyd hC
  have HG := hyd hG
  have Hown := hyd hown
  have HL0 : Hid (∀ g, (Value.slice va n vcap).ownBlock = some g → B ≤ g) := fun g hg => (hown.lt g hg).1
  have hBW : BW < w.heap.size := by omega
  obtain ⟨m, Hm⟩ : ∃ m : Int, Hid (-1000 - (p : Int) = m) := ⟨_, rfl⟩
  obtain ⟨i0, hi, hz0, hz1, hz2⟩ := info_parts Tryz.info94
  obtain ⟨j0, hj, hy0, hy1, hy2⟩ := info_parts Tryz.info52
  clear h1 hI hC hG hes hown
  go_enter Tryz.func40, Tryz.ntmps40
  go_wp2_with fail
  rw [Hm.out]
  go_loopw [6] (fun i wr => ∃ k : Nat, ∃ ys, k ≤ n ∧ i = .int .i64 k ∧ wr.ownsRow B 94 2 (.slice va n vcap) n ys ∧ ys.take (k * 2) = reps famG k m ∧ wr.heap[w.heap.size]? = some (.cells #[.int .i64 m, .int .i64 0] 94) ∧ Below B w wr) (fun i _ => n - (intOf i).toNat)
  case atStart => exact ⟨0, xs, Nat.zero_le _, rfl, Hown.out.alloc _, by rw [Nat.zero_mul]; rfl, heap_alloc_new w _, (Below.refl _ w).alloc hB _⟩
  case round =>
    obtain ⟨k, ys, hk, rfl, ho, ht, hbox, hb⟩ := hrel
    have x0 : wr.cell? ⟨w.heap.size, 0, none⟩ = some (.int .i64 m) := by rw [cell_of_row wr w.heap.size 0 _ 94 _ hbox]; rfl
    have x1 : wr.cell? ⟨w.heap.size, 1, none⟩ = some (.int .i64 0) := by rw [cell_of_row wr w.heap.size 1 _ 94 _ hbox]; rfl
    have hHlt := blk_lt' hbox
    have HX := hyd hbox
    have HT := hyd ht
    clear ht q2 hbox
    by_cases hkn : k < n
    · obtain ⟨g, hg⟩ : ∃ g, va = some ⟨g, 0, none⟩ := by
        rcases Hown.out.2 with ⟨h0, h00⟩ | ⟨g, cap', cur, hv, -⟩
        · omega
        · simp only [Value.slice.injEq] at hv; exact ⟨g, hv.1⟩
      subst hg
      obtain ⟨hgB, hglt⟩ := Hown.out.lt g rfl
      have hlen : ys.length = n * 2 := ho.1
      obtain ⟨u0, e0⟩ : ∃ u, wr.cell? ⟨g, k * 2, none⟩ = some u := ⟨_, (ho.cellAt (k * 2) (by omega)).trans (List.getElem?_eq_getElem (by omega))⟩
      obtain ⟨u1, e1⟩ : ∃ u, wr.cell? ⟨g, k * 2 + 1, none⟩ = some u := ⟨_, (ho.cellAt (k * 2 + 1) (by omega)).trans (List.getElem?_eq_getElem (by omega))⟩
      have z0 := ho.frozenAt (k * 2)
      have z1 := ho.frozenAt (k * 2 + 1)
      have Ho := hyd ho
      have Hlen := hyd hlen
      clear ho hlen
      have i1 : (0 : Int) ≤ (k : Int) := by omega
      have i2 : (k : Int) < (n : Int) := by omega
      have hne : w.heap.size ≠ g := by omega
      go_wp2
      go_roundw
      case rel =>
        refine ⟨k + 1, _, by omega, by go_num, owns_store2 Ho.out _ _, ?_, ?_, (hb.setCell (p := ⟨g, k * 2, none⟩) hgB _).setCell (p := ⟨g, k * 2 + 1, none⟩) hgB _⟩
        · rw [set2_take ys k n Hlen.out hkn, HT.out, reps_succ]
        · rw [Below.heap_setCell _ _ _ _ hne, Below.heap_setCell _ _ _ _ hne]; exact HX.out
      case measure => simp [intOf]; omega
    · have hkn' : k = n := by omega
      subst hkn'
      have hys : ys = reps famG k m := by
        have := HT.out
        rwa [List.take_of_length_le (by rw [ho.1]; exact Nat.le_refl _)] at this
      subst hys
      have Ho := hyd ho
      clear ho HT
      have hszr : B ≤ wr.heap.size := Nat.le_trans hB hb.size
      have hHv : some w.heap.size ≠ Value.ownBlock (.slice va k vcap) := fun e0 => by have := (Hown.out.lt _ e0.symm).2; omega
      go_wp2_with (at_builtin; go_must (refine wpList_append_two _ rfl (.tmp 27) (.tmp 29) 50 rfl B 94 i0 (.agg #[.int .i64 0, .int .i64 0]) 2 16 Tryz.underlying50 hi hz0 hz1 hz2 rfl (by decide) (.slice va k vcap) (k) (reps famG (k) m) rfl ?a0 ⟨wr.heap.size, 0, none⟩ 1 1 (famG.mv m) rfl rfl ?a1 ?a2 (by omega) ?a3 ?a4 ?a5 ?_))
      case a0 => exact Ho.out.alloc _
      try case a1 => exact World.news_of_block (heap_alloc_new wr _)
      case a2 => first | exact oneCell_mvG m | rfl | exact ⟨rfl, rfl⟩
      case a3 => unfold maxLen; omega
      case a4 => omega
      case a5 => simp; omega
      · intro g1 c1 w1 hown1 hg1 hat1
        rw [← reps_succ] at hown1
        have M0 := ((MrkG.of_owned (f := famG) Ho.out).alloc (.cells #[.int .i64 m, .int .i64 0] 94)).append lenG hg1 hown1 (by simp only [World.size_alloc]; exact hat1) (Nat.le_succ k)
        have M1 := MrkG.of_owned (f := famG) hown1
        have hbox1 : w1.heap[w.heap.size]? = some (.cells #[.int .i64 m, .int .i64 0] 94) := by
          rw [hg1.block _ (by simp; omega) hHv, Below.heap_alloc _ _ _ hHlt]; exact HX.out
        have hb1 : Below B w w1 := (hb.alloc hszr _).grown hg1 (by simp; omega) (fun x hx => (Ho.out.lt x hx).1)
        have hszr1 : B ≤ w1.heap.size := Nat.le_trans hB hb1.size
        have hH1 : w.heap.size < w1.heap.size := blk_lt' hbox1
        have hHv1 : some w.heap.size ≠ Value.ownBlock (.slice (some ⟨g1, 0, none⟩) (k + 1) c1) := by
          rcases hat1 with h1 | ⟨h1, -⟩
          · intro e0; rw [h1] at hHv; exact hHv e0
          · intro e0; simp only [Value.ownBlock, Option.some.injEq] at e0; omega
        have x0 : w1.cell? ⟨w.heap.size, 0, none⟩ = some (.int .i64 m) := by rw [cell_of_row w1 w.heap.size 0 _ 94 _ hbox1]; rfl
        have x1 : w1.cell? ⟨w.heap.size, 1, none⟩ = some (.int .i64 0) := by rw [cell_of_row w1 w.heap.size 1 _ 94 _ hbox1]; rfl
        have HM := hyd (And.intro M0 M1)
        have Ho1 := hyd hown1
        have HL1 : Hid (B ≤ g1) := (hown1.lt g1 rfl).1
        have HX1 := hyd hbox1
        have HB1 := hyd hb1
        clear hown1 hg1 hat1 M0 M1 hb1 Ho hbox1 hb HX
        go_wp2_with (at_builtin; go_must (refine wpList_append_two _ rfl (.tmp 31) (.tmp 33) 50 rfl B 94 i0 (.agg #[.int .i64 0, .int .i64 0]) 2 16 Tryz.underlying50 hi hz0 hz1 hz2 rfl (by decide) (.slice (some ⟨g1, 0, none⟩) (k + 1) c1) (k + 1) (reps famG (k + 1) m) rfl ?b0 ⟨w1.heap.size, 0, none⟩ 1 1 (famG.mv m) rfl rfl ?b1 ?b2 (by omega) ?b3 ?b4 ?b5 ?_))
        case b0 => exact Ho1.out.alloc _
        try case b1 => exact World.news_of_block (heap_alloc_new w1 _)
        case b2 => first | exact oneCell_mvG m | rfl | exact ⟨rfl, rfl⟩
        case b3 => unfold maxLen; omega
        case b4 => omega
        case b5 => simp; omega
        · intro g2 c2 w2 hown2 hg2 hat2
          rw [← reps_succ] at hown2
          have M0 := (HM.out.1.alloc (.cells #[.int .i64 m, .int .i64 0] 94)).append lenG hg2 hown2 (by simp only [World.size_alloc]; exact hat2) (by omega)
          have M1 := (HM.out.2.alloc (.cells #[.int .i64 m, .int .i64 0] 94)).append lenG hg2 hown2 (by simp only [World.size_alloc]; exact hat2) (by omega)
          have hbox2 : w2.heap[w.heap.size]? = some (.cells #[.int .i64 m, .int .i64 0] 94) := by
            rw [hg2.block _ (by simp; omega) hHv1, Below.heap_alloc _ _ _ hH1]; exact HX1.out
          have hb2 : Below B w w2 := (HB1.out.alloc hszr1 _).grown hg2 (by simp; omega) (fun x hx => (Ho1.out.lt x hx).1)
          have hszr2 : B ≤ w2.heap.size := Nat.le_trans hB hb2.size
          have hH2 : w.heap.size < w2.heap.size := blk_lt' hbox2
          have x0 : w2.cell? ⟨w.heap.size, 0, none⟩ = some (.int .i64 m) := by rw [cell_of_row w2 w.heap.size 0 _ 94 _ hbox2]; rfl
          have x1 : w2.cell? ⟨w.heap.size, 1, none⟩ = some (.int .i64 0) := by rw [cell_of_row w2 w.heap.size 1 _ 94 _ hbox2]; rfl
          have HM2 := hyd (And.intro M0 M1)
          have Ho2 := hyd hown2
          have HB2 := hyd hb2
          clear hown2 hg2 hat2 M0 M1 hb2 Ho1 hbox2 HM HB1 HX1
          go_wp2_with (at_builtin; go_must (refine wpList_append_two _ rfl (.tmp 35) (.tmp 37) 50 rfl B 94 i0 (.agg #[.int .i64 0, .int .i64 0]) 2 16 Tryz.underlying50 hi hz0 hz1 hz2 rfl (by decide) (.slice (some ⟨g2, 0, none⟩) (k + 1 + 1) c2) (k + 1 + 1) (reps famG (k + 1 + 1) m) rfl ?c0 ⟨w2.heap.size, 0, none⟩ 1 1 (famG.mv m) rfl rfl ?c1 ?c2 (by omega) ?c3 ?c4 ?c5 ?_))
          case c0 => exact Ho2.out.alloc _
          try case c1 => exact World.news_of_block (heap_alloc_new w2 _)
          case c2 => first | exact oneCell_mvG m | rfl | exact ⟨rfl, rfl⟩
          case c3 => unfold maxLen; omega
          case c4 => omega
          case c5 => simp; omega
          · intro g3 c3 w3 hown3 hg3 hat3
            rw [← reps_succ] at hown3
            have M0 := (HM2.out.1.alloc (.cells #[.int .i64 m, .int .i64 0] 94)).append lenG hg3 hown3 (by simp only [World.size_alloc]; exact hat3) (by omega)
            have M1 := (HM2.out.2.alloc (.cells #[.int .i64 m, .int .i64 0] 94)).append lenG hg3 hown3 (by simp only [World.size_alloc]; exact hat3) (by omega)
            have M3 := MrkG.of_owned (f := famG) hown3
            have hb3 : Below B w w3 := (HB2.out.alloc hszr2 _).grown hg3 (by simp; omega) (fun x hx => (Ho2.out.lt x hx).1)
            have hszr3 : B ≤ w3.heap.size := Nat.le_trans hB hb3.size
            have HEn : Hid (EOkG famG w3 w3.heap.size ⟨.slice va k vcap, .slice (some ⟨g1, 0, none⟩) (k + 1) c1, .slice (some ⟨g3, 0, none⟩) (k + 1 + 1 + 1) c3, m, k⟩) := ⟨M0, M1, M3, hn⟩
            have HNw : Hid (NewEnt B ⟨.slice va k vcap, .slice (some ⟨g1, 0, none⟩) (k + 1) c1, .slice (some ⟨g3, 0, none⟩) (k + 1 + 1 + 1) c3, m, k⟩) := by
              intro g hg
              rcases hg with hg | hg | hg
              · exact HL0.out g hg
              · simp only [Value.ownBlock, Option.some.injEq] at hg; have := HL1.out; omega
              · exact (hown3.lt g hg).1
            have K1 := hyd ((hb3.block BW h4).trans H1.out)
            have KI := hyd (HI.out.up hb3)
            have KC := hyd (HC.out.up hb3)
            have KG := hyd (HG.out.up hb3)
            have q2 : w3.cell? ⟨BW, 3, none⟩ = some (.slice ca p cc) := by rw [cell_of_row w3 BW 3 _ 34 _ K1.out]; rfl
            have qf : w3.frozen? ⟨BW, 3, none⟩ = false := frozen_of_row w3 BW 3 _ 34 K1.out
            have hBW3 : BW < w3.heap.size := by omega
            have HB3 := hyd hb3
            have KO : Hid (w3.ownsRow (BW + 1) 52 4 (.slice ca p cc) p (flatE eg)) := by have h := KG.out.1; rw [Hp.out] at h; exact h
            clear hown3 hg3 hat3 M0 M1 M3 hb3 Ho2 HM2 HB2
            go_wp2_with (at_builtin; go_must (refine wpList_append_lies _ rfl (.tmp 43) (.tmp 49) 30 rfl (BW + 1) 52 j0 (.agg #[.slice none 0 0, .slice none 0 0, .slice none 0 0, .int .i64 0]) 4 80 Tryz.underlying30 hj hy0 hy1 hy2 rfl (by decide) (.slice ca p cc) p (flatE eg) rfl ?d0 ⟨w3.heap.size, 0, none⟩ 1 1 (Ent.vals ⟨.slice va k vcap, .slice (some ⟨g1, 0, none⟩) (k + 1) c1, .slice (some ⟨g3, 0, none⟩) (k + 1 + 1 + 1) c3, m, k⟩) rfl rfl ?d1 ?d2 (by omega) ?d3 ?d4 ?d5 (w3.heap.size + 1) ?d6 ?_))
            case d0 => exact KO.out.alloc _
            case d1 => exact World.news_of_block (heap_alloc_new w3 _)
            case d2 => exact oneCell_ent _ rfl rfl rfl
            case d3 => unfold maxLen; omega
            case d4 => omega
            case d5 => simp; omega
            case d6 => simp
            · intro g4 c4 w4 hown4 hg4 _ _
              have hne4 := (owns_ne' KO.out (Nat.lt_succ_self BW)).1
              have r2 : w4.cell? ⟨BW, 3, none⟩ = some (.slice ca p cc) := (hg4.cell_far _ (by simp; omega) hne4).trans ((World.cell?_of_block (a := ⟨BW, 3, none⟩) (Below.heap_alloc w3 _ BW hBW3)).trans q2)
              have rf : w4.frozen? ⟨BW, 3, none⟩ = false := (hg4.frozen_far _ (by simp; omega) hne4).trans ((World.frozen?_of_block (a := ⟨BW, 3, none⟩) (Below.heap_alloc w3 _ BW hBW3)).trans qf)
              have hgs4 := hg4.size
              simp only [World.size_alloc] at hgs4
              have hbw4 : w4.heap[BW]? = w3.heap[BW]? := (hg4.block BW (by simp; omega) hne4).trans (Below.heap_alloc w3 _ BW hBW3)
              have NI := KI.out.other (f' := famG) (B' := w4.heap.size) (o := 3) (vx := (.slice (some ⟨g4, 0, none⟩) (p + 1) c4)) (es' := eg) (by omega) hszr3 K1.out (by rw [Hp.out]; exact KO.out) hg4 (by decide) (by decide) (by decide)
              have NC := KC.out.other (f' := famG) (B' := w4.heap.size) (o := 3) (vx := (.slice (some ⟨g4, 0, none⟩) (p + 1) c4)) (es' := eg) (by omega) hszr3 K1.out (by rw [Hp.out]; exact KO.out) hg4 (by decide) (by decide) (by decide)
              have NG := KG.out.more (o := 3) hszr3 K1.out HEn.out (by rw [Hp.out]; exact hown4) hg4 (by decide) (by decide)
              have hfin : InvG (w4.setCell ⟨BW, 3, none⟩ (.slice (some ⟨g4, 0, none⟩) (p + 1) c4)) (w4.setCell ⟨BW, 3, none⟩ (.slice (some ⟨g4, 0, none⟩) (p + 1) c4)).heap.size BW vps ei ec (eg ++ [⟨.slice va k vcap, .slice (some ⟨g1, 0, none⟩) (k + 1) c1, .slice (some ⟨g3, 0, none⟩) (k + 1 + 1 + 1) c3, m, k⟩]) := by
                have hss : (w4.setCell ⟨BW, 3, none⟩ (.slice (some ⟨g4, 0, none⟩) (p + 1) c4)).heap.size = w4.heap.size := by simp [World.setCell]
                rw [hss]
                refine ⟨vi, vc, (.slice (some ⟨g4, 0, none⟩) (p + 1) c4), ?_, by omega, NI, NC, NG⟩
                rw [heap_setCell_same w4 BW 3 _ 34 _ (hbw4.trans K1.out)]; rfl
              have hb4 : Below BW w w4 := ((HB3.out.mono (by omega)).alloc (by omega) _).grown hg4 (by simp; omega) (fun x hx => by have := (KO.out.lt x hx).1; omega)
              have HFr : Hid (OwnFr B BW 52 w (w4.setCell ⟨BW, 3, none⟩ (.slice (some ⟨g4, 0, none⟩) (p + 1) c4))) := ownFr_of HB3.out hszr3 KO.out hg4
              have HF := hyd (And.intro hfin (hb4.setCell (p := ⟨BW, 3, none⟩) (Nat.le_refl _) (.slice (some ⟨g4, 0, none⟩) (p + 1) c4)))
              clear hown4 hg4 hfin hb4 q2 qf NI NC NG hbw4
              go_wp2
              go_end0
              exact ⟨rfl, ⟨_, HF.out.1, HNw.out⟩, HF.out.2, HFr.out⟩

/-- Nothing that was there has turned but block BW and the lists of entries. -/
def Fst (BW : Nat) (w w' : World) : Prop := ∀ b, b < w.heap.size → b ≠ BW → (∀ cs fr, w.heap[b]? ≠ some (.cells cs 45 fr)) → (∀ cs fr, w.heap[b]? ≠ some (.cells cs 48 fr)) → (∀ cs fr, w.heap[b]? ≠ some (.cells cs 52 fr)) → w'.heap[b]? = w.heap[b]?
theorem Fst.of_below {BW : Nat} {w w' : World} (h : Below w.heap.size w w') : Fst BW w w' := fun b hb _ _ _ _ => h.block b hb
theorem Fst.own {BW B : Nat} {t : TypeId} {w w3 w4 : World} (hb : Below B w w3) (hB : w.heap.size ≤ B) (h : OwnFr B BW t w3 w4) (ht : t = 45 ∨ t = 48 ∨ t = 52) : Fst BW w w4 := fun b hbw hne h1 h2 h3 => by
  have e := hb.block b (by omega)
  refine (h b (by omega) hne fun cs fr => ?_).trans e
  rw [e]
  rcases ht with rfl | rfl | rfl
  · exact h1 cs fr
  · exact h2 cs fr
  · exact h3 cs fr

/-- What a step of a script does to the lists that came out. -/
def Stepped (w : World) (BW : Nat) (vps : Value) (ei ec eg : List Ent) (w' : World) : Prop :=
  ∃ ni nc ng, InvG w' w'.heap.size BW vps (ei ++ ni) (ec ++ nc) (eg ++ ng) ∧ (ni.length ≤ 1 ∧ nc.length ≤ 1 ∧ ng.length ≤ 1) ∧ (∀ e ∈ ni, NewEnt w.heap.size e) ∧ Below BW w w' ∧ Fst BW w w'

end Go.Proofs.YtbhbacphiinpeaaGreat

