/- What loomkeep's run answers. -/
import Derived.Test.YtbhbacphiinpeaaSd0
namespace Go.Proofs.Ytbhbacphiinpeaa
open Go.RowKit

set_option maxHeartbeats 40000000 in
set_option linter.unusedSimpArgs false in
set_option maxRecDepth 100000 in
theorem run_any {w0 w : World} {L : XM} {m : PM} {x : QM} (h : XAt w L m x) (hok : PMok m) {vp : Value} {picks : List Int} (hp : SeesI w0 vp picks) (hb0 : Below w0.heap.size w0 w) (hL : w0.heap.size ≤ L.bX) (t c : Nat) (htc : (t + 3) / 4 = c) (h16 : t ≤ 16) {m' : PM} {R : Rn} (hG : goP picks 200 0 m (rn0 c) = some (m', R)) :
    Calls Try.prog 20 #[.pointer (some ⟨L.bX, 0, none⟩), .int .i64 t, vp] w fun e w' => ∃ tv vs, (∃ ta tn tc, tv = .slice ta tn tc) ∧ e = .returned (.tuple #[.agg (ranC (w.heap.size + 1) c m'.st R tv), .bool true]) ∧ LogsAt w' (w.heap.size + 1) (w.heap.size + 3) c R.logs vs ∧ (∃ x', XAt w' L m' x') ∧ PMok m' ∧ Chg [L.bX] w w' := by
  have H := hyd h
  have HP := hyd hp
  have HB0 := hyd hb0
  have HG := hyd hG
  have HOK := hyd hok
  clear h hp hb0 hG hok
  have t0 : (0 : Int) ≤ (t : Int) := by omega
  have t16 : (t : Int) ≤ 16 := by omega
  have hcq : Int.tdiv ((t : Int) + 4 - 1) 4 = (c : Int) := by rw [Int.tdiv_eq_ediv_of_nonneg (by omega)]; omega
  have hcq2 : ((t : Int) + 4 - 1) / 4 = (c : Int) := by omega
  have c4 : c ≤ 4 := by omega
  have hmk := run_make_row' (P := Try.prog) 46 47 (.slice none 0 0) 24 Try.underlying46 Try.infoI32 rfl .i64 .i64 c (by omega) (by omega)
  obtain ⟨b, Hb⟩ : ∃ b, Hid (w.heap.size = b) := ⟨_, rfl⟩
  go_enter Try.func20, Try.ntmps20
  go_upto_region 2 with fail
  generalize hwA : World.alloc (World.alloc (World.alloc w _) _) _ = wA
  have hbX := hyd (H.out.mx.lt (.inl rfl))
  have HS : Hid (RunS w wA b L c 0 (rn0 c) (.slice none 0 0) (List.replicate c (.slice none 0 0))) := by
    unfold Hid
    rw [← Hb.out]
    have e1 : wA.heap[w.heap.size + 1]? = some (.cells (List.replicate c (.slice none 0 0)).toArray 47) := by
      rw [← hwA, ← made_rep]
      refine (Below.heap_alloc _ _ _ (by simp)).trans ?_
      have := heap_alloc_new (w.alloc (.cells #[.slice none 0 0, .int .i64 0, .int .i64 0, .int .i64 0, .int .i64 0, .int .i64 0, .int .i64 0, .int .i64 0, .int .i64 0, .slice none 0 0] 51)) (.cells (madeCells #[.slice none 0 0] c) 47)
      simpa using this
    refine ⟨by rw [← hwA]; simp, ?_, ?_, logs_start e1, ?_⟩
    · rw [← hwA]
      exact (Below.heap_alloc _ _ _ (by simp; omega)).trans ((Below.heap_alloc _ _ _ (by simp)).trans (heap_alloc_new w _))
    · rw [← hwA]
      have := heap_alloc_new ((w.alloc (.cells #[.slice none 0 0, .int .i64 0, .int .i64 0, .int .i64 0, .int .i64 0, .int .i64 0, .int .i64 0, .int .i64 0, .int .i64 0, .slice none 0 0] 51)).alloc (.cells (madeCells #[.slice none 0 0] c) 47)) (.cells #[.slice (some ⟨w.heap.size + 1, 0, none⟩) c c, .int .i64 0, .int .i64 0, .int .i64 0, .int .i64 0, .int .i64 0, .int .i64 0, .int .i64 0, .int .i64 0, .slice none 0 0] 51)
      simpa [rn0, Trn.none] using this
    · rw [← hwA]
      exact Chg.of_below ((((Below.refl _ _).alloc (Nat.le_refl _) _).alloc (by simp) _).alloc (by simp; omega) _)
  have HXl : Hid (∀ g, (g = L.bX ∨ g = L.gK ∨ g = L.gJ) → g < b) := fun g hg => by rw [← Hb.out]; exact H.out.mx.lt hg
  have hX0 : Hid (∃ x, XAt wA L m x) := by
    refine ⟨x, H.out.up ?_⟩
    rw [← hwA]
    exact (((Below.refl _ _).alloc (Nat.le_refl _) _).alloc (by simp) _).alloc (by simp; omega) _
  clear hwA hmk
  rw [Hb.out]
  go_wp2_with fail
  go_loopw [9] (fun iv wr => ∃ (i : Nat) (st : Int) (mi : PM) (ri : Rn) (tv : Value) (vs : List Value), i ≤ 200 ∧ iv = .int .i64 i ∧ Hid (RunS w wr b L c st ri tv vs) ∧ Hid (∃ x, XAt wr L mi x) ∧ Hid (PMok mi) ∧ Hid (goP picks (200 - i) i mi ri = some (m', R)) ∧ Hid (∀ (j : Nat) l, ri.logs[j]? = some l → l.length ≤ 2000 * i) ∧ Hid (0 ≤ ri.steps ∧ ri.steps ≤ 2000 * (i : Int)) ∧ Hid (∃ ta tn tc, tv = .slice ta tn tc)) (fun iv _ => 201 - (intOf iv).toNat)
  case atStart => exact ⟨0, 0, m, rn0 c, _, _, by omega, rfl, HS, hX0, HOK, HG, (fun j l hl => by simp only [rn0, List.getElem?_replicate] at hl; split at hl <;> cases hl; simp), ⟨by simp [rn0], by simp [rn0]⟩, ⟨_, _, _, rfl⟩⟩
  case round =>
    obtain ⟨i, st, mi, ri, tv, vs, hi2, rfl, HR, HX, HO, HGi, HLl, HSt, HT1⟩ := hrel
    have i0 : (0 : Int) ≤ (i : Int) := by omega
    have i2 : (i : Int) ≤ 200 := by omega
    by_cases hi : i < 200
    · have i3 : (i : Int) < 200 := by omega
      obtain ⟨f, Hf⟩ : ∃ f, Hid (200 - i = f + 1) := ⟨199 - i, by unfold Hid; omega⟩
      rw [Hf.out] at HGi
      go_wp2_with fail
      refine (mstate_any HX.out.choose_spec).mono ?_
      rintro e w1 ⟨rfl, rfl⟩
      have fz2 : w1.frozen? ⟨b + 1 + 1, 2, none⟩ = false := (ten_cells HR.out.box).2 2
      have c2 : w1.cell? ⟨b + 1 + 1, 2, none⟩ = some (.int .i64 st) := (ten_cells HR.out.box).1.2.2.1
      go_upto_region 6 with fail
      have HR2 : Hid (RunS w (w1.setCell ⟨b + 1 + 1, 2, none⟩ (.int .i64 mi.st)) b L c mi.st ri tv vs) := HR.out.boxSet Hb.out 2 _ rfl rfl
      have HX2 : Hid (∃ x, XAt (w1.setCell ⟨b + 1 + 1, 2, none⟩ (.int .i64 mi.st)) L mi x) := ⟨_, HX.out.choose_spec.off HXl.out (by show b ≤ b + 1 + 1; omega) _⟩
      generalize w1.setCell ⟨b + 1 + 1, 2, none⟩ (.int .i64 mi.st) = w2 at HR2 HX2 ⊢
      clear fz2 c2 HR HX
      obtain ⟨⟨k0, k1, k2, k3, k4, k5, k6, k7, k8, k9⟩, fz⟩ := ten_cells HR2.out.box
      by_cases hst : mi.st = 0
      · rw [hst] at k2
        obtain ⟨m2, T, E, HTp⟩ : ∃ m2 T E, Hid (turnP mi (picks.getD i 0) 2000 = (m2, T, E)) := ⟨_, _, _, rfl⟩
        obtain ⟨q, lv, rfl, Hq, hqc, Hlv, Hls, hlv0, HG2⟩ : ∃ (q lv : Nat), E = 0 ∧ Hid (T.warp = (q : Int)) ∧ q < c ∧ Hid (T.log.length = lv) ∧ Hid (T.steps = (lv : Int)) ∧ 0 < lv ∧ Hid (goP picks f (i + 1) m2 (ri.add T) = some (m', R)) := by
          have := HGi.out
          unfold goP at this
          rw [if_neg (by simpa using hst), HTp.out] at this
          dsimp only at this
          split at this
          · rename_i hc
            obtain ⟨a1, a2, a3, a4, a5⟩ := hc
            rw [HR2.out.logs.len] at a3
            exact ⟨T.warp.toNat, T.log.length, a1, by unfold Hid; omega, by omega, rfl, a4, a5, this⟩
          · cases this
        have q0 : (0 : Int) ≤ (q : Int) := by omega
        have q1 : (q : Int) < (c : Int) := by omega
        have HP2 : Hid (SeesI w2 vp picks) := HP.out.up (HB0.out.trans (HR2.out.chg.below (fun x hx => by simp at hx; subst hx; exact hL) HB0.out.size))
        clear fz HGi
        go_wp2_with fail
        refine (atl_any HP2.out i (by omega)).mono ?_
        rintro e w3 ⟨rfl, rfl⟩
        go_wp2_with fail
        refine (turnx_any HX2.out.choose_spec HO.out _ 2000 HTp.out).mono ?_
        rintro e w4 ⟨va, vc, rfl, hO4, hX4, hC4, hl4⟩
        rw [Hq.out, Hlv.out, Hls.out]
        rw [Hlv.out] at hO4 hl4
        have HO4 := hyd hO4
        have HX4 := hyd hX4
        have HR4 := hyd (HR2.out.of_chg hC4 (HXl.out _ (.inl rfl)))
        have hl42 : (lv : Int) ≤ 2000 := by omega
        clear hO4 hX4 hC4 k0 k1 k2 k3 k4 k5 k6 k7 k8 k9
        go_upto_region 9 with fail
        generalize hw5 : World.alloc w4 _ = w5
        have T5 : w5.heap[w4.heap.size]? = some (.cells #[.int .i64 q, .int .i64 lv, .int .i64 T.segs, .int .i64 T.fault, .int .i64 T.fpc, .int .i64 T.fth, .slice va lv vc] 49) := by rw [← hw5]; exact heap_alloc_new w4 _
        have hA5 : Below w4.heap.size w4 w5 := by rw [← hw5]; exact (Below.refl _ _).alloc (Nat.le_refl _) _
        have hs5 : w5.heap.size = w4.heap.size + 1 := by rw [← hw5]; simp
        have HR5 := hyd (HR4.out.of_chg (Chg.of_below hA5) (HXl.out _ (.inl rfl)))
        have HX5 : Hid (∃ x, XAt w5 L m2 x) := ⟨_, HX4.out.choose_spec.up hA5⟩
        have HO5 := hyd (HO4.out.keptB hA5)
        have hb4 : b + 3 ≤ w4.heap.size := HR4.out.size
        clear hw5 hA5 HR4 HX4 HO4
        obtain ⟨⟨y0, y1, y2, y3, y4, y5, y6⟩, -⟩ := seven_cells T5
        have HT5 := hyd T5
        obtain ⟨⟨k0, k1, k2, k3, k4, k5, k6, k7, k8, k9⟩, -⟩ := ten_cells HR5.out.box
        have n1 : decide ((q : Int) < 0) = false := by simp
        have n2 : decide ((c : Int) ≤ (q : Int)) = false := by simp; omega
        clear T5 y2 y3 y4 y5 k1 k2 k3 k4 k5 k6 k7 k8 k9
        obtain ⟨tB, HtB⟩ : ∃ tB, Hid (w4.heap.size = tB) := ⟨_, rfl⟩
        rw [HtB.out] at HT5 y0 y1 y6 hs5 hb4 ⊢
        go_upto_region 11 with fail
        have hql : q < ri.logs.length := by rw [HR5.out.logs.len]; exact hqc
        have hqv : q < vs.length := by rw [HR5.out.logs.vl]; exact hqc
        obtain ⟨lq, Hlq⟩ : ∃ l, Hid (ri.logs[q]? = some l) := ⟨_, List.getElem?_eq_getElem hql⟩
        obtain ⟨vq, Hvq⟩ : ∃ v, Hid (vs[q]? = some v) := ⟨_, List.getElem?_eq_getElem hqv⟩
        have hoq := HR5.out.logs.own q lq vq Hlq.out Hvq.out
        obtain ⟨qa, qc, hv⟩ := slice_ofM hoq
        subst hv
        have kq : w5.cell? ⟨b + 1, q, none⟩ = some (.slice qa lq.length qc) := by rw [cell_of_row w5 (b + 1) q _ 47 _ HR5.out.logs.row, List.getElem?_toArray]; exact Hvq.out
        have fq : w5.frozen? ⟨b + 1, q, none⟩ = false := frozen_of_row w5 (b + 1) q _ 47 HR5.out.logs.row
        obtain ⟨gT, hva⟩ : ∃ gT, va = some ⟨gT, 0, none⟩ := by
          rcases HO5.out.2 with ⟨-, hn⟩ | ⟨g, cap, cur, hv, -⟩
          · omega
          · cases hv; exact ⟨g, rfl⟩
        subst hva
        have HN5 : Hid (∀ j u, (flatL T.log)[j]? = some u → w5.cell? ((⟨gT, 0, none⟩ : Addr).add j) = some u) := fun j u hu => by
          have e1 : (⟨gT, 0, none⟩ : Addr).add j = ⟨gT, j, none⟩ := by unfold Addr.add; split <;> simp_all
          have hj : j < lv * 2 := by have := (List.getElem?_eq_some_iff.1 hu).1; rw [flatL_length, Hlv.out] at this; exact this
          rw [e1]
          exact (HO5.out.cellAt j hj).trans hu
        have HNl : Hid ((flatL T.log).length = lv * 2) := by unfold Hid; rw [flatL_length, Hlv.out]
        have hne1 : some (b + 1) ≠ (Value.slice qa lq.length qc).ownBlock := (owns_ne hoq (by omega : b + 1 < b + 3)).1
        have hne2 : some (b + 1 + 1) ≠ (Value.slice qa lq.length qc).ownBlock := (owns_ne hoq (by omega : b + 1 + 1 < b + 3)).1
        have hneT : some tB ≠ (Value.slice qa lq.length qc).ownBlock := fun e => by
          rcases hoq.2 with ⟨h0, -⟩ | ⟨g, cap, cur, hv, -, hh, -⟩
          · rw [h0] at e; simp [Value.ownBlock] at e
          · rw [hv] at e
            simp only [Value.ownBlock, Option.some.injEq] at e
            rw [← e, HT5.out] at hh
            simp at hh
        have Hoq := hyd hoq
        have hlq : lq.length ≤ 400000 := by have := HLl.out q lq Hlq.out; omega
        obtain ⟨nq, Hnq⟩ : ∃ nq, Hid (lq.length = nq) := ⟨_, rfl⟩
        obtain ⟨i0, hi, hz0, hz1, hz2⟩ := info_parts Try.infoI53
        clear hoq hql hqv
        rw [Hnq.out] at Hoq kq hne1 hne2 hneT Hvq hlq
        have HY := hyd (And.intro y1 y6)
        clear n1 n2 hcq hcq2 y1 i3 i2 t0 t16
        refine wp_region_noPanic ?_
        refine wp_region_held_drew (S := (fun w' => w'.cell? ⟨b + 1 + 1, 0, none⟩ = some (.slice (some ⟨b + 1, 0, none⟩) c c) ∧ w'.cell? ⟨tB, 0, none⟩ = some (.int .i64 q) ∧ w'.cell? ⟨tB, 6, none⟩ = some (.slice (some ⟨gT, 0, none⟩) lv vc))) (by kernel_rfl) ?_ (fun hHeld => ?_)
        · (try dsimp only); (repeat' apply And.intro) <;> (go_keep; done)
        refine wpAnyH_take (i := 0) (v := ?v0) (by simp only [List.getElem?_toArray, List.getElem?_cons_zero, List.getElem?_cons_succ]; rfl) (by kernel_rfl) (by kernel_rfl) (by kernel_rfl) (fun _ _ _ h => h) (Or.inl ⟨by rfl, ?y0⟩) (by assumption) ?r0
        case y0 => (intro w hSw; (try dsimp only at hSw); go_simp; (try (with_reducible rfl)))
        try simp only [Act.put, List.setIfInBounds_toArray, List.set_cons_zero, List.set_cons_succ]
        refine wpAnyH_take (i := 1) (v := ?v1) (by simp only [List.getElem?_toArray, List.getElem?_cons_zero, List.getElem?_cons_succ]; rfl) (by kernel_rfl) (by kernel_rfl) (by kernel_rfl) (fun _ _ _ h => h) (Or.inl ⟨by rfl, ?y1⟩) (by assumption) ?r1
        case y1 => (intro w hSw; (try dsimp only at hSw); go_simp; (try (with_reducible rfl)))
        try simp only [Act.put, List.setIfInBounds_toArray, List.set_cons_zero, List.set_cons_succ]
        refine wpAnyH_take (i := 2) (v := ?v2) (by simp only [List.getElem?_toArray, List.getElem?_cons_zero, List.getElem?_cons_succ]; rfl) (by kernel_rfl) (by kernel_rfl) (by kernel_rfl) (fun _ _ _ h => h) (Or.inl ⟨by rfl, ?y2⟩) (by assumption) ?r2
        case y2 => (intro w hSw; (try dsimp only at hSw); go_simp; (try (with_reducible rfl)))
        try simp only [Act.put, List.setIfInBounds_toArray, List.set_cons_zero, List.set_cons_succ]
        refine wpAnyH_take (i := 3) (v := ?v3) (by simp only [List.getElem?_toArray, List.getElem?_cons_zero, List.getElem?_cons_succ]; rfl) (by kernel_rfl) (by kernel_rfl) (by kernel_rfl) (fun _ _ _ h => h) (Or.inl ⟨by rfl, ?y3⟩) (by assumption) ?r3
        case y3 => (intro w hSw; (try dsimp only at hSw); go_simp; (try (with_reducible rfl)))
        try simp only [Act.put, List.setIfInBounds_toArray, List.set_cons_zero, List.set_cons_succ]
        refine wpAnyH_take (i := 4) (v := ?v4) (by simp only [List.getElem?_toArray, List.getElem?_cons_zero, List.getElem?_cons_succ]; rfl) (by kernel_rfl) (by kernel_rfl) (by kernel_rfl) (fun _ _ _ h => h) (Or.inl ⟨by rfl, ?y4⟩) (by assumption) ?r4
        case y4 => (intro w hSw; (try dsimp only at hSw); go_simp; (try (with_reducible rfl)))
        try simp only [Act.put, List.setIfInBounds_toArray, List.set_cons_zero, List.set_cons_succ]
        refine wpAnyH_take (i := 5) (v := ?v5) (by simp only [List.getElem?_toArray, List.getElem?_cons_zero, List.getElem?_cons_succ]; rfl) (by kernel_rfl) (by kernel_rfl) (by kernel_rfl) (fun _ _ _ h => h) (Or.inl ⟨by rfl, ?y5⟩) (by assumption) ?r5
        case y5 => (intro w hSw; (try dsimp only at hSw); go_simp; (try (with_reducible rfl)))
        try simp only [Act.put, List.setIfInBounds_toArray, List.set_cons_zero, List.set_cons_succ]
        refine wpAnyH_take (i := 6) (v := ?v6) (by simp only [List.getElem?_toArray, List.getElem?_cons_zero, List.getElem?_cons_succ]; rfl) (by kernel_rfl) (by kernel_rfl) (by kernel_rfl) (fun _ _ _ h => h) (Or.inl ⟨by rfl, ?y6⟩) (by assumption) ?r6
        case y6 => (intro w hSw; (try dsimp only at hSw); go_simp; (try (with_reducible rfl)))
        try simp only [Act.put, List.setIfInBounds_toArray, List.set_cons_zero, List.set_cons_succ]
        refine wpAnyH_take (i := 7) (v := ?v7) (by simp only [List.getElem?_toArray, List.getElem?_cons_zero, List.getElem?_cons_succ]; rfl) (by kernel_rfl) (by kernel_rfl) (by kernel_rfl) (fun _ _ _ h => h) (Or.inl ⟨by rfl, ?y7⟩) (by assumption) ?r7
        case y7 => (intro w hSw; (try dsimp only at hSw); go_simp; (try (with_reducible rfl)))
        try simp only [Act.put, List.setIfInBounds_toArray, List.set_cons_zero, List.set_cons_succ]
        refine wpAnyH_take (i := 8) (v := ?v8) (by simp only [List.getElem?_toArray, List.getElem?_cons_zero, List.getElem?_cons_succ]; rfl) (by kernel_rfl) (by kernel_rfl) (by kernel_rfl) (fun _ _ _ h => h) (Or.inl ⟨by rfl, ?y8⟩) (by assumption) ?r8
        case y8 => (intro w hSw; (try dsimp only at hSw); go_simp; (try (with_reducible rfl)))
        try simp only [Act.put, List.setIfInBounds_toArray, List.set_cons_zero, List.set_cons_succ]
        refine wpAnyH_take (i := 10) (v := ?v10) (by simp only [List.getElem?_toArray, List.getElem?_cons_zero, List.getElem?_cons_succ]; rfl) (by kernel_rfl) (by kernel_rfl) (by kernel_rfl) (fun _ _ _ h => h) (Or.inl ⟨by rfl, ?y10⟩) (by assumption) ?r10
        case y10 => (intro w hSw; (try dsimp only at hSw); go_simp; (try (with_reducible rfl)))
        try simp only [Act.put, List.setIfInBounds_toArray, List.set_cons_zero, List.set_cons_succ]
        refine wpAnyH_take (i := 11) (v := ?v11) (by simp only [List.getElem?_toArray, List.getElem?_cons_zero, List.getElem?_cons_succ]; rfl) (by kernel_rfl) (by kernel_rfl) (by kernel_rfl) (fun _ _ _ h => h) (Or.inl ⟨by rfl, ?y11⟩) (by assumption) ?r11
        case y11 => (intro w hSw; (try dsimp only at hSw); go_simp; (try (with_reducible rfl)))
        try simp only [Act.put, List.setIfInBounds_toArray, List.set_cons_zero, List.set_cons_succ]
        refine wpAnyH_ready (rs := [9]) (by kernel_rfl) (by simp) ?_
        refine AllReadyH.cons (by simp only [List.getElem?_toArray, List.getElem?_cons_zero, List.getElem?_cons_succ]; rfl) (fun K hK => ?_) AllReadyH.nil
        go_simp
        refine hK.out _ _ ?_ (fun hHeld => ?_)
        · (try dsimp only); (repeat' apply And.intro) <;> (first | (go_keep; done) | (rw [World.cell?_of_block (heap_setCell_other _ _ _ _ (by simp; omega))]; assumption))
        clear hK K
        try simp only [Act.put, List.setIfInBounds_toArray, List.set_cons_zero, List.set_cons_succ]
        refine wpAnyH_ready (rs := [12]) (by kernel_rfl) (by simp) ?_
        refine AllReadyH.cons (by simp only [List.getElem?_toArray, List.getElem?_cons_zero, List.getElem?_cons_succ]; rfl) (fun K hK => ?_) AllReadyH.nil
        (refine step_append_lies _ (by rfl) _ _ _ (by rfl) (b + 3) 64 i0 _ 2 16 Try.underlying47 hi hz0 hz1 hz2 rfl (by omega) (.slice qa nq qc) nq (flatL lq) (by rfl) (Hoq.out.drew) ⟨gT, 0, none⟩ lv vc (flatL T.log) (by rfl) HNl.out HN5.out (flatL_one _) hlv0 (by unfold maxLen; omega) (by omega) (by show b + 3 ≤ w5.heap.size; omega) w5.heap.size (by rfl) ?_; intro gg cap w6 hown6 hgrow hat hlt6; have d1 : w6.cell? ⟨b + 1, q, none⟩ = some (.slice qa nq qc) := (hgrow.cell_far _ (by show b + 1 < w5.heap.size; omega) hne1).trans kq; have d2 : w6.frozen? ⟨b + 1, q, none⟩ = false := (hgrow.frozen_far _ (by show b + 1 < w5.heap.size; omega) hne1).trans fq; have d3 : w6.cell? ⟨tB, 0, none⟩ = some (.int .i64 q) := (hgrow.cell_far _ (by show tB < w5.heap.size; omega) hneT).trans y0; have d4 : w6.cell? ⟨b + 1 + 1, 0, none⟩ = some (.slice (some ⟨b + 1, 0, none⟩) c c) := (hgrow.cell_far _ (by show b + 1 + 1 < w5.heap.size; omega) hne2).trans k0; have d6 : w6.cell? ⟨tB, 6, none⟩ = some (.slice (some ⟨gT, 0, none⟩) lv vc) := (hgrow.cell_far _ (by show tB < w5.heap.size; omega) hneT).trans y6)
        refine hK.out _ _ ?_ (fun hHeld => ?_)
        · (try dsimp only); (repeat' apply And.intro) <;> (first | (go_keep; done) | (rw [World.cell?_of_block (heap_setCell_other _ _ _ _ (by simp; omega))]; assumption))
        clear hK K
        try simp only [Act.put, List.setIfInBounds_toArray, List.set_cons_zero, List.set_cons_succ]
        refine wpAnyH_take (i := 13) (v := ?v13) (by simp only [List.getElem?_toArray, List.getElem?_cons_zero, List.getElem?_cons_succ]; rfl) (by kernel_rfl) (by kernel_rfl) (by kernel_rfl) (fun _ _ _ h => h) (Or.inl ⟨by rfl, ?y13⟩) (by assumption) ?r13
        case y13 => (intro w hSw; (try dsimp only at hSw); go_simp; (try (with_reducible rfl)))
        try simp only [Act.put, List.setIfInBounds_toArray, List.set_cons_zero, List.set_cons_succ]
        refine wpAnyH_ready (rs := [14]) (by kernel_rfl) (by simp) ?_
        refine AllReadyH.cons (by simp only [List.getElem?_toArray, List.getElem?_cons_zero, List.getElem?_cons_succ]; rfl) (fun K hK => ?_) AllReadyH.nil
        go_simp
        refine hK.out _ _ ?_ (fun hHeld => ?_)
        · (try dsimp only); (repeat' apply And.intro) <;> (first | (go_keep; done) | (rw [World.cell?_of_block (heap_setCell_other _ _ _ _ (by simp; omega))]; assumption))
        clear hK K
        try simp only [Act.put, List.setIfInBounds_toArray, List.set_cons_zero, List.set_cons_succ]
        refine wpAnyH_done (by kernel_rfl) ?_ _
        refine NoPanic.normal ?_
        all_goals
          have HR6 : Hid (RunS w (w6.setCell ⟨b + 1, q, none⟩ (.slice (some ⟨gg, 0, none⟩) (nq + lv) cap)) b L c mi.st { ri with logs := ri.logs.set q (lq ++ T.log) } tv (vs.set q (.slice (some ⟨gg, 0, none⟩) (nq + lv) cap))) := by
            have := HR5.out.logged Hb.out Hlq.out Hvq.out (ln := T.log) (gg := gg) (cap := cap) (by rw [Hnq.out, Hlv.out]; exact hown6) hgrow hat
            rw [Hnq.out, Hlv.out] at this
            exact this
          have HT6 : Hid ((w6.setCell ⟨b + 1, q, none⟩ (.slice (some ⟨gg, 0, none⟩) (nq + lv) cap)).heap[tB]? = some (.cells #[.int .i64 q, .int .i64 lv, .int .i64 T.segs, .int .i64 T.fault, .int .i64 T.fpc, .int .i64 T.fth, .slice (some ⟨gT, 0, none⟩) lv vc] 49)) := by
            unfold Hid
            rw [heap_setCell_other w6 _ tB _ (by show tB ≠ b + 1; omega), hgrow.block tB (by show tB < w5.heap.size; omega) hneT]
            exact HT5.out
          have HX6 : Hid (∃ x, XAt (w6.setCell ⟨b + 1, q, none⟩ (.slice (some ⟨gg, 0, none⟩) (nq + lv) cap)) L m2 x) := by
            obtain ⟨x5, hx5⟩ := HX5.out
            refine ⟨x5, hx5.keep fun g hg => ?_⟩
            have hgb := HXl.out g hg
            rw [heap_setCell_other w6 _ g _ (by show g ≠ b + 1; omega)]
            exact hgrow.block g (by show g < w5.heap.size; omega) (owns_ne Hoq.out (by omega : g < b + 3)).1
          clear hown6 hgrow hat hlt6 d1 d2 d3 d4 d6 kq fq hne1 hne2 hneT k0 y0 y6 HR5 HX5 HT5 Hoq HN5 HNl
          generalize w6.setCell ⟨b + 1, q, none⟩ (.slice (some ⟨gg, 0, none⟩) (nq + lv) cap) = w7 at HR6 HT6 HX6 ⊢
          have j1 : w7.cell? ⟨b + 1 + 1, 1, none⟩ = some (.int .i64 ri.steps) := (ten_cells HR6.out.box).1.2.1
          have f1 := (ten_cells HR6.out.box).2 1
          have y1 : w7.cell? ⟨tB, 1, none⟩ = some (.int .i64 lv) := (seven_cells HT6.out).1.2.1
          obtain ⟨s0, s1⟩ := HSt.out
          have i2 : (i : Int) ≤ 200 := by omega
          have lv0 : (0 : Int) ≤ (lv : Int) := by omega
          go_upto_region 13 with fail
          have HR7 : Hid (RunS w (w7.setCell ⟨b + 1 + 1, 1, none⟩ (.int .i64 (ri.steps + lv))) b L c mi.st ⟨ri.logs.set q (lq ++ T.log), ri.steps + lv, ri.last⟩ tv (vs.set q (.slice (some ⟨gg, 0, none⟩) (nq + lv) cap))) := HR6.out.boxSet Hb.out 1 _ rfl rfl
          have HX7 : Hid (∃ x, XAt (w7.setCell ⟨b + 1 + 1, 1, none⟩ (.int .i64 (ri.steps + lv))) L m2 x) := ⟨_, HX6.out.choose_spec.off HXl.out (by show b ≤ b + 1 + 1; omega) _⟩
          have HT7 : Hid ((w7.setCell ⟨b + 1 + 1, 1, none⟩ (.int .i64 (ri.steps + lv))).heap[tB]? = some (.cells #[.int .i64 q, .int .i64 lv, .int .i64 T.segs, .int .i64 T.fault, .int .i64 T.fpc, .int .i64 T.fth, .slice (some ⟨gT, 0, none⟩) lv vc] 49)) := by
            unfold Hid
            rw [heap_setCell_other w7 _ tB _ (by show tB ≠ b + 1 + 1; omega)]
            exact HT6.out
          clear j1 f1 y1 HR6 HX6 HT6
          generalize w7.setCell ⟨b + 1 + 1, 1, none⟩ (.int .i64 (ri.steps + lv)) = w8 at HR7 HX7 HT7 ⊢
          obtain ⟨⟨y0, y1, y2, y3, y4, y5, y6⟩, -⟩ := seven_cells HT7.out
          obtain ⟨⟨-, -, -, j3, j4, j5, j6, j7, j8, j9⟩, fz⟩ := ten_cells HR7.out.box
          have f3 := fz 3
          have f4 := fz 4
          have f5 := fz 5
          have f6 := fz 6
          have f7 := fz 7
          have f8 := fz 8
          have f9 := fz 9
          clear fz
          go_wp2_with fail
          have e : (⟨ri.logs.set q (lq ++ T.log), ri.steps + lv, ⟨q, lv, T.segs, T.fault, T.fpc, T.fth, T.log⟩⟩ : Rn) = ri.add T := by
            have hw := Hq.out
            have hs := Hls.out
            have hg : ri.logs.getD q [] = lq := by rw [List.getD_eq_getElem?_getD, Hlq.out]; rfl
            unfold Rn.add
            rw [hw, hs, Int.toNat_natCast, hg]
            congr 1
            cases T
            simp only at hw hs ⊢
            rw [hw, hs]
          refine ⟨⟨i + 1, mi.st, m2, ri.add T, .slice (some ⟨gT, 0, none⟩) lv vc, vs.set q (.slice (some ⟨gg, 0, none⟩) (nq + lv) cap), by omega, rfl, ?_, ?_, ?_, ?_, ?_, ?_, ⟨_, _, _, rfl⟩⟩, ?_⟩
          · unfold Hid
            rw [← e]
            exact ((((((HR7.out.boxSet Hb.out 3 (.int .i64 q) (r' := ⟨ri.logs.set q (lq ++ T.log), ri.steps + lv, { ri.last with warp := q }⟩) rfl rfl).boxSet Hb.out 4 (.int .i64 lv) (r' := ⟨ri.logs.set q (lq ++ T.log), ri.steps + lv, { ri.last with warp := q, steps := lv }⟩) rfl rfl).boxSet Hb.out 5 (.int .i64 T.segs) (r' := ⟨ri.logs.set q (lq ++ T.log), ri.steps + lv, { ri.last with warp := q, steps := lv, segs := T.segs }⟩) rfl rfl).boxSet Hb.out 6 (.int .i64 T.fault) (r' := ⟨ri.logs.set q (lq ++ T.log), ri.steps + lv, { ri.last with warp := q, steps := lv, segs := T.segs, fault := T.fault }⟩) rfl rfl).boxSet Hb.out 7 (.int .i64 T.fpc) (r' := ⟨ri.logs.set q (lq ++ T.log), ri.steps + lv, { ri.last with warp := q, steps := lv, segs := T.segs, fault := T.fault, fpc := T.fpc }⟩) rfl rfl).boxSet Hb.out 8 (.int .i64 T.fth) (r' := ⟨ri.logs.set q (lq ++ T.log), ri.steps + lv, ⟨q, lv, T.segs, T.fault, T.fpc, T.fth, T.log⟩⟩) rfl rfl).boxSet Hb.out 9 (.slice (some ⟨gT, 0, none⟩) lv vc) rfl rfl
          · obtain ⟨x7, hx7⟩ := HX7.out
            have hb2 : b ≤ b + 1 + 1 := by omega
            exact ⟨x7, ((((((hx7.off HXl.out (a := ⟨b + 1 + 1, 3, none⟩) hb2 _).off HXl.out (a := ⟨b + 1 + 1, 4, none⟩) hb2 _).off HXl.out (a := ⟨b + 1 + 1, 5, none⟩) hb2 _).off HXl.out (a := ⟨b + 1 + 1, 6, none⟩) hb2 _).off HXl.out (a := ⟨b + 1 + 1, 7, none⟩) hb2 _).off HXl.out (a := ⟨b + 1 + 1, 8, none⟩) hb2 _).off HXl.out (a := ⟨b + 1 + 1, 9, none⟩) hb2 _⟩
          · have := turn_ok HO.out (picks.getD i 0) 2000
            rw [HTp.out] at this
            exact this
          · unfold Hid
            rw [show 200 - (i + 1) = f by have := Hf.out; omega]
            exact HG2.out
          · intro jj l hl
            rw [← e] at hl
            dsimp only at hl
            by_cases hjq : jj = q
            · subst hjq
              rw [List.getElem?_set_self (List.getElem?_eq_some_iff.1 Hlq.out).1] at hl
              cases hl
              have := HLl.out jj lq Hlq.out
              have h2 := Hlv.out
              rw [List.length_append]
              omega
            · rw [List.getElem?_set_ne (fun h => hjq h.symm)] at hl
              have := HLl.out jj l hl
              omega
          · rw [← e]
            refine ⟨?_, ?_⟩ <;> dsimp only <;> omega
          · simp only [intOf]; omega
      · have HFz := hyd fz
        have hn : (mi.st != 0) = true := by simpa using hst
        obtain ⟨e1, e2⟩ : mi = m' ∧ ri = R := by
          have := HGi.out
          unfold goP at this
          rw [if_pos hst] at this
          cases this
          exact ⟨rfl, rfl⟩
        subst e1 e2
        clear fz
        have HV1 : Hid ((ranC (b + 1) c mi.st ri tv).all (·.oneCell') = true) := by obtain ⟨ta, tn, tc, h⟩ := HT1.out; unfold Hid ranC; rw [h]; simp [Value.oneCell']
        go_wp2_with (refine wpList_store_row rfl 51 (.tmp 6) (.tmp 28) rfl b (ranC (b + 1) c mi.st ri tv) rfl rfl 51 _ HR2.out.res Try.infoS36 rfl HV1.out ?_)
        have R2 := setRow_heap w2 b _ (ranC (b + 1) c mi.st ri tv) 51 (0, 0) HR2.out.res
        have K2 : ∀ g, g ≠ b → (w2.setRow b (ranC (b + 1) c mi.st ri tv)).heap[g]? = w2.heap[g]? := fun g hg => setRow_other _ _ _ _ hg
        have B2 : Below b w2 (w2.setRow b (ranC (b + 1) c mi.st ri tv)) := ⟨rfl, rfl, rfl, by rw [setRow_size]; exact Nat.le_refl _, fun g hg => K2 g (by omega)⟩
        generalize w2.setRow b (ranC (b + 1) c mi.st ri tv) = wz at R2 K2 B2 ⊢
        have hL := run_loadVar_row (P := Try.prog) wz b 51 51 _ (0, 0) _ R2 Try.underlying51 rfl Try.infoS36
        (try simp only [Exit.inBlock, Exit.then])
        refine bodyPost_ret (by simp [results, Try.results20, asAddr, hL]; try rfl) rfl ?_
        rw [Hb.out]
        refine ⟨tv, vs, HT1.out, rfl, HR2.out.logs.keep fun g hg => K2 g (by rcases hg with rfl | ⟨h1, -, -⟩ <;> omega), ⟨_, HX2.out.choose_spec.keep fun g hg => K2 g (by have := HXl.out g hg; omega)⟩, HO.out, HR2.out.chg.then (by rw [Hb.out]; exact B2)⟩
    · have hz : 200 - i = 0 := by omega
      have := HGi.out
      rw [hz] at this
      cases this

theorem runAny : RunAny := by
  intro w0 w L m x h hok vp picks hp hb0 hL t c htc h16 m' R hG
  exact run_any h hok hp hb0 hL t c htc h16 hG

end Go.Proofs.Ytbhbacphiinpeaa
