/- What loomkeep's Together answers: true. -/
import Derived.Test.YtbhbacphiinpeaaTu
namespace Go.Proofs.Ytbhbacphiinpeaa
open Go.RowKit

theorem bits_warp {n i : Nat} (hi : 4 * i < n) : bits (warpG n i) + 1 = 2 ^ (min 4 (n - 4 * i)) := by
  unfold warpG bits
  obtain ⟨len, hl⟩ : ∃ len, min 4 (n - 4 * i) = len := ⟨_, rfl⟩
  rw [hl]
  have h4 : len = 1 ∨ len = 2 ∨ len = 3 ∨ len = 4 := by omega
  have e1 : (4 * i) % 4 = 0 := by omega
  have e2 : (4 * i + 1) % 4 = 1 := by omega
  have e3 : (4 * i + 1 + 1) % 4 = 2 := by omega
  have e4 : (4 * i + 1 + 1 + 1) % 4 = 3 := by omega
  rcases h4 with rfl | rfl | rfl | rfl <;> simp [List.range', e1, e2, e3, e4]

theorem wayT_uni {n i : Nat} (hi : 4 * i < n) (tr : List Int) : wayT (4 * i) (tr.map (fun v => (v, ((bits (warpG n i) : Nat) : Int)))) = tr := by
  have hb : (bits (warpG n i)).testBit (4 * i % 4) = true := by
    rw [(bits_test (warp_lanes n i)).2 _ (Nat.mod_lt _ (by decide)), decide_eq_true_iff]
    exact ⟨4 * i, warp_mem.2 ⟨hi, by omega⟩, rfl⟩
  induction tr with
  | nil => rfl
  | cons v tr ih =>
    rw [List.map_cons, wayT_cons, ih, Int.toNat_natCast, hb]
    rfl

set_option maxHeartbeats 8000000 in
set_option maxRecDepth 100000 in
theorem together_any (HR : RunAny) {w : World} {vc : Value} {lc : List Int} (hc : SeesI w vc lc) (t : Int) (ht : -9223372036854775808 ≤ t ∧ t ≤ 9223372036854775807) {vm : Value} {lm : List Int} (hm : SeesI w vm lm) {vp : Value} {lp : List Int} (hp : SeesI w vp lp) :
    Calls Try.prog 7 #[vc, .int .i64 t, vm, vp] w fun e w' => e = .returned (.bool true) ∧ Below w.heap.size w w' := by
  have b1 := pickN_lt t 16 (by omega)
  have Hc := hyd (crew_any t 0 ht (by omega))
  obtain ⟨n, Hn⟩ : ∃ n, Hid (1 + pickN t 16 = n) := ⟨_, rfl⟩
  rw [Hn.out] at Hc
  have hn1 : 1 ≤ n := by rw [← Hn.out]; omega
  have hn2 : n ≤ 16 := by rw [← Hn.out]; omega
  clear b1 ht Hn
  have HC := hyd hc
  have HM := hyd hm
  have HPk := hyd hp
  clear hc hm hp
  go_enter Try.func7, Try.ntmps7
  go_wp2_with fail
  refine (Hc.out _).mono ?_
  rintro e w1 ⟨rfl, rfl⟩
  go_wp2_with fail
  refine (kernel_any true HC.out).mono ?_
  rintro e w2 ⟨vk, rfl, hok, hb2⟩
  have HK2 : Hid (Sees w2 vk (kern lc true)) := ownsRow_sees (by have := kern_len lc true; omega) hok
  have HB2 := hyd hb2
  have HM2 := hyd (HM.out.up hb2)
  have HPk2 := hyd (HPk.out.up hb2)
  clear hok hb2 HM HPk HC
  go_wp2_with fail
  refine (words_any HM2.out).mono ?_
  rintro e w3 ⟨vw, rfl, hO3, hB3⟩
  obtain ⟨wa0, wc0, rfl⟩ := slice_ofM hO3
  obtain ⟨gw, hgw⟩ : ∃ g, wa0 = some ⟨g, 0, none⟩ := by
    rcases hO3.2 with ⟨-, hn⟩ | ⟨g, cap, cur, hv, -⟩
    · omega
    · cases hv; exact ⟨g, rfl⟩
  subst hgw
  have HO3 := hyd hO3
  have HB23 := hyd hB3
  have HK3 : Hid (Sees w3 vk (kern lc true)) := HK2.out.up hB3
  have HPk3 := hyd (HPk2.out.up hB3)
  have HW3 : Hid (SeesZ w3 (.slice (some ⟨gw, 0, none⟩) 32 wc0) (wordsP lm)) := by
    have := ownsRow_seesZ (l := wordsP lm) (by rw [words_len]; omega) (by rw [words_len]; exact hO3)
    exact this
  clear hO3 hB3 HK2 HPk2 HM2
  go_wp2_with fail
  refine (begun_any HK3.out (kern_chk lc true) HW3.out n 0 (by omega) (by omega) (by omega) (by rw [words_len]; omega) (by rw [words_len]; omega)).mono ?_
  rintro e w4 ⟨J, hJ, hok, L1, x1, rfl, hX, hY, hB4⟩
  have HX1 : Hid (∃ x, XAt w4 L1 (newP (kern lc true) J n 0 (wordsP lm)) x) := ⟨_, hX⟩
  have HO1 := hyd hok
  have HJ1 := hyd hJ
  have HL1 : Hid (w3.heap.size ≤ L1.bX) := hY.1
  have HB4 := hyd hB4
  clear hX hok hJ hY hB4 x1
  obtain ⟨m1, R1, g1, g2, g3, g4, g5⟩ := kern_uni (l := lc) (J := J) (words_len lm) hn1 hn2 lp
  obtain ⟨c, hc⟩ : ∃ c, (n + 3) / 4 = c := ⟨_, rfl⟩
  rw [hc] at g1 g4 g5
  have c4 : c ≤ 4 := by omega
  have HRun1 := hyd (HR HX1.out.choose_spec HO1.out HPk3.out HB4.out HL1.out n c hc (by omega) g1)
  have HF1 := hyd (And.intro g2 (And.intro g3 (And.intro g4 g5)))
  clear g1 g2 g3 g4 g5
  have Hcn := hyd hc
  clear hc
  go_wp2_with fail
  refine HRun1.out.mono ?_
  rintro e w5 ⟨_, vs1, ⟨ta, tn, tc, rfl⟩, rfl, hLg, hX7, hok7, hC7⟩
  unfold ranC
  rw [HF1.out.1]
  obtain ⟨r0, hr0⟩ : ∃ z, R1.steps = z := ⟨_, rfl⟩
  obtain ⟨r1, hr1⟩ : ∃ z, R1.last.warp = z := ⟨_, rfl⟩
  obtain ⟨r2, hr2⟩ : ∃ z, R1.last.steps = z := ⟨_, rfl⟩
  obtain ⟨r3, hr3⟩ : ∃ z, R1.last.segs = z := ⟨_, rfl⟩
  obtain ⟨r4, hr4⟩ : ∃ z, R1.last.fault = z := ⟨_, rfl⟩
  obtain ⟨r5, hr5⟩ : ∃ z, R1.last.fpc = z := ⟨_, rfl⟩
  obtain ⟨r6, hr6⟩ : ∃ z, R1.last.fth = z := ⟨_, rfl⟩
  rw [hr0, hr1, hr2, hr3, hr4, hr5, hr6]
  obtain ⟨b6, hb6⟩ : ∃ z, w4.heap.size + 1 = z := ⟨_, rfl⟩
  rw [hb6] at hLg ⊢
  have HLg := hyd hLg
  have HX7 := hyd hX7
  have HC7 := hyd hC7
  clear hX7 hC7 hok7 hLg HRun1 hr0 hr1 hr2 hr3 hr4 hr5 hr6
  dsimp only
  go_wp2_with fail
  generalize hw6 : World.alloc w5 _ = w6
  have hA6 : Below w5.heap.size w5 w6 := by rw [← hw6]; exact (Below.refl _ _).alloc (Nat.le_refl _) _
  have R6 : w6.heap[w5.heap.size]? = some (.cells #[.slice (some ⟨b6, 0, none⟩) c c, .int .i64 r0, .int .i64 1, .int .i64 r1, .int .i64 r2, .int .i64 r3, .int .i64 r4, .int .i64 r5, .int .i64 r6, .slice ta tn tc] 51) := by rw [← hw6]; exact heap_alloc_new w5 _
  have HR6 := hyd R6
  have HX6 : Hid (∃ x, XAt w6 L1 m1 x) := ⟨_, HX7.out.choose_spec.up hA6⟩
  have HB6 : Hid (Below w3.heap.size w3 w6) := by
    have h5 : Below w3.heap.size w3 w5 := HB4.out.trans (HC7.out.below (fun x hx => by simp at hx; subst hx; exact HL1.out) HB4.out.size)
    exact h5.trans (hA6.mono h5.size)
  have HLa : Hid (LogsAt w6 b6 (w4.heap.size + 3) c R1.logs vs1) := HLg.out.keep fun g hg => hA6.block g (by
    rcases hg with rfl | ⟨-, h, -⟩
    · exact blk_lt HLg.out.row
    · exact h)
  clear hw6 hA6 R6 HX7 HLg HC7 HX1
  obtain ⟨pB, HpB⟩ : ∃ z, Hid (w5.heap.size = z) := ⟨_, rfl⟩
  rw [HpB.out] at HR6 ⊢
  have hcn : c ≤ 4 := c4
  have hc0 : (c : Int) ≤ 4 := by omega
  go_loopw [15] (fun iv wr => ∃ i : Nat, i ≤ c ∧ iv = .int .i64 i ∧ Hid (Below w6.heap.size w6 wr)) (fun iv _ => c + 1 - (intOf iv).toNat)
  case atStart => exact ⟨0, by omega, rfl, Below.refl _ _⟩
  case round =>
    obtain ⟨i, hi2, rfl, HBr⟩ := hrel
    have i0 : (0 : Int) ≤ (i : Int) := by omega
    have i1 : (i : Int) ≤ (c : Int) := by omega
    have hPr := (HBr.out.block pB (blk_lt HR6.out)).trans HR6.out
    obtain ⟨⟨x0, -⟩, -⟩ := ten_cells hPr
    clear hPr
    by_cases hi : i < c
    · have i3 : (i : Int) < (c : Int) := by omega
      have h4i : 4 * i < n := by have := Hcn.out; omega
      obtain ⟨ρ, tr, g1, g2, g3, g4, g5, g6⟩ := HF1.out.2.2.2 i hi
      have hbw := bits_warp h4i
      obtain ⟨bv, Hbv⟩ : ∃ bv, Hid (bits (warpG n i) = bv) := ⟨_, rfl⟩
      have hwu := wayT_uni h4i tr
      rw [Hbv.out] at g4 hbw hwu
      have HG := hyd (And.intro g1 (And.intro g4 (And.intro g5 hwu)))
      clear g1 g4 g5 hwu
      obtain ⟨m, Hm⟩ : ∃ m, Hid (tr.length = m) := ⟨_, rfl⟩
      have hm1 : 1 ≤ m := by
        rw [← Hm.out]
        have := (List.getElem?_eq_some_iff.1 HG.out.2.2.1.head).1
        omega
      rw [Hm.out] at g6
      have HLr : Hid (LogsAt wr b6 (w4.heap.size + 3) c R1.logs vs1) := HLa.out.keep fun g hg => HBr.out.block g (by
        rcases hg with rfl | ⟨-, h, -⟩
        · exact blk_lt HLa.out.row
        · exact h)
      obtain ⟨vq, Hvq⟩ : ∃ v, Hid (vs1[i]? = some v) := ⟨_, List.getElem?_eq_getElem (by rw [HLa.out.vl]; exact hi)⟩
      have hoq := HLa.out.own i _ vq HG.out.2.1 Hvq.out
      rw [List.length_map, Hm.out] at hoq
      obtain ⟨qa, qc, hv⟩ := slice_ofM hoq
      subst hv
      obtain ⟨gq, hgq⟩ : ∃ g, qa = some ⟨g, 0, none⟩ := by
        rcases hoq.2 with ⟨-, hn⟩ | ⟨g, cap, cur, hv, -⟩
        · omega
        · cases hv; exact ⟨g, rfl⟩
      subst hgq
      have Hoq := hyd hoq
      have hkq : w6.cell? ⟨b6, i, none⟩ = some (.slice (some ⟨gq, 0, none⟩) m qc) := by rw [cell_of_row w6 b6 i _ 47 _ HLa.out.row, List.getElem?_toArray]; exact Hvq.out
      have Hkq := hyd hkq
      have kq : wr.cell? ⟨b6, i, none⟩ = some (.slice (some ⟨gq, 0, none⟩) m qc) := (HBr.out.cell (p := ⟨b6, i, none⟩) (blk_lt HLa.out.row)).trans hkq
      clear hoq hkq
      have mi0 : (1 : Int) ≤ (m : Int) := by omega
      have mi1 : (m : Int) ≤ 40000 := by omega
      obtain ⟨d, Hd⟩ : ∃ d, Hid (n - 4 * i = d) := ⟨_, rfl⟩
      have hd1 : 1 ≤ d := by have := Hd.out; omega
      have hd : (n : Int) - (i : Int) * 4 = (d : Int) := by have := Hd.out; omega
      rw [Hd.out] at hbw
      have hw4 : ((4 * i : Nat) : Int) = (i : Int) * 4 := by omega
      obtain ⟨fi, Hfi⟩ : ∃ fi, Hid (4 * i = fi) := ⟨_, rfl⟩
      have hfi : (i : Int) * 4 = (fi : Int) := by have := Hfi.out; omega
      clear hw4
      rw [hfi] at hd
      by_cases hd4 : 4 < d
      · have z1 : (4 : Int) < (d : Int) := by omega
        have ebv : bv = 15 := by rw [show min 4 d = 4 by omega] at hbw; omega
        subst ebv
        go_wp2_with fail
        clear x0 kq
        go_loopw [17] (fun jv wq => ∃ j : Nat, j ≤ m ∧ jv = .int .i64 j ∧ Hid (Below w6.heap.size w6 wq)) (fun jv _ => m + 1 - (intOf jv).toNat)
        case atStart => exact ⟨0, by omega, rfl, HBr⟩
        case round =>
          obtain ⟨j, hj2, rfl, HBq⟩ := hrel
          have j0 : (0 : Int) ≤ (j : Int) := by omega
          have j1 : (j : Int) ≤ (m : Int) := by omega
          have hPr := (HBq.out.block pB (blk_lt HR6.out)).trans HR6.out
          obtain ⟨⟨x0, x1, x2, x3, x4, x5, x6, x7, x8, x9⟩, -⟩ := ten_cells hPr
          clear hPr
          have kq : wr.cell? ⟨b6, i, none⟩ = some (.slice (some ⟨gq, 0, none⟩) m qc) := (HBq.out.cell (p := ⟨b6, i, none⟩) (blk_lt HLa.out.row)).trans Hkq.out
          by_cases hj : j < m
          · have j3 : (j : Int) < (m : Int) := by omega
            obtain ⟨vv, hvv⟩ : ∃ vv, tr[j]? = some vv := ⟨_, List.getElem?_eq_getElem (by rw [Hm.out]; exact hj)⟩
            have hcg : wr.cell? ⟨gq, j * 2 + 1, none⟩ = some (.int .i64 (15 : Int)) := by
              have hO := Hoq.out.keptB HBq.out
              rw [hO.cellAt (j * 2 + 1) (by omega)]
              exact (flatL_at (x := (vv, (15 : Int))) (by rw [List.getElem?_map, hvv]; rfl)).2
            clear hvv
            go_wp2_with fail
            go_quiet (fail)
            generalize hw : World.drewN wr _ = wn
            have hB : Below wr.heap.size wr wn := by rw [← hw]; exact ⟨rfl, rfl, rfl, Nat.le_refl _, fun _ _ => rfl⟩
            have HB3 := hyd (HBq.out.trans (hB.mono HBq.out.size))
            clear hw hB
            go_wp2_with fail
            refine ⟨⟨j + 1, by omega, rfl, HB3⟩, ?_⟩
            simp only [intOf]; omega
          · have e : j = m := by omega
            subst e
            have f1 : decide ((j : Int) < (j : Int)) = false := by simp
            go_wp2_with fail
            refine (mregs_yes (HX6.out.choose_spec.up HBq.out) fi (by rw [HF1.out.2.1]; have := Hfi.out; omega)).mono ?_
            rintro e wa ⟨vx, rfl, hox, hba⟩
            rw [HG.out.1 fi (by have := Hfi.out; omega) (by have := Hfi.out; omega)] at hox
            obtain ⟨xa, xc', rfl⟩ := slice_ofM hox
            obtain ⟨gx, hgx⟩ : ∃ g, xa = some ⟨g, 0, none⟩ := by
              rcases hox.2 with ⟨-, hn⟩ | ⟨g, cap, cur, hv, -⟩
              · omega
              · cases hv; exact ⟨g, rfl⟩
            subst hgx
            have HBa := hyd (HBq.out.trans (hba.mono HBq.out.size))
            have HRx := hyd hox
            clear hox hba x0 x1 x2 x3 x4 x5 x6 x7 x8 x9 kq
            have hPa := (HBa.out.block pB (blk_lt HR6.out)).trans HR6.out
            obtain ⟨⟨x0, x1, x2, x3, x4, x5, x6, x7, x8, x9⟩, -⟩ := ten_cells hPa
            have HLw : Hid (LogsAt wa b6 (w4.heap.size + 3) c R1.logs vs1) := HLa.out.keep fun g hg => HBa.out.block g (by
              rcases hg with rfl | ⟨-, h, -⟩
              · exact blk_lt HLa.out.row
              · exact h)
            clear hPa
            go_wp2_with fail
            refine (kway_any HLw.out r0 1 r1 r2 r3 r4 r5 r6 ta tn tc fi (by have := Hfi.out; omega) (by have := Hfi.out; omega) (lg := tr.map fun v => (v, (15 : Int))) (by rw [show fi / 4 = i by have := Hfi.out; omega]; exact HG.out.2.1) (by rw [List.length_map, Hm.out]; exact g6) (fun r hr => by
              rw [List.mem_map] at hr
              obtain ⟨v, -, rfl⟩ := hr
              have := (bits_test (warp_lanes n i)).1
              have := Hbv.out
              dsimp only
              omega)).mono ?_
            rintro e wb ⟨v3, rfl, ho3, hb3⟩
            rw [show wayT fi (tr.map fun v => (v, (15 : Int))) = tr by rw [← Hfi.out]; exact HG.out.2.2.2] at ho3
            have HBb := hyd (HBa.out.trans (hb3.mono HBa.out.size))
            have HRx2 := hyd (HRx.out.keptB hb3)
            have HSg : Hid (SeesZ wb v3 tr) := ownsRow_seesZ (by rw [Hm.out]; omega) ho3
            have HKb : Hid (Sees wb vk (kern lc true)) := HK3.out.up (HB6.out.trans (HBb.out.mono HB6.out.size))
            clear ho3 hb3 HLw HRx x0 x1 x2 x3 x4 x5 x6 x7 x8 x9
            go_wp2_with fail
            refine (goes_any HKb.out (by have := kern_len lc true; omega) HSg.out (by rw [Hm.out]; omega) HG.out.2.2.1).mono ?_
            rintro e wd ⟨rfl, hbd⟩
            have HBd := hyd (HBb.out.trans (hbd.mono HBb.out.size))
            have HRx3 := hyd (HRx2.out.keptB hbd)
            have hx2 : wd.cell? ⟨gx, 2, none⟩ = some (.int .i64 3) := by
              rw [HRx3.out.cellAt 2 (by omega)]
              have h5 : ρ[2]? = some (ρ.getD 2 0) := by
                rw [List.getD_eq_getElem?_getD, List.getElem?_eq_getElem (show 2 < ρ.length by omega)]; rfl
              rw [g3] at h5
              exact zVals_at h5
            clear hbd HRx2 HSg HKb
            go_wp2_with fail
            clear hx2
            go_loopw [21] (fun jv wq => ∃ y : Nat, 1 ≤ y ∧ y ≤ 4 ∧ jv = .int .i64 y ∧ Hid (Below wd.heap.size wd wq)) (fun jv _ => 5 - (intOf jv).toNat)
            case atStart => exact ⟨1, by omega, by omega, rfl, Below.refl _ _⟩
            case round =>
              obtain ⟨y, hy1, hy2, rfl, HBy⟩ := hrel
              have y0 : (1 : Int) ≤ (y : Int) := by omega
              have y4 : (y : Int) ≤ 4 := by omega
              have HB6y := hyd (HBd.out.trans (HBy.out.mono HBd.out.size))
              by_cases hy : y < 4
              · have y3 : (y : Int) < (4 : Int) := by omega
                obtain ⟨fy, Hfy⟩ : ∃ fy, Hid (fi + y = fy) := ⟨_, rfl⟩
                have hfy : (fi : Int) + (y : Int) = (fy : Int) := by have := Hfy.out; omega
                have f16 : (fi : Int) ≤ 16 := by have := Hfi.out; omega
                have f00 : (0 : Int) ≤ (fi : Int) := by omega
                go_wp2_with fail
                refine (mregs_yes (HX6.out.choose_spec.up HB6y.out) fy (by rw [HF1.out.2.1]; have := Hfi.out; have := Hfy.out; have := Hd.out; omega)).mono ?_
                rintro e we ⟨vy, rfl, hoy, hbe⟩
                rw [HG.out.1 fy (by have := Hfi.out; have := Hfy.out; have := Hd.out; omega) (by have := Hfi.out; have := Hfy.out; omega)] at hoy
                have HBe := hyd (HBy.out.trans (hbe.mono HBy.out.size))
                have HS1 : Hid (SeesZ we (.slice (some ⟨gx, 0, none⟩) 4 xc') ρ) := ownsRow_seesZ (by omega) (by rw [g2]; exact HRx3.out.keptB HBe.out)
                have HS2 : Hid (SeesZ we vy ρ) := ownsRow_seesZ (by omega) (by rw [g2]; exact hoy)
                clear hoy hbe
                go_wp2_with fail
                refine (sameI HS1.out HS2.out).mono ?_
                rintro e wf ⟨rfl, hbf⟩
                have HBf := hyd (HBe.out.trans (hbf.mono HBe.out.size))
                clear hbf
                go_wp2_with fail
                refine ⟨⟨y + 1, by omega, by omega, rfl, HBf⟩, ?_⟩
                simp only [intOf]; omega
              · have e : y = 4 := by omega
                subst e
                go_wp2_with fail
                refine ⟨⟨i + 1, by omega, rfl, HB6y⟩, ?_⟩
                simp only [intOf]; omega
      · have hd5 : d ≤ 4 := by omega
        have z1 : ¬ (4 : Int) < (d : Int) := by omega
        have z2 : (d : Int) ≤ 4 := by omega
        have z3 : decide ((4 : Int) < (d : Int)) = false := by simpa using z1
        go_wp2_with fail
        clear x0 kq
        go_loopw [17] (fun jv wq => ∃ j : Nat, j ≤ m ∧ jv = .int .i64 j ∧ Hid (Below w6.heap.size w6 wq)) (fun jv _ => m + 1 - (intOf jv).toNat)
        case atStart => exact ⟨0, by omega, rfl, HBr⟩
        case round =>
          obtain ⟨j, hj2, rfl, HBq⟩ := hrel
          have j0 : (0 : Int) ≤ (j : Int) := by omega
          have j1 : (j : Int) ≤ (m : Int) := by omega
          have hPr := (HBq.out.block pB (blk_lt HR6.out)).trans HR6.out
          obtain ⟨⟨x0, x1, x2, x3, x4, x5, x6, x7, x8, x9⟩, -⟩ := ten_cells hPr
          clear hPr
          have kq : wr.cell? ⟨b6, i, none⟩ = some (.slice (some ⟨gq, 0, none⟩) m qc) := (HBq.out.cell (p := ⟨b6, i, none⟩) (blk_lt HLa.out.row)).trans Hkq.out
          by_cases hj : j < m
          · have j3 : (j : Int) < (m : Int) := by omega
            obtain ⟨vv, hvv⟩ : ∃ vv, tr[j]? = some vv := ⟨_, List.getElem?_eq_getElem (by rw [Hm.out]; exact hj)⟩
            have hcg : wr.cell? ⟨gq, j * 2 + 1, none⟩ = some (.int .i64 ((bv : Nat) : Int)) := by
              have hO := Hoq.out.keptB HBq.out
              rw [hO.cellAt (j * 2 + 1) (by omega)]
              exact (flatL_at (x := (vv, ((bv : Nat) : Int))) (by rw [List.getElem?_map, hvv]; rfl)).2
            clear hvv
            have hdc : d = 1 ∨ d = 2 ∨ d = 3 ∨ d = 4 := by omega
            rcases hdc with rfl | rfl | rfl | rfl
            · obtain rfl : bv = 1 := by
                have h : bv + 1 = 2 := hbw
                omega
              have hcg2 : wr.cell? ⟨gq, j * 2 + 1, none⟩ = some (.int .i64 1) := hcg
              clear hcg
              go_wp2_with fail
              go_quiet (fail)
              generalize hw : World.drewN wr _ = wn
              have hB : Below wr.heap.size wr wn := by rw [← hw]; exact ⟨rfl, rfl, rfl, Nat.le_refl _, fun _ _ => rfl⟩
              have HB3 := hyd (HBq.out.trans (hB.mono HBq.out.size))
              clear hw hB
              go_wp2_with fail
              refine ⟨⟨j + 1, by omega, rfl, HB3⟩, ?_⟩
              simp only [intOf]; omega
            · obtain rfl : bv = 3 := by
                have h : bv + 1 = 4 := hbw
                omega
              have hcg2 : wr.cell? ⟨gq, j * 2 + 1, none⟩ = some (.int .i64 3) := hcg
              clear hcg
              go_wp2_with fail
              go_quiet (fail)
              generalize hw : World.drewN wr _ = wn
              have hB : Below wr.heap.size wr wn := by rw [← hw]; exact ⟨rfl, rfl, rfl, Nat.le_refl _, fun _ _ => rfl⟩
              have HB3 := hyd (HBq.out.trans (hB.mono HBq.out.size))
              clear hw hB
              go_wp2_with fail
              refine ⟨⟨j + 1, by omega, rfl, HB3⟩, ?_⟩
              simp only [intOf]; omega
            · obtain rfl : bv = 7 := by
                have h : bv + 1 = 8 := hbw
                omega
              have hcg2 : wr.cell? ⟨gq, j * 2 + 1, none⟩ = some (.int .i64 7) := hcg
              clear hcg
              go_wp2_with fail
              go_quiet (fail)
              generalize hw : World.drewN wr _ = wn
              have hB : Below wr.heap.size wr wn := by rw [← hw]; exact ⟨rfl, rfl, rfl, Nat.le_refl _, fun _ _ => rfl⟩
              have HB3 := hyd (HBq.out.trans (hB.mono HBq.out.size))
              clear hw hB
              go_wp2_with fail
              refine ⟨⟨j + 1, by omega, rfl, HB3⟩, ?_⟩
              simp only [intOf]; omega
            · obtain rfl : bv = 15 := by
                have h : bv + 1 = 16 := hbw
                omega
              have hcg2 : wr.cell? ⟨gq, j * 2 + 1, none⟩ = some (.int .i64 15) := hcg
              clear hcg
              go_wp2_with fail
              go_quiet (fail)
              generalize hw : World.drewN wr _ = wn
              have hB : Below wr.heap.size wr wn := by rw [← hw]; exact ⟨rfl, rfl, rfl, Nat.le_refl _, fun _ _ => rfl⟩
              have HB3 := hyd (HBq.out.trans (hB.mono HBq.out.size))
              clear hw hB
              go_wp2_with fail
              refine ⟨⟨j + 1, by omega, rfl, HB3⟩, ?_⟩
              simp only [intOf]; omega
          · have e : j = m := by omega
            subst e
            have f1 : decide ((j : Int) < (j : Int)) = false := by simp
            go_wp2_with fail
            refine (mregs_yes (HX6.out.choose_spec.up HBq.out) fi (by rw [HF1.out.2.1]; have := Hfi.out; omega)).mono ?_
            rintro e wa ⟨vx, rfl, hox, hba⟩
            rw [HG.out.1 fi (by have := Hfi.out; omega) (by have := Hfi.out; omega)] at hox
            obtain ⟨xa, xc', rfl⟩ := slice_ofM hox
            obtain ⟨gx, hgx⟩ : ∃ g, xa = some ⟨g, 0, none⟩ := by
              rcases hox.2 with ⟨-, hn⟩ | ⟨g, cap, cur, hv, -⟩
              · omega
              · cases hv; exact ⟨g, rfl⟩
            subst hgx
            have HBa := hyd (HBq.out.trans (hba.mono HBq.out.size))
            have HRx := hyd hox
            clear hox hba x0 x1 x2 x3 x4 x5 x6 x7 x8 x9 kq
            have hPa := (HBa.out.block pB (blk_lt HR6.out)).trans HR6.out
            obtain ⟨⟨x0, x1, x2, x3, x4, x5, x6, x7, x8, x9⟩, -⟩ := ten_cells hPa
            have HLw : Hid (LogsAt wa b6 (w4.heap.size + 3) c R1.logs vs1) := HLa.out.keep fun g hg => HBa.out.block g (by
              rcases hg with rfl | ⟨-, h, -⟩
              · exact blk_lt HLa.out.row
              · exact h)
            clear hPa
            go_wp2_with fail
            refine (kway_any HLw.out r0 1 r1 r2 r3 r4 r5 r6 ta tn tc fi (by have := Hfi.out; omega) (by have := Hfi.out; omega) (lg := tr.map fun v => (v, ((bv : Nat) : Int))) (by rw [show fi / 4 = i by have := Hfi.out; omega]; exact HG.out.2.1) (by rw [List.length_map, Hm.out]; exact g6) (fun r hr => by
              rw [List.mem_map] at hr
              obtain ⟨v, -, rfl⟩ := hr
              have := (bits_test (warp_lanes n i)).1
              have := Hbv.out
              dsimp only
              omega)).mono ?_
            rintro e wb ⟨v3, rfl, ho3, hb3⟩
            rw [show wayT fi (tr.map fun v => (v, ((bv : Nat) : Int))) = tr by rw [← Hfi.out]; exact HG.out.2.2.2] at ho3
            have HBb := hyd (HBa.out.trans (hb3.mono HBa.out.size))
            have HRx2 := hyd (HRx.out.keptB hb3)
            have HSg : Hid (SeesZ wb v3 tr) := ownsRow_seesZ (by rw [Hm.out]; omega) ho3
            have HKb : Hid (Sees wb vk (kern lc true)) := HK3.out.up (HB6.out.trans (HBb.out.mono HB6.out.size))
            clear ho3 hb3 HLw HRx x0 x1 x2 x3 x4 x5 x6 x7 x8 x9
            go_wp2_with fail
            refine (goes_any HKb.out (by have := kern_len lc true; omega) HSg.out (by rw [Hm.out]; omega) HG.out.2.2.1).mono ?_
            rintro e wd ⟨rfl, hbd⟩
            have HBd := hyd (HBb.out.trans (hbd.mono HBb.out.size))
            have HRx3 := hyd (HRx2.out.keptB hbd)
            have hx2 : wd.cell? ⟨gx, 2, none⟩ = some (.int .i64 3) := by
              rw [HRx3.out.cellAt 2 (by omega)]
              have h5 : ρ[2]? = some (ρ.getD 2 0) := by
                rw [List.getD_eq_getElem?_getD, List.getElem?_eq_getElem (show 2 < ρ.length by omega)]; rfl
              rw [g3] at h5
              exact zVals_at h5
            clear hbd HRx2 HSg HKb
            go_wp2_with fail
            clear hx2
            go_loopw [21] (fun jv wq => ∃ y : Nat, 1 ≤ y ∧ y ≤ d ∧ jv = .int .i64 y ∧ Hid (Below wd.heap.size wd wq)) (fun jv _ => 5 - (intOf jv).toNat)
            case atStart => exact ⟨1, by omega, by omega, rfl, Below.refl _ _⟩
            case round =>
              obtain ⟨y, hy1, hy2, rfl, HBy⟩ := hrel
              have y0 : (1 : Int) ≤ (y : Int) := by omega
              have y4 : (y : Int) ≤ 4 := by omega
              have HB6y := hyd (HBd.out.trans (HBy.out.mono HBd.out.size))
              by_cases hy : y < d
              · have y3 : (y : Int) < (d : Int) := by omega
                obtain ⟨fy, Hfy⟩ : ∃ fy, Hid (fi + y = fy) := ⟨_, rfl⟩
                have hfy : (fi : Int) + (y : Int) = (fy : Int) := by have := Hfy.out; omega
                have f16 : (fi : Int) ≤ 16 := by have := Hfi.out; omega
                have f00 : (0 : Int) ≤ (fi : Int) := by omega
                go_wp2_with fail
                refine (mregs_yes (HX6.out.choose_spec.up HB6y.out) fy (by rw [HF1.out.2.1]; have := Hfi.out; have := Hfy.out; have := Hd.out; omega)).mono ?_
                rintro e we ⟨vy, rfl, hoy, hbe⟩
                rw [HG.out.1 fy (by have := Hfi.out; have := Hfy.out; have := Hd.out; omega) (by have := Hfi.out; have := Hfy.out; omega)] at hoy
                have HBe := hyd (HBy.out.trans (hbe.mono HBy.out.size))
                have HS1 : Hid (SeesZ we (.slice (some ⟨gx, 0, none⟩) 4 xc') ρ) := ownsRow_seesZ (by omega) (by rw [g2]; exact HRx3.out.keptB HBe.out)
                have HS2 : Hid (SeesZ we vy ρ) := ownsRow_seesZ (by omega) (by rw [g2]; exact hoy)
                clear hoy hbe
                go_wp2_with fail
                refine (sameI HS1.out HS2.out).mono ?_
                rintro e wf ⟨rfl, hbf⟩
                have HBf := hyd (HBe.out.trans (hbf.mono HBe.out.size))
                clear hbf
                go_wp2_with fail
                refine ⟨⟨y + 1, by omega, by omega, rfl, HBf⟩, ?_⟩
                simp only [intOf]; omega
              · have e : y = d := by omega
                subst e
                have f2 : decide ((y : Int) < (y : Int)) = false := by simp
                go_wp2_with fail
                refine ⟨⟨i + 1, by omega, rfl, HB6y⟩, ?_⟩
                simp only [intOf]; omega
    · have e : i = c := by omega
      subst e
      have f1 : decide ((i : Int) < (i : Int)) = false := by simp
      go_wp2_with fail
      go_ret
      have hfin : Below w3.heap.size w3 wr := HB6.out.trans (HBr.out.mono HB6.out.size)
      have hfin2 := HB23.out.trans (hfin.mono HB23.out.size)
      exact ⟨rfl, HB2.out.trans (hfin2.mono HB2.out.size)⟩

end Go.Proofs.Ytbhbacphiinpeaa
