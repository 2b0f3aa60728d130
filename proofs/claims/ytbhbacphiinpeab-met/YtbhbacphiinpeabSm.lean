/- What loomkeep's Met answers: true. -/
import Derived.Test.YtbhbacphiinpeabSy
import Derived.Test.YtbhbacphiinpeabSd
import Derived.Test.YtbhbacphiinpeabSc
import Derived.Deep.Cut
namespace Go.Proofs.Ytbhbacphiinpeab
open Go.RowKit

theorem me_chk : chk kMe = (0, 0) := by decide +kernel

set_option maxHeartbeats 4000000 in
set_option maxRecDepth 100000 in
theorem met_any (HR : RunAny) (t : Int) (ht : -9223372036854775808 ≤ t ∧ t ≤ 9223372036854775807) {w : World} {vm : Value} {lm : List Int} (hm : SeesI w vm lm) {vp : Value} {lp : List Int} (hp : SeesI w vp lp) :
    Calls Try.prog 3 #[.int .i64 t, vm, vp] w fun e w' => e = .returned (.bool true) ∧ Below w.heap.size w w' := by
  have b1 := pickN_lt t 16 (by omega)
  have Hc := hyd (crew_any t 0 ht (by omega))
  obtain ⟨n, Hn⟩ : ∃ n, Hid (1 + pickN t 16 = n) := ⟨_, rfl⟩
  rw [Hn.out] at Hc
  have hn1 : 1 ≤ n := by rw [← Hn.out]; omega
  have hn2 : n ≤ 16 := by rw [← Hn.out]; omega
  clear b1 ht Hn
  have n1 : (1 : Int) ≤ (n : Int) := by omega
  have n2 : (n : Int) ≤ 16 := by omega
  have HM := hyd hm
  have HP := hyd hp
  clear hm hp
  go_enter Try.func3, Try.ntmps3
  go_wp2_with fail
  refine (Hc.out _).mono ?_
  rintro e w1 ⟨rfl, rfl⟩
  go_wp2_with fail
  generalize hw2 : World.alloc w1 _ = w2
  have HK : Hid (Sees w2 (.slice (some ⟨w1.heap.size, 0, none⟩) 8 8) kMe) := by unfold Hid; rw [← hw2]; exact lit_sees (heap_alloc_new w1 _) rfl (by omega)
  have HB2 : Hid (Below w1.heap.size w1 w2) := by unfold Hid; rw [← hw2]; exact (Below.refl _ _).alloc (Nat.le_refl _) _
  clear hw2
  refine (words_any (HM.out.up HB2.out)).mono ?_
  rintro e w3 ⟨vw, rfl, hO3, hB3⟩
  obtain ⟨wa, wc, rfl⟩ := slice_ofM hO3
  have HW3 : Hid (SeesZ w3 (.slice wa 32 wc) (wordsP lm)) := by
    unfold Hid
    have := ownsRow_seesZ (l := wordsP lm) (by rw [words_len]; omega) (by rw [words_len]; exact hO3)
    exact this
  have HO3 := hyd hO3
  have HB3 := hyd (HB2.out.trans (hB3.mono HB2.out.size))
  have HK3 : Hid (Sees w3 (.slice (some ⟨w1.heap.size, 0, none⟩) 8 8) kMe) := HK.out.up hB3
  clear hO3 hB3 HB2 HK
  go_wp2_with fail
  refine (begun_any HK3.out me_chk HW3.out n 0 (by omega) (by omega) (by omega) (by rw [words_len]; omega) (by rw [words_len]; omega)).mono ?_
  rintro e w5 ⟨J, -, hok, L, x, rfl, hX, hY, hB5⟩
  obtain ⟨m', R, hG, f1, f2, f3, f4, f5, f6⟩ := me_go J n hn1 hn2 (wordsP lm) (words_len lm) lp
  have HO5 := hyd (And.intro HO3.out (And.intro hB5 hY.1))
  have HB5 := hyd (HB3.out.trans (hB5.mono HB3.out.size))
  have hs3 := HB3.out.size
  obtain ⟨c, hc⟩ : ∃ c, (n + 3) / 4 = c := ⟨_, rfl⟩
  rw [hc] at hG f2
  have HRun := hyd (HR hX hok HP.out HB5.out (by omega) n c hc (by omega) hG)
  have HY := hyd (Nat.le_trans hs3 hY.1)
  have HF := hyd (And.intro f1 (And.intro f2 (And.intro f3 (And.intro f4 (And.intro f5 f6)))))
  clear hok hX hY hB5 hG f1 f2 f3 f4 f5 f6 HB3 HK3 HW3 HO3
  go_wp2_with fail
  refine HRun.out.mono ?_
  rintro e w6 ⟨_, vs, ⟨ta, tn, tc, rfl⟩, rfl, -, hX6, hok6, hC6⟩
  obtain ⟨f1, f2, f3, f4, f5, f6⟩ := HF.out
  unfold ranC
  rw [f1, f2]
  obtain ⟨r1, hr1⟩ : ∃ z, R.last.warp = z := ⟨_, rfl⟩
  obtain ⟨r2, hr2⟩ : ∃ z, R.last.steps = z := ⟨_, rfl⟩
  obtain ⟨r3, hr3⟩ : ∃ z, R.last.segs = z := ⟨_, rfl⟩
  obtain ⟨r4, hr4⟩ : ∃ z, R.last.fault = z := ⟨_, rfl⟩
  obtain ⟨r5, hr5⟩ : ∃ z, R.last.fpc = z := ⟨_, rfl⟩
  obtain ⟨r6, hr6⟩ : ∃ z, R.last.fth = z := ⟨_, rfl⟩
  rw [hr1, hr2, hr3, hr4, hr5, hr6]
  obtain ⟨b6, hb6⟩ : ∃ z, w5.heap.size + 1 = z := ⟨_, rfl⟩
  rw [hb6]
  have c4 : c ≤ 4 := by omega
  have HX6 := hyd hX6
  have HC6 := hyd hC6
  clear hX6 hC6 hok6 HRun f1 f2 f3 f4 f5 f6 hr1 hr2 hr3 hr4 hr5 hr6 hb6 hc
  dsimp only
  go_wp2_with fail
  generalize hw7 : World.alloc w6 _ = w7
  have hA7 : Below w6.heap.size w6 w7 := by rw [← hw7]; exact (Below.refl _ _).alloc (Nat.le_refl _) _
  have hs7 : w7.heap.size = w6.heap.size + 1 := by rw [← hw7]; simp
  have R7 : w7.heap[w6.heap.size]? = some (.cells #[.slice (some ⟨b6, 0, none⟩) c c, .int .i64 (8 * (c : Int)), .int .i64 1, .int .i64 r1, .int .i64 r2, .int .i64 r3, .int .i64 r4, .int .i64 r5, .int .i64 r6, .slice ta tn tc] 36) := by rw [← hw7]; exact heap_alloc_new w6 _
  have HX7 : Hid (∃ x, XAt w7 L m' x) := ⟨_, HX6.out.choose_spec.up hA7⟩
  have HB7 : Hid (Below w1.heap.size w1 w7) := by
    have h6 : Below w1.heap.size w1 w6 := HB5.out.trans (HC6.out.below (fun x hx => by simp at hx; subst hx; exact HY.out) HB5.out.size)
    exact h6.trans (hA7.mono h6.size)
  have HO7 : Hid (w7.ownsRow w2.heap.size 3 1 (.slice wa 32 wc) 32 (zVals (wordsP lm))) := by
    obtain ⟨h3, h5, hy⟩ := HO5.out
    refine owns_same h3 fun g hg => ?_
    have hlt := h3.lt g hg
    have s5 := h5.size
    have s6 := HC6.out.size
    rw [hA7.block g (by omega), HC6.out.block g (by omega) (fun hm => by simp at hm; omega), h5.block g hlt.2]
  clear hw7 hA7 HX6 HC6 HO5
  refine (mmem_any HX7.out.choose_spec).mono ?_
  rintro e w8 ⟨va, rfl, hoa, hba⟩
  rw [HF.out.2.2.1] at hoa
  obtain ⟨aa, ac, rfl⟩ := slice_ofM hoa
  have HX8 : Hid (∃ x, XAt w8 L m' x) := ⟨_, HX7.out.choose_spec.up hba⟩
  have HB8 := hyd (HB7.out.trans (hba.mono HB7.out.size))
  have HO8 := hyd (HO7.out.keptB hba)
  have HA8 := hyd hoa
  have R8 : w8.heap[w6.heap.size]? = some (.cells #[.slice (some ⟨b6, 0, none⟩) c c, .int .i64 (8 * (c : Int)), .int .i64 1, .int .i64 r1, .int .i64 r2, .int .i64 r3, .int .i64 r4, .int .i64 r5, .int .i64 r6, .slice ta tn tc] 36) := (hba.block _ (by omega)).trans R7
  obtain ⟨⟨k0, k1, k2, -⟩, -⟩ := ten_cells R8
  clear hoa hba R7 R8 HX7 HB7 HO7 hs7
  obtain ⟨gw, hgw⟩ : ∃ g, wa = some ⟨g, 0, none⟩ := by
    rcases HO8.out.2 with ⟨-, hn⟩ | ⟨g, cap, cur, hv, -⟩
    · omega
    · cases hv; exact ⟨g, rfl⟩
  subst hgw
  obtain ⟨ga, hga⟩ : ∃ g, aa = some ⟨g, 0, none⟩ := by
    rcases HA8.out.2 with ⟨-, hn⟩ | ⟨g, cap, cur, hv, -⟩
    · omega
    · cases hv; exact ⟨g, rfl⟩
  subst hga
  go_wp2_with fail
  go_loopw [15] (fun iv wr => ∃ i : Nat, i ≤ n ∧ iv = .int .i64 i ∧ Hid (Below w8.heap.size w8 wr)) (fun iv _ => n + 1 - (intOf iv).toNat)
  case atStart => exact ⟨0, by omega, rfl, Below.refl _ _⟩
  case round =>
    obtain ⟨i, hi2, rfl, HBr⟩ := hrel
    have i0 : (0 : Int) ≤ (i : Int) := by omega
    have i1 : (i : Int) ≤ (n : Int) := by omega
    by_cases hi : i < n
    · have i3 : (i : Int) < (n : Int) := by omega
      have hl : i < m'.ts.length := by rw [HF.out.2.2.2.1]; exact hi
      have hth := HF.out.2.2.2.2.1 i hi
      have hge : m'.ts.getD i thr0 = ⟨(i : Int), [(i : Int), 99, vMe n (wordsP lm) i, 0], true⟩ := by rw [List.getD_eq_getElem?_getD, hth]; rfl
      go_wp2_with fail
      refine (mregs_yes (HX8.out.choose_spec.up HBr.out) i hl).mono ?_
      rintro e wb ⟨vr, rfl, hor, hbb⟩
      rw [hge] at hor
      obtain ⟨ra, rc, rfl⟩ := slice_ofM hor
      obtain ⟨g, hg⟩ : ∃ g, ra = some ⟨g, 0, none⟩ := by
        rcases hor.2 with ⟨-, hn⟩ | ⟨g, cap, cur, hv, -⟩
        · omega
        · cases hv; exact ⟨g, rfl⟩
      subst hg
      have HBb := hyd (HBr.out.trans (hbb.mono HBr.out.size))
      have hx2 : wb.cell? ⟨g, 2, none⟩ = some (.int .i64 (vMe n (wordsP lm) i)) := by
        rw [hor.cellAt 2 (by omega)]; rfl
      have hmn : wb.cell? ⟨gw, n, none⟩ = some (.int .i64 ((wordsP lm).getD n 0)) := by
        rw [(HO8.out.keptB HBb.out).cellAt n (by omega)]
        exact zVals_at (by rw [List.getD_eq_getElem?_getD, List.getElem?_eq_getElem (show n < (wordsP lm).length by rw [words_len]; omega)]; rfl)
      have hai : wb.cell? ⟨ga, i, none⟩ = some (.int .i64 99) := by
        rw [(HA8.out.keptB HBb.out).cellAt i (by omega)]
        have := HF.out.2.2.2.2.2 i (by omega)
        rw [if_pos hi] at this
        exact zVals_at this
      clear hor hbb hth hge
      by_cases hq : i + 1 < n
      · have e1 : vMe n (wordsP lm) i = (i : Int) + 1 := by unfold vMe; rw [if_pos hq]; omega
        have e2 : decide ((i : Int) = (n : Int) - 1) = false := by simp; omega
        have e3 : ¬ (i : Int) = (n : Int) - 1 := by omega
        rw [e1] at hx2
        clear e1
        go_wp2_with fail
        refine ⟨⟨i + 1, by omega, rfl, HBb⟩, ?_⟩
        simp only [intOf]; omega
      · have e1 : vMe n (wordsP lm) i = (wordsP lm).getD n 0 := by unfold vMe; rw [if_neg hq]
        have e3 : (n : Int) - 1 = (i : Int) := by omega
        rw [e1] at hx2
        generalize (wordsP lm).getD n 0 = z at hx2 hmn
        clear e1
        go_wp2_with fail
        refine ⟨⟨i + 1, by omega, rfl, HBb⟩, ?_⟩
        simp only [intOf]; omega
    · have e : i = n := by omega
      subst e
      have c1 : decide ((i : Int) < (i : Int)) = false := by simp
      go_wp2_with fail
      go_loopw [19] (fun av wq => ∃ a : Nat, i ≤ a ∧ a ≤ 32 ∧ av = .int .i64 a ∧ Hid (Below w8.heap.size w8 wq)) (fun av _ => 33 - (intOf av).toNat)
      case atStart => exact ⟨i, by omega, by omega, rfl, HBr⟩
      case round =>
        obtain ⟨a, ha1, ha2, rfl, HBq⟩ := hrel
        have a0 : (0 : Int) ≤ (a : Int) := by omega
        have a1 : (a : Int) ≤ 32 := by omega
        by_cases ha : a < 32
        · have a3 : (a : Int) < 32 := by omega
          have hma : wr.cell? ⟨gw, a, none⟩ = some (.int .i64 ((wordsP lm).getD a 0)) := by
            rw [(HO8.out.keptB HBq.out).cellAt a (by omega)]
            exact zVals_at (by rw [List.getD_eq_getElem?_getD, List.getElem?_eq_getElem (show a < (wordsP lm).length by rw [words_len]; omega)]; rfl)
          have haa : wr.cell? ⟨ga, a, none⟩ = some (.int .i64 ((wordsP lm).getD a 0)) := by
            rw [(HA8.out.keptB HBq.out).cellAt a (by omega)]
            have := HF.out.2.2.2.2.2 a (by omega)
            rw [if_neg (by omega)] at this
            exact zVals_at this
          generalize (wordsP lm).getD a 0 = z at hma haa
          go_wp2_with fail
          go_quiet (fail)
          generalize hw : World.drewN wr _ = w3
          have hB : Below wr.heap.size wr w3 := by rw [← hw]; exact ⟨rfl, rfl, rfl, Nat.le_refl _, fun _ _ => rfl⟩
          have HB3 := hyd (HBq.out.trans (hB.mono HBq.out.size))
          clear hw hB
          go_wp2_with fail
          refine ⟨⟨a + 1, by omega, by omega, rfl, HB3⟩, ?_⟩
          simp only [intOf]; omega
        · have e : a = 32 := by omega
          subst e
          go_wp2_with fail
          go_ret
          exact ⟨rfl, HB8.out.trans (HBq.out.mono HB8.out.size)⟩

end Go.Proofs.Ytbhbacphiinpeab
