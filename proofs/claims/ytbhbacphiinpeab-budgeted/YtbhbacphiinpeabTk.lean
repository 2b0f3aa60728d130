/- What loomkeep's Budgeted answers: true. -/
import Derived.Test.YtbhbacphiinpeabTk0
import Derived.Test.YtbhbacphiinpeabTj
import Derived.Test.YtbhbacphiinpeabSc
import Derived.Test.YtbhbacphiinpeabSd0
import Derived.Deep.Cut
namespace Go.Proofs.Ytbhbacphiinpeab
open Go.RowKit

theorem flatL_at : ∀ {l : List (Int × Int)} {i : Nat} {x : Int × Int}, l[i]? = some x → (flatL l)[i * 2]? = some (.int .i64 x.1) ∧ (flatL l)[i * 2 + 1]? = some (.int .i64 x.2)
  | [], i, x, h => by simp at h
  | y :: l, 0, x, h => by
    simp at h
    subst h
    exact ⟨rfl, rfl⟩
  | y :: l, i + 1, x, h => by
    have ih := flatL_at (l := l) (i := i) (x := x) (by simpa using h)
    have e : flatL (y :: l) = .int .i64 y.1 :: .int .i64 y.2 :: flatL l := rfl
    rw [e, show (i + 1) * 2 = i * 2 + 2 by omega]
    exact ih

set_option maxHeartbeats 8000000 in
set_option maxRecDepth 100000 in
theorem budgeted_any {w : World} {vc : Value} {lc : List Int} (hc : SeesI w vc lc) (t : Int) (ht : -9223372036854775808 ≤ t ∧ t ≤ 9223372036854775807) (f : Int) (hf : -9223372036854775808 ≤ f ∧ f ≤ 9223372036854775807) {vm : Value} {lm : List Int} (hm : SeesI w vm lm) (u : Int) (hu : -9223372036854775808 ≤ u ∧ u ≤ 9223372036854775807) :
    Calls Try.prog 6 #[vc, .int .i64 t, .int .i64 f, vm, .int .i64 u] w fun e w' => e = .returned (.bool true) ∧ Below w.heap.size w w' := by
  have b1 := pickN_lt t 16 (by omega)
  have b2 := pickN_lt f 16 (by omega)
  have Hc := hyd (crew_any t f ht hf)
  obtain ⟨n, Hn⟩ : ∃ n, Hid (1 + pickN t 16 = n) := ⟨_, rfl⟩
  obtain ⟨fs, Hfs⟩ : ∃ n, Hid (pickN f 16 = n) := ⟨_, rfl⟩
  rw [Hn.out, Hfs.out] at Hc
  have hn1 : 1 ≤ n := by rw [← Hn.out]; omega
  have hn2 : n ≤ 16 := by rw [← Hn.out]; omega
  have hf2 : fs ≤ 15 := by rw [← Hfs.out]; omega
  clear b1 b2 ht hf Hn Hfs
  have HC := hyd hc
  have HM := hyd hm
  have HU := hyd hu
  clear hc hm hu
  go_enter Try.func6, Try.ntmps6
  go_wp2_with fail
  refine (Hc.out _).mono ?_
  rintro e w1 ⟨rfl, rfl⟩
  go_wp2_with fail
  refine (kernel_any false HC.out).mono ?_
  rintro e w2 ⟨vk, rfl, hok, hb2⟩
  have HK2 : Hid (Sees w2 vk (kern lc false)) := ownsRow_sees (by have := kern_len lc false; omega) hok
  have HB2 := hyd hb2
  clear hok hb2
  go_wp2_with fail
  refine (words_any (HM.out.up HB2.out)).mono ?_
  rintro e w3 ⟨vw, rfl, hO3, hB3⟩
  have HW3 : Hid (SeesZ w3 vw (wordsP lm)) := ownsRow_seesZ (l := wordsP lm) (by rw [words_len]; omega) (by rw [words_len]; exact hO3)
  have HB3 := hyd (HB2.out.trans (hB3.mono HB2.out.size))
  have HK3 : Hid (Sees w3 vk (kern lc false)) := HK2.out.up hB3
  clear hO3 hB3 HB2 HK2
  go_wp2_with fail
  refine (begun_any HK3.out (kern_chk lc false) HW3.out n fs (by omega) (by omega) (by omega) (by rw [words_len]; omega) (by rw [words_len]; omega)).mono ?_
  rintro e w4 ⟨J, hJ, hok, L1, x1, rfl, hX, hY, hB4⟩
  have HX1 : Hid (∃ x, XAt w4 L1 (newP (kern lc false) J n fs (wordsP lm)) x) := ⟨_, hX⟩
  have HO1 := hyd hok
  have HJ1 := hyd hJ
  have HL1 : Hid (w1.heap.size ≤ L1.bX ∧ ∀ g, (g = L1.bX ∨ g = L1.gK ∨ g = L1.gJ) → g < w4.heap.size) := ⟨Nat.le_trans HB3.out.size hY.1, fun g hg => hX.mx.lt hg⟩
  have HB4 := hyd (HB3.out.trans (hB4.mono HB3.out.size))
  have HK4 : Hid (Sees w4 vk (kern lc false)) := HK3.out.up hB4
  clear hX hok hJ hY hB4 HB3 HK3 HW3 x1
  go_wp2_with fail
  refine (words_any (HM.out.up HB4.out)).mono ?_
  rintro e w5 ⟨vw2, rfl, hO5, hB5⟩
  have HW5 : Hid (SeesZ w5 vw2 (wordsP lm)) := ownsRow_seesZ (l := wordsP lm) (by rw [words_len]; omega) (by rw [words_len]; exact hO5)
  have HB45 := hyd hB5
  have HB5 := hyd (HB4.out.trans (hB5.mono HB4.out.size))
  have HK5 : Hid (Sees w5 vk (kern lc false)) := HK4.out.up hB5
  clear hO5 hB5 HB4 HK4
  go_wp2_with fail
  refine (begun_any HK5.out (kern_chk lc false) HW5.out n fs (by omega) (by omega) (by omega) (by rw [words_len]; omega) (by rw [words_len]; omega)).mono ?_
  rintro e w6 ⟨J2, hJ2, hok2, L2, x2, rfl, hX2, hY2, hB6⟩
  have eJ : J2 = J := joins_one hJ2 HJ1.out
  subst eJ
  have HX2 : Hid (∃ x, XAt w6 L2 (newP (kern lc false) J2 n fs (wordsP lm)) x) := ⟨_, hX2⟩
  have HX1' : Hid (∃ x, XAt w6 L1 (newP (kern lc false) J2 n fs (wordsP lm)) x) := ⟨_, (HX1.out.choose_spec.up HB45.out).up hB6⟩
  have HL2 : Hid (∀ g, (g = L2.bX ∨ g = L2.gK ∨ g = L2.gJ) → w4.heap.size ≤ g ∧ g < w6.heap.size) := fun g hg => ⟨by
    have := HB45.out.size
    rcases hg with rfl | rfl | rfl
    · exact Nat.le_trans this hY2.1
    · exact Nat.le_trans this hY2.2.1
    · exact Nat.le_trans this hY2.2.2, hX2.mx.lt hg⟩
  have HB6 := hyd (HB5.out.trans (hB6.mono HB5.out.size))
  have h46 : w4.heap.size ≤ w6.heap.size := Nat.le_trans HB45.out.size hB6.size
  clear hX2 hok2 hJ2 hY2 hB6 HB5 HK5 HW5 HB45 HX1
  obtain ⟨Ma, T, hTa, p1, p2, ⟨g0, g1, rest, p3⟩, p4, p5⟩ := bud_plain (n := n) (first := fs) HJ1.out (words_len lm) hf2 hn1 hn2
  have HT := hyd hTa
  have HP := hyd (And.intro p1 (And.intro p2 (And.intro p4 p5)))
  have HLG := hyd p3
  clear hTa p1 p2 p4 p5 p3
  go_wp2_with fail
  refine (turnx_any HX1'.out.choose_spec HO1.out 0 2000 HT.out).mono ?_
  rintro e w7 ⟨va, vl, rfl, hO7, hX7, hC7, -⟩
  obtain ⟨S, HS⟩ : ∃ S, Hid (T.log.length = S) := ⟨_, rfl⟩
  have hS2 : 2 ≤ S := by rw [← HS.out, HLG.out]; simp
  have hS3 : S < 2000 := by rw [← HS.out]; exact HP.out.2.1
  have e1 : T.steps = (S : Int) := by rw [HP.out.1, HS.out]
  rw [e1, HS.out]
  rw [HS.out] at hO7
  obtain ⟨gT, hva⟩ : ∃ gT, va = some ⟨gT, 0, none⟩ := by
    rcases hO7.2 with ⟨-, hn⟩ | ⟨g, cap, cur, hv, -⟩
    · omega
    · cases hv; exact ⟨g, rfl⟩
  subst hva
  have HO7 := hyd hO7
  have HXa : Hid (∃ x, XAt w7 L1 Ma x) := hX7
  have HXb : Hid (∃ x, XAt w7 L2 (newP (kern lc false) J2 n fs (wordsP lm)) x) := ⟨_, HX2.out.choose_spec.keep fun g hg => hC7.block g (HL2.out g hg).2 (fun hm => by
    simp at hm
    have := (HL2.out g hg).1
    have := HL1.out.2 L1.bX (.inl rfl)
    omega)⟩
  have HB7 : Hid (Below w1.heap.size w1 w7) := HB6.out.trans (hC7.below (fun x hx => by simp at hx; subst hx; exact HL1.out.1) HB6.out.size)
  have s67 := hC7.size
  have H67 := hyd s67
  clear hO7 hX7 hC7 HX2 HX1' e1 s67 HB6
  obtain ⟨T2, hT2⟩ : ∃ z, T.segs = z := ⟨_, rfl⟩
  obtain ⟨T3, hT3⟩ : ∃ z, T.fault = z := ⟨_, rfl⟩
  obtain ⟨T4, hT4⟩ : ∃ z, T.fpc = z := ⟨_, rfl⟩
  obtain ⟨T5, hT5⟩ : ∃ z, T.fth = z := ⟨_, rfl⟩
  obtain ⟨T6, hT6⟩ : ∃ z, T.warp = z := ⟨_, rfl⟩
  rw [hT2, hT3, hT4, hT5, hT6]
  have HT2 := hyd hT2
  clear hT2 hT3 hT4 hT5 hT6
  dsimp only
  have S2 : (2 : Int) ≤ (S : Int) := by omega
  have S3 : (S : Int) < 2000 := by omega
  have fl0 : (flatL T.log)[0]? = some (.int .i64 0) := by rw [HLG.out]; rfl
  have fl1 : (flatL T.log)[2]? = some (.int .i64 1) := by rw [HLG.out]; rfl
  go_upto_region 8 with fail
  generalize hw8 : World.alloc w7 _ = w8
  have hA8 : Below w7.heap.size w7 w8 := by rw [← hw8]; exact (Below.refl _ _).alloc (Nat.le_refl _) _
  have B8 : w8.heap[w7.heap.size]? = some (.cells #[.int .i64 T6, .int .i64 S, .int .i64 T2, .int .i64 T3, .int .i64 T4, .int .i64 T5, .slice (some ⟨gT, 0, none⟩) S vl] 34) := by rw [← hw8]; exact heap_alloc_new w7 _
  have hs8 : w8.heap.size = w7.heap.size + 1 := by rw [← hw8]; simp
  have HO8 := hyd (HO7.out.keptB hA8)
  have HXa8 : Hid (∃ x, XAt w8 L1 Ma x) := ⟨_, HXa.out.choose_spec.up hA8⟩
  have HXb8 : Hid (∃ x, XAt w8 L2 (newP (kern lc false) J2 n fs (wordsP lm)) x) := ⟨_, HXb.out.choose_spec.up hA8⟩
  have HB8 := hyd (HB7.out.trans (hA8.mono HB7.out.size))
  clear hw8 hA8 HO7 HXa HXb HB7
  obtain ⟨⟨q0, q1, q2, q3, q4, q5, q6⟩, -⟩ := seven_cells B8
  have HB8t := hyd B8
  clear B8
  have c0 : w8.cell? ⟨gT, 0, none⟩ = some (.int .i64 0) := (HO8.out.cellAt 0 (by omega)).trans fl0
  have c2 : w8.cell? ⟨gT, 2, none⟩ = some (.int .i64 1) := (HO8.out.cellAt 2 (by omega)).trans fl1
  clear fl0 fl1
  obtain ⟨tB, HtB⟩ : ∃ tB, Hid (w7.heap.size = tB) := ⟨_, rfl⟩
  rw [HtB.out] at q0 q1 q2 q3 q4 q5 q6 HB8t hs8 H67 ⊢
  have Hp := hyd (pick_any u ((S : Int) + 1) (S + 1) (by omega) HU.out (by omega) (by omega))
  have hpk := pickN_lt u (S + 1) (by omega)
  generalize pickN u (S + 1) = z at Hp hpk
  go_wp2_with fail
  refine (Hp.out _).mono ?_
  rintro e w8' ⟨rfl, rfl⟩
  obtain ⟨c, hcz⟩ : ∃ c, 1 + z = c := ⟨_, rfl⟩
  have z1 : (1 : Int) + (z : Int) = (c : Int) := by omega
  have c1 : 1 ≤ c := by omega
  have c3 : c ≤ S + 1 := by omega
  obtain ⟨Mb, U, hU, u1, u2, u3, u4, u5⟩ := HP.out.2.2.2 c c1 (by rw [HS.out]; exact c3)
  rw [HS.out] at u1 u2 u4 u5
  obtain ⟨md, hmd⟩ : ∃ md, min c S = md := ⟨_, rfl⟩
  rw [hmd] at u1 u2
  have md1 : 1 ≤ md := by omega
  have mdS : md ≤ S := by omega
  have HUt := hyd hU
  have HMb := hyd (And.intro u4 u5)
  have ul : U.log.length = md := by rw [u2, List.length_take, HS.out]; omega
  have HUl := hyd u2
  clear hU u4 u5 u2 hpk Hp hcz
  go_wp2_with fail
  refine (turnx_any HXb8.out.choose_spec HO1.out 0 c HUt.out).mono ?_
  rintro e w9 ⟨ua, ucap, rfl, hO9, hX9, hC9, -⟩
  rw [ul] at hO9 ⊢
  rw [u1, u3]
  obtain ⟨gU, hgU⟩ : ∃ g, ua = some ⟨g, 0, none⟩ := by
    rcases hO9.2 with ⟨-, hn⟩ | ⟨g, cap, cur, hv, -⟩
    · omega
    · cases hv; exact ⟨g, rfl⟩
  subst hgU
  obtain ⟨U2, hU2⟩ : ∃ z, U.segs = z := ⟨_, rfl⟩
  obtain ⟨U4, hU4⟩ : ∃ z, U.fpc = z := ⟨_, rfl⟩
  obtain ⟨U5, hU5⟩ : ∃ z, U.fth = z := ⟨_, rfl⟩
  obtain ⟨U6, hU6⟩ : ∃ z, U.warp = z := ⟨_, rfl⟩
  rw [hU2, hU4, hU5, hU6]
  have HU2 := hyd hU2
  clear hU2 hU4 hU5 hU6
  have l2 := HL2.out L2.bX (.inl rfl)
  have l1 := HL1.out.2
  have h67 := H67.out
  have HO9 := hyd hO9
  have HXb9 : Hid (∃ x, XAt w9 L2 Mb x) := hX9
  have HXa9 : Hid (∃ x, XAt w9 L1 Ma x) := ⟨_, HXa8.out.choose_spec.keep fun g hg => hC9.block g (by have := l1 g hg; omega) (fun hm => by
    simp at hm
    have := l1 g hg
    omega)⟩
  have HT9 : Hid (w9.ownsRow w6.heap.size 53 2 (.slice (some ⟨gT, 0, none⟩) S vl) S (flatL T.log)) := by
    refine owns_same HO8.out fun g hg => ?_
    have := HO8.out.lt g hg
    exact hC9.block g this.2 (fun hm => by simp at hm; omega)
  have HB9t : Hid (w9.heap[tB]? = some (.cells #[.int .i64 T6, .int .i64 S, .int .i64 T2, .int .i64 T3, .int .i64 T4, .int .i64 T5, .slice (some ⟨gT, 0, none⟩) S vl] 34)) := (hC9.block tB (by omega) (fun hm => by simp at hm; omega)).trans HB8t.out
  have HB9 : Hid (Below w1.heap.size w1 w9) := HB8.out.trans (hC9.below (fun x hx => by simp at hx; subst hx; have := HL1.out.1; have := l1 L1.bX (.inl rfl); omega) HB8.out.size)
  have s89 := hC9.size
  clear hO9 hX9 hC9 HXa8 HXb8 HO8 HB8t HB8 q0 q1 q2 q3 q4 q5 q6 c0 c2 u1 u3 ul
  dsimp only
  go_upto_region 12 with fail
  generalize hw10 : World.alloc w9 _ = w10
  have hA10 : Below w9.heap.size w9 w10 := by rw [← hw10]; exact (Below.refl _ _).alloc (Nat.le_refl _) _
  have B10 : w10.heap[w9.heap.size]? = some (.cells #[.int .i64 U6, .int .i64 md, .int .i64 U2, .int .i64 0, .int .i64 U4, .int .i64 U5, .slice (some ⟨gU, 0, none⟩) md ucap] 34) := by rw [← hw10]; exact heap_alloc_new w9 _
  have B10t : w10.heap[tB]? = some (.cells #[.int .i64 T6, .int .i64 S, .int .i64 T2, .int .i64 T3, .int .i64 T4, .int .i64 T5, .slice (some ⟨gT, 0, none⟩) S vl] 34) := (hA10.block tB (by omega)).trans HB9t.out
  have HO10 := hyd (HO9.out.keptB hA10)
  have HT10 := hyd (HT9.out.keptB hA10)
  have HXa : Hid (∃ x, XAt w10 L1 Ma x) := ⟨_, HXa9.out.choose_spec.up hA10⟩
  have HXb : Hid (∃ x, XAt w10 L2 Mb x) := ⟨_, HXb9.out.choose_spec.up hA10⟩
  have HB10 := hyd (HB9.out.trans (hA10.mono HB9.out.size))
  have HBt := hyd (And.intro B10 B10t)
  obtain ⟨⟨q0, q1, q2, q3, q4, q5, q6⟩, -⟩ := seven_cells B10t
  obtain ⟨⟨v0, v1, v2, v3, v4, v5, v6⟩, -⟩ := seven_cells B10
  obtain ⟨uB, HuB⟩ : ∃ uB, Hid (w9.heap.size = uB) := ⟨_, rfl⟩
  rw [HuB.out] at v0 v1 v2 v3 v4 v5 v6 HBt ⊢
  have hUB : uB < w10.heap.size := blk_lt (HuB.out ▸ B10)
  have hTB : tB < w10.heap.size := blk_lt B10t
  clear hw10 hA10 B10 B10t HO9 HT9 HXa9 HXb9 HB9 HB9t s89 l2
  have md0 : (1 : Int) ≤ (md : Int) := by omega
  have md2 : (md : Int) ≤ (S : Int) := by omega
  have HRow : Hid (∀ i, i < md → ∃ (pp gg : Int), (flatL T.log)[i * 2]? = some (.int .i64 pp) ∧ (flatL T.log)[i * 2 + 1]? = some (.int .i64 gg) ∧ (flatL U.log)[i * 2]? = some (.int .i64 pp) ∧ (flatL U.log)[i * 2 + 1]? = some (.int .i64 gg)) := by
    intro i hi
    obtain ⟨x, hx⟩ : ∃ x, T.log[i]? = some x := ⟨_, List.getElem?_eq_getElem (by rw [HS.out]; omega)⟩
    have hx2 : U.log[i]? = some x := by rw [HUl.out, List.getElem?_take, if_pos hi]; exact hx
    obtain ⟨a1, a2⟩ := flatL_at hx
    obtain ⟨a3, a4⟩ := flatL_at hx2
    exact ⟨x.1, x.2, a1, a2, a3, a4⟩
  by_cases hcS : c < S
  · have e1 : md = c := by omega
    subst e1
    have cS : (md : Int) < (S : Int) := by omega
    go_wp2_with fail
    go_loopw [22] (fun iv wr => ∃ i : Nat, i ≤ md ∧ iv = .int .i64 i ∧ Hid (Below w10.heap.size w10 wr)) (fun iv _ => md + 1 - (intOf iv).toNat)
    case atStart => exact ⟨0, by omega, rfl, Below.refl _ _⟩
    case round =>
      obtain ⟨i, hi2, rfl, HBr⟩ := hrel
      have i0 : (0 : Int) ≤ (i : Int) := by omega
      have i1 : (i : Int) ≤ (md : Int) := by omega
      by_cases hi : i < md
      · have i3 : (i : Int) < (md : Int) := by omega
        have i4 : (i : Int) < (S : Int) := by omega
        obtain ⟨pp, gg, a1, a2, a3, a4⟩ := HRow.out i hi
        have hT1 := HT10.out.keptB HBr.out
        have hO1 := HO10.out.keptB HBr.out
        have d1 : wr.cell? ⟨gT, i * 2, none⟩ = some (.int .i64 pp) := (hT1.cellAt (i * 2) (by omega)).trans a1
        have d2 : wr.cell? ⟨gT, i * 2 + 1, none⟩ = some (.int .i64 gg) := (hT1.cellAt (i * 2 + 1) (by omega)).trans a2
        have d3 : wr.cell? ⟨gU, i * 2, none⟩ = some (.int .i64 pp) := (hO1.cellAt (i * 2) (by omega)).trans a3
        have d4 : wr.cell? ⟨gU, i * 2 + 1, none⟩ = some (.int .i64 gg) := (hO1.cellAt (i * 2 + 1) (by omega)).trans a4
        have d5 : wr.cell? ⟨tB, 6, none⟩ = some (.slice (some ⟨gT, 0, none⟩) S vl) := (HBr.out.cell (p := ⟨tB, 6, none⟩) hTB).trans q6
        have d6 : wr.cell? ⟨uB, 6, none⟩ = some (.slice (some ⟨gU, 0, none⟩) md ucap) := (HBr.out.cell (p := ⟨uB, 6, none⟩) hUB).trans v6
        clear a1 a2 a3 a4 hT1 hO1
        go_wp2_with fail
        go_quiet (fail)
        generalize hw : World.drewN wr _ = w3'
        have hB : Below wr.heap.size wr w3' := by rw [← hw]; exact ⟨rfl, rfl, rfl, Nat.le_refl _, fun _ _ => rfl⟩
        have HB3 := hyd (HBr.out.trans (hB.mono HBr.out.size))
        clear hw hB
        go_wp2_with fail
        refine ⟨⟨i + 1, by omega, rfl, HB3⟩, ?_⟩
        simp only [intOf]; omega
      · have e : i = md := by omega
        subst e
        have f1 : decide ((i : Int) < (i : Int)) = false := by simp
        have HXar : Hid (∃ x, XAt wr L1 Ma x) := ⟨_, HXa.out.choose_spec.up HBr.out⟩
        have HXbr : Hid (∃ x, XAt wr L2 Mb x) := ⟨_, HXb.out.choose_spec.up HBr.out⟩
        have HBf := hyd (HB10.out.trans (HBr.out.mono HB10.out.size))
        have d7 : wr.cell? ⟨tB, 1, none⟩ = some (.int .i64 S) := (HBr.out.cell (p := ⟨tB, 1, none⟩) hTB).trans q1
        have d8 : wr.cell? ⟨tB, 2, none⟩ = some (.int .i64 T2) := (HBr.out.cell (p := ⟨tB, 2, none⟩) hTB).trans q2
        have d9 : wr.cell? ⟨uB, 2, none⟩ = some (.int .i64 U2) := (HBr.out.cell (p := ⟨uB, 2, none⟩) hUB).trans v2
        clear q0 q1 q2 q3 q4 q5 q6 v0 v1 v2 v3 v4 v5 v6
        go_wp2_with fail
        refine (mstate_any HXbr.out.choose_spec).mono ?_
        rintro e wq ⟨rfl, rfl⟩
        rw [HMb.out.1 hcS]
        have hok2 : PMok Mb := by
          have := turn_ok HO1.out 0 i
          rw [HUt.out] at this
          exact this
        have hT1 : turnP Mb 0 1 = (Mb, Trn.none, 6) := by unfold turnP; rw [if_pos (by rw [HMb.out.1 hcS]; decide)]
        have HOk := hyd hok2
        have HT1 := hyd hT1
        clear hok2 hT1
        go_wp2_with fail
        refine (turnx_any HXbr.out.choose_spec HOk.out 0 1 HT1.out).mono ?_
        rintro e wz ⟨za, zc, rfl, -, -, hCz, -⟩
        have HBz : Hid (Below w1.heap.size w1 wz) := HBf.out.trans (hCz.below (fun x hx => by simp at hx; subst hx; have := HL1.out.1; have := HL1.out.2 L1.bX (.inl rfl); have := (HL2.out L2.bX (.inl rfl)).1; omega) HBf.out.size)
        clear hCz
        dsimp only [Trn.none, List.length_nil]
        go_wp2_with fail
        go_ret
        exact ⟨rfl, HBz.out.alloc HBz.out.size _⟩
  · have e1 : md = S := by omega
    subst e1
    have cS : ¬ (c : Int) < (md : Int) := by omega
    have cS2 : decide ((c : Int) < (md : Int)) = false := by simpa using cS
    go_wp2_with fail
    go_loopw [22] (fun iv wr => ∃ i : Nat, i ≤ md ∧ iv = .int .i64 i ∧ Hid (Below w10.heap.size w10 wr)) (fun iv _ => md + 1 - (intOf iv).toNat)
    case atStart => exact ⟨0, by omega, rfl, Below.refl _ _⟩
    case round =>
      obtain ⟨i, hi2, rfl, HBr⟩ := hrel
      have i0 : (0 : Int) ≤ (i : Int) := by omega
      have i1 : (i : Int) ≤ (md : Int) := by omega
      by_cases hi : i < md
      · have i3 : (i : Int) < (md : Int) := by omega
        have i4 : (i : Int) < (md : Int) := by omega
        obtain ⟨pp, gg, a1, a2, a3, a4⟩ := HRow.out i hi
        have hT1 := HT10.out.keptB HBr.out
        have hO1 := HO10.out.keptB HBr.out
        have d1 : wr.cell? ⟨gT, i * 2, none⟩ = some (.int .i64 pp) := (hT1.cellAt (i * 2) (by omega)).trans a1
        have d2 : wr.cell? ⟨gT, i * 2 + 1, none⟩ = some (.int .i64 gg) := (hT1.cellAt (i * 2 + 1) (by omega)).trans a2
        have d3 : wr.cell? ⟨gU, i * 2, none⟩ = some (.int .i64 pp) := (hO1.cellAt (i * 2) (by omega)).trans a3
        have d4 : wr.cell? ⟨gU, i * 2 + 1, none⟩ = some (.int .i64 gg) := (hO1.cellAt (i * 2 + 1) (by omega)).trans a4
        have d5 : wr.cell? ⟨tB, 6, none⟩ = some (.slice (some ⟨gT, 0, none⟩) md vl) := (HBr.out.cell (p := ⟨tB, 6, none⟩) hTB).trans q6
        have d6 : wr.cell? ⟨uB, 6, none⟩ = some (.slice (some ⟨gU, 0, none⟩) md ucap) := (HBr.out.cell (p := ⟨uB, 6, none⟩) hUB).trans v6
        clear a1 a2 a3 a4 hT1 hO1
        go_wp2_with fail
        go_quiet (fail)
        generalize hw : World.drewN wr _ = w3'
        have hB : Below wr.heap.size wr w3' := by rw [← hw]; exact ⟨rfl, rfl, rfl, Nat.le_refl _, fun _ _ => rfl⟩
        have HB3 := hyd (HBr.out.trans (hB.mono HBr.out.size))
        clear hw hB
        go_wp2_with fail
        refine ⟨⟨i + 1, by omega, rfl, HB3⟩, ?_⟩
        simp only [intOf]; omega
      · have e : i = md := by omega
        subst e
        have f1 : decide ((i : Int) < (i : Int)) = false := by simp
        have HXar : Hid (∃ x, XAt wr L1 Ma x) := ⟨_, HXa.out.choose_spec.up HBr.out⟩
        have HXbr : Hid (∃ x, XAt wr L2 Mb x) := ⟨_, HXb.out.choose_spec.up HBr.out⟩
        have HBf := hyd (HB10.out.trans (HBr.out.mono HB10.out.size))
        have d7 : wr.cell? ⟨tB, 1, none⟩ = some (.int .i64 i) := (HBr.out.cell (p := ⟨tB, 1, none⟩) hTB).trans q1
        have d8 : wr.cell? ⟨tB, 2, none⟩ = some (.int .i64 T2) := (HBr.out.cell (p := ⟨tB, 2, none⟩) hTB).trans q2
        have d9 : wr.cell? ⟨uB, 2, none⟩ = some (.int .i64 U2) := (HBr.out.cell (p := ⟨uB, 2, none⟩) hUB).trans v2
        clear q0 q1 q2 q3 q4 q5 q6 v0 v1 v2 v3 v4 v5 v6
        go_wp2_with fail
        refine (mstate_any HXbr.out.choose_spec).mono ?_
        rintro e wq ⟨rfl, rfl⟩
        obtain ⟨em, es⟩ := HMb.out.2 (by omega)
        rw [em]
        rw [em] at HXbr
        have e2 : U2 = T2 := by rw [← HU2.out, ← HT2.out, es]
        subst e2
        have hok2 : PMok Ma := by
          have := turn_ok HO1.out 0 2000
          rw [HT.out] at this
          exact this
        have HSM := hyd (sameMach_any HXar.out.choose_spec HXbr.out.choose_spec n hn2 HP.out.2.2.1 HP.out.2.2.1 (fun _ _ => rfl) (fun t ht => by
          have hl : t < Ma.ts.length := by rw [HP.out.2.2.1]; exact ht
          rw [List.getD_eq_getElem?_getD, List.getElem?_eq_getElem hl]
          exact hok2.regs _ (List.getElem_mem hl)) rfl hok2.m32)
        clear hok2 em es
        go_wp2_with fail
        refine (mstate_any HXar.out.choose_spec).mono ?_
        rintro e wq2 ⟨rfl, rfl⟩
        go_wp2_with fail
        refine HSM.out.mono ?_
        rintro e wz ⟨rfl, hbz⟩
        have HBz := hyd (HBf.out.trans (hbz.mono HBf.out.size))
        clear hbz
        go_wp2_with fail
        go_ret
        exact ⟨rfl, HBz.out⟩

end Go.Proofs.Ytbhbacphiinpeab
