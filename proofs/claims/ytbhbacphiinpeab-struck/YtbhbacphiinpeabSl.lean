/- What loomkeep's Struck answers: true. -/
import Derived.Test.YtbhbacphiinpeabSk
import Derived.Test.YtbhbacphiinpeabSd
namespace Go.Proofs.Ytbhbacphiinpeab
open Go.RowKit

theorem news_seesZ {w : World} {b : Nat} {x : Int} (h : w.heap[b]? = some (.cells #[.int .i64 x] 3)) (cap : Nat) : SeesZ w (.slice (some ⟨b, 0, none⟩) 1 cap) [x] := by
  refine ⟨by simp, .inr ⟨b, 0, cap, rfl, blk_lt h, fun i y hy => ?_⟩⟩
  have : i = 0 := by have := (List.getElem?_eq_some_iff.1 hy).1; simp at this; omega
  subst this
  simp at hy
  subst hy
  rw [cell_of_row w b _ _ 3 _ h]
  rfl

set_option maxHeartbeats 4000000 in
set_option maxRecDepth 100000 in
theorem struck_any (HR : RunAny) (t : Int) (ht : -9223372036854775808 ≤ t ∧ t ≤ 9223372036854775807) (u : Int) (hu : -9223372036854775808 ≤ u ∧ u ≤ 9223372036854775807) (w : World) :
    Calls Try.prog 5 #[.int .i64 t, .int .i64 u] w fun e w' => e = .returned (.bool true) ∧ Below w.heap.size w w' := by
  have b1 := pickN_lt t 16 (by omega)
  have Hc := hyd (crew_any t 0 ht (by omega))
  obtain ⟨n, Hn⟩ : ∃ n, Hid (1 + pickN t 16 = n) := ⟨_, rfl⟩
  rw [Hn.out] at Hc
  have hn1 : 1 ≤ n := by rw [← Hn.out]; omega
  have hn2 : n ≤ 16 := by rw [← Hn.out]; omega
  have b2 := pickN_lt u n (by omega)
  have Hp := hyd (pick_any u n n rfl hu (by omega) (by omega))
  generalize pickN u n = v at b2 Hp
  clear b1 ht hu Hn
  have n1 : (1 : Int) ≤ (n : Int) := by omega
  have n2 : (n : Int) ≤ 16 := by omega
  have v0 : (0 : Int) ≤ (v : Int) := by omega
  have v1 : (v : Int) < (n : Int) := by omega
  go_enter Try.func5, Try.ntmps5
  go_wp2_with fail
  refine (Hc.out _).mono ?_
  rintro e w1 ⟨rfl, rfl⟩
  go_wp2_with fail
  refine (Hp.out _).mono ?_
  rintro e w2 ⟨rfl, rfl⟩
  go_upto_region 4 with fail
  generalize hw3 : World.alloc w2 _ = w3
  have HK : Hid (Sees w3 (.slice (some ⟨w2.heap.size, 0, none⟩) 6 6) (kSt v)) := by unfold Hid; rw [← hw3]; exact lit_sees (heap_alloc_new w2 _) rfl (by omega)
  have HB3 : Hid (Below w2.heap.size w2 w3) := by unfold Hid; rw [← hw3]; exact (Below.refl _ _).alloc (Nat.le_refl _) _
  clear hw3
  have hA : Below w3.heap.size w3 (w3.alloc (.cells #[.int .i64 5] 3)) := (Below.refl _ _).alloc (Nat.le_refl _) _
  have HBeg : Hid (Calls Try.prog 9 #[.slice (some ⟨w2.heap.size, 0, none⟩) 6 6, .int .i64 n, .int .i64 0, .slice (some ⟨w3.heap.size, 0, none⟩) 1 1] (w3.alloc (.cells #[.int .i64 5] 3)) fun e w' => ∃ J, JoinsAre (kSt v) J ∧ PMok (newP (kSt v) J n 0 [5]) ∧ BegAns (w3.alloc (.cells #[.int .i64 5] 3)) (newP (kSt v) J n 0 [5]) e w') :=
    begun_any (HK.out.up hA) (st_chk v (by omega)) (news_seesZ (heap_alloc_new w3 _) 1) n 0 (by omega) (by omega) (by omega) (by simp) (by simp)
  have HB4 : Hid (Below w2.heap.size w2 (w3.alloc (.cells #[.int .i64 5] 3))) := HB3.out.trans (hA.mono HB3.out.size)
  clear hA HK
  go_wp2_with fail
  refine HBeg.out.mono ?_
  rintro e w5 ⟨J, -, hok, L, x, rfl, hX, hY, hB5⟩
  obtain ⟨m', R, hG, f1, f2, f3, f4, f5, f6, f7, f8⟩ := st_go J (show n < 17 by omega) b2
  have hs4 := HB4.out.size
  obtain ⟨c, hc⟩ : ∃ c, (n + 3) / 4 = c := ⟨_, rfl⟩
  rw [hc] at hG
  have HRun := hyd (HR hX hok (sees_nil w2) (HB4.out.trans (hB5.mono hs4)) (by omega) n c hc (by omega) hG)
  have HF := hyd (And.intro f1 (And.intro f2 (And.intro f3 (And.intro f4 (And.intro f5 (And.intro f6 (And.intro f7 f8)))))))
  have HB5 := hyd (And.intro (HB4.out.trans (hB5.mono hs4)) hY)
  clear HBeg hok hX hY hB5 hG f1 f2 f3 f4 f5 f6 f7 f8 HB3 HB4
  go_wp2_with fail
  refine HRun.out.mono ?_
  rintro e w6 ⟨_, vs, ⟨ta, tn, tc, rfl⟩, rfl, -, hX6, hok6, hC6⟩
  obtain ⟨f1, f2, f3, f4, f5, f6, f7, f8⟩ := HF.out
  unfold ranC
  rw [f1, f2, f3, f4, f5, f6]
  obtain ⟨rs, hrs⟩ : ∃ z, R.steps = z := ⟨_, rfl⟩
  obtain ⟨rg, hrg⟩ : ∃ z, R.last.segs = z := ⟨_, rfl⟩
  rw [hrs, hrg]
  obtain ⟨b6, hb6⟩ : ∃ z, w5.heap.size + 1 = z := ⟨_, rfl⟩
  rw [hb6]
  have HX6 := hyd hX6
  have HC6 := hyd hC6
  have HO6 := hyd hok6
  clear hX6 hC6 hok6 HRun f1 f2 f3 f4 f5 f6 f7 f8 hrs hrg hb6 hc
  obtain ⟨vq, hvq⟩ : ∃ z, v / 4 = z := ⟨_, rfl⟩
  rw [hvq]
  have e1 : Int.tdiv (v : Int) 4 = (vq : Int) := by rw [Int.tdiv_eq_ediv_of_nonneg (by omega)]; omega
  have e2 : (v : Int) / 4 = (vq : Int) := by omega
  dsimp only
  go_wp2_with fail
  generalize hw8 : World.alloc (World.alloc w6 _) _ = w8
  have hA8 : Below w6.heap.size w6 w8 := by rw [← hw8]; exact ((Below.refl _ _).alloc (Nat.le_refl _) _).alloc (by simp) _
  have HX8 : Hid (∃ x, XAt w8 L m' x) := ⟨_, HX6.out.choose_spec.up hA8⟩
  have HC8 : Hid (Chg [L.bX] w5 w8) := HC6.out.trans (Chg.of_below hA8)
  clear hw8 hA8 HX6 HC6
  have hT : turnP m' 0 1 = (m', Trn.none, 6) := by unfold turnP; rw [if_pos (by rw [HF.out.1]; decide)]
  refine (turnx_any HX8.out.choose_spec HO6.out 0 1 hT).mono ?_
  rintro e w9 ⟨va, vc, rfl, -, hX9, hC9, -⟩
  have HX9 := hyd hX9
  have HC9 : Hid (Chg [L.bX] w5 w9) := HC8.out.trans hC9
  clear hX9 hC9 HX8 HC8 hT
  dsimp only [Trn.none, List.length_nil]
  go_wp2_with fail
  have HB9 : Hid (Below w2.heap.size w2 w9) := HB5.out.1.trans (HC9.out.below (fun x hx => by simp at hx; subst hx; have := HB5.out.2.1; have := hs4; omega) HB5.out.1.size)
  clear HC9 HB5
  go_loopw [15] (fun iv wr => ∃ i : Nat, i ≤ n ∧ iv = .int .i64 i ∧ Hid (Below w9.heap.size w9 wr)) (fun iv _ => n + 1 - (intOf iv).toNat)
  case atStart => exact ⟨0, by omega, rfl, ((Below.refl _ _).alloc (Nat.le_refl _) _ : Below _ _ _)⟩
  case round =>
    obtain ⟨i, hi2, rfl, HBr⟩ := hrel
    have i0 : (0 : Int) ≤ (i : Int) := by omega
    have i1 : (i : Int) ≤ (n : Int) := by omega
    by_cases hi : i < n
    · have i3 : (i : Int) < (n : Int) := by omega
      have hl : i < m'.ts.length := by rw [HF.out.2.2.2.2.2.2.1]; exact hi
      obtain ⟨g1, g2, g3⟩ := HF.out.2.2.2.2.2.2.2 i hi
      have HG := hyd (And.intro g1 (And.intro g2 g3))
      clear g1 g2 g3
      go_wp2_with fail
      refine (mregs_yes (HX9.out.choose_spec.up HBr.out) i hl).mono ?_
      rintro e wa ⟨vr, rfl, hor, hba⟩
      obtain ⟨ra, rc, rfl⟩ := slice_ofM hor
      obtain ⟨g, hg⟩ : ∃ g, ra = some ⟨g, 0, none⟩ := by
        rcases hor.2 with ⟨-, hn⟩ | ⟨g, cap, cur, hv, -⟩
        · omega
        · cases hv; exact ⟨g, rfl⟩
      subst hg
      have HOr := hyd hor
      have HBa := hyd (HBr.out.trans (hba.mono HBr.out.size))
      clear hor hba
      go_wp2_with fail
      refine (mdone_yes (HX9.out.choose_spec.up HBa.out) i hl).mono ?_
      rintro e wb ⟨rfl, hbb⟩
      have HBb := hyd (HBa.out.trans (hbb.mono HBa.out.size))
      have HOb := hyd (HOr.out.keptB hbb)
      clear hbb HOr
      have hx2 : wb.cell? ⟨g, 2, none⟩ = some (.int .i64 (wantS v i)) := by
        rw [HOb.out.cellAt 2 (by omega), ← HG.out.1]
        have h4 := HG.out.2.2
        have h5 : (m'.ts.getD i thr0).regs[2]? = some ((m'.ts.getD i thr0).regs.getD 2 0) := by
          generalize (m'.ts.getD i thr0).regs = l at h4 ⊢
          rw [List.getD_eq_getElem?_getD, List.getElem?_eq_getElem (show 2 < l.length by omega)]; rfl
        exact zVals_at h5
      have HE : Hid (Below w2.heap.size w2 wb) := HB9.out.trans (HBb.out.mono HB9.out.size)
      obtain ⟨iq, hiq⟩ : ∃ z, i / 4 = z := ⟨_, rfl⟩
      have e3 : Int.tdiv (i : Int) 4 = (iq : Int) := by rw [Int.tdiv_eq_ediv_of_nonneg (by omega)]; omega
      have e4 : (i : Int) / 4 = (iq : Int) := by omega
      have HD := hyd HG.out.2.1
      clear HOb
      obtain ⟨z, hz⟩ : ∃ z, wantS v i = z := ⟨_, rfl⟩
      rw [hz] at hx2
      have HZ := hyd hz
      clear hz
      by_cases hiv : i < v
      · have c1 : (i : Int) < (v : Int) := by omega
        have hd0 : (i : Int) - (v : Int) ≠ 0 := by omega
        have hz2 : Int.tdiv 77 ((i : Int) - (v : Int)) = z := by rw [← HZ.out]; unfold wantS; rw [if_pos hiv]
        obtain ⟨z1, z2⟩ : -77 ≤ z ∧ z ≤ 77 := by
          have h1 := Int.natAbs_tdiv 77 ((i : Int) - (v : Int))
          rw [hz2] at h1
          have h2 : z.natAbs ≤ 77 := by rw [h1]; exact Nat.div_le_self _ _
          omega
        by_cases hq : iq < vq
        · have e5 : isDone m'.ts i = true := by rw [HD.out, hiq, hvq]; simpa using hq
          rw [e5]
          clear hiv hiq hvq e5
          go_wp2_with fail
          refine ⟨⟨i + 1, by omega, rfl, HBb⟩, ?_⟩
          simp only [intOf]; omega
        · have e5 : isDone m'.ts i = false := by rw [HD.out, hiq, hvq]; simpa using hq
          rw [e5]
          clear hiv hiq hvq e5
          go_wp2_with fail
          refine ⟨⟨i + 1, by omega, rfl, HBb⟩, ?_⟩
          simp only [intOf]; omega
      · have c1 : decide ((i : Int) < (v : Int)) = false := by simp; omega
        have hq : ¬ iq < vq := by omega
        have e5 : isDone m'.ts i = false := by rw [HD.out, hiq, hvq]; simpa using hq
        rw [e5]
        by_cases hq2 : vq < iq
        · have hz2 : z = 0 := by rw [← HZ.out]; unfold wantS; rw [if_neg hiv, if_pos (by omega)]
          subst hz2
          clear hiq hvq e5
          go_wp2_with fail
          refine ⟨⟨i + 1, by omega, rfl, HBb⟩, ?_⟩
          simp only [intOf]; omega
        · have hz2 : z = 77 := by rw [← HZ.out]; unfold wantS; rw [if_neg hiv, if_neg (by omega)]
          subst hz2
          clear hiq hvq e5
          go_wp2_with fail
          refine ⟨⟨i + 1, by omega, rfl, HBb⟩, ?_⟩
          simp only [intOf]; omega
    · have e : i = n := by omega
      subst e
      have c1 : decide ((i : Int) < (i : Int)) = false := by simp
      go_wp2_with fail
      go_ret
      exact ⟨rfl, HB9.out.trans (HBr.out.mono HB9.out.size)⟩

end Go.Proofs.Ytbhbacphiinpeab
