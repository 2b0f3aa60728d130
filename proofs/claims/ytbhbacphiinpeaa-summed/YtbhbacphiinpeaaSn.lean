/- What loomkeep's Summed answers: true. -/
import Derived.Test.YtbhbacphiinpeaaSc0
import Derived.Test.YtbhbacphiinpeaaSv
import Derived.Test.YtbhbacphiinpeaaSd
import Derived.Deep.Cut
namespace Go.Proofs.Ytbhbacphiinpeaa
open Go.RowKit

theorem su_chk : chk kSu = (0, 0) := by decide +kernel
theorem Try.infoI4 : (Try.prog.info? 4).map (fun i => (i.zero, i.size, i.bytes)) = some (some (.bool false), 1, 1) := by kernel_rfl

/-- Which numbers have been got by the first i threads? -/
def gotB (d : Nat → Nat) (i j : Nat) : Bool := (List.range i).any fun t => d t == j
def gotL (d : Nat → Nat) (n i : Nat) : List Value := (List.range n).map fun j => .bool (gotB d i j)
theorem gotL_len (d : Nat → Nat) (n i : Nat) : (gotL d n i).length = n := by simp [gotL]
theorem gotL_at {d : Nat → Nat} {n i j : Nat} (h : j < n) : (gotL d n i)[j]? = some (.bool (gotB d i j)) := by simp [gotL, h]
theorem gotL_zero (d : Nat → Nat) (n : Nat) : (gotL d n 0).toArray = madeCells #[.bool false] n := by
  rw [made_rep]
  congr 1
  apply List.ext_getElem?
  intro j
  by_cases hj : j < n
  · rw [gotL_at hj]; simp [hj, gotB]
  · rw [List.getElem?_eq_none (by rw [gotL_len]; omega), List.getElem?_eq_none (by simp; omega)]
theorem gotL_next {d : Nat → Nat} {n i : Nat} : (gotL d n i).toArray.setIfInBounds (d i) (.bool true) = (gotL d n (i + 1)).toArray := by
  rw [List.setIfInBounds_toArray]
  congr 1
  apply List.ext_getElem?
  intro j
  by_cases hj : j < n
  · rw [gotL_at hj]
    by_cases e : d i = j
    · subst e
      rw [List.getElem?_set_self (by rw [gotL_len]; exact hj)]
      have : gotB d (i + 1) (d i) = true := by unfold gotB; rw [List.any_eq_true]; exact ⟨i, by simp, by simp⟩
      rw [this]
    · rw [List.getElem?_set_ne e, gotL_at hj]
      simp [gotB, List.range_succ, e]
  · rw [List.getElem?_eq_none (by rw [List.length_set, gotL_len]; omega), List.getElem?_eq_none (by rw [gotL_len]; omega)]
theorem gotB_new {d : Nat → Nat} {n i : Nat} (hi : i < n) (h : ∀ t u, t < n → u < n → d t = d u → t = u) : gotB d i (d i) = false := by
  unfold gotB
  rw [List.any_eq_false]
  intro t ht
  rw [List.mem_range] at ht
  simp only [beq_iff_eq]
  intro e
  have := h t i (by omega) hi e
  omega

set_option maxHeartbeats 4000000 in
set_option maxRecDepth 100000 in
theorem summed_any (HR : RunAny) (t : Int) (ht : -9223372036854775808 ≤ t ∧ t ≤ 9223372036854775807) (x0 : Int) (hx0 : -9223372036854775808 ≤ x0 ∧ x0 ≤ 9223372036854775807) {w : World} {vp : Value} {lp : List Int} (hp : SeesI w vp lp) :
    Calls Try.prog 8 #[.int .i64 t, .int .i64 x0, vp] w fun e w' => e = .returned (.bool true) ∧ Below w.heap.size w w' := by
  have b1 := pickN_lt t 16 (by omega)
  have Hc := hyd (crew_any t 0 ht (by omega))
  obtain ⟨n, Hn⟩ : ∃ n, Hid (1 + pickN t 16 = n) := ⟨_, rfl⟩
  rw [Hn.out] at Hc
  have hn1 : 1 ≤ n := by rw [← Hn.out]; omega
  have hn2 : n ≤ 16 := by rw [← Hn.out]; omega
  clear b1 ht Hn
  have n1 : (1 : Int) ≤ (n : Int) := by omega
  have n2 : (n : Int) ≤ 16 := by omega
  have HP := hyd hp
  have HX0 := hyd hx0
  clear hp hx0
  have hmk := run_make_row' (P := Try.prog) 66 4 (.bool false) 1 Try.underlying66 Try.infoI4 rfl .i64 .i64 n (by omega) (by omega)
  have Hmk := hyd hmk
  clear hmk
  go_enter Try.func8, Try.ntmps8
  go_wp2_with fail
  refine (Hc.out _).mono ?_
  rintro e w1 ⟨rfl, rfl⟩
  go_upto_region 3 with fail
  generalize hw3 : World.alloc w1 _ = w3
  have HK : Hid (Sees w3 (.slice (some ⟨w1.heap.size, 0, none⟩) 3 3) kSu) := by unfold Hid; rw [← hw3]; exact lit_sees (heap_alloc_new w1 _) rfl (by omega)
  have HB3 : Hid (Below w1.heap.size w1 w3) := by unfold Hid; rw [← hw3]; exact (Below.refl _ _).alloc (Nat.le_refl _) _
  clear hw3
  have hA : Below w3.heap.size w3 (w3.alloc (.cells #[.int .i64 x0] 3)) := (Below.refl _ _).alloc (Nat.le_refl _) _
  have HBeg : Hid (Calls Try.prog 19 #[.slice (some ⟨w1.heap.size, 0, none⟩) 3 3, .int .i64 n, .int .i64 0, .slice (some ⟨w3.heap.size, 0, none⟩) 1 1] (w3.alloc (.cells #[.int .i64 x0] 3)) fun e w' => ∃ J, JoinsAre kSu J ∧ PMok (newP kSu J n 0 [x0]) ∧ BegAns (w3.alloc (.cells #[.int .i64 x0] 3)) (newP kSu J n 0 [x0]) e w') :=
    begun_any (HK.out.up hA) su_chk (news_seesZ (heap_alloc_new w3 _) 1) n 0 (by omega) (by omega) (by omega) (by simp) (by simp)
  have HB4 : Hid (Below w1.heap.size w1 (w3.alloc (.cells #[.int .i64 x0] 3))) := HB3.out.trans (hA.mono HB3.out.size)
  clear hA HK
  go_wp2_with fail
  refine HBeg.out.mono ?_
  rintro e w5 ⟨J, -, hok, L, x, rfl, hX, hY, hB5⟩
  have hxw : W64 x0 = x0 := by unfold W64 wrap64; have := HX0.out; omega
  obtain ⟨m', R, hG, f1, f2, f3, d, f4, f5, f6⟩ := su_go J n hn1 hn2 x0 hxw lp
  have hs4 := HB4.out.size
  obtain ⟨c, hc⟩ : ∃ c, (n + 3) / 4 = c := ⟨_, rfl⟩
  rw [hc] at hG
  have HRun := hyd (HR hX hok HP.out (HB4.out.trans (hB5.mono hs4)) (by omega) n c hc (by omega) hG)
  have HF := hyd (And.intro f1 (And.intro f2 (And.intro f3 (And.intro f4 (And.intro f5 f6)))))
  have HB5 := hyd (And.intro (HB4.out.trans (hB5.mono hs4)) (Nat.le_trans hs4 hY.1))
  clear HBeg hok hX hY hB5 hG f1 f2 f3 f4 f5 f6 HB3 HB4 hxw
  go_wp2_with fail
  refine HRun.out.mono ?_
  rintro e w6 ⟨_, vs, ⟨ta, tn, tc, rfl⟩, rfl, -, hX6, hok6, hC6⟩
  unfold ranC
  rw [HF.out.1]
  obtain ⟨r0, hr0⟩ : ∃ z, R.steps = z := ⟨_, rfl⟩
  obtain ⟨r1, hr1⟩ : ∃ z, R.last.warp = z := ⟨_, rfl⟩
  obtain ⟨r2, hr2⟩ : ∃ z, R.last.steps = z := ⟨_, rfl⟩
  obtain ⟨r3, hr3⟩ : ∃ z, R.last.segs = z := ⟨_, rfl⟩
  obtain ⟨r4, hr4⟩ : ∃ z, R.last.fault = z := ⟨_, rfl⟩
  obtain ⟨r5, hr5⟩ : ∃ z, R.last.fpc = z := ⟨_, rfl⟩
  obtain ⟨r6, hr6⟩ : ∃ z, R.last.fth = z := ⟨_, rfl⟩
  rw [hr0, hr1, hr2, hr3, hr4, hr5, hr6]
  obtain ⟨b6, hb6⟩ : ∃ z, w5.heap.size + 1 = z := ⟨_, rfl⟩
  rw [hb6]
  have HX6 := hyd hX6
  have HC6 := hyd hC6
  clear hX6 hC6 hok6 HRun hr0 hr1 hr2 hr3 hr4 hr5 hr6 hb6 hc
  dsimp only
  go_wp2_with fail
  generalize hw7 : World.alloc w6 _ = w7
  have hA7 : Below w6.heap.size w6 w7 := by rw [← hw7]; exact (Below.refl _ _).alloc (Nat.le_refl _) _
  have hs7 : w7.heap.size = w6.heap.size + 1 := by rw [← hw7]; simp
  have R7 : w7.heap[w6.heap.size]? = some (.cells #[.slice (some ⟨b6, 0, none⟩) c c, .int .i64 r0, .int .i64 1, .int .i64 r1, .int .i64 r2, .int .i64 r3, .int .i64 r4, .int .i64 r5, .int .i64 r6, .slice ta tn tc] 51) := by rw [← hw7]; exact heap_alloc_new w6 _
  have HX7 : Hid (∃ x, XAt w7 L m' x) := ⟨_, HX6.out.choose_spec.up hA7⟩
  have HB7 : Hid (Below w1.heap.size w1 w7) := by
    have h6 : Below w1.heap.size w1 w6 := HB5.out.1.trans (HC6.out.below (fun x hx => by simp at hx; subst hx; exact HB5.out.2) HB5.out.1.size)
    exact h6.trans (hA7.mono h6.size)
  clear hw7 hA7 HX6 HC6
  refine (mmem_any HX7.out.choose_spec).mono ?_
  rintro e w8 ⟨va, rfl, hoa, hba⟩
  rw [HF.out.2.1] at hoa
  obtain ⟨aa, ac, rfl⟩ := slice_ofM hoa
  have HX8 : Hid (∃ x, XAt w8 L m' x) := ⟨_, HX7.out.choose_spec.up hba⟩
  have HB8 := hyd (HB7.out.trans (hba.mono HB7.out.size))
  have R8 : w8.heap[w6.heap.size]? = some (.cells #[.slice (some ⟨b6, 0, none⟩) c c, .int .i64 r0, .int .i64 1, .int .i64 r1, .int .i64 r2, .int .i64 r3, .int .i64 r4, .int .i64 r5, .int .i64 r6, .slice ta tn tc] 51) := (hba.block _ (by omega)).trans R7
  obtain ⟨⟨k0, k1, k2, -⟩, -⟩ := ten_cells R8
  obtain ⟨ga, hga⟩ : ∃ g, aa = some ⟨g, 0, none⟩ := by
    rcases hoa.2 with ⟨-, hn⟩ | ⟨g, cap, cur, hv, -⟩
    · simp at hn
    · cases hv; exact ⟨g, rfl⟩
  subst hga
  have ha0 : w8.cell? ⟨ga, 0, none⟩ = some (.int .i64 (wrap64 (x0 + (n : Int)))) := by
    rw [hoa.cellAt 0 (by simp)]; rfl
  clear hoa hba R7 R8 HX7 HB7 hs7
  have hmk := Hmk.out
  simp only [List.length_singleton]
  go_wp2_with fail
  clear hmk
  go_loopw [15, 16] (fun bv iv wr => ∃ i : Nat, i ≤ n ∧ iv = .int .i64 i ∧ (∃ bb : Nat, bv = .int .i64 bb ∧ bb ≤ 16 ∧ Hid (0 < i → bb = d (i - 1))) ∧ Hid (Below w8.heap.size w8 wr) ∧ Hid (wr.heap[w8.heap.size]? = some (.cells (gotL d n i).toArray 4))) (fun _ iv _ => n + 1 - (intOf iv).toNat)
  case atStart => exact ⟨0, by omega, rfl, ⟨0, rfl, by omega, fun h => by omega⟩, ((Below.refl _ _).alloc (Nat.le_refl _) _ : Below _ _ _), by unfold Hid; rw [gotL_zero]; exact heap_alloc_new w8 _⟩
  case round =>
    obtain ⟨i, hi2, rfl, ⟨bb, rfl, hbb, Hbb⟩, HBr, HG⟩ := hrel
    have i0 : (0 : Int) ≤ (i : Int) := by omega
    have i1 : (i : Int) ≤ (n : Int) := by omega
    by_cases hi : i < n
    · have i3 : (i : Int) < (n : Int) := by omega
      have hl : i < m'.ts.length := by rw [HF.out.2.2.1]; exact hi
      obtain ⟨hdn, hth⟩ := HF.out.2.2.2.1 i hi
      obtain ⟨y, hy⟩ : ∃ y, W64 (x0 + (d i : Int)) = y := ⟨_, rfl⟩
      have hge : m'.ts.getD i thr0 = ⟨(i : Int), [0, y, 0, 0], true⟩ := by rw [List.getD_eq_getElem?_getD, hth, ← hy]; rfl
      have hyd2 : wrap64 (y - x0) = (d i : Int) := by rw [← hy]; unfold W64 wrap64; omega
      go_wp2_with fail
      refine (mregs_yes (HX8.out.choose_spec.up HBr.out) i hl).mono ?_
      rintro e wb ⟨vr, rfl, hor, hb2⟩
      rw [hge] at hor
      obtain ⟨ra, rc, rfl⟩ := slice_ofM hor
      obtain ⟨g, hg⟩ : ∃ g, ra = some ⟨g, 0, none⟩ := by
        rcases hor.2 with ⟨-, hn⟩ | ⟨g, cap, cur, hv, -⟩
        · omega
        · cases hv; exact ⟨g, rfl⟩
      subst hg
      have hx1 : wb.cell? ⟨g, 1, none⟩ = some (.int .i64 y) := by rw [hor.cellAt 1 (by omega)]; rfl
      have HBb := hyd (HBr.out.trans (hb2.mono HBr.out.size))
      have HGb : Hid (wb.heap[w8.heap.size]? = some (.cells (gotL d n i).toArray 4)) := (hb2.block _ (blk_lt HG.out)).trans HG.out
      have hgd : wb.cell? ⟨w8.heap.size, d i, none⟩ = some (.bool false) := by
        rw [cell_of_row wb _ _ _ 4 _ HGb.out, List.getElem?_toArray, gotL_at hdn, gotB_new hi HF.out.2.2.2.2.1]
      have hgf : wb.frozen? ⟨w8.heap.size, d i, none⟩ = false := frozen_of_row wb _ _ _ 4 HGb.out
      obtain ⟨im, him⟩ : ∃ z, i % 4 = z := ⟨_, rfl⟩
      have m1 : Int.tmod (i : Int) 4 = (im : Int) := by rw [Int.tmod_eq_emod_of_nonneg (by omega)]; omega
      have m2 : (i : Int) % 4 = (im : Int) := by omega
      have HN : Hid ((wb.setCell ⟨w8.heap.size, d i, none⟩ (.bool true)).heap[w8.heap.size]? = some (.cells (gotL d n (i + 1)).toArray 4)) := by
        unfold Hid
        rw [heap_setCell_same wb _ _ _ 4 _ HGb.out, gotL_next]
      have HBn : Hid (Below w8.heap.size w8 (wb.setCell ⟨w8.heap.size, d i, none⟩ (.bool true))) := HBb.out.trans ((Below.refl _ _).setCell (p := ⟨w8.heap.size, d i, none⟩) (by show w8.heap.size ≤ w8.heap.size; omega) _)
      have Hnx : Hid (0 < im → bb + 1 = d i) := fun h => by
        have h1 := Hbb.out (by omega)
        have h2 := HF.out.2.2.2.2.2 (i - 1) (by omega) (by omega)
        rw [show i - 1 + 1 = i by omega] at h2
        omega
      obtain ⟨dd, hdd⟩ : ∃ z, d i = z := ⟨_, rfl⟩
      rw [hdd] at hgd hgf hyd2 hdn HN HBn Hnx
      have HDD := hyd hdd
      have HIM := hyd him
      clear hdd him hor hb2 hth hge hy HGb HG
      have dd1 : (dd : Int) < (n : Int) := by omega
      have dd0 : (0 : Int) ≤ (dd : Int) := by omega
      by_cases hm : 0 < im
      · have e1 : (bb : Int) + 1 = (dd : Int) := by have := Hnx.out hm; omega
        have e2 : (0 : Int) < (im : Int) := by omega
        go_wp2_with fail
        refine ⟨⟨i + 1, by omega, rfl, ⟨dd, by rw [hyd2], by omega, fun _ => by rw [Nat.add_sub_cancel]; exact HDD.out.symm⟩, HBn, HN⟩, ?_⟩
        simp only [intOf]; omega
      · have e1 : im = 0 := by omega
        subst e1
        go_wp2_with fail
        refine ⟨⟨i + 1, by omega, rfl, ⟨dd, by rw [hyd2], by omega, fun _ => by rw [Nat.add_sub_cancel]; exact HDD.out.symm⟩, HBn, HN⟩, ?_⟩
        simp only [intOf]; omega
    · have e : i = n := by omega
      subst e
      have c1 : decide ((i : Int) < (i : Int)) = false := by simp
      go_wp2_with fail
      go_ret
      exact ⟨rfl, HB8.out.trans (HBr.out.mono HB8.out.size)⟩

end Go.Proofs.Ytbhbacphiinpeaa
