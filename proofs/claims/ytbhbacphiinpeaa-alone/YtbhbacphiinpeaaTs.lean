/- What loomkeep's Alone answers: true. -/
import Derived.Test.YtbhbacphiinpeaaTr
namespace Go.Proofs.Ytbhbacphiinpeaa
open Go.RowKit

/-- A thread does what it would do alone. -/
theorem alone_plain {l : List Int} {n first : Nat} {mem0 : List Int} {F F' : Nat → Thr × Int} {LG LG' : Nat → List (Int × Int)} {t : Nat} (ht : t < n) (h : Came (kern l false) n first mem0 F LG) (h' : Came (kern l false) 1 (first + t) mem0 F' LG') : wayT t (LG (t / 4)) = wayT 0 (LG' 0) ∧ F t = F' 0 := by
  have p1 := h.path t ht
  have p2 := h'.path 0 (by omega)
  have e : (⟨0, ⟨(((first + t : Nat) : Nat) : Int) + ((0 : Nat) : Int), [0, 0, 0, 0], false⟩, mem0.getD (first + t + 0) 0⟩ : SS) = ⟨0, ⟨((first : Nat) : Int) + (t : Int), [0, 0, 0, 0], false⟩, mem0.getD (first + t) 0⟩ := by
    have e1 : (((first + t : Nat) : Nat) : Int) + ((0 : Nat) : Int) = ((first : Nat) : Int) + (t : Int) := by omega
    rw [e1]; rfl
  rw [e] at p2
  obtain ⟨g1, g2⟩ := p1.det p2 rfl (h.done t ht) (h'.done 0 (by omega)) fun s x hx h0 => sstep_done hx h0
  refine ⟨g1, ?_⟩
  have e1 : (F t).1 = (F' 0).1 := congrArg SS.t g2
  have e2 : (F t).2 = (F' 0).2 := congrArg SS.w g2
  exact Prod.ext e1 e2

set_option maxHeartbeats 8000000 in
set_option maxRecDepth 100000 in
theorem alone_any (HR : RunAny) {w : World} {vc : Value} {lc : List Int} (hc : SeesI w vc lc) (t : Int) (ht : -9223372036854775808 ≤ t ∧ t ≤ 9223372036854775807) (f : Int) (hf : -9223372036854775808 ≤ f ∧ f ≤ 9223372036854775807) {vm : Value} {lm : List Int} (hm : SeesI w vm lm) {vp : Value} {lp : List Int} (hp : SeesI w vp lp) :
    Calls Try.prog 5 #[vc, .int .i64 t, .int .i64 f, vm, vp] w fun e w' => e = .returned (.bool true) ∧ Below w.heap.size w w' := by
  have b1 := pickN_lt t 16 (by omega)
  have b2 := pickN_lt f 16 (by omega)
  have Hc := hyd (crew_any t f ht hf)
  obtain ⟨n, Hn⟩ : ∃ n, Hid (1 + pickN t 16 = n) := ⟨_, rfl⟩
  obtain ⟨fs, Hfs⟩ : ∃ n, Hid (pickN f 16 = n) := ⟨_, rfl⟩
  rw [Hn.out, Hfs.out] at Hc
  have hn1 : 1 ≤ n := by rw [← Hn.out]; omega
  have hn2 : n ≤ 16 := by rw [← Hn.out]; omega
  have hf2 : fs ≤ 15 := by rw [← Hfs.out]; omega
  clear b1 b2 ht hf Hn Hfs
  have HC := hyd hc
  have HM := hyd hm
  have HPk := hyd hp
  clear hc hm hp
  go_enter Try.func5, Try.ntmps5
  go_wp2_with fail
  refine (Hc.out _).mono ?_
  rintro e w1 ⟨rfl, rfl⟩
  go_wp2_with fail
  refine (kernel_any false HC.out).mono ?_
  rintro e w2 ⟨vk, rfl, hok, hb2⟩
  have HK2 : Hid (Sees w2 vk (kern lc false)) := ownsRow_sees (by have := kern_len lc false; omega) hok
  have HB2 := hyd hb2
  have HM2 := hyd (HM.out.up hb2)
  have HPk2 := hyd (HPk.out.up hb2)
  clear hok hb2 HM HPk HC
  go_wp2_with fail
  refine (words_any HM2.out).mono ?_
  rintro e w3 ⟨vw, rfl, hO3, hB3⟩
  obtain ⟨wa0, wc0, rfl⟩ := slice_ofM hO3
  obtain ⟨gw, hgw⟩ : ∃ g, wa0 = some ⟨g, 0, none⟩ := by
    rcases hO3.2 with ⟨-, hn⟩ | ⟨g, cap, cur, hv, -⟩
    · omega
    · cases hv; exact ⟨g, rfl⟩
  subst hgw
  have HO3 := hyd hO3
  have HB23 := hyd hB3
  have HK3 : Hid (Sees w3 vk (kern lc false)) := HK2.out.up hB3
  have HPk3 := hyd (HPk2.out.up hB3)
  have HW3 : Hid (SeesZ w3 (.slice (some ⟨gw, 0, none⟩) 32 wc0) (wordsP lm)) := by
    have := ownsRow_seesZ (l := wordsP lm) (by rw [words_len]; omega) (by rw [words_len]; exact hO3)
    exact this
  clear hO3 hB3 HK2 HPk2 HM2
  go_wp2_with fail
  refine (begun_any HK3.out (kern_chk lc false) HW3.out n fs (by omega) (by omega) (by omega) (by rw [words_len]; omega) (by rw [words_len]; omega)).mono ?_
  rintro e w4 ⟨J, hJ, hok, L1, x1, rfl, hX, hY, hB4⟩
  have HX1 : Hid (∃ x, XAt w4 L1 (newP (kern lc false) J n fs (wordsP lm)) x) := ⟨_, hX⟩
  have HO1 := hyd hok
  have HJ1 := hyd hJ
  have HL1 : Hid (w3.heap.size ≤ L1.bX) := hY.1
  have HB4 := hyd hB4
  clear hX hok hJ hY hB4 x1
  obtain ⟨F, LG, hCm, hgo⟩ := kern_go (n := n) (first := fs) HJ1.out (words_len lm) (by omega) hn1 hn2
  have HCm := hyd hCm
  obtain ⟨m1, R1, g1, g2, g3, g4, g5, g6, g7, g8⟩ := hgo lp
  obtain ⟨c, hc⟩ : ∃ c, (n + 3) / 4 = c := ⟨_, rfl⟩
  rw [hc] at g1 g5 g6
  have c4 : c ≤ 4 := by omega
  have HRun1 := hyd (HR HX1.out.choose_spec HO1.out HPk3.out HB4.out HL1.out n c hc (by omega) g1)
  have HF1 := hyd (And.intro g2 (And.intro g3 (And.intro g4 (And.intro g5 (And.intro g6 (And.intro g7 g8))))))
  clear hgo hCm g1 g2 g3 g4 g5 g6 g7 g8
  have Hcn := hyd hc
  clear hc
  go_wp2_with fail
  refine HRun1.out.mono ?_
  rintro e w5 ⟨_, vs1, ⟨ta, tn, tc, rfl⟩, rfl, hLg, hX7, hok7, hC7⟩
  unfold ranC
  rw [HF1.out.1]
  obtain ⟨r0, hr0⟩ : ∃ z, R1.steps = z := ⟨_, rfl⟩
  obtain ⟨r1, hr1⟩ : ∃ z, R1.last.warp = z := ⟨_, rfl⟩
  obtain ⟨r2, hr2⟩ : ∃ z, R1.last.steps = z := ⟨_, rfl⟩
  obtain ⟨r3, hr3⟩ : ∃ z, R1.last.segs = z := ⟨_, rfl⟩
  obtain ⟨r4, hr4⟩ : ∃ z, R1.last.fault = z := ⟨_, rfl⟩
  obtain ⟨r5, hr5⟩ : ∃ z, R1.last.fpc = z := ⟨_, rfl⟩
  obtain ⟨r6, hr6⟩ : ∃ z, R1.last.fth = z := ⟨_, rfl⟩
  rw [hr0, hr1, hr2, hr3, hr4, hr5, hr6]
  obtain ⟨b6, hb6⟩ : ∃ z, w4.heap.size + 1 = z := ⟨_, rfl⟩
  rw [hb6] at hLg ⊢
  have HLg := hyd hLg
  have HX7 := hyd hX7
  have HC7 := hyd hC7
  clear hX7 hC7 hok7 hLg HRun1 hr0 hr1 hr2 hr3 hr4 hr5 hr6
  dsimp only
  go_wp2_with fail
  generalize hw6 : World.alloc w5 _ = w6
  have hA6 : Below w5.heap.size w5 w6 := by rw [← hw6]; exact (Below.refl _ _).alloc (Nat.le_refl _) _
  have hs6 : w6.heap.size = w5.heap.size + 1 := by rw [← hw6]; simp
  have R6 : w6.heap[w5.heap.size]? = some (.cells #[.slice (some ⟨b6, 0, none⟩) c c, .int .i64 r0, .int .i64 1, .int .i64 r1, .int .i64 r2, .int .i64 r3, .int .i64 r4, .int .i64 r5, .int .i64 r6, .slice ta tn tc] 51) := by rw [← hw6]; exact heap_alloc_new w5 _
  have HX6 : Hid (∃ x, XAt w6 L1 m1 x) := ⟨_, HX7.out.choose_spec.up hA6⟩
  have HB6 : Hid (Below w3.heap.size w3 w6) := by
    have h5 : Below w3.heap.size w3 w5 := HB4.out.trans (HC7.out.below (fun x hx => by simp at hx; subst hx; exact HL1.out) HB4.out.size)
    exact h5.trans (hA6.mono h5.size)
  have HLg6 : Hid (LogsAt w6 b6 (w4.heap.size + 3) c R1.logs vs1) := HLg.out.keep fun g hg => hA6.block g (by
    rcases hg with rfl | ⟨-, h, -⟩
    · exact blk_lt HLg.out.row
    · exact h)
  clear hw6 hA6 HX7 HLg HC7 HX1
  refine (mmem_any HX6.out.choose_spec).mono ?_
  rintro e w7 ⟨va, rfl, hoa, hba⟩
  rw [HF1.out.2.2.1] at hoa
  obtain ⟨aa, ac, rfl⟩ := slice_ofM hoa
  obtain ⟨ga, hga⟩ : ∃ g, aa = some ⟨g, 0, none⟩ := by
    rcases hoa.2 with ⟨-, hn⟩ | ⟨g, cap, cur, hv, -⟩
    · omega
    · cases hv; exact ⟨g, rfl⟩
  subst hga
  have HX8 : Hid (∃ x, XAt w7 L1 m1 x) := ⟨_, HX6.out.choose_spec.up hba⟩
  have HB7 := hyd (HB6.out.trans (hba.mono HB6.out.size))
  have HA7 := hyd hoa
  have HLa : Hid (LogsAt w7 b6 (w4.heap.size + 3) c R1.logs vs1) := HLg6.out.keep fun g hg => hba.block g (by
    rcases hg with rfl | ⟨-, h, -⟩
    · exact blk_lt HLg6.out.row
    · exact h)
  have R7 : w7.heap[w5.heap.size]? = some (.cells #[.slice (some ⟨b6, 0, none⟩) c c, .int .i64 r0, .int .i64 1, .int .i64 r1, .int .i64 r2, .int .i64 r3, .int .i64 r4, .int .i64 r5, .int .i64 r6, .slice ta tn tc] 51) := (hba.block _ (by omega)).trans R6
  obtain ⟨pB, HpB⟩ : ∃ z, Hid (w5.heap.size = z) := ⟨_, rfl⟩
  rw [HpB.out] at R7 ⊢
  obtain ⟨⟨x0, x1, x2, -⟩, -⟩ := ten_cells R7
  have HR7 := hyd R7
  clear hoa hba R6 R7 HX6 HB6 HLg6 hs6
  go_wp2_with fail
  clear x0 x1 x2
  have hLgAt : Hid (∀ i, i < n → R1.logs[i / 4]? = some (LG (i / 4)) ∧ i / 4 < c) := fun i hi => by
    have hic : i / 4 < c := by have := Hcn.out; omega
    refine ⟨?_, hic⟩
    rw [HF1.out.2.2.2.1, List.getElem?_map, List.getElem?_range hic]; rfl
  have hrows : Hid (∀ i, i < n → (LG (i / 4)).length ≤ 40000 ∧ ∀ r ∈ LG (i / 4), 0 ≤ r.2 ∧ r.2 < 16) := fun i hi => HCm.out.rows (i / 4) (by omega)
  go_loopw [19] (fun iv wr => ∃ i : Nat, i ≤ n ∧ iv = .int .i64 i ∧ Hid (Below w7.heap.size w7 wr)) (fun iv _ => n + 1 - (intOf iv).toNat)
  case atStart => exact ⟨0, by omega, rfl, Below.refl _ _⟩
  case round =>
    obtain ⟨i, hi2, rfl, HBr⟩ := hrel
    have i0 : (0 : Int) ≤ (i : Int) := by omega
    have i1 : (i : Int) ≤ (n : Int) := by omega
    have n16 : (n : Int) ≤ 16 := by omega
    have fs0 : (0 : Int) ≤ (fs : Int) := by omega
    have fs15 : (fs : Int) ≤ 15 := by omega
    by_cases hi : i < n
    · have i3 : (i : Int) < (n : Int) := by omega
      have hi16 : i < 16 := by omega
      have hB3r : Below w3.heap.size w3 wr := HB7.out.trans (HBr.out.mono HB7.out.size)
      have HB3r := hyd hB3r
      obtain ⟨fi, Hfi⟩ : ∃ fi, Hid (fs + i = fi) := ⟨_, rfl⟩
      have hfi : (fs : Int) + (i : Int) = (fi : Int) := by have := Hfi.out; omega
      have hfi2 : fi ≤ 30 := by have := Hfi.out; omega
      have HBeg := hyd (begun_any (HK3.out.up hB3r) (kern_chk lc false) (HW3.out.up (Nat.le_refl _) hB3r) 1 fi (by omega) (by omega) (by omega) (by rw [words_len]; omega) (by rw [words_len]; omega))
      clear hB3r
      obtain ⟨F', LG', hCm', hgo'⟩ := kern_go (n := 1) (first := fi) HJ1.out (words_len lm) (by omega) (by omega) (by omega)
      have HAP := hyd (alone_plain hi HCm.out (by rw [Hfi.out]; exact hCm'))
      have HCm' := hyd hCm'
      obtain ⟨m2, R2, o1, o2, o3, o4, o5, o6, o7, o8⟩ := hgo' []
      have HG2 := hyd o1
      have HF2 := hyd (And.intro o2 (And.intro o3 (And.intro o4 (And.intro o5 (And.intro o7 o8)))))
      clear hgo' hCm' o1 o2 o3 o4 o5 o6 o7 o8
      obtain ⟨lg1, hic⟩ := hLgAt.out i hi
      obtain ⟨hl40, hrw⟩ := hrows.out i hi
      have HLA := hyd (And.intro lg1 (And.intro hic (And.intro hl40 hrw)))
      have HLB : Hid (R2.logs[0 / 4]? = some (LG' 0) ∧ 0 / 4 < 1 ∧ (LG' 0).length ≤ 40000 ∧ ∀ r ∈ LG' 0, 0 ≤ r.2 ∧ r.2 < 16) := by
        have hr := HCm'.out.rows 0 (by omega)
        refine ⟨?_, by omega, hr.1, hr.2⟩
        rw [HF2.out.2.2.2.1]; rfl
      clear lg1 hic hl40 hrw
      go_wp2_with fail
      refine HBeg.out.mono ?_
      rintro e wa ⟨J2, hJ2, hok2, L2, x2, rfl, hX2, hY2, hBa⟩
      have eJ : J2 = J := joins_one hJ2 HJ1.out
      subst eJ
      have hB3a : Below w3.heap.size w3 wa := HB3r.out.trans (hBa.mono HB3r.out.size)
      have HRun2 := hyd (HR hX2 hok2 (sees_nil wr) hBa hY2.1 1 1 rfl (by omega) HG2.out)
      have HY2 := hyd hY2
      have HBa := hyd hBa
      clear hB3a hX2 hok2 hJ2 hY2 hBa HBeg
      go_wp2_with fail
      refine HRun2.out.mono ?_
      rintro e wb ⟨_, vs2, ⟨ua, un, uc, rfl⟩, rfl, hLg2, hXb, hokb, hCb⟩
      unfold ranC
      rw [HF2.out.1]
      obtain ⟨q0, hq0⟩ : ∃ z, R2.steps = z := ⟨_, rfl⟩
      obtain ⟨q1, hq1⟩ : ∃ z, R2.last.warp = z := ⟨_, rfl⟩
      obtain ⟨q2, hq2⟩ : ∃ z, R2.last.steps = z := ⟨_, rfl⟩
      obtain ⟨q3, hq3⟩ : ∃ z, R2.last.segs = z := ⟨_, rfl⟩
      obtain ⟨q4, hq4⟩ : ∃ z, R2.last.fault = z := ⟨_, rfl⟩
      obtain ⟨q5, hq5⟩ : ∃ z, R2.last.fpc = z := ⟨_, rfl⟩
      obtain ⟨q6, hq6⟩ : ∃ z, R2.last.fth = z := ⟨_, rfl⟩
      rw [hq0, hq1, hq2, hq3, hq4, hq5, hq6]
      obtain ⟨b8, hb8⟩ : ∃ z, wa.heap.size + 1 = z := ⟨_, rfl⟩
      rw [hb8] at hLg2 ⊢
      have hBrb : Below wr.heap.size wr wb := HBa.out.trans (hCb.below (fun x hx => by simp at hx; subst hx; exact HY2.out.1) HBa.out.size)
      have HBrb := hyd hBrb
      have HLg2 := hyd hLg2
      have HXb := hyd hXb
      clear hLg2 hXb hokb hCb hq0 hq1 hq2 hq3 hq4 hq5 hq6 HRun2 hBrb
      dsimp only
      go_upto_region 18 with fail
      generalize hwc : World.alloc wb _ = wc
      have hAc : Below wb.heap.size wb wc := by rw [← hwc]; exact (Below.refl _ _).alloc (Nat.le_refl _) _
      have Qc : wc.heap[wb.heap.size]? = some (.cells #[.slice (some ⟨b8, 0, none⟩) 1 1, .int .i64 q0, .int .i64 1, .int .i64 q1, .int .i64 q2, .int .i64 q3, .int .i64 q4, .int .i64 q5, .int .i64 q6, .slice ua un uc] 51) := by rw [← hwc]; exact heap_alloc_new wb _
      have HBrc := hyd (HBrb.out.trans (hAc.mono HBrb.out.size))
      have HB7c := hyd (HBr.out.trans (HBrc.out.mono HBr.out.size))
      have Pc := (HB7c.out.block pB (blk_lt HR7.out)).trans HR7.out
      have HXone : Hid (∃ x, XAt wc L2 m2 x) := ⟨_, HXb.out.choose_spec.up hAc⟩
      have HLac : Hid (LogsAt wc b6 (w4.heap.size + 3) c R1.logs vs1) := HLa.out.keep fun g hg => HB7c.out.block g (by
        rcases hg with rfl | ⟨-, h, -⟩
        · exact blk_lt HLa.out.row
        · exact h)
      have HLac2 := hyd HLac.out
      have HLbc : Hid (LogsAt wc b8 (wa.heap.size + 3) 1 R2.logs vs2) := HLg2.out.keep fun g hg => hAc.block g (by
        rcases hg with rfl | ⟨-, h, -⟩
        · exact blk_lt HLg2.out.row
        · exact h)
      obtain ⟨qB, HqB⟩ : ∃ z, Hid (wb.heap.size = z) := ⟨_, rfl⟩
      rw [HqB.out] at Qc ⊢
      have HPQ := hyd (And.intro Pc Qc)
      obtain ⟨⟨x0, x1, x2, x3, x4, x5, x6, x7, x8, x9⟩, -⟩ := ten_cells Pc
      obtain ⟨⟨y0, y1, y2, y3, y4, y5, y6, y7, y8, y9⟩, -⟩ := ten_cells Qc
      clear hwc hAc Pc Qc HLg2 HXb
      go_region_held3 (fun w' => w'.cell? ⟨pB, 0, none⟩ = some (.slice (some ⟨b6, 0, none⟩) c c) ∧ w'.cell? ⟨pB, 1, none⟩ = some (.int .i64 r0) ∧ w'.cell? ⟨pB, 2, none⟩ = some (.int .i64 1) ∧ w'.cell? ⟨pB, 3, none⟩ = some (.int .i64 r1) ∧ w'.cell? ⟨pB, 4, none⟩ = some (.int .i64 r2) ∧ w'.cell? ⟨pB, 5, none⟩ = some (.int .i64 r3) ∧ w'.cell? ⟨pB, 6, none⟩ = some (.int .i64 r4) ∧ w'.cell? ⟨pB, 7, none⟩ = some (.int .i64 r5) ∧ w'.cell? ⟨pB, 8, none⟩ = some (.int .i64 r6) ∧ w'.cell? ⟨pB, 9, none⟩ = some (.slice ta tn tc) ∧ w'.cell? ⟨qB, 0, none⟩ = some (.slice (some ⟨b8, 0, none⟩) 1 1) ∧ w'.cell? ⟨qB, 1, none⟩ = some (.int .i64 q0) ∧ w'.cell? ⟨qB, 2, none⟩ = some (.int .i64 1) ∧ w'.cell? ⟨qB, 3, none⟩ = some (.int .i64 q1) ∧ w'.cell? ⟨qB, 4, none⟩ = some (.int .i64 q2) ∧ w'.cell? ⟨qB, 5, none⟩ = some (.int .i64 q3) ∧ w'.cell? ⟨qB, 6, none⟩ = some (.int .i64 q4) ∧ w'.cell? ⟨qB, 7, none⟩ = some (.int .i64 q5) ∧ w'.cell? ⟨qB, 8, none⟩ = some (.int .i64 q6) ∧ w'.cell? ⟨qB, 9, none⟩ = some (.slice ua un uc)) ((first | exact ⟨x0, x1, x2, x3, x4, x5, x6, x7, x8, x9, y0, y1, y2, y3, y4, y5, y6, y7, y8, y9⟩ | ((try dsimp only); (repeat' apply And.intro) <;> (go_keep; done)))) (first | (go_at_call 23; refine (kway_any (HLac.out.keep (w' := wc.drew) fun _ _ => rfl) r0 1 r1 r2 r3 r4 r5 r6 ta tn tc i HLA.out.2.1 hi16 HLA.out.1 HLA.out.2.2.1 HLA.out.2.2.2).mono ?_; rintro e wd ⟨v1, rfl, ho1, hb1⟩; have HO1w := hyd ho1; have HBd : Hid (Below wc.heap.size wc wd) := (⟨hb1.os, hb1.tape, hb1.output, hb1.size, hb1.block⟩ : Below wc.heap.size wc wd); clear ho1 hb1 HLac x0 x1 x2 x3 x4 x5 x6 x7 x8 x9 y0 y1 y2 y3 y4 y5 y6 y7 y8 y9; have hPx := (HBd.out.block pB (blk_lt HPQ.out.1)).trans HPQ.out.1; have hQx := (HBd.out.block qB (blk_lt HPQ.out.2)).trans HPQ.out.2; obtain ⟨⟨x0, x1, x2, x3, x4, x5, x6, x7, x8, x9⟩, -⟩ := ten_cells hPx; obtain ⟨⟨y0, y1, y2, y3, y4, y5, y6, y7, y8, y9⟩, -⟩ := ten_cells hQx; clear hPx hQx) | (go_at_call 23; refine (kway_any (HLbc.out.keep fun g hg => HBd.out.block g (by rcases hg with rfl | ⟨-, h, -⟩; exact blk_lt HLbc.out.row; exact h)) q0 1 q1 q2 q3 q4 q5 q6 ua un uc 0 HLB.out.2.1 (by omega) HLB.out.1 HLB.out.2.2.1 HLB.out.2.2.2).mono ?_; rintro e we ⟨v2, rfl, ho2, hb2⟩; have HO2w := hyd ho2; have HO1e := hyd (HO1w.out.keptB hb2); have HBe := hyd (HBd.out.trans (hb2.mono HBd.out.size)); clear ho2 hb2 HLbc x0 x1 x2 x3 x4 x5 x6 x7 x8 x9 y0 y1 y2 y3 y4 y5 y6 y7 y8 y9; have hPx := (HBe.out.block pB (blk_lt HPQ.out.1)).trans HPQ.out.1; have hQx := (HBe.out.block qB (blk_lt HPQ.out.2)).trans HPQ.out.2; obtain ⟨⟨x0, x1, x2, x3, x4, x5, x6, x7, x8, x9⟩, -⟩ := ten_cells hPx; obtain ⟨⟨y0, y1, y2, y3, y4, y5, y6, y7, y8, y9⟩, -⟩ := ten_cells hQx; clear hPx hQx) | (go_at_call 22; refine (sameI (ownsRow_seesZ (by have := wayT_len i (LG (i / 4)); have := HLA.out.2.2.1; omega) HO1e.out) (ownsRow_seesZ (by have := wayT_len i (LG (i / 4)); have := HLA.out.2.2.1; omega) (by rw [HAP.out.1]; exact HO2w.out))).mono ?_; rintro e wf ⟨rfl, hb3⟩; have HBf := hyd (HBe.out.trans (hb3.mono HBe.out.size)); clear hb3 x0 x1 x2 x3 x4 x5 x6 x7 x8 x9 y0 y1 y2 y3 y4 y5 y6 y7 y8 y9; have hPx := (HBf.out.block pB (blk_lt HPQ.out.1)).trans HPQ.out.1; have hQx := (HBf.out.block qB (blk_lt HPQ.out.2)).trans HPQ.out.2; obtain ⟨⟨x0, x1, x2, x3, x4, x5, x6, x7, x8, x9⟩, -⟩ := ten_cells hPx; obtain ⟨⟨y0, y1, y2, y3, y4, y5, y6, y7, y8, y9⟩, -⟩ := ten_cells hQx; clear hPx hQx))
      clear y0 y1 y2 y3 y4 y5 y6 y7 y8 y9 HO1w HO2w HO1e HBd HBe x0 x1 x2 x3 x4 x5 x6 x7 x8 x9
      have HB7f := hyd (HB7c.out.trans (HBf.out.mono HB7c.out.size))
      obtain ⟨T, HT⟩ : ∃ T, Hid ((F i).1 = T) := ⟨_, rfl⟩
      obtain ⟨z, HZ⟩ : ∃ z, Hid ((F i).2 = z) := ⟨_, rfl⟩
      have t1 : m1.ts.getD i thr0 = T := by rw [(HF1.out.2.2.2.2.2.1 i hi).1, HT.out]
      have t2 : m2.ts.getD 0 thr0 = T := by rw [(HF2.out.2.2.2.2.1 0 (by omega)).1, ← HAP.out.2, HT.out]
      obtain ⟨u4, u2, u0⟩ := HCm.out.regs i hi
      rw [HT.out] at u4 u2 u0
      rw [HZ.out] at u0
      have td : isDone m1.ts i = true := by unfold isDone; rw [t1, ← HT.out]; exact HCm.out.done i hi
      go_wp2_with fail
      refine (mregs_yes (HX8.out.choose_spec.up HB7f.out) i (by rw [HF1.out.2.1]; exact hi)).mono ?_
      rintro e wg ⟨vx, rfl, hox, hbg⟩
      rw [t1] at hox
      obtain ⟨xa, xc', rfl⟩ := slice_ofM hox
      obtain ⟨gx, hgx⟩ : ∃ g, xa = some ⟨g, 0, none⟩ := by
        rcases hox.2 with ⟨-, hn⟩ | ⟨g, cap, cur, hv, -⟩
        · omega
        · cases hv; exact ⟨g, rfl⟩
      subst hgx
      have HBg := hyd (HBf.out.trans (hbg.mono HBf.out.size))
      have HRx := hyd hox
      clear hox hbg
      go_wp2_with fail
      refine (mregs_yes (HXone.out.choose_spec.up HBg.out) 0 (by rw [HF2.out.2.1]; omega)).mono ?_
      rintro e wh ⟨vy, rfl, hoy, hbh⟩
      rw [t2] at hoy
      have HBh := hyd (HBg.out.trans (hbh.mono HBg.out.size))
      have HRx2 := hyd (HRx.out.keptB hbh)
      have HS1 : Hid (SeesZ wh (.slice (some ⟨gx, 0, none⟩) 4 xc') T.regs) := ownsRow_seesZ (by omega) (by rw [u4]; exact HRx2.out)
      have HS2 : Hid (SeesZ wh vy T.regs) := ownsRow_seesZ (by omega) (by rw [u4]; exact hoy)
      clear hoy hbh HRx
      go_wp2_with fail
      refine (sameI HS1.out HS2.out).mono ?_
      rintro e wi ⟨rfl, hbi⟩
      have HBi := hyd (HBh.out.trans (hbi.mono HBh.out.size))
      have HRx3 := hyd (HRx2.out.keptB hbi)
      have HB7i := hyd (HB7c.out.trans (HBi.out.mono HB7c.out.size))
      clear hbi HRx2 HS1 HS2
      go_wp2_with fail
      refine (mdone_yes (HX8.out.choose_spec.up HB7i.out) i (by rw [HF1.out.2.1]; exact hi)).mono ?_
      rintro e wj ⟨rfl, hbj⟩
      rw [td]
      have HBj := hyd (HBi.out.trans (hbj.mono HBi.out.size))
      have HRx4 := hyd (HRx3.out.keptB hbj)
      clear hbj HRx3
      go_wp2_with fail
      refine (mmem_any (HXone.out.choose_spec.up HBj.out)).mono ?_
      rintro e wk ⟨vw2, rfl, how, hbk⟩
      rw [HF2.out.2.2.1] at how
      obtain ⟨wa2, wc2, rfl⟩ := slice_ofM how
      obtain ⟨gW, hgW⟩ : ∃ g, wa2 = some ⟨g, 0, none⟩ := by
        rcases how.2 with ⟨-, hn⟩ | ⟨g, cap, cur, hv, -⟩
        · omega
        · cases hv; exact ⟨g, rfl⟩
      subst hgW
      have HBk := hyd (HBj.out.trans (hbk.mono HBj.out.size))
      have HRx5 := hyd (HRx4.out.keptB hbk)
      have HRw := hyd how
      have HB7k := hyd (HB7c.out.trans (HBk.out.mono HB7c.out.size))
      clear how hbk HRx4
      have hPk := (HB7k.out.block pB (blk_lt HR7.out)).trans HR7.out
      obtain ⟨⟨x0, x1, x2, x3, x4, x5, x6, x7, x8, x9⟩, -⟩ := ten_cells hPk
      have HLak : Hid (LogsAt wk b6 (w4.heap.size + 3) c R1.logs vs1) := HLa.out.keep fun g hg => HB7k.out.block g (by
        rcases hg with rfl | ⟨-, h, -⟩
        · exact blk_lt HLa.out.row
        · exact h)
      clear hPk
      go_wp2_with fail
      refine (kway_any HLak.out r0 1 r1 r2 r3 r4 r5 r6 ta tn tc i HLA.out.2.1 hi16 HLA.out.1 HLA.out.2.2.1 HLA.out.2.2.2).mono ?_
      rintro e wl' ⟨v3, rfl, ho3, hb3⟩
      have HBl := hyd (HBk.out.trans (hb3.mono HBk.out.size))
      have HRx6 := hyd (HRx5.out.keptB hb3)
      have HRw2 := hyd (HRw.out.keptB hb3)
      have HB7l := hyd (HB7c.out.trans (HBl.out.mono HB7c.out.size))
      have HKl : Hid (Sees wl' vk (kern lc false)) := HK3.out.up (HB7.out.trans (HB7l.out.mono HB7.out.size))
      have HSg : Hid (SeesZ wl' v3 (wayT i (LG (i / 4)))) := ownsRow_seesZ (by have := wayT_len i (LG (i / 4)); have := HLA.out.2.2.1; omega) ho3
      clear ho3 hb3 HLak HRx5 HRw x0 x1 x2 x3 x4 x5 x6 x7 x8 x9
      go_wp2_with fail
      refine (goes_any HKl.out (by have := kern_len lc false; omega) HSg.out (by have := wayT_len i (LG (i / 4)); have := HLA.out.2.2.1; omega) (HCm.out.way hi)).mono ?_
      rintro e wm ⟨rfl, hbm⟩
      have HBm := hyd (HBl.out.trans (hbm.mono HBl.out.size))
      have HB7m := hyd (HB7c.out.trans (HBm.out.mono HB7c.out.size))
      have hRx := HRx6.out.keptB hbm
      have hRw := HRw2.out.keptB hbm
      have hAm := HA7.out.keptB HB7m.out
      have hg2 : ∀ (j : Nat), j < 4 → T.regs[j]? = some (T.regs.getD j 0) := fun j hj => by
        rw [List.getD_eq_getElem?_getD, List.getElem?_eq_getElem (show j < T.regs.length by omega)]; rfl
      have hx0 : wm.cell? ⟨gx, 0, none⟩ = some (.int .i64 z) := by
        rw [hRx.cellAt 0 (by omega)]
        have h5 := hg2 0 (by omega)
        have h6 : T.regs.getD 0 0 = z := u0.symm
        rw [h6] at h5
        exact zVals_at h5
      have hx2 : wm.cell? ⟨gx, 2, none⟩ = some (.int .i64 fi) := by
        rw [hRx.cellAt 2 (by omega)]
        have h5 := hg2 2 (by omega)
        have h6 : T.regs.getD 2 0 = ((fs + i : Nat) : Int) := u2
        rw [h6, Hfi.out] at h5
        exact zVals_at h5
      have hwf : wm.cell? ⟨gW, fi, none⟩ = some (.int .i64 z) := by
        rw [hRw.cellAt fi (by omega)]
        have h6 := (HF2.out.2.2.2.2.1 0 (by omega)).2
        rw [← HAP.out.2, HZ.out, Nat.add_zero] at h6
        have h5 : m2.mem[fi]? = some z := by
          rw [← h6, List.getD_eq_getElem?_getD, List.getElem?_eq_getElem (show fi < m2.mem.length by rw [HF2.out.2.2.1]; omega)]; rfl
        exact zVals_at h5
      have haf : wm.cell? ⟨ga, fi, none⟩ = some (.int .i64 z) := by
        rw [hAm.cellAt fi (by omega)]
        have h6 := (HF1.out.2.2.2.2.2.1 i hi).2
        rw [HZ.out, Hfi.out] at h6
        have h5 : m1.mem[fi]? = some z := by
          rw [← h6, List.getD_eq_getElem?_getD, List.getElem?_eq_getElem (show fi < m1.mem.length by rw [HF1.out.2.2.1]; omega)]; rfl
        exact zVals_at h5
      have f0 : (0 : Int) ≤ (fi : Int) := by omega
      have f30 : (fi : Int) ≤ 30 := by omega
      clear hRx hRw hAm hg2 hbm HRx6 HRw2 u0 u2 u4 t1 t2 td
      go_wp2_with fail
      go_quiet (fail)
      generalize hw : World.drewN wm _ = wn
      have hB : Below wm.heap.size wm wn := by rw [← hw]; exact ⟨rfl, rfl, rfl, Nat.le_refl _, fun _ _ => rfl⟩
      have HB7n := hyd (HB7m.out.trans (hB.mono HB7m.out.size))
      clear hw hB
      go_wp2_with fail
      refine ⟨⟨i + 1, by omega, rfl, HB7n⟩, ?_⟩
      simp only [intOf]; omega
    · have e : i = n := by omega
      subst e
      have c1 : decide ((i : Int) < (i : Int)) = false := by simp
      go_wp2_with fail
      go_loopw [33] (fun av wq => ∃ a : Nat, a ≤ 32 ∧ av = .int .i64 a ∧ Hid (Below w7.heap.size w7 wq)) (fun av _ => 33 - (intOf av).toNat)
      case atStart => exact ⟨0, by omega, rfl, HBr⟩
      case round =>
        obtain ⟨a, ha2, rfl, HBq⟩ := hrel
        have a0 : (0 : Int) ≤ (a : Int) := by omega
        have a1 : (a : Int) ≤ 32 := by omega
        by_cases ha : a < 32
        · have a3 : (a : Int) < 32 := by omega
          obtain ⟨y1, hy1⟩ : ∃ y, (wordsP lm).getD a 0 = y := ⟨_, rfl⟩
          obtain ⟨y2, hy2⟩ : ∃ y, m1.mem.getD a 0 = y := ⟨_, rfl⟩
          have hma : wr.cell? ⟨gw, a, none⟩ = some (.int .i64 y1) := by
            have h3 : Below w3.heap.size w3 wr := HB7.out.trans (HBq.out.mono HB7.out.size)
            rw [(HO3.out.keptB h3).cellAt a (by omega)]
            have h5 : (wordsP lm)[a]? = some y1 := by
              rw [← hy1, List.getD_eq_getElem?_getD, List.getElem?_eq_getElem (show a < (wordsP lm).length by rw [words_len]; omega)]; rfl
            exact zVals_at h5
          have haa : wr.cell? ⟨ga, a, none⟩ = some (.int .i64 y2) := by
            rw [(HA7.out.keptB HBq.out).cellAt a (by omega)]
            have h5 : m1.mem[a]? = some y2 := by
              rw [← hy2, List.getD_eq_getElem?_getD, List.getElem?_eq_getElem (show a < m1.mem.length by rw [HF1.out.2.2.1]; omega)]; rfl
            exact zVals_at h5
          obtain ⟨fn, Hfn⟩ : ∃ fn, Hid (fs + i = fn) := ⟨_, rfl⟩
          have hfn : (fs : Int) + (i : Int) = (fn : Int) := by have := Hfn.out; omega
          have HY := hyd (And.intro hy1 hy2)
          clear hy1 hy2
          by_cases hin : a < fs ∨ fn ≤ a
          · have ey : y2 = y1 := by
              obtain ⟨h1, h2⟩ := HY.out
              rw [← h1, ← h2]
              exact HF1.out.2.2.2.2.2.2 a fun t ht e => by have := Hfn.out; omega
            subst ey
            by_cases hlo : a < fs
            · have z1 : (a : Int) < (fs : Int) := by omega
              clear hin
              go_wp2_with fail
              go_quiet (fail)
              generalize hw : World.drewN wr _ = wn
              have hB : Below wr.heap.size wr wn := by rw [← hw]; exact ⟨rfl, rfl, rfl, Nat.le_refl _, fun _ _ => rfl⟩
              have HB3 := hyd (HBq.out.trans (hB.mono HBq.out.size))
              clear hw hB
              go_wp2_with fail
              refine ⟨⟨a + 1, by omega, rfl, HB3⟩, ?_⟩
              simp only [intOf]; omega
            · have hhi : fn ≤ a := by omega
              have z2 : (fn : Int) ≤ (a : Int) := by omega
              clear hin
              go_wp2_with fail
              go_quiet (fail)
              generalize hw : World.drewN wr _ = wn
              have hB : Below wr.heap.size wr wn := by rw [← hw]; exact ⟨rfl, rfl, rfl, Nat.le_refl _, fun _ _ => rfl⟩
              have HB3 := hyd (HBq.out.trans (hB.mono HBq.out.size))
              clear hw hB
              go_wp2_with fail
              refine ⟨⟨a + 1, by omega, rfl, HB3⟩, ?_⟩
              simp only [intOf]; omega
          · have hlo : ¬ a < fs := by omega
            have hhi : ¬ fn ≤ a := by omega
            clear hin
            go_wp2_with fail
            go_quiet (fail)
            generalize hw : World.drewN wr _ = wn
            have hB : Below wr.heap.size wr wn := by rw [← hw]; exact ⟨rfl, rfl, rfl, Nat.le_refl _, fun _ _ => rfl⟩
            have HB3 := hyd (HBq.out.trans (hB.mono HBq.out.size))
            clear hw hB
            go_wp2_with fail
            refine ⟨⟨a + 1, by omega, rfl, HB3⟩, ?_⟩
            simp only [intOf]; omega
        · have e : a = 32 := by omega
          subst e
          go_wp2_with fail
          go_ret
          have hfin : Below w3.heap.size w3 wr := HB7.out.trans (HBq.out.mono HB7.out.size)
          have hfin2 := HB23.out.trans (hfin.mono HB23.out.size)
          exact ⟨rfl, HB2.out.trans (hfin2.mono HB2.out.size)⟩

end Go.Proofs.Ytbhbacphiinpeaa
