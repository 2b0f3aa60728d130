/- What loomkeep's Ordered answers: true. -/
import Derived.Test.YtbhbacphiinpeaaTp
namespace Go.Proofs.Ytbhbacphiinpeaa
open Go.RowKit

theorem Came.way {l : List Int} {n first : Nat} {mem0 : List Int} {F : Nat → Thr × Int} {LG : Nat → List (Int × Int)} (h : Came (kern l false) n first mem0 F LG) {t : Nat} (ht : t < n) : WayOk (kern l false) (wayT t (LG (t / 4))) := by
  obtain ⟨ls, le, hk⟩ := kk l false
  exact (h.path t ht).wayOk hk rfl rfl (h.done t ht)

theorem wayT_len (t : Nat) (rows : List (Int × Int)) : (wayT t rows).length ≤ rows.length := by
  unfold wayT
  rw [List.length_map]
  exact List.length_filter_le _ _

theorem Came.pos {l : List Int} {n first : Nat} {mem0 : List Int} {F : Nat → Thr × Int} {LG : Nat → List (Int × Int)} (h : Came (kern l false) n first mem0 F LG) (h1 : 1 ≤ n) : 1 ≤ lens ((List.range ((n + 3) / 4)).map LG) := by
  have hw := (h.way (t := 0) (by omega)).head
  have hl := (List.getElem?_eq_some_iff.1 hw).1
  have h2 := wayT_len 0 (LG (0 / 4))
  have e : (List.range ((n + 3) / 4)).map LG = LG 0 :: (List.range ((n + 3) / 4 - 1)).map (fun i => LG (i + 1)) := by
    obtain ⟨z, hz⟩ : ∃ z, (n + 3) / 4 = z + 1 := ⟨(n + 3) / 4 - 1, by omega⟩
    rw [hz, List.range_succ_eq_map]
    simp
  rw [e]
  simp only [lens, List.map_cons, List.sum_cons]
  have e0 : LG (0 / 4) = LG 0 := rfl
  rw [e0] at h2 hl
  omega

theorem lens_le : ∀ {l : List (List (Int × Int))} {B : Nat}, (∀ x ∈ l, x.length ≤ B) → lens l ≤ l.length * B
  | [], B, _ => by simp [lens]
  | x :: l, B, h => by
    have ih := lens_le (l := l) (B := B) fun y hy => h y (by simp [hy])
    have := h x (by simp)
    simp only [lens, List.map_cons, List.sum_cons, List.length_cons, Nat.succ_mul] at ih ⊢
    omega

set_option maxHeartbeats 8000000 in
set_option maxRecDepth 100000 in
theorem ordered_any (HR : RunAny) {w : World} {vc : Value} {lc : List Int} (hc : SeesI w vc lc) (t : Int) (ht : -9223372036854775808 ≤ t ∧ t ≤ 9223372036854775807) (f : Int) (hf : -9223372036854775808 ≤ f ∧ f ≤ 9223372036854775807) {vm : Value} {lm : List Int} (hm : SeesI w vm lm) {vp : Value} {lp : List Int} (hp : SeesI w vp lp) {vo : Value} {lo : List Int} (ho : SeesI w vo lo) :
    Calls Try.prog 6 #[vc, .int .i64 t, .int .i64 f, vm, vp, vo] w fun e w' => e = .returned (.bool true) ∧ Below w.heap.size w w' := by
  have b1 := pickN_lt t 16 (by omega)
  have b2 := pickN_lt f 16 (by omega)
  have Hc := hyd (crew_any t f ht hf)
  obtain ⟨n, Hn⟩ : ∃ n, Hid (1 + pickN t 16 = n) := ⟨_, rfl⟩
  obtain ⟨fs, Hfs⟩ : ∃ n, Hid (pickN f 16 = n) := ⟨_, rfl⟩
  rw [Hn.out, Hfs.out] at Hc
  have hn1 : 1 ≤ n := by rw [← Hn.out]; omega
  have hn2 : n ≤ 16 := by rw [← Hn.out]; omega
  have hf2 : fs ≤ 15 := by rw [← Hfs.out]; omega
  clear b1 b2 ht hf Hn Hfs
  have HC := hyd hc
  have HM := hyd hm
  have HPk := hyd hp
  have HOt := hyd ho
  clear hc hm hp ho
  go_enter Try.func6, Try.ntmps6
  go_wp2_with fail
  refine (Hc.out _).mono ?_
  rintro e w1 ⟨rfl, rfl⟩
  go_wp2_with fail
  refine (kernel_any false HC.out).mono ?_
  rintro e w2 ⟨vk, rfl, hok, hb2⟩
  have HK2 : Hid (Sees w2 vk (kern lc false)) := ownsRow_sees (by have := kern_len lc false; omega) hok
  have HB2 := hyd hb2
  have HM2 := hyd (HM.out.up hb2)
  have HPk2 := hyd (HPk.out.up hb2)
  have HOt2 := hyd (HOt.out.up hb2)
  clear hok hb2 HM HPk HOt HC
  go_wp2_with fail
  refine (words_any HM2.out).mono ?_
  rintro e w3 ⟨vw, rfl, hO3, hB3⟩
  have HW3 : Hid (SeesZ w3 vw (wordsP lm)) := ownsRow_seesZ (l := wordsP lm) (by rw [words_len]; omega) (by rw [words_len]; exact hO3)
  have HB3 := hyd hB3
  have HK3 : Hid (Sees w3 vk (kern lc false)) := HK2.out.up hB3
  clear hO3 hB3
  go_wp2_with fail
  refine (begun_any HK3.out (kern_chk lc false) HW3.out n fs (by omega) (by omega) (by omega) (by rw [words_len]; omega) (by rw [words_len]; omega)).mono ?_
  rintro e w4 ⟨J, hJ, hok, L1, x1, rfl, hX, hY, hB4⟩
  have HX1 : Hid (∃ x, XAt w4 L1 (newP (kern lc false) J n fs (wordsP lm)) x) := ⟨_, hX⟩
  have HO1 := hyd hok
  have HJ1 := hyd hJ
  have HL1 : Hid (w2.heap.size ≤ L1.bX ∧ ∀ g, (g = L1.bX ∨ g = L1.gK ∨ g = L1.gJ) → g < w4.heap.size) := ⟨Nat.le_trans HB3.out.size hY.1, fun g hg => hX.mx.lt hg⟩
  have HB4 := hyd (HB3.out.trans (hB4.mono HB3.out.size))
  have HK4 : Hid (Sees w4 vk (kern lc false)) := HK3.out.up hB4
  clear hX hok hJ hY hB4 HB3 HK3 HW3 x1
  go_wp2_with fail
  refine (words_any (HM2.out.up HB4.out)).mono ?_
  rintro e w5 ⟨vw2, rfl, hO5, hB5⟩
  have HW5 : Hid (SeesZ w5 vw2 (wordsP lm)) := ownsRow_seesZ (l := wordsP lm) (by rw [words_len]; omega) (by rw [words_len]; exact hO5)
  have HB45 := hyd hB5
  have HB5 := hyd (HB4.out.trans (hB5.mono HB4.out.size))
  have HK5 : Hid (Sees w5 vk (kern lc false)) := HK4.out.up hB5
  clear hO5 hB5 HB4 HK4
  go_wp2_with fail
  refine (begun_any HK5.out (kern_chk lc false) HW5.out n fs (by omega) (by omega) (by omega) (by rw [words_len]; omega) (by rw [words_len]; omega)).mono ?_
  rintro e w6 ⟨J2, hJ2, hok2, L2, x2, rfl, hX2, hY2, hB6⟩
  have eJ : J2 = J := joins_one hJ2 HJ1.out
  subst eJ
  have HX2 : Hid (∃ x, XAt w6 L2 (newP (kern lc false) J2 n fs (wordsP lm)) x) := ⟨_, hX2⟩
  have HX1' : Hid (∃ x, XAt w6 L1 (newP (kern lc false) J2 n fs (wordsP lm)) x) := ⟨_, (HX1.out.choose_spec.up HB45.out).up hB6⟩
  have HL2 : Hid (∀ g, (g = L2.bX ∨ g = L2.gK ∨ g = L2.gJ) → w4.heap.size ≤ g ∧ g < w6.heap.size) := fun g hg => ⟨by
    have := HB45.out.size
    rcases hg with rfl | rfl | rfl
    · exact Nat.le_trans this hY2.1
    · exact Nat.le_trans this hY2.2.1
    · exact Nat.le_trans this hY2.2.2, hX2.mx.lt hg⟩
  have HB6 := hyd (HB5.out.trans (hB6.mono HB5.out.size))
  have h46 : w4.heap.size ≤ w6.heap.size := Nat.le_trans HB45.out.size hB6.size
  have hw46 : w5.heap.size ≤ w6.heap.size := hB6.size
  clear hX2 hok2 hJ2 hY2 hB6 HB5 HK5 HW5 HB45 HX1
  obtain ⟨F, LG, hCm, hgo⟩ := kern_go (n := n) (first := fs) HJ1.out (words_len lm) (by omega) hn1 hn2
  have HCm := hyd hCm
  obtain ⟨m1, R1, g1, g2, g3, g4, g5, g6, g7, g8⟩ := hgo lp
  obtain ⟨m2, R2, o1, o2, o3, o4, o5, o6, o7, o8⟩ := hgo lo
  obtain ⟨c, hc⟩ : ∃ c, (n + 3) / 4 = c := ⟨_, rfl⟩
  rw [hc] at g1 g5 g6 o1 o5 o6
  have c4 : c ≤ 4 := by omega
  have HRun1 := hyd (HR HX1'.out.choose_spec HO1.out HPk2.out HB6.out HL1.out.1 n c hc (by omega) g1)
  have HG2 := hyd o1
  have HF1 := hyd (And.intro g2 (And.intro g3 (And.intro g4 (And.intro g5 (And.intro g6 (And.intro g7 g8))))))
  have HF2 := hyd (And.intro o2 (And.intro o3 (And.intro o4 (And.intro o5 (And.intro o6 (And.intro o7 o8))))))
  clear hgo hCm g1 g2 g3 g4 g5 g6 g7 g8 o1 o2 o3 o4 o5 o6 o7 o8
  have Hcn := hyd hc
  clear hc
  go_wp2_with fail
  refine HRun1.out.mono ?_
  rintro e w7 ⟨_, vs1, ⟨ta, tn, tc, rfl⟩, rfl, hLg, hX7, hok7, hC7⟩
  unfold ranC
  rw [HF1.out.1]
  obtain ⟨r0, hr0⟩ : ∃ z, R1.steps = z := ⟨_, rfl⟩
  obtain ⟨r1, hr1⟩ : ∃ z, R1.last.warp = z := ⟨_, rfl⟩
  obtain ⟨r2, hr2⟩ : ∃ z, R1.last.steps = z := ⟨_, rfl⟩
  obtain ⟨r3, hr3⟩ : ∃ z, R1.last.segs = z := ⟨_, rfl⟩
  obtain ⟨r4, hr4⟩ : ∃ z, R1.last.fault = z := ⟨_, rfl⟩
  obtain ⟨r5, hr5⟩ : ∃ z, R1.last.fpc = z := ⟨_, rfl⟩
  obtain ⟨r6, hr6⟩ : ∃ z, R1.last.fth = z := ⟨_, rfl⟩
  rw [hr0, hr1, hr2, hr3, hr4, hr5, hr6]
  have HR0 := hyd hr0
  obtain ⟨b6, hb6⟩ : ∃ z, w6.heap.size + 1 = z := ⟨_, rfl⟩
  rw [hb6] at hLg ⊢
  have HLg := hyd hLg
  have HX7 := hyd hX7
  have HC7 := hyd hC7
  clear hX7 hC7 hok7 hLg HRun1 hr0 hr1 hr2 hr3 hr4 hr5 hr6
  dsimp only
  go_wp2_with fail
  generalize hw8 : World.alloc w7 _ = w8
  have hA8 : Below w7.heap.size w7 w8 := by rw [← hw8]; exact (Below.refl _ _).alloc (Nat.le_refl _) _
  have hs8 : w8.heap.size = w7.heap.size + 1 := by rw [← hw8]; simp
  have R8 : w8.heap[w7.heap.size]? = some (.cells #[.slice (some ⟨b6, 0, none⟩) c c, .int .i64 r0, .int .i64 1, .int .i64 r1, .int .i64 r2, .int .i64 r3, .int .i64 r4, .int .i64 r5, .int .i64 r6, .slice ta tn tc] 51) := by rw [← hw8]; exact heap_alloc_new w7 _
  have HR8 := hyd R8
  have s67 := HC7.out.size
  have HX18 : Hid (∃ x, XAt w8 L1 m1 x) := ⟨_, HX7.out.choose_spec.up hA8⟩
  have HX28 : Hid (∃ x, XAt w8 L2 (newP (kern lc false) J2 n fs (wordsP lm)) x) := ⟨_, (HX2.out.choose_spec.keep fun g hg => HC7.out.block g (HL2.out g hg).2 (fun hm => by
    simp at hm
    have := (HL2.out g hg).1
    have := HL1.out.2 L1.bX (.inl rfl)
    omega)).up hA8⟩
  have HB8 : Hid (Below w2.heap.size w2 w8) := by
    have h7 : Below w2.heap.size w2 w7 := HB6.out.trans (HC7.out.below (fun x hx => by simp at hx; subst hx; exact HL1.out.1) HB6.out.size)
    exact h7.trans (hA8.mono h7.size)
  have HLg8 : Hid (LogsAt w8 b6 (w6.heap.size + 3) c R1.logs vs1) := HLg.out.keep fun g hg => hA8.block g (by
    rcases hg with rfl | ⟨-, h, -⟩
    · exact blk_lt HLg.out.row
    · exact h)
  clear hw8 hA8 R8 HX7 HX2 HX1' HLg HC7
  obtain ⟨pB, HpB⟩ : ∃ z, Hid (w7.heap.size = z) := ⟨_, rfl⟩
  rw [HpB.out] at HR8 hs8 s67 ⊢
  refine (HR HX28.out.choose_spec HO1.out HOt2.out HB8.out (by have := (HL2.out L2.bX (.inl rfl)).1; have := HL1.out.1; have := HL1.out.2 L1.bX (.inl rfl); omega) n c Hcn.out (by omega) HG2.out).mono ?_
  rintro e w9 ⟨_, vs2, ⟨ua, un, uc, rfl⟩, rfl, hLg2, hX9, hok9, hC9⟩
  unfold ranC
  rw [HF2.out.1]
  have er0 : R2.steps = r0 := by rw [HF2.out.2.2.2.2.1, ← HF1.out.2.2.2.2.1, HR0.out]
  rw [er0]
  obtain ⟨q1, hq1⟩ : ∃ z, R2.last.warp = z := ⟨_, rfl⟩
  obtain ⟨q2, hq2⟩ : ∃ z, R2.last.steps = z := ⟨_, rfl⟩
  obtain ⟨q3, hq3⟩ : ∃ z, R2.last.segs = z := ⟨_, rfl⟩
  obtain ⟨q4, hq4⟩ : ∃ z, R2.last.fault = z := ⟨_, rfl⟩
  obtain ⟨q5, hq5⟩ : ∃ z, R2.last.fpc = z := ⟨_, rfl⟩
  obtain ⟨q6, hq6⟩ : ∃ z, R2.last.fth = z := ⟨_, rfl⟩
  rw [hq1, hq2, hq3, hq4, hq5, hq6]
  obtain ⟨b8, hb8⟩ : ∃ z, w8.heap.size + 1 = z := ⟨_, rfl⟩
  rw [hb8] at hLg2 ⊢
  have l2 := HL2.out L2.bX (.inl rfl)
  have l1 := HL1.out.2
  have s89 := hC9.size
  have HLg2 := hyd hLg2
  have HX29 := hyd hX9
  have HX19 : Hid (∃ x, XAt w9 L1 m1 x) := ⟨_, HX18.out.choose_spec.keep fun g hg => hC9.block g (by have := l1 g hg; omega) (fun hm => by
    simp at hm
    have := l1 g hg
    omega)⟩
  have HR9 : Hid (w9.heap[pB]? = some (.cells #[.slice (some ⟨b6, 0, none⟩) c c, .int .i64 r0, .int .i64 1, .int .i64 r1, .int .i64 r2, .int .i64 r3, .int .i64 r4, .int .i64 r5, .int .i64 r6, .slice ta tn tc] 51)) := (hC9.block pB (by omega) (fun hm => by simp at hm; omega)).trans HR8.out
  have HLg9 : Hid (LogsAt w9 b6 (w6.heap.size + 3) c R1.logs vs1) := HLg8.out.keep fun g hg => hC9.block g (by
    rcases hg with rfl | ⟨-, h, -⟩
    · exact blk_lt HLg8.out.row
    · exact h) (fun hm => by
      simp at hm
      rcases hg with h | ⟨h, -, -⟩ <;> omega)
  have HB9 : Hid (Below w2.heap.size w2 w9) := HB8.out.trans (hC9.below (fun x hx => by simp at hx; subst hx; have := HL1.out.1; have := l1 L1.bX (.inl rfl); omega) HB8.out.size)
  clear hLg2 hX9 hC9 hok9 hq1 hq2 hq3 hq4 hq5 hq6 HX18 HX28 HR8 HLg8 HB8 er0
  dsimp only
  go_upto_region 9 with fail
  generalize hw10 : World.alloc w9 _ = w10
  have hA10 : Below w9.heap.size w9 w10 := by rw [← hw10]; exact (Below.refl _ _).alloc (Nat.le_refl _) _
  have R10 : w10.heap[w9.heap.size]? = some (.cells #[.slice (some ⟨b8, 0, none⟩) c c, .int .i64 r0, .int .i64 1, .int .i64 q1, .int .i64 q2, .int .i64 q3, .int .i64 q4, .int .i64 q5, .int .i64 q6, .slice ua un uc] 51) := by rw [← hw10]; exact heap_alloc_new w9 _
  have P10 : w10.heap[pB]? = some (.cells #[.slice (some ⟨b6, 0, none⟩) c c, .int .i64 r0, .int .i64 1, .int .i64 r1, .int .i64 r2, .int .i64 r3, .int .i64 r4, .int .i64 r5, .int .i64 r6, .slice ta tn tc] 51) := (hA10.block pB (by omega)).trans HR9.out
  have HXa : Hid (∃ x, XAt w10 L1 m1 x) := ⟨_, HX19.out.choose_spec.up hA10⟩
  have HXb : Hid (∃ x, XAt w10 L2 m2 x) := ⟨_, HX29.out.choose_spec.up hA10⟩
  have HB10 := hyd (HB9.out.trans (hA10.mono HB9.out.size))
  have HLa : Hid (LogsAt w10 b6 (w6.heap.size + 3) c R1.logs vs1) := HLg9.out.keep fun g hg => hA10.block g (by
    rcases hg with rfl | ⟨-, h, -⟩
    · exact blk_lt HLg9.out.row
    · exact h)
  have HLb : Hid (LogsAt w10 b8 (w8.heap.size + 3) c R2.logs vs2) := HLg2.out.keep fun g hg => hA10.block g (by
    rcases hg with rfl | ⟨-, h, -⟩
    · exact blk_lt HLg2.out.row
    · exact h)
  have HKk : Hid (Sees w10 vk (kern lc false)) := HK2.out.up HB10.out
  obtain ⟨qB, HqB⟩ : ∃ z, Hid (w9.heap.size = z) := ⟨_, rfl⟩
  rw [HqB.out] at R10 ⊢
  have HPQ := hyd (And.intro P10 R10)
  obtain ⟨⟨x0, x1, x2, -⟩, -⟩ := ten_cells P10
  obtain ⟨⟨y0, y1, y2, -⟩, -⟩ := ten_cells R10
  have rp : 1 ≤ r0 := by
    rw [← HR0.out, HF1.out.2.2.2.2.1]
    have := HCm.out.pos hn1
    rw [Hcn.out] at this
    omega
  clear hw10 hA10 P10 R10 HX19 HX29 HB9 HLg9 HLg2 HR9 HK2
  go_wp2_with fail
  clear x0 x1 x2 y0 y1 y2
  have hLgAt : Hid (∀ i, i < n → R1.logs[i / 4]? = some (LG (i / 4)) ∧ R2.logs[i / 4]? = some (LG (i / 4)) ∧ i / 4 < c) := fun i hi => by
    have hic : i / 4 < c := by have := Hcn.out; omega
    refine ⟨?_, ?_, hic⟩
    · rw [HF1.out.2.2.2.1, List.getElem?_map, List.getElem?_range hic]; rfl
    · rw [HF2.out.2.2.2.1, List.getElem?_map, List.getElem?_range hic]; rfl
  have hrows : Hid (∀ i, i < n → (LG (i / 4)).length ≤ 40000 ∧ ∀ r ∈ LG (i / 4), 0 ≤ r.2 ∧ r.2 < 16) := fun i hi => HCm.out.rows (i / 4) (by omega)
  go_loopw [22] (fun iv wr => ∃ i : Nat, i ≤ n ∧ iv = .int .i64 i ∧ Hid (Below w10.heap.size w10 wr)) (fun iv _ => n + 1 - (intOf iv).toNat)
  case atStart => exact ⟨0, by omega, rfl, Below.refl _ _⟩
  case round =>
    obtain ⟨i, hi2, rfl, HBr⟩ := hrel
    have i0 : (0 : Int) ≤ (i : Int) := by omega
    have i1 : (i : Int) ≤ (n : Int) := by omega
    have n16 : (n : Int) ≤ 16 := by omega
    have fs0 : (0 : Int) ≤ (fs : Int) := by omega
    have fs15 : (fs : Int) ≤ 15 := by omega
    by_cases hi : i < n
    · have i3 : (i : Int) < (n : Int) := by omega
      obtain ⟨T, HT⟩ : ∃ T, Hid ((F i).1 = T) := ⟨_, rfl⟩
      have t1 : m1.ts.getD i thr0 = T := by rw [(HF1.out.2.2.2.2.2.1 i hi).1, HT.out]
      have t2 : m2.ts.getD i thr0 = T := by rw [(HF2.out.2.2.2.2.2.1 i hi).1, HT.out]
      obtain ⟨u4, u2, -⟩ := HCm.out.regs i hi
      rw [HT.out] at u4 u2
      go_wp2_with fail
      refine (mregs_yes (HXa.out.choose_spec.up HBr.out) i (by rw [HF1.out.2.1]; exact hi)).mono ?_
      rintro e wa ⟨va, rfl, hoa, hba⟩
      rw [t1] at hoa
      obtain ⟨aa, ac, rfl⟩ := slice_ofM hoa
      obtain ⟨ga, hga⟩ : ∃ g, aa = some ⟨g, 0, none⟩ := by
        rcases hoa.2 with ⟨-, hn⟩ | ⟨g, cap, cur, hv, -⟩
        · omega
        · cases hv; exact ⟨g, rfl⟩
      subst hga
      have HBa := hyd (HBr.out.trans (hba.mono HBr.out.size))
      have HA := hyd hoa
      clear hoa hba
      go_wp2_with fail
      refine (mregs_yes (HXb.out.choose_spec.up HBa.out) i (by rw [HF2.out.2.1]; exact hi)).mono ?_
      rintro e wb ⟨vb, rfl, hob, hbb⟩
      rw [t2] at hob
      have HBb := hyd (HBa.out.trans (hbb.mono HBa.out.size))
      have HA2 := hyd (HA.out.keptB hbb)
      have HS1 : Hid (SeesZ wb (.slice (some ⟨ga, 0, none⟩) 4 ac) T.regs) := ownsRow_seesZ (by omega) (by rw [u4]; exact HA2.out)
      have HS2 : Hid (SeesZ wb vb T.regs) := ownsRow_seesZ (by omega) (by rw [u4]; exact hob)
      clear hob hbb HA
      go_wp2_with fail
      refine (sameI HS1.out HS2.out).mono ?_
      rintro e wc ⟨rfl, hbc⟩
      have HBc := hyd (HBb.out.trans (hbc.mono HBb.out.size))
      have HA3 := hyd (HA2.out.keptB hbc)
      clear hbc HA2 HS1 HS2
      have hPx := (HBc.out.block pB (blk_lt HPQ.out.1)).trans HPQ.out.1; have hQx := (HBc.out.block qB (blk_lt HPQ.out.2)).trans HPQ.out.2; obtain ⟨⟨x0, x1, x2, x3, x4, x5, x6, x7, x8, x9⟩, -⟩ := ten_cells hPx; obtain ⟨⟨y0, y1, y2, y3, y4, y5, y6, y7, y8, y9⟩, -⟩ := ten_cells hQx; clear hPx hQx
      obtain ⟨lg1, lg2, hic⟩ := hLgAt.out i hi
      obtain ⟨hl40, hrw⟩ := hrows.out i hi
      have HLA := hyd (And.intro lg1 (And.intro lg2 (And.intro hic (And.intro hl40 hrw))))
      clear lg1 lg2 hic hl40 hrw
      have HLac : Hid (LogsAt wc b6 (w6.heap.size + 3) c R1.logs vs1) := HLa.out.keep fun g hg => HBc.out.block g (by
        rcases hg with rfl | ⟨-, h, -⟩
        · exact blk_lt HLa.out.row
        · exact h)
      have HLbc : Hid (LogsAt wc b8 (w8.heap.size + 3) c R2.logs vs2) := HLb.out.keep fun g hg => HBc.out.block g (by
        rcases hg with rfl | ⟨-, h, -⟩
        · exact blk_lt HLb.out.row
        · exact h)
      have hi16 : i < 16 := by omega
      go_upto_region 17 with fail
      go_region_held3 (fun w' => w'.cell? ⟨pB, 0, none⟩ = some (.slice (some ⟨b6, 0, none⟩) c c) ∧ w'.cell? ⟨pB, 1, none⟩ = some (.int .i64 r0) ∧ w'.cell? ⟨pB, 2, none⟩ = some (.int .i64 1) ∧ w'.cell? ⟨pB, 3, none⟩ = some (.int .i64 r1) ∧ w'.cell? ⟨pB, 4, none⟩ = some (.int .i64 r2) ∧ w'.cell? ⟨pB, 5, none⟩ = some (.int .i64 r3) ∧ w'.cell? ⟨pB, 6, none⟩ = some (.int .i64 r4) ∧ w'.cell? ⟨pB, 7, none⟩ = some (.int .i64 r5) ∧ w'.cell? ⟨pB, 8, none⟩ = some (.int .i64 r6) ∧ w'.cell? ⟨pB, 9, none⟩ = some (.slice ta tn tc) ∧ w'.cell? ⟨qB, 0, none⟩ = some (.slice (some ⟨b8, 0, none⟩) c c) ∧ w'.cell? ⟨qB, 1, none⟩ = some (.int .i64 r0) ∧ w'.cell? ⟨qB, 2, none⟩ = some (.int .i64 1) ∧ w'.cell? ⟨qB, 3, none⟩ = some (.int .i64 q1) ∧ w'.cell? ⟨qB, 4, none⟩ = some (.int .i64 q2) ∧ w'.cell? ⟨qB, 5, none⟩ = some (.int .i64 q3) ∧ w'.cell? ⟨qB, 6, none⟩ = some (.int .i64 q4) ∧ w'.cell? ⟨qB, 7, none⟩ = some (.int .i64 q5) ∧ w'.cell? ⟨qB, 8, none⟩ = some (.int .i64 q6) ∧ w'.cell? ⟨qB, 9, none⟩ = some (.slice ua un uc)) ((first | exact ⟨x0, x1, x2, x3, x4, x5, x6, x7, x8, x9, y0, y1, y2, y3, y4, y5, y6, y7, y8, y9⟩ | ((try dsimp only); (repeat' apply And.intro) <;> (go_keep; done)))) (first | (go_at_call 23; refine (kway_any (HLac.out.keep (w' := wc.drew) fun _ _ => rfl) r0 1 r1 r2 r3 r4 r5 r6 ta tn tc i HLA.out.2.2.1 hi16 HLA.out.1 HLA.out.2.2.2.1 HLA.out.2.2.2.2).mono ?_; rintro e wd ⟨v1, rfl, ho1, hb1⟩; have HO1w := hyd ho1; have HBd : Hid (Below wc.heap.size wc wd) := (⟨hb1.os, hb1.tape, hb1.output, hb1.size, hb1.block⟩ : Below wc.heap.size wc wd); have HBd2 := hyd (HBc.out.trans (HBd.out.mono HBc.out.size)); clear ho1 hb1 HLac x0 x1 x2 x3 x4 x5 x6 x7 x8 x9 y0 y1 y2 y3 y4 y5 y6 y7 y8 y9; have hPx := (HBd2.out.block pB (blk_lt HPQ.out.1)).trans HPQ.out.1; have hQx := (HBd2.out.block qB (blk_lt HPQ.out.2)).trans HPQ.out.2; obtain ⟨⟨x0, x1, x2, x3, x4, x5, x6, x7, x8, x9⟩, -⟩ := ten_cells hPx; obtain ⟨⟨y0, y1, y2, y3, y4, y5, y6, y7, y8, y9⟩, -⟩ := ten_cells hQx; clear hPx hQx) | (go_at_call 23; refine (kway_any (HLbc.out.keep fun g hg => HBd.out.block g (by rcases hg with rfl | ⟨-, h, -⟩; exact blk_lt HLbc.out.row; exact h)) r0 1 q1 q2 q3 q4 q5 q6 ua un uc i HLA.out.2.2.1 hi16 HLA.out.2.1 HLA.out.2.2.2.1 HLA.out.2.2.2.2).mono ?_; rintro e we ⟨v2, rfl, ho2, hb2⟩; have HO2w := hyd ho2; have HO1e := hyd (HO1w.out.keptB hb2); have HBe := hyd (HBd2.out.trans (hb2.mono HBd2.out.size)); have HBe1 := hyd (HBd.out.trans (hb2.mono HBd.out.size)); clear ho2 hb2 HLbc x0 x1 x2 x3 x4 x5 x6 x7 x8 x9 y0 y1 y2 y3 y4 y5 y6 y7 y8 y9; have hPx := (HBe.out.block pB (blk_lt HPQ.out.1)).trans HPQ.out.1; have hQx := (HBe.out.block qB (blk_lt HPQ.out.2)).trans HPQ.out.2; obtain ⟨⟨x0, x1, x2, x3, x4, x5, x6, x7, x8, x9⟩, -⟩ := ten_cells hPx; obtain ⟨⟨y0, y1, y2, y3, y4, y5, y6, y7, y8, y9⟩, -⟩ := ten_cells hQx; clear hPx hQx) | (go_at_call 22; refine (sameI (ownsRow_seesZ (by have := wayT_len i (LG (i / 4)); have := HLA.out.2.2.2.1; omega) HO1e.out) (ownsRow_seesZ (by have := wayT_len i (LG (i / 4)); have := HLA.out.2.2.2.1; omega) HO2w.out)).mono ?_; rintro e wf ⟨rfl, hb3⟩; have HBf := hyd (HBe.out.trans (hb3.mono HBe.out.size)); have HBf1 := hyd (HBe1.out.trans (hb3.mono HBe1.out.size)); clear hb3 x0 x1 x2 x3 x4 x5 x6 x7 x8 x9 y0 y1 y2 y3 y4 y5 y6 y7 y8 y9; have hPx := (HBf.out.block pB (blk_lt HPQ.out.1)).trans HPQ.out.1; have hQx := (HBf.out.block qB (blk_lt HPQ.out.2)).trans HPQ.out.2; obtain ⟨⟨x0, x1, x2, x3, x4, x5, x6, x7, x8, x9⟩, -⟩ := ten_cells hPx; obtain ⟨⟨y0, y1, y2, y3, y4, y5, y6, y7, y8, y9⟩, -⟩ := ten_cells hQx; clear hPx hQx))
      have HLaf : Hid (LogsAt wf b6 (w6.heap.size + 3) c R1.logs vs1) := HLa.out.keep fun g hg => HBf.out.block g (by
        rcases hg with rfl | ⟨-, h, -⟩
        · exact blk_lt HLa.out.row
        · exact h)
      clear y0 y1 y2 y3 y4 y5 y6 y7 y8 y9 HO1w HO2w HO1e HBd HBd2 HBe
      go_wp2_with fail
      refine (kway_any HLaf.out r0 1 r1 r2 r3 r4 r5 r6 ta tn tc i HLA.out.2.2.1 hi16 HLA.out.1 HLA.out.2.2.2.1 HLA.out.2.2.2.2).mono ?_
      rintro e wg ⟨v3, rfl, ho3, hb3⟩
      have HBg := hyd (HBf.out.trans (hb3.mono HBf.out.size))
      have HBg1 := hyd (HBf1.out.trans (hb3.mono HBf1.out.size))
      have HSg : Hid (SeesZ wg v3 (wayT i (LG (i / 4)))) := ownsRow_seesZ (by have := wayT_len i (LG (i / 4)); have := HLA.out.2.2.2.1; omega) ho3
      clear ho3 hb3 HLaf
      go_wp2_with fail
      refine (goes_any (HKk.out.up HBg.out) (by have := kern_len lc false; omega) HSg.out (by have := wayT_len i (LG (i / 4)); have := HLA.out.2.2.2.1; omega) (HCm.out.way hi)).mono ?_
      rintro e wh ⟨rfl, hbh⟩
      have HBh := hyd (HBg.out.trans (hbh.mono HBg.out.size))
      have hA4 : wh.ownsRow wr.heap.size 3 1 (.slice (some ⟨ga, 0, none⟩) 4 ac) 4 (zVals T.regs) := HA3.out.keptB (HBg1.out.trans (hbh.mono HBg1.out.size))
      have hx2 : wh.cell? ⟨ga, 2, none⟩ = some (.int .i64 ((fs + i : Nat) : Int)) := by
        rw [hA4.cellAt 2 (by omega)]
        have h5 : T.regs[2]? = some (T.get 2) := by
          show T.regs[2]? = some (T.regs.getD 2 0)
          rw [List.getD_eq_getElem?_getD, List.getElem?_eq_getElem (show 2 < T.regs.length by omega)]; rfl
        rw [u2] at h5
        exact zVals_at h5
      rw [show ((fs + i : Nat) : Int) = (fs : Int) + (i : Int) by omega] at hx2
      clear hA4 hbh HA3
      go_wp2_with fail
      refine ⟨⟨i + 1, by omega, rfl, HBh⟩, ?_⟩
      simp only [intOf]; omega
    · have e : i = n := by omega
      subst e
      have c1 : decide ((i : Int) < (i : Int)) = false := by simp
      go_wp2_with fail
      refine (mmem_any (HXa.out.choose_spec.up HBr.out)).mono ?_
      rintro e wa ⟨va, rfl, hoa, hba⟩
      have HBa := hyd (HBr.out.trans (hba.mono HBr.out.size))
      have HA := hyd hoa
      clear hoa hba
      go_wp2_with fail
      refine (mmem_any (HXb.out.choose_spec.up HBa.out)).mono ?_
      rintro e wb ⟨vb, rfl, hob, hbb⟩
      have HBb := hyd (HBa.out.trans (hbb.mono HBa.out.size))
      have em : m1.mem = m2.mem := by
        apply List.ext_getElem?
        intro a
        by_cases ha : a < 32
        · have l1 : a < m1.mem.length := by rw [HF1.out.2.2.1]; exact ha
          have l2 : a < m2.mem.length := by rw [HF2.out.2.2.1]; exact ha
          have key : m1.mem.getD a 0 = m2.mem.getD a 0 := by
            by_cases hex : ∃ t, t < i ∧ a = fs + t
            · obtain ⟨t, ht, rfl⟩ := hex
              rw [(HF1.out.2.2.2.2.2.1 t ht).2, (HF2.out.2.2.2.2.2.1 t ht).2]
            · have hne : ∀ t, t < i → a ≠ fs + t := fun t ht e => hex ⟨t, ht, e⟩
              rw [HF1.out.2.2.2.2.2.2 a hne, HF2.out.2.2.2.2.2.2 a hne]
          rw [List.getD_eq_getElem?_getD, List.getD_eq_getElem?_getD, List.getElem?_eq_getElem l1, List.getElem?_eq_getElem l2] at key
          rw [List.getElem?_eq_getElem l1, List.getElem?_eq_getElem l2]
          exact congrArg some key
        · rw [List.getElem?_eq_none (by rw [HF1.out.2.2.1]; omega), List.getElem?_eq_none (by rw [HF2.out.2.2.1]; omega)]
      have HA2 : Hid (SeesZ wb va m1.mem) := ownsRow_seesZ (by rw [HF1.out.2.2.1]; omega) (HA.out.keptB hbb)
      have HB2' : Hid (SeesZ wb vb m1.mem) := ownsRow_seesZ (by rw [HF1.out.2.2.1]; omega) (by rw [em]; exact hob)
      clear hob hbb HA em
      go_wp2_with fail
      refine (sameI HA2.out HB2'.out).mono ?_
      rintro e wc ⟨rfl, hbc⟩
      have HBc := hyd (HBb.out.trans (hbc.mono HBb.out.size))
      clear hbc
      go_wp2_with fail
      go_ret
      have hfin : Below w2.heap.size w2 wc := HB10.out.trans (HBc.out.mono HB10.out.size)
      exact ⟨rfl, HB2.out.trans (hfin.mono HB2.out.size)⟩

end Go.Proofs.Ytbhbacphiinpeaa
