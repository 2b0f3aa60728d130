/- Rc1: joined. -/
import Derived.Test.YtbhbacphiinpeaaGreatZ29
import Derived.Test.YtbhbacphiinpeaaGreatZ11
import Derived.Deep.RegionHeld3

/- What the document's 'each' does. -/
namespace Go.Proofs.YtbhbacphiinpeaaGreat
open Go.RowKit

theorem getD_at {l : List Thr} {i : Nat} {x : Thr} (h : l[i]? = some x) : l.getD i thr0 = x := by
  rw [List.getD_eq_getElem?_getD, h]; rfl

/-- Four cells of an instruction in a block of its own. -/
def BoxAt (w : World) (b : Nat) (x : Ins) : Prop := w.heap[b]? = some (.cells #[.int .i64 x.o, .int .i64 x.a, .int .i64 x.b, .int .i64 x.c] 92)

theorem BoxAt.fr {w w' : World} {B b : Nat} {X : List Nat} {x : Ins} (h : BoxAt w b x) (hf : Fr B X w w') (hX : b ∉ X) : BoxAt w' b x := by
  unfold BoxAt at h ⊢
  rw [hf.block b (blk_lt h) hX (.inr fun cs fr e => by rw [h] at e; simp at e)]
  exact h

/-- One thread more has done it. -/
theorem PlayAt.one {w w' : World} {L : RM} {bP B : Nat} {k : List Ins} {J : List Int} {vW : Value} {bud : Nat} {warp : Int} {vL : Value} {p : Pl} {ts : List Thr} {mem : List Int} {st : Int} (h : PlayAt w L bP B k J vW bud warp vL p) (hc : Core w' L k J vW ts mem st) (hf : ∀ B, Fr B [L.gT, L.gM] w w') :
    PlayAt w' L bP B k J vW bud warp vL { p with ts := ts, mem := mem, st := st } := by
  obtain ⟨n1, n2, n3, n4, n5, n6⟩ := h.ne
  refine h.into hc ?_ fun g hg => ?_
  · refine (hf 0).block bP (blk_lt h.blk) (by simp; exact ⟨fun e => n4 e.symm, fun e => n5 e.symm⟩) (.inr fun cs fr e => ?_)
    rw [h.blk] at e; simp at e
  · have hh := n6 g hg
    have hlt := (h.log.lt g hg).2
    exact (hf (g + 1)).block g hlt (by simp; exact ⟨hh.2.2.2.2.1, hh.2.2.2.2.2⟩) (.inl (by omega))

theorem Fr.low {B : Nat} {X : List Nat} {w w1 w2 : World} (h : Fr B X w w1) (hb : Below w.heap.size w1 w2) : Fr B X w w2 :=
  ⟨hb.os.trans h.os, hb.tape.trans h.tape, hb.output.trans h.output, Nat.le_trans h.size hb.size, fun b hl hX ht => (hb.block b hl).trans (h.block b hl hX ht)⟩

theorem PlayAt.low {w w1 w2 : World} {L : RM} {bP B : Nat} {k : List Ins} {J : List Int} {vW : Value} {bud : Nat} {warp : Int} {vL : Value} {p p1 : Pl} (h : PlayAt w L bP B k J vW bud warp vL p) (h1 : PlayAt w1 L bP B k J vW bud warp vL p1) (hb : Below w.heap.size w1 w2) : PlayAt w2 L bP B k J vW bud warp vL p1 :=
  ⟨(hb.block bP (blk_lt h.blk)).trans h1.blk, owns_same h1.log fun g hg => hb.block g (h.log.lt g hg).2, h1.core.keep fun g hg => hb.block g (h.core.lt hg), h.hB⟩

set_option maxHeartbeats 2000000 in
set_option maxRecDepth 100000 in
theorem each_any {w : World} {L : RM} {bP B : Nat} {k : List Ins} {J : List Int} {vW : Value} {bud : Nat} {warp : Int} {vL : Value} {p : Pl} (h : PlayAt w L bP B k J vW bud warp vL p) (h4 : Reg4 p.ts) {vg : Value} {g : List Nat} (hg : GAt w (L.X bP) vg g) (hlt : ∀ t ∈ g, t < p.ts.length) (hlen : g.length ≤ 4) {pc : Nat} {x : Ins} {nk : Int} (hx : k[pc]? = some x) (hok : okB nk x = true) (hown : isOwn x.o) (hseg : p.segs ≤ 100000) (hml : p.mem.length ≤ 32) :
    Calls Tryz.prog 101 #[.pointer (some ⟨bP, 0, none⟩), vg, .int .i64 pc] w fun e w' => e = .returned (.tuple #[]) ∧ PlayAt w' L bP B k J vW bud warp vL (eachP p g pc x) ∧ Fr B (L.X bP) w w' := by
  have H := hyd h
  have H4 := hyd h4
  have HG := hyd hg
  have HLt := hyd hlt
  have HXl := hyd h.lt
  obtain ⟨ao, cap, rfl⟩ := hg.slice
  obtain ⟨c0, -⟩ := h.cells
  obtain ⟨m0, -⟩ := h.core.cells
  obtain ⟨b0, b1, b2, b3⟩ := flat_at hx
  have hpk := (List.getElem?_eq_some_iff.1 hx).1
  have d0 := (h.core.rK.cellAt (pc * 4) (by omega)).trans b0
  have d1 := (h.core.rK.cellAt (pc * 4 + 1) (by omega)).trans b1
  have d2 := (h.core.rK.cellAt (pc * 4 + 2) (by omega)).trans b2
  have d3 := (h.core.rK.cellAt (pc * 4 + 3) (by omega)).trans b3
  have p1 : (0 : Int) ≤ (pc : Int) := by omega
  have p2 : (pc : Int) < (k.length : Int) := by omega
  have Hx := hyd hx
  clear b0 b1 b2 b3 hx h h4 hg hlt
  obtain ⟨n, Hn⟩ : ∃ n, Hid (g.length = n) := ⟨_, rfl⟩
  rw [Hn.out] at hlen ⊢
  have hn2 : (n : Int) ≤ 4 := by omega
  obtain ⟨i0, hi, hz0, hz1, hz2⟩ := info_parts Tryz.info3
  go_enter Tryz.func101, Tryz.ntmps101
  go_wp2_with fail
  go_loopw [7, 8] (fun tv iv wr => ∃ (i : Nat) (tch : List Int) (ts : List Thr) (mem : List Int), i ≤ n ∧ iv = .int .i64 i ∧ PlayAt wr L bP B k J vW bud warp vL { p with ts := ts, mem := mem } ∧ Reg4 ts ∧ ts.length = p.ts.length ∧ mem.length = p.mem.length ∧ tch.length ≤ i ∧
      eachL x g p.ts p.mem = ((eachL x (g.drop i) ts mem).1, (eachL x (g.drop i) ts mem).2.1, tch ++ (eachL x (g.drop i) ts mem).2.2.1, (eachL x (g.drop i) ts mem).2.2.2) ∧ wr.ownsRow w.heap.size 3 1 tv tch.length (zVals tch) ∧ BoxAt wr w.heap.size x ∧ Fr B (L.X bP) w wr) (fun _ iv _ => n - (intOf iv).toNat)
  case atStart => exact ⟨0, [], p.ts, p.mem, Nat.zero_le _, rfl, H.out.alloc _, H4.out, rfl, rfl, Nat.le_refl _, by simp, World.ownsRow_nil _ _ _ _, heap_alloc_new w _, (Fr.refl _ _ _).alloc _⟩
  case round =>
    obtain ⟨i, tch, ts, mem, hin, rfl, hP, hr4, htl, hmm, htc, hE, ho, hbx, hF⟩ := hrel
    have HP := hyd hP
    have HR4 := hyd hr4
    have HTl := hyd htl
    have HMm := hyd hmm
    have HE := hyd hE
    have HO := hyd ho
    have HBx := hyd hbx
    have HF := hyd hF
    clear hP hr4 htl hmm hE ho hbx hF c0 m0 d0 d1 d2 d3
    by_cases hil : i < n
    · obtain ⟨t, ht⟩ : ∃ t, g[i]? = some t := ⟨_, List.getElem?_eq_getElem (by rw [Hn.out]; exact hil)⟩
      have htm : t < ts.length := by rw [HTl.out]; exact HLt.out t (List.mem_of_getElem? ht)
      obtain ⟨th, hth⟩ : ∃ th, ts[t]? = some th := ⟨_, List.getElem?_eq_getElem htm⟩
      have Hth := hyd hth
      obtain ⟨c0, -⟩ := HP.out.cells
      obtain ⟨bg, hao, -, hcg⟩ := (HG.out.fr HF.out).cell (by rw [Hn.out]; omega)
      subst hao
      have cg := hcg i t ht
      have Ht := hyd ht
      obtain ⟨x0, x1, x2, x3, -⟩ := blk_cells HBx.out
      clear hcg ht hth
      have i1 : (0 : Int) ≤ (i : Int) := by omega
      have i2 : (i : Int) < (n : Int) := by omega
      obtain ⟨f, ad, th', mem', Hr⟩ : ∃ f ad th' mem', Hid (oneP x th mem = (f, ad, th', mem')) := ⟨_, _, _, _, rfl⟩
      go_wp2_with fail
      go_region_held3 (fun w' => w'.cell? ⟨bP, 0, none⟩ = some (.pointer (some ⟨L.bM, 0, none⟩)) ∧ w'.cell? ⟨bg, i, none⟩ = some (.int .i64 t) ∧ w'.cell? ⟨w.heap.size, 0, none⟩ = some (.int .i64 x.o) ∧ w'.cell? ⟨w.heap.size, 1, none⟩ = some (.int .i64 x.a) ∧ w'.cell? ⟨w.heap.size, 2, none⟩ = some (.int .i64 x.b) ∧ w'.cell? ⟨w.heap.size, 3, none⟩ = some (.int .i64 x.c)) (first | go_keep | (go_split_ands; exact ⟨k0, k1, k2, k3, k4, k5⟩)) ((go_at_call 108; refine (one_any HP.out.core.drew HR4.out Hth.out hok hown).mono ?_; rw [Hr.out]; rintro e w4 ⟨rfl, hC, hFo⟩; have P4 := hyd (HP.out.drew.one hC hFo); have F4 : Hid (Fr B (L.X bP) w w4) := (HF.out.drew).trans ((hFo B).sub (by simp [RM.X])); have hbXn : w.heap.size ∉ L.X bP := fun hm => Nat.lt_irrefl _ (HXl.out _ hm); have B4 := hyd (HBx.out.fr ((Fr.refl B (L.X bP) wr).drew.trans ((hFo B).sub (by simp [RM.X]))) hbXn); obtain ⟨k2, k3, k4, k5, -⟩ := blk_cells B4.out; obtain ⟨k0, -⟩ := P4.out.cells; obtain ⟨bg', hbg', -, hcg'⟩ := (HG.out.fr F4.out).cell (by rw [Hn.out]; omega); have k1 : w4.cell? ⟨bg, i, none⟩ = some (.int .i64 t) := (by cases hbg'; exact hcg' i t Ht.out); clear hcg' hbg'))
      have O4 : Hid (w4.ownsRow w.heap.size 3 1 u7 tch.length (zVals tch)) := ((Fr.refl B (L.X bP) wr).drew.trans ((hFo B).sub (by simp [RM.X]))).owns HO.out (fun g' hg' hm => by have := (HO.out.lt g' hg').1; have := HXl.out g' hm; omega) (by decide)
      have Hadr := hyd (one_addr (x := x) (t := th) (mem := mem))
      rw [Hr.out] at Hadr
      have hgd := hyd (getD_at Hth.out)
      by_cases hf : f = 0
      · subst hf
        have K4 := hyd (one_keeps x mem (HR4.out th (List.mem_of_getElem? Hth.out)))
        rw [Hr.out] at K4
        have R4 : Hid (Reg4 (ts.set t th')) := HR4.out.set t K4.out.1
        have hst := hyd (each_yes (x := x) (mem := mem) (ts := ts) Ht.out (by rw [hgd.out, Hr.out]))
        rw [hgd.out, Hr.out] at hst
        clear hC hFo k0 k1 k2 k3 k4 k5 c0 cg x0 x1 x2 x3
        by_cases hneg : ad = -1
        · subst hneg
          go_wp2
          go_roundw
          case rel =>
            refine ⟨i + 1, tch, ts.set t th', mem', by omega, by go_num, P4.out, R4.out, by rw [List.length_set]; exact HTl.out, K4.out.2.trans HMm.out, by omega, ?_, O4.out, B4.out, F4.out⟩
            rw [HE.out, hst.out]
            simp
          case measure => simp [intOf] <;> omega
        · have hadr : 0 ≤ ad := by rcases Hadr.out with h | h; exact absurd h hneg; exact h.1
          have g1 : decide (0 ≤ ad) = true := by simpa using hadr
          have hsz4 := F4.out.size
          have htc5 : tch.length ≤ 4 := by omega
          go_wp2_with (at_builtin; go_must (refine wpList_append_own _ rfl (.tmp 55) (.tmp 58) 24 rfl w.heap.size 3 i0 (.int .i64 0) 1 8 Tryz.underlying24 hi hz0 hz1 hz2 rfl (by decide) u7 tch.length (zVals tch) rfl ?a0 ⟨w4.heap.size, 0, none⟩ 1 1 [.int .i64 (wrap64 (ad.tdiv 4))] rfl rfl ?a1 ?a2 ?a3 ?a4 ?a5 ?_))
          case a0 => exact O4.out.alloc _
          case a2 => first | rfl | (intro u hu; simp at hu; subst hu; rfl)
          case a3 => unfold maxLen; omega
          case a4 => omega
          case a5 => first | omega | (simp; omega)
          · intro v3 w5 hown5 hgrow5 _
            have hq4 : wrap64 (ad.tdiv 4) = ad / 4 := by
              have h1 : ad < 32 := by
                rcases Hadr.out with h | h
                · exact absurd h hneg
                · have := h.2; have := HMm.out; omega
              rw [Int.tdiv_eq_ediv_of_nonneg hadr, IntWalk.wrap64_in _ (by omega)]
            have hzs : zVals tch ++ [.int .i64 (wrap64 (ad.tdiv 4))] = zVals (tch ++ [ad / 4]) := by rw [hq4]; simp [zVals]
            rw [hzs] at hown5
            have hb5 : Below w.heap.size w4 w5 := ((Below.refl _ _).alloc hsz4 _).grown hgrow5 (by simp; omega) (fun b hb => (O4.out.lt b hb).1)
            have P5 := H.out.low P4.out hb5
            have F5 := F4.out.low hb5
            have B5 : BoxAt w5 w.heap.size x := by
              unfold BoxAt
              rw [hgrow5.block w.heap.size (by have := blk_lt B4.out; simp; omega) (owns_not O4.out B4.out (by decide)), Below.heap_alloc _ _ _ (blk_lt B4.out)]
              exact B4.out
            have K5 := hyd (And.intro hown5 (And.intro P5 (And.intro F5 B5)))
            clear hown5 hgrow5 hb5 P5 F5 B5 hzs hq4
            go_wp2
            go_roundw
            case rel =>
              refine ⟨i + 1, tch ++ [ad / 4], ts.set t th', mem', by omega, by go_num, K5.out.2.1, R4.out, by rw [List.length_set]; exact HTl.out, K4.out.2.trans HMm.out, by rw [List.length_append]; simp; omega, ?_, by rw [List.length_append]; exact K5.out.1, K5.out.2.2.2, K5.out.2.2.1⟩
              rw [HE.out, hst.out, if_pos hadr]
              simp
            case measure => simp [intOf] <;> omega
      · have g1 : (f != 0) = true := by simpa using hf
        have hno := hyd (each_no (x := x) (mem := mem) (ts := ts) Ht.out (by rw [hgd.out, Hr.out]; exact hf))
        have hft := hyd (one_fault (x := x) (t := th) (mem := mem) (by rw [Hr.out]; exact hf))
        rw [Hr.out] at hft
        rw [hgd.out, Hr.out] at hno
        have hsame : Hid (ts.set t th' = ts ∧ mem' = mem) := by
          have h1 := hft.out
          simp only [Prod.mk.injEq] at h1
          exact ⟨by rw [h1.1]; exact set_same Hth.out, h1.2⟩
        rw [hsame.out.1, hsame.out.2] at P4
        have Hf := hyd hf
        clear hC hFo c0 cg x0 x1 x2 x3 k2 k3 k4 k5 hf
        go_wp2_with fail
        refine (fault_any P4.out f pc t).mono ?_
        rintro e w5 ⟨rfl, hP5, hF5⟩
        have HPz := hyd hP5
        have HFz := hyd (F4.out.trans hF5)
        have HOz : Hid (w5.ownsRow w.heap.size 3 1 u7 tch.length (zVals tch)) := hF5.owns O4.out (fun g' hg' hm => by have := (O4.out.lt g' hg').1; have := HXl.out g' hm; omega) (by decide)
        have htc4 : tch.length ≤ 4 := by omega
        obtain ⟨Pz, hPz⟩ : ∃ Pz, Pz = faultP { p with ts := ts, mem := mem } f (pc : Int) (t : Int) := ⟨_, rfl⟩
        have HSeg : Hid (Pz.segs = p.segs) := by rw [hPz]; rfl
        have HRes : Hid (eachP p g pc x = { Pz with segs := p.segs + segC [] tch }) := by
          unfold Hid eachP
          rw [HE.out, hno.out, hPz]
          simp [faultP]
        rw [← hPz] at HPz
        clear hP5 hF5 P4 F4 O4 B4 hPz k0 k1
        obtain ⟨q, Hq⟩ : ∃ q, Hid (tch.length = q) := ⟨_, rfl⟩
        have hq4 : q ≤ 4 := by rw [← Hq.out]; exact htc4
        have hq2 : (q : Int) ≤ 4 := by omega
        rw [Hq.out] at HOz
        obtain ⟨ta, tcap, htv⟩ := slice_ofN HOz.out
        subst htv
        clear htc4
        go_wp2_with fail
        go_loopw [11] (fun iv wx => ∃ (i2 c : Nat), i2 ≤ q ∧ iv = .int .i64 i2 ∧ PlayAt wx L bP B k J vW bud warp vL { Pz with segs := p.segs + c } ∧ c ≤ i2 ∧ c + segC (tch.take i2) (tch.drop i2) = segC [] tch ∧ wx.ownsRow w.heap.size 3 1 (.slice ta q tcap) q (zVals tch) ∧ Fr B (L.X bP) w wx) (fun iv _ => q - (intOf iv).toNat)
        case atStart => exact ⟨0, 0, Nat.zero_le _, rfl, by have h := HPz.out; rw [← HSeg.out]; exact h, Nat.le_refl _, by simp, HOz.out, HFz.out⟩
        case round =>
          obtain ⟨i2, c, hi2q, rfl, hP, hci, hc, ho, hF⟩ := hrel
          have P2 := hyd hP
          have HC := hyd hc
          have O2 := hyd ho
          have F2 := hyd hF
          clear hP hc ho hF HPz HOz HFz
          by_cases hi2 : i2 < q
          · obtain ⟨a, ha⟩ : ∃ a, tch[i2]? = some a := ⟨_, List.getElem?_eq_getElem (by rw [Hq.out]; exact hi2)⟩
            obtain ⟨ga, hga⟩ : ∃ ga, ta = some ⟨ga, 0, none⟩ := by
              rcases O2.out.2 with ⟨h0, h00⟩ | ⟨g', c', cur, hv, -⟩
              · omega
              · simp only [Value.slice.injEq] at hv; exact ⟨g', hv.1⟩
            subst hga
            have hgalt := (O2.out.lt ga rfl).2
            have ca := (O2.out.cellAt i2 (by omega)).trans (zVals_at ha)
            have Ha := hyd ha
            have z1 : (0 : Int) ≤ (i2 : Int) := by omega
            have z2 : (i2 : Int) < (q : Int) := by omega
            clear ha
            go_wp2_with fail
            go_loopw [12, 13] (fun fv jv wy => ∃ (j : Nat) (f : Bool), j ≤ i2 ∧ jv = .int .i64 j ∧ fv = .bool f ∧ (f = true ↔ ∀ j', j' < j → tch[j']? ≠ some a) ∧ Below wr.heap.size wr wy) (fun _ jv _ => i2 - (intOf jv).toNat)
            case atStart => exact ⟨0, true, Nat.zero_le _, rfl, rfl, by simp, Below.refl _ _⟩
            case round =>
              obtain ⟨j, f, hj, rfl, rfl, hf, hb⟩ := hrel
              have HFr := hyd hf
              have HB := hyd hb
              clear hf hb
              by_cases hjl : j < i2
              · obtain ⟨b, hb⟩ : ∃ b, tch[j]? = some b := ⟨_, List.getElem?_eq_getElem (by rw [Hq.out]; omega)⟩
                have cb := (HB.out.cell (p := ⟨ga, j, none⟩) hgalt).trans ((O2.out.cellAt j (by omega)).trans (zVals_at hb))
                have ca' := (HB.out.cell (p := ⟨ga, i2, none⟩) hgalt).trans ca
                have Hb := hyd hb
                clear hb
                have y1 : (0 : Int) ≤ (j : Int) := by omega
                have y2 : (j : Int) < (q : Int) := by omega
                have y3 : (j : Int) < (i2 : Int) := by omega
                have key : Hid ((f && (b != a)) = true ↔ ∀ j', j' < j + 1 → tch[j']? ≠ some a) := by
                  unfold Hid
                  rw [Bool.and_eq_true, HFr.out, bne_iff_ne]
                  constructor
                  · rintro ⟨h1, h2⟩ j' hj'
                    by_cases e : j' = j
                    · rw [e, Hb.out]; simpa using h2
                    · exact h1 j' (by omega)
                  · intro h
                    refine ⟨fun j' hj' => h j' (by omega), ?_⟩
                    have := h j (by omega)
                    rw [Hb.out] at this
                    simpa using this
                cases f
                · go_wp2_with fail
                  go_quiet (fail)
                  go_wp2
                  go_roundw
                  case rel => exact ⟨j + 1, false, by omega, by go_num, rfl, by have h := key.out; rwa [Bool.false_and] at h, below_drewN HB.out _⟩
                  case measure => simp [intOf] <;> omega
                · go_wp2_with fail
                  go_quiet (fail)
                  go_wp2
                  go_roundw
                  case rel => exact ⟨j + 1, (b != a), by omega, by go_num, rfl, by have h := key.out; rwa [Bool.true_and] at h, below_drewN HB.out _⟩
                  case measure => simp [intOf] <;> omega
              · have hji : j = i2 := by omega
                subst hji
                have P3 := hyd (P2.out.up HB.out)
                have O3 := hyd (O2.out.keptB HB.out)
                have F3 := hyd (F2.out.trans (Fr.of_below HB.out))
                have hmem : Hid (a ∈ tch.take j ↔ f = false) := by
                  have h1 := HFr.out
                  unfold Hid
                  rw [← Bool.not_eq_true, h1]
                  constructor
                  · intro hm hall
                    obtain ⟨t', ht'⟩ := List.mem_iff_getElem?.1 hm
                    rw [List.getElem?_take] at ht'
                    split at ht'
                    · rename_i hlt; exact hall t' hlt ht'
                    · simp at ht'
                  · intro hn
                    simp only [ne_eq, Classical.not_forall, Classical.not_not] at hn
                    obtain ⟨j', hj', he⟩ := hn
                    exact List.mem_iff_getElem?.2 ⟨j', by rw [List.getElem?_take, if_pos hj']; exact he⟩
                have hst := hyd (segC_at Ha.out)
                cases f
                · go_wp2
                  go_roundw
                  case rel =>
                    refine ⟨j + 1, c, by omega, by go_num, P3.out, by omega, ?_, O3.out, F3.out⟩
                    have h1 := HC.out
                    rw [hst.out, if_pos (hmem.out.2 rfl)] at h1
                    omega
                  case measure => simp [intOf] <;> omega
                · obtain ⟨-, -, s3, -⟩ := P3.out.cells
                  have f3 := P3.out.frozen 3
                  have P4 := hyd (P3.out.set (i := 3) (v := .int .i64 (((p.segs + c : Nat) : Int) + 1)) (p' := { Pz with segs := p.segs + (c + 1) }) (vL' := vL) (by simp; omega) P3.out.log (fun g hg => (P3.out.ne.2.2.2.2.2 g hg).1) rfl rfl rfl)
                  have hb3 : ∀ g', (Value.slice (some ⟨ga, 0, none⟩) q tcap).ownBlock = some g' → g' ≠ bP := fun g' hg' => by
                    have := (O3.out.lt g' hg').1
                    have := HXl.out bP (by simp [RM.X])
                    omega
                  have O4 := hyd (owns_setCell O3.out (a := ⟨bP, 3, none⟩) hb3 (.int .i64 (((p.segs + c : Nat) : Int) + 1)))
                  clear hb3
                  go_wp2
                  go_roundw
                  case rel =>
                    refine ⟨j + 1, c + 1, by omega, by go_num, P4.out, by omega, ?_, O4.out, F3.out.set (by simp [RM.X]) _⟩
                    have h1 := HC.out
                    rw [hst.out, if_neg (fun h => by have := hmem.out.1 h; cases this)] at h1
                    omega
                  case measure => simp [intOf] <;> omega
          · have hi2' : i2 = q := by omega
            subst hi2'
            go_wp2
            go_end0
            refine ⟨rfl, ?_, F2.out⟩
            have h1 := HC.out
            rw [← Hq.out, List.drop_length] at h1
            have h2 : segC (tch.take tch.length) [] = 0 := rfl
            rw [h2] at h1
            rw [HRes.out, ← h1]
            exact P2.out
    · have hE0 : Hid (eachL x g p.ts p.mem = (ts, mem, tch, none)) := by
        have h1 := HE.out
        have h2 : g.drop i = [] := List.drop_eq_nil_of_le (by rw [Hn.out]; omega)
        rw [h2] at h1
        unfold Hid
        rw [h1]
        simp [eachL]
      have HPz := HP
      have HFz := HF
      have HOz := HO
      have htc4 : tch.length ≤ 4 := by omega
      obtain ⟨Pz, hPz⟩ : ∃ Pz : Pl, Pz = { p with ts := ts, mem := mem } := ⟨_, rfl⟩
      have HSeg : Hid (Pz.segs = p.segs) := by rw [hPz]; rfl
      have HRes : Hid (eachP p g pc x = { Pz with segs := p.segs + segC [] tch }) := by
        unfold Hid eachP
        rw [hE0.out, hPz]
      rw [← hPz] at HPz
      clear HP HF HO HBx hPz
      obtain ⟨q, Hq⟩ : ∃ q, Hid (tch.length = q) := ⟨_, rfl⟩
      have hq4 : q ≤ 4 := by rw [← Hq.out]; exact htc4
      have hq2 : (q : Int) ≤ 4 := by omega
      rw [Hq.out] at HOz
      obtain ⟨ta, tcap, htv⟩ := slice_ofN HOz.out
      subst htv
      clear htc4
      go_wp2_with fail
      go_loopw [11] (fun iv wx => ∃ (i2 c : Nat), i2 ≤ q ∧ iv = .int .i64 i2 ∧ PlayAt wx L bP B k J vW bud warp vL { Pz with segs := p.segs + c } ∧ c ≤ i2 ∧ c + segC (tch.take i2) (tch.drop i2) = segC [] tch ∧ wx.ownsRow w.heap.size 3 1 (.slice ta q tcap) q (zVals tch) ∧ Fr B (L.X bP) w wx) (fun iv _ => q - (intOf iv).toNat)
      case atStart => exact ⟨0, 0, Nat.zero_le _, rfl, by have h := HPz.out; rw [← HSeg.out]; exact h, Nat.le_refl _, by simp, HOz.out, HFz.out⟩
      case round =>
        obtain ⟨i2, c, hi2q, rfl, hP, hci, hc, ho, hF⟩ := hrel
        have P2 := hyd hP
        have HC := hyd hc
        have O2 := hyd ho
        have F2 := hyd hF
        clear hP hc ho hF HPz HOz HFz
        by_cases hi2 : i2 < q
        · obtain ⟨a, ha⟩ : ∃ a, tch[i2]? = some a := ⟨_, List.getElem?_eq_getElem (by rw [Hq.out]; exact hi2)⟩
          obtain ⟨ga, hga⟩ : ∃ ga, ta = some ⟨ga, 0, none⟩ := by
            rcases O2.out.2 with ⟨h0, h00⟩ | ⟨g', c', cur, hv, -⟩
            · omega
            · simp only [Value.slice.injEq] at hv; exact ⟨g', hv.1⟩
          subst hga
          have hgalt := (O2.out.lt ga rfl).2
          have ca := (O2.out.cellAt i2 (by omega)).trans (zVals_at ha)
          have Ha := hyd ha
          have z1 : (0 : Int) ≤ (i2 : Int) := by omega
          have z2 : (i2 : Int) < (q : Int) := by omega
          clear ha
          go_wp2_with fail
          go_loopw [12, 13] (fun fv jv wy => ∃ (j : Nat) (f : Bool), j ≤ i2 ∧ jv = .int .i64 j ∧ fv = .bool f ∧ (f = true ↔ ∀ j', j' < j → tch[j']? ≠ some a) ∧ Below wr.heap.size wr wy) (fun _ jv _ => i2 - (intOf jv).toNat)
          case atStart => exact ⟨0, true, Nat.zero_le _, rfl, rfl, by simp, Below.refl _ _⟩
          case round =>
            obtain ⟨j, f, hj, rfl, rfl, hf, hb⟩ := hrel
            have HFr := hyd hf
            have HB := hyd hb
            clear hf hb
            by_cases hjl : j < i2
            · obtain ⟨b, hb⟩ : ∃ b, tch[j]? = some b := ⟨_, List.getElem?_eq_getElem (by rw [Hq.out]; omega)⟩
              have cb := (HB.out.cell (p := ⟨ga, j, none⟩) hgalt).trans ((O2.out.cellAt j (by omega)).trans (zVals_at hb))
              have ca' := (HB.out.cell (p := ⟨ga, i2, none⟩) hgalt).trans ca
              have Hb := hyd hb
              clear hb
              have y1 : (0 : Int) ≤ (j : Int) := by omega
              have y2 : (j : Int) < (q : Int) := by omega
              have y3 : (j : Int) < (i2 : Int) := by omega
              have key : Hid ((f && (b != a)) = true ↔ ∀ j', j' < j + 1 → tch[j']? ≠ some a) := by
                unfold Hid
                rw [Bool.and_eq_true, HFr.out, bne_iff_ne]
                constructor
                · rintro ⟨h1, h2⟩ j' hj'
                  by_cases e : j' = j
                  · rw [e, Hb.out]; simpa using h2
                  · exact h1 j' (by omega)
                · intro h
                  refine ⟨fun j' hj' => h j' (by omega), ?_⟩
                  have := h j (by omega)
                  rw [Hb.out] at this
                  simpa using this
              cases f
              · go_wp2_with fail
                go_quiet (fail)
                go_wp2
                go_roundw
                case rel => exact ⟨j + 1, false, by omega, by go_num, rfl, by have h := key.out; rwa [Bool.false_and] at h, below_drewN HB.out _⟩
                case measure => simp [intOf] <;> omega
              · go_wp2_with fail
                go_quiet (fail)
                go_wp2
                go_roundw
                case rel => exact ⟨j + 1, (b != a), by omega, by go_num, rfl, by have h := key.out; rwa [Bool.true_and] at h, below_drewN HB.out _⟩
                case measure => simp [intOf] <;> omega
            · have hji : j = i2 := by omega
              subst hji
              have P3 := hyd (P2.out.up HB.out)
              have O3 := hyd (O2.out.keptB HB.out)
              have F3 := hyd (F2.out.trans (Fr.of_below HB.out))
              have hmem : Hid (a ∈ tch.take j ↔ f = false) := by
                have h1 := HFr.out
                unfold Hid
                rw [← Bool.not_eq_true, h1]
                constructor
                · intro hm hall
                  obtain ⟨t', ht'⟩ := List.mem_iff_getElem?.1 hm
                  rw [List.getElem?_take] at ht'
                  split at ht'
                  · rename_i hlt; exact hall t' hlt ht'
                  · simp at ht'
                · intro hn
                  simp only [ne_eq, Classical.not_forall, Classical.not_not] at hn
                  obtain ⟨j', hj', he⟩ := hn
                  exact List.mem_iff_getElem?.2 ⟨j', by rw [List.getElem?_take, if_pos hj']; exact he⟩
              have hst := hyd (segC_at Ha.out)
              cases f
              · go_wp2
                go_roundw
                case rel =>
                  refine ⟨j + 1, c, by omega, by go_num, P3.out, by omega, ?_, O3.out, F3.out⟩
                  have h1 := HC.out
                  rw [hst.out, if_pos (hmem.out.2 rfl)] at h1
                  omega
                case measure => simp [intOf] <;> omega
              · obtain ⟨-, -, s3, -⟩ := P3.out.cells
                have f3 := P3.out.frozen 3
                have P4 := hyd (P3.out.set (i := 3) (v := .int .i64 (((p.segs + c : Nat) : Int) + 1)) (p' := { Pz with segs := p.segs + (c + 1) }) (vL' := vL) (by simp; omega) P3.out.log (fun g hg => (P3.out.ne.2.2.2.2.2 g hg).1) rfl rfl rfl)
                have hb3 : ∀ g', (Value.slice (some ⟨ga, 0, none⟩) q tcap).ownBlock = some g' → g' ≠ bP := fun g' hg' => by
                  have := (O3.out.lt g' hg').1
                  have := HXl.out bP (by simp [RM.X])
                  omega
                have O4 := hyd (owns_setCell O3.out (a := ⟨bP, 3, none⟩) hb3 (.int .i64 (((p.segs + c : Nat) : Int) + 1)))
                clear hb3
                go_wp2
                go_roundw
                case rel =>
                  refine ⟨j + 1, c + 1, by omega, by go_num, P4.out, by omega, ?_, O4.out, F3.out.set (by simp [RM.X]) _⟩
                  have h1 := HC.out
                  rw [hst.out, if_neg (fun h => by have := hmem.out.1 h; cases this)] at h1
                  omega
                case measure => simp [intOf] <;> omega
        · have hi2' : i2 = q := by omega
          subst hi2'
          go_wp2
          go_end0
          refine ⟨rfl, ?_, F2.out⟩
          have h1 := HC.out
          rw [← Hq.out, List.drop_length] at h1
          have h2 : segC (tch.take tch.length) [] = 0 := rfl
          rw [h2] at h1
          rw [HRes.out, ← h1]
          exact P2.out

end Go.Proofs.YtbhbacphiinpeaaGreat

