/- Rc2: joined. -/
import Derived.Test.YtbhbacphiinpeaaGreatZ30
import Derived.Test.YtbhbacphiinpeaaGreatZ12

/- What the document's 'parts' does, if 'run' does as it should with what is left of the budget. -/
namespace Go.Proofs.YtbhbacphiinpeaaGreat
open Go.RowKit

/-- What 'run' does, where as many as f instructions may still be issued. -/
def RunOk (L : RM) (bP B : Nat) (k : List Ins) (J : List Int) (vW : Value) (bud : Nat) (warp : Int) (f : Nat) : Prop :=
  ∀ (w : World) (vL : Value) (p : Pl) (vg : Value) (g : List Nat) (a b : Int), PlayAt w L bP B k J vW bud warp vL p → Reg4 p.ts → p.ts.length ≤ 16 → p.mem.length ≤ 32 → Cnt bud p → bud ≤ p.steps + f → GAt w (L.X bP) vg g → (∀ t ∈ g, t < p.ts.length) → g.length ≤ 4 → (FromOk k p g a ∨ a = b) →
    Calls Tryz.prog 60 #[.pointer (some ⟨bP, 0, none⟩), vg, .int .i64 a, .int .i64 b] w fun e w' => e = .returned (.tuple #[]) ∧ (∃ vL', PlayAt w' L bP B k J vW bud warp vL' (runP k J bud f p g a b)) ∧ Fr B (L.X bP) w w'

theorem filter_take {P : Nat → Bool} {g : List Nat} {i t : Nat} (h : g[i]? = some t) : (g.take (i + 1)).filter P = (g.take i).filter P ++ (if P t then [t] else []) := by
  rw [List.take_add_one, h, List.filter_append]
  cases hd : P t <;> simp [hd]

theorem reg_at {w : World} {L : RM} {k : List Ins} {J : List Int} {vW : Value} {ts : List Thr} {mem : List Int} {st : Int} (h : Core w L k J vW ts mem st) (h4 : Reg4 ts) {t a : Nat} (ht : t < ts.length) (ha : a < 4) : w.cell? ⟨L.gT, t * 6 + 1 + a, none⟩ = some (.int .i64 ((ts.getD t thr0).get (a : Int))) := by
  have hx : ts[t]? = some ts[t] := List.getElem?_eq_getElem ht
  rw [h.cellR h4 hx ha, getD_at hx]

theorem join_at {w : World} {L : RM} {k : List Ins} {J : List Int} {vW : Value} {ts : List Thr} {mem : List Int} {st : Int} (h : Core w L k J vW ts mem st) (hJ : J.length = k.length) {n : Nat} (hn : n < k.length) : w.cell? ⟨L.gJ, n, none⟩ = some (.int .i64 (J.getD n (-1))) := by
  have e : J[n]? = some (J.getD n (-1)) := by
    rw [List.getD_eq_getElem?_getD, List.getElem?_eq_getElem (by omega)]; rfl
  exact (h.rJ.cellAt n (by omega)).trans (zVals_at e)

set_option maxHeartbeats 1000000 in
set_option maxRecDepth 100000 in
theorem parts_any {w : World} {L : RM} {bP B : Nat} {k : List Ins} {J : List Int} {vW : Value} {bud : Nat} {warp : Int} {vL : Value} {p : Pl} {f : Nat} (HR : RunOk L bP B k J vW bud warp f) (h : PlayAt w L bP B k J vW bud warp vL p) (h4 : Reg4 p.ts) (h16 : p.ts.length ≤ 16) (h32 : p.mem.length ≤ 32) (hcnt : Cnt bud p) (hopn : p.opn + 1 ≤ p.steps) (hbud : bud ≤ 2000) (hf : bud ≤ p.steps + f)
    {vg : Value} {g : List Nat} (hg : GAt w (L.X bP) vg g) (hlt : ∀ t ∈ g, t < p.ts.length) (hlen : g.length ≤ 4) {pc : Nat} {x : Ins} (hx : k[pc]? = some x) (hk : chk k = (0, 0)) (hJ : JoinsAre k J) (ho : x.o = 13) :
    Calls Tryz.prog 99 #[.pointer (some ⟨bP, 0, none⟩), vg, .int .i64 pc] w fun e w' => e = .returned (.int .i64 (partsP J (runP k J bud f) p g pc x).2) ∧ (∃ vL', PlayAt w' L bP B k J vW bud warp vL' (partsP J (runP k J bud f) p g pc x).1) ∧ Fr B (L.X bP) w w' := by
  have H := hyd h
  have H4 := hyd h4
  have HG := hyd hg
  have HLt := hyd hlt
  have HXl := hyd h.lt
  have HRun := hyd HR
  have HC := hyd hcnt
  have HJ := hyd hJ
  have hsteps := hcnt.steps
  obtain ⟨ao, cap, rfl⟩ := hg.slice
  obtain ⟨c0, -⟩ := h.cells
  obtain ⟨m0, -⟩ := h.core.cells
  obtain ⟨b0, b1, b2, b3⟩ := flat_at hx
  have hpk := (List.getElem?_eq_some_iff.1 hx).1
  have hk40 : k.length ≤ 40 := (chk_zero (by rw [hk])).2.2.1
  have d0 := (h.core.rK.cellAt (pc * 4) (by omega)).trans b0
  have d1 := (h.core.rK.cellAt (pc * 4 + 1) (by omega)).trans b1
  have d2 := (h.core.rK.cellAt (pc * 4 + 2) (by omega)).trans b2
  have d3 := (h.core.rK.cellAt (pc * 4 + 3) (by omega)).trans b3
  have p1 : (0 : Int) ≤ (pc : Int) := by omega
  have p2 : (pc : Int) < (k.length : Int) := by omega
  have p3 : (k.length : Int) ≤ 40 := by omega
  obtain ⟨xa, hxa, hxa4⟩ : ∃ xa : Nat, x.a = (xa : Int) ∧ xa < 4 := by
    have h3 := (chk_zero (by rw [hk])).2.2.2 pc x hx
    unfold okB at h3
    simp [ho] at h3
    have := bel_bd h3.1.1
    exact ⟨x.a.toNat, by omega, by omega⟩
  have hnx := (next_in hk hx).1 (by omega) (by omega)
  have Hxb := hyd ((next_in hk hx).2 (.inr ho))
  have Hx := hyd hx
  have Hxa := hyd hxa
  clear b0 b1 b2 b3 hx h h4 hg hlt HR hcnt hJ hxa ho
  obtain ⟨n, Hn⟩ : ∃ n, Hid (g.length = n) := ⟨_, rfl⟩
  obtain ⟨m, Hm⟩ : ∃ m, Hid (p.ts.length = m) := ⟨_, rfl⟩
  rw [Hn.out] at hlen ⊢
  have hn2 : (n : Int) ≤ 4 := by omega
  have a1 : (0 : Int) ≤ (xa : Int) := by omega
  have a2 : (xa : Int) < 4 := by omega
  obtain ⟨i0, hi, hz0, hz1, hz2⟩ := info_parts Tryz.info3
  go_enter Tryz.func99, Tryz.ntmps99
  go_wp2_with fail
  go_loopw [8, 9, 10] (fun jv sv iv wr => ∃ (i : Nat) (A S : List Nat), i ≤ n ∧ iv = .int .i64 i ∧ A = (g.take i).filter (isZ p.ts x.a) ∧ S = (g.take i).filter (fun t => !isZ p.ts x.a t) ∧ wr.ownsRow w.heap.size 3 1 jv A.length (natVals A) ∧ wr.ownsRow w.heap.size 3 1 sv S.length (natVals S) ∧ (∀ b c, jv.ownBlock = some b → sv.ownBlock = some c → b ≠ c) ∧ BoxAt wr w.heap.size x ∧ Below w.heap.size w wr) (fun _ _ iv _ => n - (intOf iv).toNat)
  case atStart => exact ⟨0, [], [], Nat.zero_le _, rfl, by simp, by simp, World.ownsRow_nil _ _ _ _, World.ownsRow_nil _ _ _ _, fun b c hb => by simp [Value.ownBlock] at hb, heap_alloc_new w _, (Below.refl _ _).alloc (Nat.le_refl _) _⟩
  case round =>
    obtain ⟨i, A, S, hin, rfl, hA, hS, hoA, hoS, hap, hbx, hb⟩ := hrel
    have HA := hyd hA
    have HS := hyd hS
    have OA := hyd hoA
    have OS := hyd hoS
    have HAp := hyd hap
    have HBx := hyd hbx
    have HB := hyd hb
    have hsz := hb.size
    have hAl : A.length ≤ 4 := by rw [hA]; refine Nat.le_trans (List.length_filter_le _ _) ?_; rw [List.length_take]; omega
    have hSl : S.length ≤ 4 := by rw [hS]; refine Nat.le_trans (List.length_filter_le _ _) ?_; rw [List.length_take]; omega
    clear hA hS hoA hoS hap hbx hb c0 m0 d0 d1 d2 d3
    by_cases hil : i < n
    · obtain ⟨t, ht⟩ : ∃ t, g[i]? = some t := ⟨_, List.getElem?_eq_getElem (by rw [Hn.out]; exact hil)⟩
      have htm : t < p.ts.length := HLt.out t (List.mem_of_getElem? ht)
      have P1 := hyd (H.out.up HB.out)
      obtain ⟨c0, -⟩ := P1.out.cells
      obtain ⟨-, -, c2, -⟩ := P1.out.core.cells
      have cr := reg_at P1.out.core H4.out htm hxa4
      obtain ⟨x0, x1, x2, x3, -⟩ := blk_cells HBx.out
      rw [Hxa.out] at x1
      rw [Hm.out] at c2 htm
      obtain ⟨bg, hao, hbg, hcg⟩ := HG.out.cell (by rw [Hn.out]; omega)
      subst hao
      have cg := (HB.out.cell (p := ⟨bg, i, none⟩) hbg).trans (hcg i t ht)
      have eA := hyd (filter_take (P := isZ p.ts x.a) ht)
      have eS := hyd (filter_take (P := fun t => !isZ p.ts x.a t) ht)
      have Ht := hyd ht
      clear hcg ht
      have i1 : (0 : Int) ≤ (i : Int) := by omega
      have i2 : (i : Int) < (n : Int) := by omega
      have t1 : (0 : Int) ≤ (t : Int) := by omega
      have t2 : (t : Int) < (m : Int) := by omega
      obtain ⟨rv, Hrv⟩ : ∃ rv, Hid ((p.ts.getD t thr0).get (xa : Int) = rv) := ⟨_, rfl⟩
      rw [Hrv.out] at cr
      have hzz : Hid (isZ p.ts x.a t = (rv == 0)) := by unfold Hid isZ; rw [Hxa.out, Hrv.out]
      have hOAlt : Hid (∀ b, u8.ownBlock = some b → w.heap.size ≤ b ∧ b < wr.heap.size) := fun b hb => ⟨(OA.out.lt b hb).1, (OA.out.lt b hb).2⟩
      have hOSlt : Hid (∀ b, u9.ownBlock = some b → w.heap.size ≤ b ∧ b < wr.heap.size) := fun b hb => ⟨(OS.out.lt b hb).1, (OS.out.lt b hb).2⟩
      by_cases hrv : rv = 0
      · have g0 : (rv == 0) = true := by simpa using hrv
        have hz : Hid (isZ p.ts x.a t = true) := by unfold Hid; rw [hzz.out, g0]
        rw [hz.out] at eA eS
        clear hrv
        go_wp2_with fail
        go_quiet (fail)
        generalize hw3 : World.drewN wr _ = w3
        have c3 : w3.cell? ⟨bg, i, none⟩ = some (.int .i64 t) := by rw [← hw3]; exact cg
        have bd : Below wr.heap.size wr w3 := by rw [← hw3]; exact ⟨rfl, rfl, rfl, Nat.le_refl _, fun _ _ => rfl⟩
        have hszd : Hid (w3.heap.size = wr.heap.size) := by rw [← hw3]; exact rfl
        have hsz3 : w.heap.size ≤ w3.heap.size := by rw [hszd.out]; exact hsz
        have OA3 := hyd (OA.out.keptB bd)
        have OS3 := hyd (OS.out.keptB bd)
        have BX3 : Hid (BoxAt w3 w.heap.size x) := (bd.block _ (blk_lt HBx.out)).trans HBx.out
        have B3 := hyd (HB.out.trans (bd.mono hsz))
        clear hw3 c0 c2 cr cg OA OS HB HBx bd P1 x0 x1 x2 x3
        go_wp2_with (at_builtin; go_must (refine wpList_append_lies _ rfl (.tmp 46) (.tmp 51) 24 rfl w.heap.size 3 i0 (.int .i64 0) 1 8 Tryz.underlying24 hi hz0 hz1 hz2 rfl (by decide) u8 A.length (natVals A) rfl ?a0 ⟨w3.heap.size, 0, none⟩ 1 1 [.int .i64 t] rfl rfl ?a1 ?a2 (by omega) ?a3 ?a4 ?a5 (w3.heap.size + 1) ?a6 ?_))
        case a0 => exact OA3.out.alloc _
        case a1 => exact World.news_of_block (heap_alloc_new w3 _)
        case a2 => intro u hu; simp at hu; subst hu; rfl
        case a3 => unfold maxLen; omega
        case a4 => omega
        case a5 => simp; omega
        case a6 => simp
        · intro g2 c2 w4 hown4 hgrow4 hat4 _
          rw [← nat_snoc] at hown4
          have hb4 : Below w.heap.size w w4 := (B3.out.alloc hsz3 _).grown hgrow4 (by simp; omega) (fun b hb => (OA3.out.lt b hb).1)
          have hne : u9.ownBlock = none ∨ u9.ownBlock ≠ u8.ownBlock := by
            cases hw : u9.ownBlock with
            | none => exact .inl rfl
            | some b =>
              right
              intro e
              exact HAp.out b b e.symm hw rfl
          have hoth := (OS3.out.alloc (.cells #[.int .i64 t] 3)).kept hgrow4 hne
          have hbx4 : BoxAt w4 w.heap.size x := by
            unfold BoxAt
            rw [hgrow4.block w.heap.size (by have := blk_lt BX3.out; simp; omega) (owns_not OA3.out BX3.out (by decide)), Below.heap_alloc _ _ _ (blk_lt BX3.out)]
            exact BX3.out
          have hap4 : ∀ b c, (Value.slice (some ⟨g2, 0, none⟩) (A.length + 1) c2).ownBlock = some b → u9.ownBlock = some c → b ≠ c := fun b c hb hc => by
            have h1 := hOSlt.out c hc
            have h2 := hszd.out
            simp only [Value.ownBlock, Option.some.injEq] at hb
            subst hb
            rcases hat4 with h | h
            · exact HAp.out _ c h hc
            · omega
          have K4 := hyd (And.intro hown4 (And.intro hoth (And.intro hap4 (And.intro hbx4 hb4))))
          clear hown4 hgrow4 hat4 hb4 hne hoth hbx4 hap4
          go_wp2
          go_roundw
          case rel => exact ⟨i + 1, A ++ [t], S, by omega, by go_num, by rw [eA.out, ← HA.out]; simp, by rw [eS.out, ← HS.out]; simp, by rw [List.length_append]; exact K4.out.1, K4.out.2.1, K4.out.2.2.1, K4.out.2.2.2.1, K4.out.2.2.2.2⟩
          case measure => simp [intOf] <;> omega
      · have g0 : (rv == 0) = false := by simpa using hrv
        have hz : Hid (isZ p.ts x.a t = false) := by unfold Hid; rw [hzz.out, g0]
        rw [hz.out] at eA eS
        clear hrv
        go_wp2_with fail
        go_quiet (fail)
        generalize hw3 : World.drewN wr _ = w3
        have c3 : w3.cell? ⟨bg, i, none⟩ = some (.int .i64 t) := by rw [← hw3]; exact cg
        have bd : Below wr.heap.size wr w3 := by rw [← hw3]; exact ⟨rfl, rfl, rfl, Nat.le_refl _, fun _ _ => rfl⟩
        have hszd : Hid (w3.heap.size = wr.heap.size) := by rw [← hw3]; exact rfl
        have hsz3 : w.heap.size ≤ w3.heap.size := by rw [hszd.out]; exact hsz
        have OA3 := hyd (OA.out.keptB bd)
        have OS3 := hyd (OS.out.keptB bd)
        have BX3 : Hid (BoxAt w3 w.heap.size x) := (bd.block _ (blk_lt HBx.out)).trans HBx.out
        have B3 := hyd (HB.out.trans (bd.mono hsz))
        clear hw3 c0 c2 cr cg OA OS HB HBx bd P1 x0 x1 x2 x3
        go_wp2_with (at_builtin; go_must (refine wpList_append_lies _ rfl (.tmp 53) (.tmp 58) 24 rfl w.heap.size 3 i0 (.int .i64 0) 1 8 Tryz.underlying24 hi hz0 hz1 hz2 rfl (by decide) u9 S.length (natVals S) rfl ?a0 ⟨w3.heap.size, 0, none⟩ 1 1 [.int .i64 t] rfl rfl ?a1 ?a2 (by omega) ?a3 ?a4 ?a5 (w3.heap.size + 1) ?a6 ?_))
        case a0 => exact OS3.out.alloc _
        case a1 => exact World.news_of_block (heap_alloc_new w3 _)
        case a2 => intro u hu; simp at hu; subst hu; rfl
        case a3 => unfold maxLen; omega
        case a4 => omega
        case a5 => simp; omega
        case a6 => simp
        · intro g2 c2 w4 hown4 hgrow4 hat4 _
          rw [← nat_snoc] at hown4
          have hb4 : Below w.heap.size w w4 := (B3.out.alloc hsz3 _).grown hgrow4 (by simp; omega) (fun b hb => (OS3.out.lt b hb).1)
          have hne : u8.ownBlock = none ∨ u8.ownBlock ≠ u9.ownBlock := by
            cases hw : u8.ownBlock with
            | none => exact .inl rfl
            | some b =>
              right
              intro e
              exact HAp.out b b hw e.symm rfl
          have hoth := (OA3.out.alloc (.cells #[.int .i64 t] 3)).kept hgrow4 hne
          have hbx4 : BoxAt w4 w.heap.size x := by
            unfold BoxAt
            rw [hgrow4.block w.heap.size (by have := blk_lt BX3.out; simp; omega) (owns_not OS3.out BX3.out (by decide)), Below.heap_alloc _ _ _ (blk_lt BX3.out)]
            exact BX3.out
          have hap4 : ∀ b c, u8.ownBlock = some b → (Value.slice (some ⟨g2, 0, none⟩) (S.length + 1) c2).ownBlock = some c → b ≠ c := fun b c hb hc => by
            have h1 := hOAlt.out b hb
            have h2 := hszd.out
            simp only [Value.ownBlock, Option.some.injEq] at hc
            subst hc
            rcases hat4 with h | h
            · exact HAp.out b _ hb h
            · omega
          have K4 := hyd (And.intro hown4 (And.intro hoth (And.intro hap4 (And.intro hbx4 hb4))))
          clear hown4 hgrow4 hat4 hb4 hne hoth hbx4 hap4
          go_wp2
          go_roundw
          case rel => exact ⟨i + 1, A, S ++ [t], by omega, by go_num, by rw [eA.out, ← HA.out]; simp, by rw [eS.out, ← HS.out]; simp, K4.out.2.1, by rw [List.length_append]; exact K4.out.1, K4.out.2.2.1, K4.out.2.2.2.1, K4.out.2.2.2.2⟩
          case measure => simp [intOf] <;> omega
    · have hin' : i = g.length := by rw [Hn.out]; omega
      have eA : Hid (A = g.filter (isZ p.ts x.a)) := by have := HA.out; rw [hin', take_all] at this; exact this
      have eS : Hid (S = g.filter (fun t => !isZ p.ts x.a t)) := by have := HS.out; rw [hin', take_all] at this; exact this
      have P1 := hyd (H.out.up HB.out)
      obtain ⟨ja, jc, hjv⟩ := slice_ofN OA.out
      obtain ⟨sa, sc, hsv⟩ := slice_ofN OS.out
      subst hjv
      subst hsv
      have GA : Hid (GAt wr (L.X bP) (.slice ja A.length jc) A) := GAt.of_owned OA.out fun b hb hx => by have := (OA.out.lt b hb).1; have := HXl.out b hx; omega
      have GS : Hid (GAt wr (L.X bP) (.slice sa S.length sc) S) := GAt.of_owned OS.out fun b hb hx => by have := (OS.out.lt b hb).1; have := HXl.out b hx; omega
      have F1 : Hid (Fr B (L.X bP) w wr) := (Fr.refl B (L.X bP) w).low HB.out
      obtain ⟨-, -, x2, -⟩ := blk_cells HBx.out
      have hltA : Hid (∀ t ∈ A, t < p.ts.length) := fun t ht => by rw [eA.out] at ht; exact HLt.out t (List.mem_filter.1 ht).1
      have hltS : Hid (∀ t ∈ S, t < p.ts.length) := fun t ht => by rw [eS.out] at ht; exact HLt.out t (List.mem_filter.1 ht).1
      have hdef : Hid (∀ hs : S ≠ [], ∀ ha : A ≠ [], partsP J (runP k J bud f) p g (pc : Int) x = ({ (runP k J bud f (runP k J bud f { p with opn := p.opn + 1 } A x.b (J.getD pc (-1))) S ((pc : Int) + 1) (J.getD pc (-1))) with opn := (runP k J bud f (runP k J bud f { p with opn := p.opn + 1 } A x.b (J.getD pc (-1))) S ((pc : Int) + 1) (J.getD pc (-1))).opn - 1 }, J.getD pc (-1))) := fun hs ha => by
        unfold partsP
        rw [← eS.out, ← eA.out, if_neg hs, if_neg ha, show ((pc : Nat) : Int).toNat = pc by omega]
      clear HA HS
      by_cases hs0 : S = []
      · have hS0 : S.length = 0 := by rw [hs0]; rfl
        rw [hS0]
        have hpp : Hid (partsP J (runP k J bud f) p g (pc : Int) x = (p, x.b)) := by unfold Hid partsP; rw [← eS.out, if_pos hs0]
        go_wp2
        go_ret
        rw [hpp.out]
        exact ⟨rfl, ⟨vL, P1.out⟩, F1.out⟩
      · obtain ⟨sn, hsn⟩ : ∃ sn, S.length = sn + 1 := ⟨S.length - 1, by have : S.length ≠ 0 := fun e => hs0 (List.eq_nil_of_length_eq_zero e); omega⟩
        by_cases ha0 : A = []
        · have hA0 : A.length = 0 := by rw [ha0]; rfl
          rw [hA0]
          have hpp : Hid (partsP J (runP k J bud f) p g (pc : Int) x = (p, (pc : Int) + 1)) := by unfold Hid partsP; rw [← eS.out, if_neg hs0, ← eA.out, if_pos ha0]
          have gs : ((S.length : Int) == 0) = false := by rw [hsn]; simp; omega
          go_wp2
          go_ret
          rw [hpp.out]
          exact ⟨rfl, ⟨vL, P1.out⟩, F1.out⟩
        · obtain ⟨an, han⟩ : ∃ an, A.length = an + 1 := ⟨A.length - 1, by have : A.length ≠ 0 := fun e => ha0 (List.eq_nil_of_length_eq_zero e); omega⟩
          have Hpp := hyd (hdef.out hs0 ha0)
          have gs : ((S.length : Int) == 0) = false := by rw [hsn]; simp; omega
          have ga : ((A.length : Int) == 0) = false := by rw [han]; simp; omega
          clear hsn han
          obtain ⟨c0, -, -, -, -, -, -, -, c9, -⟩ := P1.out.cells
          have f9 := P1.out.frozen 9
          obtain ⟨-, m1, -⟩ := P1.out.core.cells
          have cj := join_at P1.out.core HJ.out.1 hpk
          obtain ⟨j, Hj⟩ : ∃ j, Hid (J.getD pc (-1) = j) := ⟨_, rfl⟩
          rw [Hj.out] at cj Hpp
          have hlog : Hid (∀ g, vL.ownBlock = some g → g ≠ bP) := fun g hg => (P1.out.ne.2.2.2.2.2 g hg).1
          have P2 := hyd (P1.out.set (i := 9) (v := .int .i64 ((p.opn : Int) + 1)) (p' := { p with opn := p.opn + 1 }) (vL' := vL) (by simp) P1.out.log hlog.out rfl rfl rfl)
          have F2 := hyd (F1.out.set (a := ⟨bP, 9, none⟩) (by simp [RM.X]) (.int .i64 ((p.opn : Int) + 1)))
          have FF := hyd ((Fr.refl B (L.X bP) wr).set (a := ⟨bP, 9, none⟩) (by simp [RM.X]) (.int .i64 ((p.opn : Int) + 1)))
          have GA2 := hyd (GA.out.fr FF.out)
          have GS2 := hyd (GS.out.fr FF.out)
          have hbXn : w.heap.size ∉ L.X bP := fun hm => Nat.lt_irrefl _ (HXl.out _ hm)
          have BX2 := hyd (HBx.out.fr FF.out hbXn)
          obtain ⟨-, -, y2, -⟩ := blk_cells BX2.out
          have hopn2 : (p.opn : Int) ≤ 2000 := by omega
          have hopn0 : (0 : Int) ≤ (p.opn : Int) := by omega
          have C2 : Hid (Cnt bud { p with opn := p.opn + 1 }) := ⟨HC.out.steps, HC.out.log, HC.out.segs, hopn⟩
          clear hbXn x2
          go_wp2_with fail
          refine (HRun.out _ _ _ _ _ x.b j P2.out H4.out h16 h32 C2.out hf GA2.out hltA.out hAl (.inl (.inl Hxb.out))).mono ?_
          rintro e w3 ⟨rfl, ⟨vL3, hP3⟩, hF3⟩
          have K1 := hyd (keep_run k J bud f { p with opn := p.opn + 1 } A x.b j H4.out)
          have C3 := hyd (cnt_run k J bud f { p with opn := p.opn + 1 } A x.b j hAl C2.out)
          generalize runP k J bud f { p with opn := p.opn + 1 } A x.b j = r1 at hP3 K1 C3 Hpp
          have P3 := hyd hP3
          have GS3 := hyd (GS2.out.fr hF3)
          have F3 := hyd (F2.out.trans hF3)
          clear hP3 hF3 c0 c9 f9 m1 cj y2
          have hn1 : (pc : Int) + 1 ≤ 40 := by omega
          go_wp2_with fail
          refine (HRun.out _ _ _ _ _ ((pc : Int) + 1) j P3.out K1.out.1 (by rw [K1.out.2.1]; exact h16) (by rw [K1.out.2.2.1]; exact h32) C3.out.1 (by have := K1.out.2.2.2.2; omega) GS3.out (by rw [K1.out.2.1]; exact hltS.out) hSl (.inl (.inl (by omega)))).mono ?_
          rintro e w4 ⟨rfl, ⟨vL4, hP4⟩, hF4⟩
          have C4 := hyd (cnt_run k J bud f r1 S ((pc : Int) + 1) j hSl C3.out.1)
          generalize runP k J bud f r1 S ((pc : Int) + 1) j = r2 at hP4 C4 Hpp
          have hr2 : Hid (r2.opn = p.opn + 1) := by have h1 := C4.out.2; have h2 := C3.out.2; exact h1.trans h2
          obtain ⟨-, -, -, -, -, -, -, -, c9, -⟩ := hP4.cells
          have f9 := hP4.frozen 9
          rw [hr2.out] at c9
          have P5 := hyd (hP4.set (i := 9) (v := .int .i64 (p.opn : Int)) (p' := { r2 with opn := r2.opn - 1 }) (vL' := vL4) (by rw [hr2.out]; simp) hP4.log (fun g hg => (hP4.ne.2.2.2.2.2 g hg).1) rfl rfl rfl)
          have F5 := hyd ((F3.out.trans hF4).set (a := ⟨bP, 9, none⟩) (by simp [RM.X]) (.int .i64 (p.opn : Int)))
          clear hP4 hF4
          go_wp2
          go_ret
          rw [Hpp.out]
          exact ⟨rfl, ⟨vL4, P5.out⟩, F5.out⟩

end Go.Proofs.YtbhbacphiinpeaaGreat

