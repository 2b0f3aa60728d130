/- Ms: joined. -/
import Derived.Test.YtbhbacphiinpeaaGreatZ20
import Derived.Test.YtbhbacphiinpeaaGreatZ22
import Derived.Deep.Cut

/- What 'run' of package loom does. -/
namespace Go.Proofs.YtbhbacphiinpeaaGreat
open Go.RowKit

theorem Tryz.infoI94 : (Tryz.prog.info? 94).map (fun i => (i.zero, i.size, i.bytes)) = some (some (.agg #[.int .i64 0, .int .i64 0]), 2, 16) := by kernel_rfl

theorem wok_step {k : List Ins} {J : List Int} {b : Nat} {q : Wq} {p : Pl} (h : WOk q) : WOk (stepQ k J b q p).1 := by
  unfold stepQ
  repeat' split
  all_goals first | exact h | exact h.exit | exact h.goOn _ | exact h.branch _ _ _ _ | exact h.wait _

theorem CellsAt.qput {ts : List Thr} {mem : List Int} {x : QM} (h : CellsAt ts mem x) (i : Nat) (q : Wq) : CellsAt ts mem (qPut x i q) :=
  ⟨h.n, h.n16, h.f0, h.names, h.rl, h.regs, h.reg4, h.cnt, h.c32, h.wl, h.wd⟩

theorem slice_ofM {w : World} {base : Nat} {t : TypeId} {sz n : Nat} {v : Value} {xs : List Value} (h : w.ownsRow base t sz v n xs) : ∃ ao cap, v = .slice ao n cap := by
  rcases h.2 with ⟨rfl, h0⟩ | ⟨g, cap, cur, rfl, -⟩
  · exact ⟨none, 0, by rw [h0]⟩
  · exact ⟨_, cap, rfl⟩

/-- What turned from the end of the first world on. -/
theorem Fr.lowB {B : Nat} {X : List Nat} {w w1 w2 : World} (h : Fr B X w w1) (hb : Below w.heap.size w1 w2) : Fr B X w w2 :=
  ⟨hb.os.trans h.os, hb.tape.trans h.tape, hb.output.trans h.output, Nat.le_trans h.size hb.size, fun b hbl hX ht => (hb.block b hbl).trans (h.block b hbl hX ht)⟩

/-- What a run of a warp answers and does. -/
def RunAns (w : World) (L : XM) (m : PM) (x : QM) (i bud : Nat) (e : Ending) (w' : World) : Prop :=
  ∃ X q p v, RanTo m i bud X q p ∧ X.qs = x.qs.set i q ∧ WOk q ∧ MX w' L m.k m.J X ∧ e = .returned ((turnOf i p).val v) ∧ w'.ownsRow w.heap.size 94 2 v p.log.length (flatL p.log) ∧ p.log.length ≤ 2000 ∧ ∀ B, Fr B [L.bX] w w'

structure LoopI (w wr : World) (L : XM) (m : PM) (x : QM) (i bud : Nat) (X : QM) (q : Wq) (p : Pl) (v : Value) (r : Nat) : Prop where
  run : RunI m i bud X q p
  qs : X.qs = x.qs.set i q
  wok : WOk q
  mx : MX wr L m.k m.J X
  res : wr.heap[w.heap.size]? = some (.cells #[.int .i64 0, .int .i64 0, .int .i64 0, .int .i64 0, .int .i64 0, .int .i64 0, .slice none 0 0] 76)
  box : wr.heap[w.heap.size + 1]? = some (.cells #[.int .i64 i, .int .i64 p.steps, .int .i64 p.segs, .int .i64 p.fault, .int .i64 p.fpc, .int .i64 p.fth, v] 76)
  row : wr.ownsRow w.heap.size 94 2 v p.log.length (flatL p.log)
  fr : ∀ B, Fr B [L.bX] w wr
  r : p.steps + r = bud

theorem LoopI.pre {w wr : World} {L : XM} {m : PM} {x : QM} {i bud : Nat} {X : QM} {q : Wq} {p : Pl} {v : Value} {r : Nat} (h : LoopI w wr L m x i bud X q p v r) (hok : PMok m) (hi : i < 4) (hl : x.qs.length = 4) (hf : p.fault = 0) (hr : rdyQ q = true) {w2 : World} (hw : MX w2 L m.k m.J X) :
    ∃ pc ins, IssPre w2 L m.k m.J X i q p pc ins := by
  have hg : q.group ≠ 0 := by intro e; rw [rdyQ, e] at hr; simp at hr
  have hqw : q.waits = false := by unfold rdyQ at hr; simp only [Bool.and_eq_true, Bool.not_eq_true'] at hr; exact hr.2
  obtain ⟨-, c1, c2, c3⟩ := chk_zero (by rw [hok.chk])
  cases h.run.mid using Mid.el with
  | fault he hf' _ _ _ => exact absurd hf hf'
  | wait he hw _ _ _ hq _ _ _ _ => rw [hq] at hqw; cases hqw
  | going he hw' hsi hn hrs hq hf' ht =>
    obtain ⟨hp0, hpn⟩ := hsi.pcs hg
    obtain ⟨ins, hx⟩ : ∃ ins, m.k[q.pc.toNat]? = some ins := ⟨_, List.getElem?_eq_getElem (by omega)⟩
    refine ⟨q.pc.toNat, ins, hw, ?_, h.wok, hg, h.run.cells, fun l hl hb => (hsi.lv l hl hb).2, by omega, hx, c3 _ _ hx, hsi.size, hok.joins.1, c2, hi, he⟩
    rw [h.qs, List.getElem?_set_self (by omega)]

theorem LoopI.not {w wr : World} {L : XM} {m : PM} {x : QM} {i bud : Nat} {X : QM} {q : Wq} {p : Pl} {v : Value} {r : Nat} (h : LoopI w wr L m x i bud X q p v r) : p.log.length ≤ bud := by
  have := h.run.cnt.log; have := h.run.cnt.steps; omega

set_option maxHeartbeats 2000000 in
set_option maxRecDepth 100000 in
theorem mrun_any {w : World} {L : XM} {m : PM} {x : QM} (hok : PMok m) (hm : MX w L m.k m.J x) (hx : Rel m x) (h0 : m.st = 0) (i bud : Nat) (hi : i < 4) (hr : rdyQ (x.qs.getD i wq0) = true) (hw : WOk (x.qs.getD i wq0)) (hb : bud ≤ 2000) :
    Calls Tryz.prog 55 #[pM L, .int .i64 i, .int .i64 bud] w (RunAns w L m x i bud) := by
  have HOK := hyd hok
  have HQL := hyd hx.dn.1
  have HQ0 : Hid (x.qs = x.qs.set i (x.qs.getD i wq0)) := by
    have := qPut_self (qs_at hm.shp hi)
    unfold qPut at this
    unfold Hid
    exact (congrArg QM.qs this).symm
  have HR := hyd (run_begin hok hx h0 hi hr bud)
  have HM := hyd hm
  have HW := hyd hw
  have i1 : (0 : Int) ≤ (i : Int) := by omega
  have i2 : (i : Int) < 4 := by omega
  have b2 : (bud : Int) ≤ 2000 := by omega
  have X1 := hyd (heap_alloc_new w (.cells #[.int .i64 0, .int .i64 0, .int .i64 0, .int .i64 0, .int .i64 0, .int .i64 0, .slice none 0 0] 76))
  have X2 := hyd (heap_alloc_new (w.alloc (.cells #[.int .i64 0, .int .i64 0, .int .i64 0, .int .i64 0, .int .i64 0, .int .i64 0, .slice none 0 0] 76)) (.cells #[.int .i64 i, .int .i64 0, .int .i64 0, .int .i64 0, .int .i64 0, .int .i64 0, .slice none 0 0] 76))
  rw [World.size_alloc] at X2
  have I0 : Hid (LoopI w ((w.alloc (.cells #[.int .i64 0, .int .i64 0, .int .i64 0, .int .i64 0, .int .i64 0, .int .i64 0, .slice none 0 0] 76)).alloc (.cells #[.int .i64 i, .int .i64 0, .int .i64 0, .int .i64 0, .int .i64 0, .int .i64 0, .slice none 0 0] 76)) L m x i bud x (x.qs.getD i wq0) (p0 m) (.slice none 0 0) bud) :=
    ⟨HR.out, HQ0.out, HW.out, (HM.out.alloc _).alloc _, (Below.heap_alloc _ _ _ (blk_lt X1.out)).trans X1.out, X2.out, World.ownsRow_nil _ _ _ _, fun B => ((Fr.refl _ _ _).alloc _).alloc _, Nat.zero_add _⟩
  have hnb : Hid (∀ g, g = L.bX ∨ g = L.gK ∨ g = L.gJ → g < w.heap.size) := fun g hg => HM.out.lt hg
  clear hok hm hx h0 hr hw HR HM HW HQ0
  unfold pM
  go_enter Tryz.func55, Tryz.ntmps55
  go_wp2_with fail
  generalize (w.alloc (.cells #[.int .i64 0, .int .i64 0, .int .i64 0, .int .i64 0, .int .i64 0, .int .i64 0, .slice none 0 0] 76)).alloc (.cells #[.int .i64 i, .int .i64 0, .int .i64 0, .int .i64 0, .int .i64 0, .int .i64 0, .slice none 0 0] 76) = w1 at X2 I0 ⊢
  clear X1 X2
  go_loopg [8] bud (fun r _ wr => ∃ X q p v, Hid (LoopI w wr L m x i bud X q p v r))
  case atStart => exact ⟨_, _, _, _, I0⟩
  case round =>
    clear I0
    obtain ⟨X, q, p, v, I⟩ := hrel
    obtain ⟨⟨x0, x1, x2, x3, x4, x5, x6⟩, f0, f1, f2, f3, f4, f5, f6⟩ := seven_cells I.out.box
    have hqi : Hid (X.qs[i]? = some q) := by unfold Hid; rw [I.out.qs, List.getElem?_set_self (by rw [HQL.out]; exact hi)]
    obtain ⟨va, vc, hv⟩ := slice_ofM I.out.row
    subst hv
    have Hlg := hyd I.out.not
    obtain ⟨lv, Hlv⟩ : ∃ lv, Hid (p.log.length = lv) := ⟨_, rfl⟩
    have ROW : Hid (wr.ownsRow w.heap.size 94 2 (.slice va lv vc) lv (flatL p.log)) := by have := I.out.row; rw [Hlv.out] at this; exact this
    rw [Hlv.out] at x6 I Hlg
    by_cases hs : p.steps < bud
    · have hs2 : (p.steps : Int) < (bud : Int) := by omega
      by_cases hf : p.fault = 0
      · rw [hf] at x3
        have Hf := hyd hf
        have hq := hyd (wready_any I.out.mx hqi.out)
        unfold pW at hq
        rw [oW_int] at hq
        clear hf
        cases hr : rdyQ q with
        | true =>
          rw [hr] at hq
          go_wp2_with fail
          refine hq.out.mono ?_
          rintro e w2 ⟨rfl, rfl⟩
          have hpc := hyd (pc_any I.out.mx hqi.out)
          have hgr := hyd (group_any I.out.mx hqi.out)
          unfold pW at hpc hgr
          rw [oW_int] at hpc hgr
          go_wp2_with fail
          refine hpc.out.mono ?_
          rintro e w2 ⟨rfl, rfl⟩
          go_wp2_with fail
          refine hgr.out.mono ?_
          rintro e w2 ⟨rfl, rfl⟩
          obtain ⟨j0, hj, hy0, hy1, hy2⟩ := info_parts Tryz.infoI94
          have hsz : Hid (w.heap.size + 1 < w2.heap.size) := blk_lt I.out.box
          have hlv : lv ≤ 2000 := Nat.le_trans Hlg.out hb
          go_wp2_with (at_builtin; go_must (refine wpList_append_lies _ rfl (.tmp 43) (.tmp 47) 50 rfl w.heap.size 94 j0 (.agg #[.int .i64 0, .int .i64 0]) 2 16 Tryz.underlying50 hj hy0 hy1 hy2 rfl (by decide) (.slice va lv vc) lv (flatL p.log) rfl ?a0 ⟨w2.heap.size, 0, none⟩ 1 1 [.int .i64 q.pc, .int .i64 q.group] rfl rfl ?a1 ?a2 (by omega) ?a3 ?a4 ?a5 (w2.heap.size + 1) ?a6 ?_))
          case a0 => exact ROW.out.alloc _
          case a1 => exact World.news_of_block (heap_alloc_new w2 (.cells #[.int .i64 q.pc, .int .i64 q.group] 94))
          case a2 => intro u hu; simp at hu; rcases hu with rfl | rfl <;> rfl
          case a3 => unfold maxLen; omega
          case a4 => omega
          case a5 => have := hsz.out; simp only [World.size_alloc]; omega
          case a6 => simp only [World.size_alloc]
          · intro g3 c3 w3 hown3 hgrow3 hat3 _
            rw [← flatL_snoc] at hown3
            have keepB : ∀ b, b < w2.heap.size → some b ≠ (Value.slice va lv vc).ownBlock → w3.heap[b]? = w2.heap[b]? := fun b hb hne => (hgrow3.block b (by rw [World.size_alloc]; omega) hne).trans (Below.heap_alloc _ _ _ hb)
            have hres3 := (keepB w.heap.size (blk_lt I.out.res) (owns_not ROW.out I.out.res (by decide))).trans I.out.res
            have hbox3 := (keepB (w.heap.size + 1) (blk_lt I.out.box) (owns_not ROW.out I.out.box (by decide))).trans I.out.box
            have hlow : ∀ b, b < w.heap.size → some b ≠ (Value.slice va lv vc).ownBlock := fun b hb e => by have := (ROW.out.lt b e.symm).1; omega
            have M3 := hyd (I.out.mx.keep fun g hg => keepB g (I.out.mx.lt hg) (hlow g (hnb.out g hg)))
            have F3 : Hid (∀ B, Fr B [L.bX] w w3) := fun B => ((I.out.fr B).alloc (.cells #[.int .i64 q.pc, .int .i64 q.group] 94)).lowB ⟨hgrow3.os, hgrow3.tape, hgrow3.output, hgrow3.size, fun b hb => hgrow3.block b (by have := hsz.out; rw [World.size_alloc]; omega) (hlow b hb)⟩
            have O3 := hyd hown3
            have B3 := hyd hbox3
            have R3 := hyd hres3
            have hne3 : Hid (g3 ≠ w.heap.size + 1 ∧ g3 ≠ w.heap.size) := ⟨fun e => owns_not hown3 hbox3 (by decide) (by rw [e]; rfl), fun e => owns_not hown3 hres3 (by decide) (by rw [e]; rfl)⟩
            have hgx : Hid (w.heap.size ≤ g3) := (hown3.lt g3 rfl).1
            clear hown3 hgrow3 hat3 keepB hres3 hbox3 hlow x0 x1 x2 x3 x4 x5 x6 f0 f1 f2 f3 f4 f5 f6
            obtain ⟨⟨x0, x1, x2, x3, x4, x5, x6⟩, f0, f1, f2, f3, f4, f5, f6⟩ := seven_cells B3.out
            go_wp2_with fail
            have M4 := hyd (M3.out.setOther (B := w.heap.size + 1) (by have h1 := hnb.out L.bX (.inl rfl); have h2 := hnb.out L.gK (.inr (.inl rfl)); have h3 := hnb.out L.gJ (.inr (.inr rfl)); omega) 6 (.slice (some ⟨g3, 0, none⟩) (lv + 1) c3))
            have F4 : Hid (∀ B, Fr B [L.bX] w (w3.setCell ⟨w.heap.size + 1, 6, none⟩ (.slice (some ⟨g3, 0, none⟩) (lv + 1) c3))) := fun B => (F3.out B).setNew (Nat.le_succ _) _ _
            have B4 := hyd (heap_setCell_same w3 (w.heap.size + 1) 6 _ 76 (.slice (some ⟨g3, 0, none⟩) (lv + 1) c3) B3.out)
            have R4 : Hid ((w3.setCell ⟨w.heap.size + 1, 6, none⟩ (.slice (some ⟨g3, 0, none⟩) (lv + 1) c3)).heap[w.heap.size]? = _) := (Below.heap_setCell _ _ _ _ (by show w.heap.size ≠ w.heap.size + 1; omega)).trans R3.out
            have O4 := hyd (owns_set1 O3.out (a := ⟨w.heap.size + 1, 6, none⟩) hne3.out.1 (.slice (some ⟨g3, 0, none⟩) (lv + 1) c3))
            generalize w3.setCell ⟨w.heap.size + 1, 6, none⟩ (.slice (some ⟨g3, 0, none⟩) (lv + 1) c3) = w4 at M4 F4 B4 R4 O4 ⊢
            clear M3 F3 B3 R3 O3 x0 x1 x2 x3 x4 x5 x6 f0 f1 f2 f3 f4 f5 f6
            obtain ⟨pc, ins, hpre⟩ := I.out.pre HOK.out hi HQL.out Hf.out hr M4.out
            refine (issue_any hpre).mono ?_
            rintro e w5 ⟨⟨sg, ft, th, rfl, e1, e2, e3⟩, ⟨x', hM5, hC5, hO5⟩, hF5⟩
            have HS := hyd (run_more HOK.out I.out.run hs Hf.out hr (hC5.qput i (stepQ m.k m.J (4 * i) q p).1))
            have hcn := HS.out.1.cnt
            obtain ⟨q', p', HSE⟩ : ∃ q' p', Hid (stepQ m.k m.J (4 * i) q p = (q', p')) := ⟨_, _, rfl⟩
            rw [HSE.out] at e1 e2 e3 hM5 hcn
            have HW' : Hid (WOk q') := by have := wok_step (k := m.k) (J := m.J) (b := 4 * i) (p := p) I.out.wok; rw [HSE.out] at this; exact this
            rw [HSE.out] at HS
            dsimp only at e1 e2 e3 hM5 hcn
            have hst : Hid (p'.steps = p.steps + 1) := HS.out.2.1
            have hps : (p.segs : Int) ≤ 8000 := by have := I.out.run.cnt.segs; omega
            have hsg : (sg : Int) ≤ 8004 := by have h1 := hcn.segs; have h2 := hst.out; omega
            have M5 := hyd hM5
            have hX1 : w.heap.size + 1 ∉ [L.bX] := fun hm => by have h1 := List.mem_singleton.1 hm; have h2 := hnb.out L.bX (.inl rfl); omega
            have hX0 : w.heap.size ∉ [L.bX] := fun hm => by have h1 := List.mem_singleton.1 hm; have h2 := hnb.out L.bX (.inl rfl); omega
            have B5 := hyd (fr_block hF5 B4.out hX1)
            have R5 := hyd (fr_block hF5 R4.out hX0)
            have O5 := hyd (owns_same O4.out (w' := w5) fun g hg => by
              simp only [Value.ownBlock, Option.some.injEq] at hg
              subst hg
              exact (hF5 (g3 + 1)).block g3 (O4.out.lt g3 rfl).2 (fun hm => by have h1 := List.mem_singleton.1 hm; have h2 := hnb.out L.bX (.inl rfl); have h3 := hgx.out; omega) (.inl (Nat.lt_succ_self _)))
            have F5 : Hid (∀ B, Fr B [L.bX] w w5) := fun B => (F4.out B).trans (hF5 B)
            have hlt5 : w.heap.size + 1 < w5.heap.size := blk_lt B5.out
            have X6 := hyd (heap_alloc_new w5 (.cells #[.int .i64 sg, .int .i64 ft, .int .i64 th] 135))
            have M6 := hyd (M5.out.alloc (.cells #[.int .i64 sg, .int .i64 ft, .int .i64 th] 135))
            have B6 : Hid ((w5.alloc (.cells #[.int .i64 sg, .int .i64 ft, .int .i64 th] 135)).heap[w.heap.size + 1]? = _) := (Below.heap_alloc _ _ _ hlt5).trans B5.out
            have R6 : Hid ((w5.alloc (.cells #[.int .i64 sg, .int .i64 ft, .int .i64 th] 135)).heap[w.heap.size]? = _) := (Below.heap_alloc _ _ _ (by omega)).trans R5.out
            have O6 := hyd (O5.out.alloc (.cells #[.int .i64 sg, .int .i64 ft, .int .i64 th] 135))
            have F6 : Hid (∀ B, Fr B [L.bX] w (w5.alloc (.cells #[.int .i64 sg, .int .i64 ft, .int .i64 th] 135))) := fun B => (F5.out B).alloc _
            have E1 := hyd e1
            have E2 := hyd e2
            have E3 := hyd e3
            have HO5 := hyd hO5.qs
            clear e1 e2 e3 hM5 hC5 hO5 hF5 hcn M5 R5 O5 F5 M4 F4 B4 R4 O4 hpre hX1 hX0
            go_upto_region 7 with fail
            generalize w5.alloc (.cells #[.int .i64 sg, .int .i64 ft, .int .i64 th] 135) = w6 at X6 M6 B6 R6 O6 F6 ⊢
            generalize w5.heap.size = b5 at X6 hlt5 ⊢
            have hb5 : Hid (b5 ≠ w.heap.size + 1) := by unfold Hid; omega
            obtain ⟨⟨x0, x1, x2, x3, x4, x5, x6⟩, f0, f1, f2, f3, f4, f5, f6⟩ := seven_cells B6.out
            go_upto_region 8 with fail
            have hnx : Hid (w.heap.size + 1 ≠ L.bX ∧ w.heap.size + 1 ≠ L.gK ∧ w.heap.size + 1 ≠ L.gJ) := by have h1 := hnb.out L.bX (.inl rfl); have h2 := hnb.out L.gK (.inr (.inl rfl)); have h3 := hnb.out L.gJ (.inr (.inr rfl)); unfold Hid; omega
            have M7 := hyd (M6.out.setOther hnx.out 1 (.int .i64 ((p.steps : Int) + 1)))
            have B7 := hyd (heap_setCell_same w6 (w.heap.size + 1) 1 _ 76 (.int .i64 ((p.steps : Int) + 1)) B6.out)
            have R7 : Hid ((w6.setCell ⟨w.heap.size + 1, 1, none⟩ (.int .i64 ((p.steps : Int) + 1))).heap[w.heap.size]? = _) := (Below.heap_setCell _ _ _ _ (by show w.heap.size ≠ w.heap.size + 1; omega)).trans R6.out
            have X7 : Hid ((w6.setCell ⟨w.heap.size + 1, 1, none⟩ (.int .i64 ((p.steps : Int) + 1))).heap[b5]? = _) := (Below.heap_setCell _ _ _ _ hb5.out).trans X6.out
            have O7 := hyd (owns_set1 O6.out (a := ⟨w.heap.size + 1, 1, none⟩) hne3.out.1 (.int .i64 ((p.steps : Int) + 1)))
            have F7 : Hid (∀ B, Fr B [L.bX] w (w6.setCell ⟨w.heap.size + 1, 1, none⟩ (.int .i64 ((p.steps : Int) + 1)))) := fun B => (F6.out B).setNew (Nat.le_succ _) _ _
            generalize w6.setCell ⟨w.heap.size + 1, 1, none⟩ (.int .i64 ((p.steps : Int) + 1)) = w7 at M7 B7 R7 X7 O7 F7 ⊢
            clear M6 B6 R6 X6 O6 F6 x0 x1 x2 x3 x4 x5 x6 f0 f1 f2 f3 f4 f5 f6
            obtain ⟨⟨x0, x1, x2, x3, x4, x5, x6⟩, f0, f1, f2, f3, f4, f5, f6⟩ := seven_cells B7.out
            obtain ⟨t0, t1, t2, -, -, -⟩ := box3 X7.out
            go_upto_region 9 with fail
            have M8 := hyd (M7.out.setOther hnx.out 2 (.int .i64 ((p.segs : Int) + (sg : Int))))
            have B8 := hyd (heap_setCell_same w7 (w.heap.size + 1) 2 _ 76 (.int .i64 ((p.segs : Int) + (sg : Int))) B7.out)
            have R8 : Hid ((w7.setCell ⟨w.heap.size + 1, 2, none⟩ (.int .i64 ((p.segs : Int) + (sg : Int)))).heap[w.heap.size]? = _) := (Below.heap_setCell _ _ _ _ (by show w.heap.size ≠ w.heap.size + 1; omega)).trans R7.out
            have X8 : Hid ((w7.setCell ⟨w.heap.size + 1, 2, none⟩ (.int .i64 ((p.segs : Int) + (sg : Int)))).heap[b5]? = _) := (Below.heap_setCell _ _ _ _ hb5.out).trans X7.out
            have O8 := hyd (owns_set1 O7.out (a := ⟨w.heap.size + 1, 2, none⟩) hne3.out.1 (.int .i64 ((p.segs : Int) + (sg : Int))))
            have F8 : Hid (∀ B, Fr B [L.bX] w (w7.setCell ⟨w.heap.size + 1, 2, none⟩ (.int .i64 ((p.segs : Int) + (sg : Int))))) := fun B => (F7.out B).setNew (Nat.le_succ _) _ _
            generalize w7.setCell ⟨w.heap.size + 1, 2, none⟩ (.int .i64 ((p.segs : Int) + (sg : Int))) = w8 at M8 B8 R8 X8 O8 F8 ⊢
            clear M7 B7 R7 X7 O7 F7 x0 x1 x2 x3 x4 x5 x6 f0 f1 f2 f3 f4 f5 f6 t0 t1 t2
            obtain ⟨⟨x0, x1, x2, x3, x4, x5, x6⟩, f0, f1, f2, f3, f4, f5, f6⟩ := seven_cells B8.out
            obtain ⟨t0, t1, t2, -, -, -⟩ := box3 X8.out
            have hlg : Hid (p'.log = p.log ++ [(q.pc, (q.group : Int))]) := HS.out.2.2
            have hll : Hid (p'.log.length = lv + 1) := by unfold Hid; rw [hlg.out, List.length_append, Hlv.out]; rfl
            have hqs : Hid ((qPut x' i q').qs = x.qs.set i q') := by unfold Hid qPut; simp only; rw [HO5.out, I.out.qs, List.set_set]
            have eS : Hid (((p.steps : Int) + 1) = (p'.steps : Int)) := by unfold Hid; rw [hst.out]; omega
            have eG : Hid (((p.segs : Int) + (sg : Int)) = (p'.segs : Int)) := by unfold Hid; rw [E1.out]; omega
            obtain ⟨gk', hgk⟩ : ∃ gk', gk = gk' + 1 := ⟨gk - 1, by have := I.out.r; omega⟩
            have Hgr : Hid (p'.steps + gk' = bud) := by have := I.out.r; have := hst.out; unfold Hid; omega
            have HGK := hyd hgk
            clear hgk
            by_cases hft : ft = 0
            · subst hft
              obtain ⟨q1, q2, q3⟩ := E2.out rfl
              have HQ := hyd (And.intro q1 (And.intro q2 q3))
              clear q1 q2 q3 E2 E3
              go_wp2_with fail
              go_roundg gk'
              case measure => have := HGK.out; omega
              case rel =>
                refine ⟨qPut x' i q', q', p', .slice (some ⟨g3, 0, none⟩) (lv + 1) c3, ⟨HS.out.1, hqs.out, HW'.out, M8.out, R8.out, ?_, ?_, F8.out, Hgr.out⟩⟩
                · rw [HQ.out.1, HQ.out.2.1, HQ.out.2.2, ← eS.out, ← eG.out]; exact B8.out
                · rw [hll.out, hlg.out]; exact O8.out
            · have hfb : (ft != 0) = true := by simpa using hft
              obtain ⟨q1, q2, q3⟩ := E3.out hft
              have HQ := hyd (And.intro q1 (And.intro q2 q3))
              clear q1 q2 q3 E2 E3 hft
              go_wp2_with fail
              go_roundg gk'
              case measure => have := HGK.out; omega
              case rel =>
                have b1 := heap_setCell_same w8 (w.heap.size + 1) 3 _ 76 (.int .i64 ft) B8.out
                have b2 := heap_setCell_same _ (w.heap.size + 1) 4 _ 76 (.int .i64 q.pc) b1
                have b3 := heap_setCell_same _ (w.heap.size + 1) 5 _ 76 (.int .i64 th) b2
                refine ⟨qPut x' i q', q', p', .slice (some ⟨g3, 0, none⟩) (lv + 1) c3, ⟨HS.out.1, hqs.out, HW'.out, ((M8.out.setOther hnx.out 3 _).setOther hnx.out 4 _).setOther hnx.out 5 _, ?_, ?_, ?_, fun B => (((F8.out B).setNew (Nat.le_succ _) _ _).setNew (Nat.le_succ _) _ _).setNew (Nat.le_succ _) _ _, Hgr.out⟩⟩
                · exact (Below.heap_setCell _ _ _ _ (by show w.heap.size ≠ w.heap.size + 1; omega)).trans ((Below.heap_setCell _ _ _ _ (by show w.heap.size ≠ w.heap.size + 1; omega)).trans ((Below.heap_setCell _ _ _ _ (by show w.heap.size ≠ w.heap.size + 1; omega)).trans R8.out))
                · rw [HQ.out.1, HQ.out.2.1, HQ.out.2.2, ← eS.out, ← eG.out]; exact b3
                · rw [hll.out, hlg.out]; exact owns_set1 (owns_set1 (owns_set1 O8.out (a := ⟨w.heap.size + 1, 3, none⟩) hne3.out.1 _) (a := ⟨w.heap.size + 1, 4, none⟩) hne3.out.1 _) (a := ⟨w.heap.size + 1, 5, none⟩) hne3.out.1 _
        | false =>
          rw [hr] at hq
          go_wp2_with fail
          refine hq.out.mono ?_
          rintro e w2 ⟨rfl, rfl⟩
          obtain ⟨⟨r0, r1, r2, r3, r4, r5, r6⟩, z0, z1, z2, z3, z4, z5, z6⟩ := seven_cells I.out.res
          go_wp2_with fail
          have hlb : ∀ g, (Value.slice va lv vc).ownBlock = some g → g ≠ w.heap.size := fun g hg e => by
            subst e
            exact owns_not ROW.out I.out.res (by decide) hg.symm
          have RZ := hyd (seven_set I.out.res (.int .i64 i) (.int .i64 p.steps) (.int .i64 p.segs) (.int .i64 0) (.int .i64 p.fpc) (.int .i64 p.fth) (.slice va lv vc))
          have OZ := hyd (seven_owns ROW.out hlb (.int .i64 i) (.int .i64 p.steps) (.int .i64 p.segs) (.int .i64 0) (.int .i64 p.fpc) (.int .i64 p.fth) (.slice va lv vc))
          have bz := seven_below w2 w.heap.size (.int .i64 i) (.int .i64 p.steps) (.int .i64 p.segs) (.int .i64 0) (.int .i64 p.fpc) (.int .i64 p.fth) (.slice va lv vc)
          have MZ := hyd (I.out.mx.keep (w' := (((((((w2.setCell ⟨w.heap.size, 0, none⟩ (.int .i64 i)).setCell ⟨w.heap.size, 1, none⟩ (.int .i64 p.steps)).setCell ⟨w.heap.size, 2, none⟩ (.int .i64 p.segs)).setCell ⟨w.heap.size, 3, none⟩ (.int .i64 0)).setCell ⟨w.heap.size, 4, none⟩ (.int .i64 p.fpc)).setCell ⟨w.heap.size, 5, none⟩ (.int .i64 p.fth)).setCell ⟨w.heap.size, 6, none⟩ (.slice va lv vc))) fun g hg => bz.block g (hnb.out g hg))
          have FZ : Hid (∀ B, Fr B [L.bX] w (((((((w2.setCell ⟨w.heap.size, 0, none⟩ (.int .i64 i)).setCell ⟨w.heap.size, 1, none⟩ (.int .i64 p.steps)).setCell ⟨w.heap.size, 2, none⟩ (.int .i64 p.segs)).setCell ⟨w.heap.size, 3, none⟩ (.int .i64 0)).setCell ⟨w.heap.size, 4, none⟩ (.int .i64 p.fpc)).setCell ⟨w.heap.size, 5, none⟩ (.int .i64 p.fth)).setCell ⟨w.heap.size, 6, none⟩ (.slice va lv vc))) := fun B => (I.out.fr B).lowB bz
          clear bz r0 r1 r2 r3 r4 r5 r6 z0 z1 z2 z3 z4 z5 z6 x0 x1 x2 x3 x4 x5 x6 f0 f1 f2 f3 f4 f5 f6
          generalize ((((((w2.setCell ⟨w.heap.size, 0, none⟩ (.int .i64 i)).setCell ⟨w.heap.size, 1, none⟩ (.int .i64 p.steps)).setCell ⟨w.heap.size, 2, none⟩ (.int .i64 p.segs)).setCell ⟨w.heap.size, 3, none⟩ (.int .i64 0)).setCell ⟨w.heap.size, 4, none⟩ (.int .i64 p.fpc)).setCell ⟨w.heap.size, 5, none⟩ (.int .i64 p.fth)).setCell ⟨w.heap.size, 6, none⟩ (.slice va lv vc) = wz at RZ OZ MZ FZ ⊢
          obtain ⟨⟨y0, y1, y2, y3, y4, y5, y6⟩, -⟩ := seven_cells RZ.out
          (try simp only [Exit.inBlock, Exit.then]); refine bodyPost_ret (by simp [results, Tryz.results55, go_sem, y0, y1, y2, y3, y4, y5, y6]; try rfl) rfl ?_
          refine ⟨X, q, p, .slice va lv vc, run_over I.out.run ?_, I.out.qs, I.out.wok, MZ.out, ?_, ?_, ?_, FZ.out⟩
          · intro h; rw [hr] at h; exact absurd h.2.2 (by decide)
          · rw [show (turnOf i p) = ⟨i, p.steps, p.segs, 0, p.fpc, p.fth, p.log⟩ by unfold turnOf; rw [Hf.out]]; rfl
          · rw [Hlv.out]; exact OZ.out
          · exact Nat.le_trans I.out.not hb
      · have hfb : (p.fault == 0) = false := by simpa using hf
        have Hf := hyd hf
        clear hf
        obtain ⟨⟨r0, r1, r2, r3, r4, r5, r6⟩, z0, z1, z2, z3, z4, z5, z6⟩ := seven_cells I.out.res
        go_wp2_with fail
        have hlb : ∀ g, (Value.slice va lv vc).ownBlock = some g → g ≠ w.heap.size := fun g hg e => by
          subst e
          exact owns_not ROW.out I.out.res (by decide) hg.symm
        have RZ := hyd (seven_set I.out.res (.int .i64 i) (.int .i64 p.steps) (.int .i64 p.segs) (.int .i64 p.fault) (.int .i64 p.fpc) (.int .i64 p.fth) (.slice va lv vc))
        have OZ := hyd (seven_owns ROW.out hlb (.int .i64 i) (.int .i64 p.steps) (.int .i64 p.segs) (.int .i64 p.fault) (.int .i64 p.fpc) (.int .i64 p.fth) (.slice va lv vc))
        have bz := seven_below wr w.heap.size (.int .i64 i) (.int .i64 p.steps) (.int .i64 p.segs) (.int .i64 p.fault) (.int .i64 p.fpc) (.int .i64 p.fth) (.slice va lv vc)
        have MZ := hyd (I.out.mx.keep (w' := (((((((wr.setCell ⟨w.heap.size, 0, none⟩ (.int .i64 i)).setCell ⟨w.heap.size, 1, none⟩ (.int .i64 p.steps)).setCell ⟨w.heap.size, 2, none⟩ (.int .i64 p.segs)).setCell ⟨w.heap.size, 3, none⟩ (.int .i64 p.fault)).setCell ⟨w.heap.size, 4, none⟩ (.int .i64 p.fpc)).setCell ⟨w.heap.size, 5, none⟩ (.int .i64 p.fth)).setCell ⟨w.heap.size, 6, none⟩ (.slice va lv vc))) fun g hg => bz.block g (hnb.out g hg))
        have FZ : Hid (∀ B, Fr B [L.bX] w (((((((wr.setCell ⟨w.heap.size, 0, none⟩ (.int .i64 i)).setCell ⟨w.heap.size, 1, none⟩ (.int .i64 p.steps)).setCell ⟨w.heap.size, 2, none⟩ (.int .i64 p.segs)).setCell ⟨w.heap.size, 3, none⟩ (.int .i64 p.fault)).setCell ⟨w.heap.size, 4, none⟩ (.int .i64 p.fpc)).setCell ⟨w.heap.size, 5, none⟩ (.int .i64 p.fth)).setCell ⟨w.heap.size, 6, none⟩ (.slice va lv vc))) := fun B => (I.out.fr B).lowB bz
        clear bz r0 r1 r2 r3 r4 r5 r6 z0 z1 z2 z3 z4 z5 z6 x0 x1 x2 x3 x4 x5 x6 f0 f1 f2 f3 f4 f5 f6
        generalize ((((((wr.setCell ⟨w.heap.size, 0, none⟩ (.int .i64 i)).setCell ⟨w.heap.size, 1, none⟩ (.int .i64 p.steps)).setCell ⟨w.heap.size, 2, none⟩ (.int .i64 p.segs)).setCell ⟨w.heap.size, 3, none⟩ (.int .i64 p.fault)).setCell ⟨w.heap.size, 4, none⟩ (.int .i64 p.fpc)).setCell ⟨w.heap.size, 5, none⟩ (.int .i64 p.fth)).setCell ⟨w.heap.size, 6, none⟩ (.slice va lv vc) = wz at RZ OZ MZ FZ ⊢
        obtain ⟨⟨y0, y1, y2, y3, y4, y5, y6⟩, -⟩ := seven_cells RZ.out
        (try simp only [Exit.inBlock, Exit.then]); refine bodyPost_ret (by simp [results, Tryz.results55, go_sem, y0, y1, y2, y3, y4, y5, y6]; try rfl) rfl ?_
        refine ⟨X, q, p, .slice va lv vc, run_over I.out.run ?_, I.out.qs, I.out.wok, MZ.out, ?_, ?_, ?_, FZ.out⟩
        · intro h; exact Hf.out h.2.1
        · rfl
        · rw [Hlv.out]; exact OZ.out
        · exact Nat.le_trans I.out.not hb
    · have hs2 : (bud : Int) ≤ (p.steps : Int) := by omega
      have hd : decide ((p.steps : Int) < (bud : Int)) = false := by simp; omega
      have Hs := hyd hs
      clear hs
      obtain ⟨⟨r0, r1, r2, r3, r4, r5, r6⟩, z0, z1, z2, z3, z4, z5, z6⟩ := seven_cells I.out.res
      go_wp2_with fail
      have hlb : ∀ g, (Value.slice va lv vc).ownBlock = some g → g ≠ w.heap.size := fun g hg e => by
        subst e
        exact owns_not ROW.out I.out.res (by decide) hg.symm
      have RZ := hyd (seven_set I.out.res (.int .i64 i) (.int .i64 p.steps) (.int .i64 p.segs) (.int .i64 p.fault) (.int .i64 p.fpc) (.int .i64 p.fth) (.slice va lv vc))
      have OZ := hyd (seven_owns ROW.out hlb (.int .i64 i) (.int .i64 p.steps) (.int .i64 p.segs) (.int .i64 p.fault) (.int .i64 p.fpc) (.int .i64 p.fth) (.slice va lv vc))
      have bz := seven_below wr w.heap.size (.int .i64 i) (.int .i64 p.steps) (.int .i64 p.segs) (.int .i64 p.fault) (.int .i64 p.fpc) (.int .i64 p.fth) (.slice va lv vc)
      have MZ := hyd (I.out.mx.keep (w' := (((((((wr.setCell ⟨w.heap.size, 0, none⟩ (.int .i64 i)).setCell ⟨w.heap.size, 1, none⟩ (.int .i64 p.steps)).setCell ⟨w.heap.size, 2, none⟩ (.int .i64 p.segs)).setCell ⟨w.heap.size, 3, none⟩ (.int .i64 p.fault)).setCell ⟨w.heap.size, 4, none⟩ (.int .i64 p.fpc)).setCell ⟨w.heap.size, 5, none⟩ (.int .i64 p.fth)).setCell ⟨w.heap.size, 6, none⟩ (.slice va lv vc))) fun g hg => bz.block g (hnb.out g hg))
      have FZ : Hid (∀ B, Fr B [L.bX] w (((((((wr.setCell ⟨w.heap.size, 0, none⟩ (.int .i64 i)).setCell ⟨w.heap.size, 1, none⟩ (.int .i64 p.steps)).setCell ⟨w.heap.size, 2, none⟩ (.int .i64 p.segs)).setCell ⟨w.heap.size, 3, none⟩ (.int .i64 p.fault)).setCell ⟨w.heap.size, 4, none⟩ (.int .i64 p.fpc)).setCell ⟨w.heap.size, 5, none⟩ (.int .i64 p.fth)).setCell ⟨w.heap.size, 6, none⟩ (.slice va lv vc))) := fun B => (I.out.fr B).lowB bz
      clear bz r0 r1 r2 r3 r4 r5 r6 z0 z1 z2 z3 z4 z5 z6 x0 x1 x2 x3 x4 x5 x6 f0 f1 f2 f3 f4 f5 f6
      generalize ((((((wr.setCell ⟨w.heap.size, 0, none⟩ (.int .i64 i)).setCell ⟨w.heap.size, 1, none⟩ (.int .i64 p.steps)).setCell ⟨w.heap.size, 2, none⟩ (.int .i64 p.segs)).setCell ⟨w.heap.size, 3, none⟩ (.int .i64 p.fault)).setCell ⟨w.heap.size, 4, none⟩ (.int .i64 p.fpc)).setCell ⟨w.heap.size, 5, none⟩ (.int .i64 p.fth)).setCell ⟨w.heap.size, 6, none⟩ (.slice va lv vc) = wz at RZ OZ MZ FZ ⊢
      obtain ⟨⟨y0, y1, y2, y3, y4, y5, y6⟩, -⟩ := seven_cells RZ.out
      (try simp only [Exit.inBlock, Exit.then]); refine bodyPost_ret (by simp [results, Tryz.results55, go_sem, y0, y1, y2, y3, y4, y5, y6]; try rfl) rfl ?_
      refine ⟨X, q, p, .slice va lv vc, run_over I.out.run ?_, I.out.qs, I.out.wok, MZ.out, ?_, ?_, ?_, FZ.out⟩
      · intro h; exact Hs.out h.1
      · rfl
      · rw [Hlv.out]; exact OZ.out
      · exact Nat.le_trans I.out.not hb

end Go.Proofs.YtbhbacphiinpeaaGreat

