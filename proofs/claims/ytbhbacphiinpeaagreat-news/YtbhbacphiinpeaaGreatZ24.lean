/- Mu: joined. -/
import Derived.Test.YtbhbacphiinpeaaGreatZ23
import Derived.Handy

/- What 'Turn' of package loom does. -/
namespace Go.Proofs.YtbhbacphiinpeaaGreat
open Go.RowKit

/-- The program's machine in memory, beside the plain one. -/
structure XAt (w : World) (L : XM) (m : PM) (x : QM) : Prop where
  mx : MX w L m.k m.J x
  rel : Rel m x
  wok : ∀ q ∈ x.qs, WOk q

theorem XAt.keep {w w' : World} {L : XM} {m : PM} {x : QM} (h : XAt w L m x) (hk : ∀ g, (g = L.bX ∨ g = L.gK ∨ g = L.gJ) → w'.heap[g]? = w.heap[g]?) : XAt w' L m x := ⟨h.mx.keep hk, h.rel, h.wok⟩
theorem XAt.up {w w' : World} {L : XM} {m : PM} {x : QM} (h : XAt w L m x) (hb : Below w.heap.size w w') : XAt w' L m x := ⟨h.mx.up hb, h.rel, h.wok⟩

theorem settle_k (m : PM) : (settleP m).k = m.k ∧ (settleP m).J = m.J := by
  unfold settleP
  split
  · exact ⟨rfl, rfl⟩
  split <;> exact ⟨rfl, rfl⟩
theorem after_k (m : PM) (i : Nat) (p : Pl) : (afterP m i p).k = m.k ∧ (afterP m i p).J = m.J := by
  unfold afterP
  simp only
  split
  · exact ⟨rfl, rfl⟩
  · exact settle_k _

set_option maxHeartbeats 400000 in
set_option maxRecDepth 100000 in
theorem mturn_stopped {w : World} {L : XM} {m : PM} {x : QM} (h : XAt w L m x) (pick bud : Int) (h0 : m.st ≠ 0) :
    Calls Tryz.prog 37 #[pM L, .int .i64 pick, .int .i64 bud] w fun e w' => e = .returned (.tuple #[Trn.none.val (.slice none 0 0), .int .i64 6]) ∧ Below w.heap.size w w' := by
  have g0 : (m.st != 0) = true := by simpa using h0
  obtain ⟨-, -, -, c3, -⟩ := (h.mx.alloc (.cells #[.int .i64 0, .int .i64 0, .int .i64 0, .int .i64 0, .int .i64 0, .int .i64 0, .slice none 0 0] 76)).head
  rw [h.rel.st] at c3
  clear h h0
  unfold pM
  go_enter Tryz.func37, Tryz.ntmps37
  go_wp2
  go_returns
  exact ⟨rfl, (Below.refl _ _).alloc (Nat.le_refl _) _⟩

set_option maxHeartbeats 400000 in
set_option maxRecDepth 100000 in
theorem mturn_budget {w : World} {L : XM} {m : PM} {x : QM} (h : XAt w L m x) (pick bud : Int) (h0 : m.st = 0) (hb : bud < 1 ∨ 2000 < bud) :
    Calls Tryz.prog 37 #[pM L, .int .i64 pick, .int .i64 bud] w fun e w' => e = .returned (.tuple #[Trn.none.val (.slice none 0 0), .int .i64 7]) ∧ Below w.heap.size w w' := by
  obtain ⟨-, -, -, c3, -⟩ := (h.mx.alloc (.cells #[.int .i64 0, .int .i64 0, .int .i64 0, .int .i64 0, .int .i64 0, .int .i64 0, .slice none 0 0] 76)).head
  rw [h.rel.st, h0] at c3
  clear h h0
  unfold pM
  by_cases hb1 : bud < 1
  · have g1 : decide (bud < 1) = true := by simpa using hb1
    go_enter Tryz.func37, Tryz.ntmps37
    go_wp2
    go_returns
    exact ⟨rfl, (Below.refl _ _).alloc (Nat.le_refl _) _⟩
  · have g1 : decide (bud < 1) = false := by simpa using hb1
    have g2 : decide (2000 < bud) = true := by
      rcases hb with h | h
      · exact absurd h hb1
      · simpa using h
    go_enter Tryz.func37, Tryz.ntmps37
    go_wp2
    go_returns
    exact ⟨rfl, (Below.refl _ _).alloc (Nat.le_refl _) _⟩

/-- What a turn that is made answers and does. -/
def MTurnAns (w : World) (L : XM) (m : PM) (j : Nat) (q : Pl) (e : Ending) (w' : World) : Prop :=
  ∃ v x', e = .returned (.tuple #[(turnOf j q).val v, .int .i64 0]) ∧ w'.ownsRow w.heap.size 94 2 v q.log.length (flatL q.log) ∧ q.log.length ≤ 2000 ∧ XAt w' L (afterP m j q) x' ∧ ∀ B, Fr B [L.bX] w w'

theorem free_no {x : QM} (h : ¬ rdyN x.qs 4 = []) : freeQ x = x := by unfold freeQ; rw [if_neg h]
theorem free_yes {x : QM} (h : rdyN x.qs 4 = []) : freeQ x = { x with qs := x.qs.map fun q => ({ q with waits := false } : Wq) } := by unfold freeQ; rw [if_pos h]
theorem wok_free {x : QM} (h : ∀ q ∈ x.qs, WOk q) : ∀ q ∈ (freeQ x).qs, WOk q := by
  unfold freeQ
  split
  · intro q hq
    obtain ⟨y, hy, rfl⟩ := List.mem_map.1 hq
    exact ⟨(h y hy).sp, (h y hy).opn, (h y hy).done, (h y hy).grp, (h y hy).sg, (h y hy).sl⟩
  · exact h

set_option maxHeartbeats 2000000 in
set_option maxRecDepth 100000 in
theorem mturn_made {w : World} {L : XM} {m : PM} {x : QM} (h : XAt w L m x) (hok : PMok m) (pick : Int) (bn : Nat) (h0 : m.st = 0) (hb1 : 1 ≤ bn) (hb2 : bn ≤ 2000) :
    Calls Tryz.prog 37 #[pM L, .int .i64 pick, .int .i64 bn] w (MTurnAns w L m (pickW (readyL m.ws) pick) (playP m (pickW (readyL m.ws) pick) bn)) := by
  have H := hyd h
  have HOK := hyd hok
  have HS := hyd h0
  have hrl : readyL m.ws = rdyN x.qs 4 := ready_of (by have := hok.lenW; have := hok.n16; omega) (h.rel.rest h0)
  have hmem := pick_mem (hok.rdy h0) pick
  rw [hrl] at hmem ⊢
  have hmem' : pickW (rdyN x.qs 4) pick < 4 ∧ rdyQ (x.qs.getD (pickW (rdyN x.qs 4) pick) wq0) = true := by
    have := hmem
    unfold rdyN at this
    rw [List.mem_filter, List.mem_range] at this
    exact this
  obtain ⟨j, Hj⟩ : ∃ j, Hid (pickW (rdyN x.qs 4) pick = j) := ⟨_, rfl⟩
  rw [Hj.out] at hmem' ⊢
  obtain ⟨hj4, hrj⟩ := hmem'
  have HR := hyd hrj
  have j1 : (0 : Int) ≤ (j : Int) := by omega
  have j2 : (j : Int) < 4 := by omega
  have d1 : decide ((bn : Int) < 1) = false := by simp; omega
  have d2 : decide (2000 < (bn : Int)) = false := by simp; omega
  have X1 := hyd (heap_alloc_new w (.cells #[.int .i64 0, .int .i64 0, .int .i64 0, .int .i64 0, .int .i64 0, .int .i64 0, .slice none 0 0] 76))
  have M1 := hyd (h.mx.alloc (.cells #[.int .i64 0, .int .i64 0, .int .i64 0, .int .i64 0, .int .i64 0, .int .i64 0, .slice none 0 0] 76))
  have F1 : Hid (∀ B, Fr B [L.bX] w (w.alloc (.cells #[.int .i64 0, .int .i64 0, .int .i64 0, .int .i64 0, .int .i64 0, .int .i64 0, .slice none 0 0] 76))) := fun B => (Fr.refl _ _ _).alloc _
  obtain ⟨-, -, -, c3, -⟩ := M1.out.head
  rw [h.rel.st, h0] at c3
  have hnb : Hid (∀ g, g = L.bX ∨ g = L.gK ∨ g = L.gJ → g < w.heap.size) := fun g hg => H.out.mx.lt hg
  clear h hok h0 hrl hmem hrj
  unfold pM
  go_enter Tryz.func37, Tryz.ntmps37
  go_wp2_with fail
  have hch := hyd (choose_any M1.out pick)
  rw [Hj.out] at hch
  unfold pM' at hch
  refine hch.out.mono ?_
  rintro e w2 ⟨rfl, rfl⟩
  clear hch
  go_wp2_with fail
  have O1 := H.out
  refine (mrun_any HOK.out M1.out O1.rel HS.out j bn hj4 HR.out (O1.wok _ (List.mem_of_getElem? (qs_at O1.mx.shp hj4))) hb2).mono ?_
  clear O1
  rintro e w3 ⟨X, q, p, v, hRT, hQS, hWq, hMX, rfl, hrow, hl2, hFr⟩
  simp only [World.size_alloc] at hrow
  obtain ⟨va, vc, hv⟩ := slice_ofM hrow
  subst hv
  obtain ⟨lv, Hlv⟩ : ∃ lv, Hid (p.log.length = lv) := ⟨_, rfl⟩
  rw [Hlv.out] at hrow hl2
  rw [Hlv.out]
  have RT := hyd hRT
  have QS := hyd hQS
  have WQ := hyd hWq
  have LL := hyd hl2
  have hX0 : Hid (w.heap.size ∉ [L.bX]) := fun hm => by have h1 := List.mem_singleton.1 hm; have h2 := hnb.out L.bX (.inl rfl); omega
  have R3 := hyd (fr_block hFr X1.out hX0.out)
  have F3 : Hid (∀ B, Fr B [L.bX] w w3) := fun B => (F1.out B).trans (hFr B)
  have hlt3 : w.heap.size < w3.heap.size := blk_lt R3.out
  have O3 : Hid (w3.ownsRow w.heap.size 94 2 (.slice va lv vc) lv (flatL p.log)) := owns_down hrow (Nat.le_succ _)
  have M3 := hyd hMX
  clear hRT hQS hWq hMX hrow hl2 hFr X1 M1 F1 c3
  have X4 := hyd (heap_alloc_new w3 (.cells #[.int .i64 j, .int .i64 p.steps, .int .i64 p.segs, .int .i64 p.fault, .int .i64 p.fpc, .int .i64 p.fth, .slice va lv vc] 76))
  have M4 := hyd (M3.out.alloc (.cells #[.int .i64 j, .int .i64 p.steps, .int .i64 p.segs, .int .i64 p.fault, .int .i64 p.fpc, .int .i64 p.fth, .slice va lv vc] 76))
  have R4 : Hid ((w3.alloc (.cells #[.int .i64 j, .int .i64 p.steps, .int .i64 p.segs, .int .i64 p.fault, .int .i64 p.fpc, .int .i64 p.fth, .slice va lv vc] 76)).heap[w.heap.size]? = _) := (Below.heap_alloc _ _ _ hlt3).trans R3.out
  have O4 := hyd (O3.out.alloc (.cells #[.int .i64 j, .int .i64 p.steps, .int .i64 p.segs, .int .i64 p.fault, .int .i64 p.fpc, .int .i64 p.fth, .slice va lv vc] 76))
  have F4 : Hid (∀ B, Fr B [L.bX] w (w3.alloc (.cells #[.int .i64 j, .int .i64 p.steps, .int .i64 p.segs, .int .i64 p.fault, .int .i64 p.fpc, .int .i64 p.fth, .slice va lv vc] 76))) := fun B => (F3.out B).alloc _
  simp only [turnOf, Trn.val]
  go_upto_region 7 with fail
  generalize w3.alloc (.cells #[.int .i64 j, .int .i64 p.steps, .int .i64 p.segs, .int .i64 p.fault, .int .i64 p.fpc, .int .i64 p.fth, .slice va lv vc] 76) = w4 at X4 M4 R4 O4 F4 ⊢
  generalize w3.heap.size = b4 at X4 hlt3 ⊢
  clear M3 R3 O3 F3
  obtain ⟨⟨x0, x1, x2, x3, x4, x5, x6⟩, f0, f1, f2, f3, f4, f5, f6⟩ := seven_cells X4.out
  have fs := M4.out.frz 3
  obtain ⟨-, -, -, c3, -⟩ := M4.out.head
  have hbh := hyd (mbehind_any M4.out j hj4 p.fault)
  unfold pM' at hbh
  go_wp2_with fail
  refine hbh.out.mono ?_
  rintro e w5 ⟨rfl, rfl⟩
  clear hbh
  go_upto_region 8 with fail
  obtain ⟨st, Hst⟩ : ∃ st, Hid (behindQ X.qs j p.fault = st) := ⟨_, rfl⟩
  rw [Hst.out]
  have hnx : Hid (w.heap.size ≠ L.bX ∧ b4 ≠ L.bX) := by have h2 := hnb.out L.bX (.inl rfl); unfold Hid; omega
  have M6 := hyd (M4.out.setSt st)
  have X6 : Hid ((w5.setCell ⟨L.bX, 3, none⟩ (.int .i64 st)).heap[b4]? = _) := (Below.heap_setCell _ _ _ _ hnx.out.2).trans X4.out
  have R6 : Hid ((w5.setCell ⟨L.bX, 3, none⟩ (.int .i64 st)).heap[w.heap.size]? = _) := (Below.heap_setCell _ _ _ _ hnx.out.1).trans R4.out
  have O6 := hyd (owns_same O4.out (w' := w5.setCell ⟨L.bX, 3, none⟩ (.int .i64 st)) fun g hg => Below.heap_setCell _ _ _ _ (fun e => by
    dsimp only at e
    have h1 := (O4.out.lt g hg).1
    have h2 := hnb.out L.bX (.inl rfl)
    omega))
  have F6 : Hid (∀ B, Fr B [L.bX] w (w5.setCell ⟨L.bX, 3, none⟩ (.int .i64 st))) := fun B => (F4.out B).set (by simp) _
  generalize w5.setCell ⟨L.bX, 3, none⟩ (.int .i64 st) = w6 at M6 X6 R6 O6 F6 ⊢
  clear M4 X4 R4 O4 F4 x0 x1 x2 x3 x4 x5 x6 f0 f1 f2 f3 f4 f5 f6 fs c3
  have HREL := hyd (rel_behind HOK.out H.out.rel HS.out hj4 HR.out QS.out RT.out)
  have hwX : Hid (∀ q ∈ ({ X with st := st } : QM).qs, WOk q) := by
    intro y hy
    have hy' : y ∈ x.qs.set j q := by have h2 : y ∈ X.qs := hy; rw [QS.out] at h2; exact h2
    rcases List.mem_or_eq_of_mem_set hy' with hy | rfl
    · exact H.out.wok y hy
    · exact WQ.out
  have eA : Hid (afterQ X j p.fault = freeQ { X with st := st }) := by unfold Hid afterQ stPut; rw [Hst.out]
  have hnr := hyd (noneReady_any M6.out)
  unfold pM' at hnr
  by_cases hn : rdyN ({ X with st := st } : QM).qs 4 = []
  · rw [show decide (rdyN ({ X with st := st } : QM).qs 4 = []) = true by simpa using hn] at hnr
    have HN := hyd hn
    clear hn
    go_wp2_with fail
    refine hnr.out.mono ?_
    rintro e w7 ⟨rfl, rfl⟩
    have hra := hyd (releaseAll_any M6.out)
    unfold pM' at hra
    go_wp2_with fail
    refine hra.out.mono ?_
    rintro e w8 ⟨rfl, hM8, hF8⟩
    rw [← free_yes (x := { X with st := st }) HN.out] at hM8
    have M8 := hyd hM8
    have X8 := hyd (fr_block hF8 X6.out (fun hm => hnx.out.2 (List.mem_singleton.1 hm)))
    have R8 := hyd (fr_block hF8 R6.out (fun hm => hnx.out.1 (List.mem_singleton.1 hm)))
    have O8 := hyd (owns_same O6.out (w' := w8) fun g hg => (hF8 (g + 1)).block g (O6.out.lt g hg).2 (fun hm => by have h1 := List.mem_singleton.1 hm; have h2 := hnb.out L.bX (.inl rfl); have h3 := (O6.out.lt g hg).1; omega) (.inl (Nat.lt_succ_self _)))
    have F8 : Hid (∀ B, Fr B [L.bX] w w8) := fun B => (F6.out B).trans (hF8 B)
    clear hM8 hF8 M6 X6 R6 O6 F6 hra hnr
    obtain ⟨⟨x0, x1, x2, x3, x4, x5, x6⟩, -⟩ := seven_cells X8.out
    obtain ⟨⟨r0, r1, r2, r3, r4, r5, r6⟩, z0, z1, z2, z3, z4, z5, z6⟩ := seven_cells R8.out
    go_wp2_with fail
    have hlb : ∀ g, (Value.slice va lv vc).ownBlock = some g → g ≠ w.heap.size := fun g hg e => by
      subst e
      exact owns_not O8.out R8.out (by decide) hg.symm
    have RZ := hyd (seven_set R8.out (.int .i64 j) (.int .i64 p.steps) (.int .i64 p.segs) (.int .i64 p.fault) (.int .i64 p.fpc) (.int .i64 p.fth) (.slice va lv vc))
    have OZ := hyd (seven_owns O8.out hlb (.int .i64 j) (.int .i64 p.steps) (.int .i64 p.segs) (.int .i64 p.fault) (.int .i64 p.fpc) (.int .i64 p.fth) (.slice va lv vc))
    have bz := seven_below w8 w.heap.size (.int .i64 j) (.int .i64 p.steps) (.int .i64 p.segs) (.int .i64 p.fault) (.int .i64 p.fpc) (.int .i64 p.fth) (.slice va lv vc)
    have MZ := hyd (M8.out.keep (w' := (((((((w8.setCell ⟨w.heap.size, 0, none⟩ (.int .i64 j)).setCell ⟨w.heap.size, 1, none⟩ (.int .i64 p.steps)).setCell ⟨w.heap.size, 2, none⟩ (.int .i64 p.segs)).setCell ⟨w.heap.size, 3, none⟩ (.int .i64 p.fault)).setCell ⟨w.heap.size, 4, none⟩ (.int .i64 p.fpc)).setCell ⟨w.heap.size, 5, none⟩ (.int .i64 p.fth)).setCell ⟨w.heap.size, 6, none⟩ (.slice va lv vc))) fun g hg => bz.block g (hnb.out g hg))
    have FZ : Hid (∀ B, Fr B [L.bX] w (((((((w8.setCell ⟨w.heap.size, 0, none⟩ (.int .i64 j)).setCell ⟨w.heap.size, 1, none⟩ (.int .i64 p.steps)).setCell ⟨w.heap.size, 2, none⟩ (.int .i64 p.segs)).setCell ⟨w.heap.size, 3, none⟩ (.int .i64 p.fault)).setCell ⟨w.heap.size, 4, none⟩ (.int .i64 p.fpc)).setCell ⟨w.heap.size, 5, none⟩ (.int .i64 p.fth)).setCell ⟨w.heap.size, 6, none⟩ (.slice va lv vc))) := fun B => (F8.out B).lowB bz
    clear bz r0 r1 r2 r3 r4 r5 r6 z0 z1 z2 z3 z4 z5 z6 x0 x1 x2 x3 x4 x5 x6
    generalize ((((((w8.setCell ⟨w.heap.size, 0, none⟩ (.int .i64 j)).setCell ⟨w.heap.size, 1, none⟩ (.int .i64 p.steps)).setCell ⟨w.heap.size, 2, none⟩ (.int .i64 p.segs)).setCell ⟨w.heap.size, 3, none⟩ (.int .i64 p.fault)).setCell ⟨w.heap.size, 4, none⟩ (.int .i64 p.fpc)).setCell ⟨w.heap.size, 5, none⟩ (.int .i64 p.fth)).setCell ⟨w.heap.size, 6, none⟩ (.slice va lv vc) = wz at RZ OZ MZ FZ ⊢
    obtain ⟨⟨y0, y1, y2, y3, y4, y5, y6⟩, -⟩ := seven_cells RZ.out
    (try simp only [Exit.inBlock, Exit.then]); refine bodyPost_ret (by simp [results, Tryz.results37, go_sem, y0, y1, y2, y3, y4, y5, y6]; try rfl) rfl ?_
    have eT := RT.out.ans
    have eL : (playP m j bn).log = p.log := congrArg Trn.log eT
    refine ⟨.slice va lv vc, freeQ { X with st := st }, ?_, ?_, ?_, ⟨?_, ?_, wok_free hwX.out⟩, FZ.out⟩
    · rw [eT]; rfl
    · rw [eL, Hlv.out]; exact OZ.out
    · rw [eL, Hlv.out]; exact LL.out
    · rw [(after_k m j _).1, (after_k m j _).2]; exact MZ.out
    · rw [← eA.out]; exact HREL.out
  · rw [show decide (rdyN ({ X with st := st } : QM).qs 4 = []) = false by simpa using hn] at hnr
    have HN := hyd hn
    clear hn
    go_wp2_with fail
    refine hnr.out.mono ?_
    rintro e w7 ⟨rfl, rfl⟩
    clear hnr
    obtain ⟨⟨x0, x1, x2, x3, x4, x5, x6⟩, -⟩ := seven_cells X6.out
    obtain ⟨⟨r0, r1, r2, r3, r4, r5, r6⟩, z0, z1, z2, z3, z4, z5, z6⟩ := seven_cells R6.out
    go_wp2_with fail
    have hlb : ∀ g, (Value.slice va lv vc).ownBlock = some g → g ≠ w.heap.size := fun g hg e => by
      subst e
      exact owns_not O6.out R6.out (by decide) hg.symm
    have RZ := hyd (seven_set R6.out (.int .i64 j) (.int .i64 p.steps) (.int .i64 p.segs) (.int .i64 p.fault) (.int .i64 p.fpc) (.int .i64 p.fth) (.slice va lv vc))
    have OZ := hyd (seven_owns O6.out hlb (.int .i64 j) (.int .i64 p.steps) (.int .i64 p.segs) (.int .i64 p.fault) (.int .i64 p.fpc) (.int .i64 p.fth) (.slice va lv vc))
    have bz := seven_below w7 w.heap.size (.int .i64 j) (.int .i64 p.steps) (.int .i64 p.segs) (.int .i64 p.fault) (.int .i64 p.fpc) (.int .i64 p.fth) (.slice va lv vc)
    have MZ := hyd (M6.out.keep (w' := (((((((w7.setCell ⟨w.heap.size, 0, none⟩ (.int .i64 j)).setCell ⟨w.heap.size, 1, none⟩ (.int .i64 p.steps)).setCell ⟨w.heap.size, 2, none⟩ (.int .i64 p.segs)).setCell ⟨w.heap.size, 3, none⟩ (.int .i64 p.fault)).setCell ⟨w.heap.size, 4, none⟩ (.int .i64 p.fpc)).setCell ⟨w.heap.size, 5, none⟩ (.int .i64 p.fth)).setCell ⟨w.heap.size, 6, none⟩ (.slice va lv vc))) fun g hg => bz.block g (hnb.out g hg))
    have FZ : Hid (∀ B, Fr B [L.bX] w (((((((w7.setCell ⟨w.heap.size, 0, none⟩ (.int .i64 j)).setCell ⟨w.heap.size, 1, none⟩ (.int .i64 p.steps)).setCell ⟨w.heap.size, 2, none⟩ (.int .i64 p.segs)).setCell ⟨w.heap.size, 3, none⟩ (.int .i64 p.fault)).setCell ⟨w.heap.size, 4, none⟩ (.int .i64 p.fpc)).setCell ⟨w.heap.size, 5, none⟩ (.int .i64 p.fth)).setCell ⟨w.heap.size, 6, none⟩ (.slice va lv vc))) := fun B => (F6.out B).lowB bz
    clear bz r0 r1 r2 r3 r4 r5 r6 z0 z1 z2 z3 z4 z5 z6 x0 x1 x2 x3 x4 x5 x6
    generalize ((((((w7.setCell ⟨w.heap.size, 0, none⟩ (.int .i64 j)).setCell ⟨w.heap.size, 1, none⟩ (.int .i64 p.steps)).setCell ⟨w.heap.size, 2, none⟩ (.int .i64 p.segs)).setCell ⟨w.heap.size, 3, none⟩ (.int .i64 p.fault)).setCell ⟨w.heap.size, 4, none⟩ (.int .i64 p.fpc)).setCell ⟨w.heap.size, 5, none⟩ (.int .i64 p.fth)).setCell ⟨w.heap.size, 6, none⟩ (.slice va lv vc) = wz at RZ OZ MZ FZ ⊢
    obtain ⟨⟨y0, y1, y2, y3, y4, y5, y6⟩, -⟩ := seven_cells RZ.out
    (try simp only [Exit.inBlock, Exit.then]); refine bodyPost_ret (by simp [results, Tryz.results37, go_sem, y0, y1, y2, y3, y4, y5, y6]; try rfl) rfl ?_
    have eT := RT.out.ans
    have eL : (playP m j bn).log = p.log := congrArg Trn.log eT
    refine ⟨.slice va lv vc, { X with st := st }, ?_, ?_, ?_, ⟨?_, ?_, hwX.out⟩, FZ.out⟩
    · rw [eT]; rfl
    · rw [eL, Hlv.out]; exact OZ.out
    · rw [eL, Hlv.out]; exact LL.out
    · rw [(after_k m j _).1, (after_k m j _).2]; exact MZ.out
    · have h1 := HREL.out; rw [eA.out, free_no (x := { X with st := st }) HN.out] at h1; exact h1

/-- What a Turn of the program's machine answers and does. -/
theorem mturn_any {w : World} {L : XM} {m : PM} {x : QM} (h : XAt w L m x) (hok : PMok m) (pick bud : Int) :
    Calls Tryz.prog 37 #[pM L, .int .i64 pick, .int .i64 bud] w fun e w' => TurnDone w w.heap.size m pick bud e w' ∧ (turnP m pick bud).2.1.log.length ≤ 2000 ∧ (∃ x', XAt w' L (turnP m pick bud).1 x') ∧ ∀ B, Fr B [L.bX] w w' := by
  by_cases h0 : m.st = 0
  · by_cases hb : bud < 1 ∨ 2000 < bud
    · refine (mturn_budget h pick bud h0 hb).mono ?_
      rintro e w' ⟨rfl, hbl⟩
      have e1 : turnP m pick bud = (m, Trn.none, 7) := by unfold turnP; rw [if_neg (by omega), if_pos hb]
      unfold TurnDone
      rw [e1]
      exact ⟨⟨_, rfl, World.ownsRow_nil _ _ _ _, fun _ => rfl, hbl.size⟩, by simp [Trn.none], ⟨x, h.up hbl⟩, fun B => Fr.of_below hbl⟩
    · obtain ⟨bn, rfl⟩ : ∃ bn : Nat, bud = (bn : Int) := ⟨bud.toNat, by omega⟩
      have e1 : turnP m pick (bn : Int) = (afterP m (pickW (readyL m.ws) pick) (playP m (pickW (readyL m.ws) pick) bn), turnOf (pickW (readyL m.ws) pick) (playP m (pickW (readyL m.ws) pick) bn), 0) := by
        unfold turnP; rw [if_neg (by omega), if_neg hb, Int.toNat_natCast]
      refine (mturn_made h hok pick bn h0 (by omega) (by omega)).mono ?_
      rintro e w' ⟨v, x', rfl, ho, hl, hx, hf⟩
      unfold TurnDone
      rw [e1]
      exact ⟨⟨v, rfl, ho, fun hx => absurd rfl hx, (hf 0).size⟩, hl, ⟨x', hx⟩, hf⟩
  · refine (mturn_stopped h pick bud h0).mono ?_
    rintro e w' ⟨rfl, hbl⟩
    have e1 : turnP m pick bud = (m, Trn.none, 6) := by unfold turnP; rw [if_pos h0]
    unfold TurnDone
    rw [e1]
    exact ⟨⟨_, rfl, World.ownsRow_nil _ _ _ _, fun _ => rfl, hbl.size⟩, by simp [Trn.none], ⟨x, h.up hbl⟩, fun B => Fr.of_below hbl⟩

end Go.Proofs.YtbhbacphiinpeaaGreat

