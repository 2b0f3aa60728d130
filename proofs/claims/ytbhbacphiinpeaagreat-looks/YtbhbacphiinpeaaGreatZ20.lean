/- Mr: joined. -/
import Derived.Test.YtbhbacphiinpeaaGreatZ19

/- What 'issue' of package loom does. -/
namespace Go.Proofs.YtbhbacphiinpeaaGreat
open Go.RowKit

/-- What one instruction answers and does. -/
structure IssAns (w : World) (L : XM) (k : List Ins) (J : List Int) (x : QM) (i : Nat) (q : Wq) (p : Pl) (q' : Wq) (p' : Pl) (e : Ending) (w' : World) : Prop where
  out : ∃ (sg : Nat) (f t : Int), e = .returned (.agg #[.int .i64 sg, .int .i64 f, .int .i64 t]) ∧ p'.segs = p.segs + sg ∧ (f = 0 → p'.fault = p.fault ∧ p'.fpc = p.fpc ∧ p'.fth = p.fth) ∧ (f ≠ 0 → p'.fault = f ∧ p'.fpc = q.pc ∧ p'.fth = t)
  mach : ∃ x', MX w' L k J (qPut x' i q') ∧ CellsAt p'.ts p'.mem x' ∧ Only x x'
  fr : ∀ B, Fr B [L.bX] w w'

/-- What must be so ahead of it. -/
structure IssPre (w : World) (L : XM) (k : List Ins) (J : List Int) (x : QM) (i : Nat) (q : Wq) (p : Pl) (pc : Nat) (ins : Ins) : Prop where
  mx : MX w L k J x
  qi : x.qs[i]? = some q
  wok : WOk q
  g0 : q.group ≠ 0
  at0 : CellsAt p.ts p.mem x
  rng : ∀ l, l < 4 → q.group.testBit l = true → 4 * i + l < p.ts.length
  pcE : q.pc = (pc : Int)
  insE : k[pc]? = some ins
  ok : okB k.length ins = true
  size : pop q.group + q.opn ≤ 4
  joins : J.length = k.length
  k40 : k.length ≤ 40
  i4 : i < 4
  ends : p.ends = false

theorem zero_nat {n : Int} {ins : Ins} (h : okB n ins = true) (ho : ins.o = 13) : ∃ a : Nat, ins.a = (a : Int) ∧ a < 4 := by
  simp [okB, ho] at h
  have := bel_bd h.1.1
  exact ⟨ins.a.toNat, by omega, by omega⟩

theorem zQ_zerM {ts : List Thr} {mem : List Int} {x : QM} (h : CellsAt ts mem x) {a i m : Nat} (ha : a < 4) (hr : ∀ l, l < 4 → m.testBit l = true → 4 * i + l < ts.length) : zQ x (i * 4) a m = zerM ts (a : Int) (4 * i) m := by
  refine mask_ext (maskOf_lt _) (maskOf_lt _) fun l hl => ?_
  unfold zQ zerM
  rw [maskOf_bit _ hl, maskOf_bit _ hl]
  cases e : m.testBit l with
  | false => rfl
  | true =>
    have := hr l hl e
    unfold isZ
    rw [Nat.mul_comm i 4, h.get this ha]

theorem two_pop {g z : Nat} (hg : g < 16) (hz : z < 16) (h0 : z &&& g ≠ 0) (h1 : mns g (z &&& g) ≠ 0) : 2 ≤ pop g := by
  have hzg : z &&& g < 16 := and_lt16 _ hz
  have sub : ∀ l, l < 4 → (z &&& g).testBit l = true → g.testBit l = true := fun l _ e => by rw [Nat.testBit_and] at e; simp only [Bool.and_eq_true] at e; exact e.2
  have p1 := (pop_sub (a := 0) (by omega) hzg (fun l _ e => by simp at e)).2 (fun e => h0 e.symm)
  have p2 := (pop_sub hzg hg sub).2 (fun e => h1 (by
    rw [zero_iff (mns_lt hg)]
    intro l hl
    rw [mns_bit hzg hl, e]; simp))
  rw [pop_zero] at p1
  omega

theorem own_of {n : Int} {ins : Ins} (h : okB n ins = true) (h0 : ¬ ins.o = 0) (h12 : ¬ ins.o = 12) (h13 : ¬ ins.o = 13) (h14 : ¬ ins.o = 14) : 1 ≤ ins.o ∧ ins.o ≤ 11 := by
  unfold okB at h
  rw [if_neg (by omega)] at h
  repeat' split at h
  all_goals first | omega | cases h

theorem own_nat {n : Int} {ins : Ins} (h : okB n ins = true) (ho : 1 ≤ ins.o ∧ ins.o ≤ 11) : ∃ a b c : Nat, ins = ⟨ins.o, a, b, c⟩ ∧ a < 4 ∧ (ins.o ≠ 1 → b < 4) ∧ (2 ≤ ins.o ∧ ins.o ≤ 7 → c < 4) := by
  obtain ⟨o, a, b, c⟩ := ins
  dsimp only at ho ⊢
  have fin : ∀ (a b c : Int), 0 ≤ a ∧ a < 4 → 0 ≤ b → 0 ≤ c → (o ≠ 1 → b < 4) → (2 ≤ o ∧ o ≤ 7 → c < 4) → ∃ a' b' c' : Nat, (⟨o, a, b, c⟩ : Ins) = ⟨o, a', b', c'⟩ ∧ a' < 4 ∧ (o ≠ 1 → b' < 4) ∧ (2 ≤ o ∧ o ≤ 7 → c' < 4) := fun a b c ha hb hc h1 h2 => by
    obtain ⟨a', rfl⟩ : ∃ m : Nat, a = (m : Int) := ⟨a.toNat, by omega⟩
    obtain ⟨b', rfl⟩ : ∃ m : Nat, b = (m : Int) := ⟨b.toNat, by omega⟩
    obtain ⟨c', rfl⟩ : ∃ m : Nat, c = (m : Int) := ⟨c.toNat, by omega⟩
    exact ⟨a', b', c', rfl, by omega, fun e => by have := h1 e; omega, fun e => by have := h2 e; omega⟩
  unfold okB at h
  dsimp only at h
  rw [if_neg (by omega)] at h
  split at h
  · simp only [Bool.and_eq_true, beq_iff_eq] at h
    have h1 := bel_bd h.1.1
    have h2 := bel_bd h.1.2
    exact fin a b c h1 (by omega) (by omega) (fun e => by omega) (fun e => by omega)
  split at h
  · simp only [Bool.and_eq_true] at h
    have h1 := bel_bd h.1.1
    have h2 := bel_bd h.1.2
    have h3 := bel_bd h.2
    exact fin a b c h1 (by omega) (by omega) (fun _ => by omega) (fun _ => by omega)
  split at h
  · simp only [Bool.and_eq_true, beq_iff_eq] at h
    have h1 := bel_bd h.1.1
    exact fin a b c h1 (by omega) (by omega) (fun _ => by omega) (fun _ => by omega)
  split at h
  · simp only [Bool.and_eq_true] at h
    have h1 := bel_bd h.1.1
    have h2 := bel_bd h.1.2
    have h3 := bel_bd h.2
    exact fin a b c h1 (by omega) (by omega) (fun _ => by omega) (fun e => by omega)
  · omega

theorem CellsAt.done {ts : List Thr} {mem : List Int} {x : QM} (h : CellsAt ts mem x) (g : List Nat) : CellsAt (doneAll ts g) mem x := by
  induction g generalizing ts with
  | nil => exact h
  | cons t g ih =>
    refine ih (ts := ts.set t { ts.getD t thr0 with done := true }) ?_
    refine ⟨h.n.trans (by simp), h.n16, h.f0, fun u hu => ?_, h.rl, fun u hu r hr => ?_, ?_, h.cnt, h.c32, h.wl, h.wd⟩
    · rw [List.length_set] at hu
      rw [getD_set]
      split
      · rename_i e; rw [← e.1]; exact h.names t e.2
      · exact h.names u hu
    · rw [List.length_set] at hu
      rw [getD_set]
      split
      · rename_i e; rw [← e.1]; exact h.regs t e.2 r hr
      · exact h.regs u hu r hr
    · refine h.reg4.set t ?_
      by_cases ht : t < ts.length
      · exact reg4_at h.reg4 ht
      · rw [List.getD_eq_getElem?_getD, List.getElem?_eq_none (by omega)]; rfl

set_option maxHeartbeats 1000000 in
set_option maxRecDepth 100000 in
theorem issue_any {w : World} {L : XM} {k : List Ins} {J : List Int} {x : QM} {i : Nat} {q : Wq} {p : Pl} {pc : Nat} {ins : Ins} (h : IssPre w L k J x i q p pc ins) :
    Calls Tryz.prog 76 #[pM L, .int .i64 i] w (IssAns w L k J x i q p (stepQ k J (4 * i) q p).1 (stepQ k J (4 * i) q p).2) := by
  have H := hyd h
  have hi1 : (0 : Int) ≤ (i : Int) := by omega
  have hi2 : (i : Int) < 4 := by have := h.i4; omega
  have hi4 := h.i4
  have Hpc := hyd h.pcE
  clear h
  have M1 := hyd (H.out.mx.alloc (.cells #[.int .i64 0, .int .i64 0, .int .i64 0] 135))
  have X1 := hyd (heap_alloc_new w (.cells #[.int .i64 0, .int .i64 0, .int .i64 0] 135))
  have F1 : Hid (∀ B, Fr B [L.bX] w (w.alloc (.cells #[.int .i64 0, .int .i64 0, .int .i64 0] 135))) := fun B => (Fr.refl _ _ _).alloc _
  unfold pM
  go_enter Tryz.func76, Tryz.ntmps76
  go_wp2_with fail
  generalize w.alloc (.cells #[.int .i64 0, .int .i64 0, .int .i64 0] 135) = w1 at M1 X1 F1 ⊢
  refine (group_any M1.out H.out.qi).mono ?_
  rintro e w2 ⟨rfl, rfl⟩
  go_wp2_with fail
  refine (pc_any M1.out H.out.qi).mono ?_
  rintro e w2 ⟨rfl, rfl⟩
  rw [Hpc.out]
  go_wp2_with fail
  refine (instr_any M1.out H.out.insE).mono ?_
  rintro e w2 ⟨rfl, hb2⟩
  have M2 := hyd (M1.out.up hb2)
  have X2 : Hid (w2.heap[w.heap.size]? = some (.cells #[.int .i64 0, .int .i64 0, .int .i64 0] 135)) := (hb2.block _ (blk_lt X1.out)).trans X1.out
  have F2 : Hid (∀ B, Fr B [L.bX] w w2) := fun B => (F1.out B).trans (Fr.of_below hb2)
  clear hb2 M1 X1 F1
  have hlt2 : w.heap.size < w2.heap.size := blk_lt X2.out
  have Y3 := hyd (heap_alloc_new w2 (.cells #[.int .i64 ins.o, .int .i64 ins.a, .int .i64 ins.b, .int .i64 ins.c] 92))
  have M3 := hyd (M2.out.alloc (.cells #[.int .i64 ins.o, .int .i64 ins.a, .int .i64 ins.b, .int .i64 ins.c] 92))
  have F3 : Hid (∀ B, Fr B [L.bX] w (w2.alloc (.cells #[.int .i64 ins.o, .int .i64 ins.a, .int .i64 ins.b, .int .i64 ins.c] 92))) := fun B => (F2.out B).alloc _
  have X3 : Hid ((w2.alloc (.cells #[.int .i64 ins.o, .int .i64 ins.a, .int .i64 ins.b, .int .i64 ins.c] 92)).heap[w.heap.size]? = some (.cells #[.int .i64 0, .int .i64 0, .int .i64 0] 135)) := (Below.heap_alloc _ _ _ hlt2).trans X2.out
  have hbx : L.bX < w.heap.size := H.out.mx.lt (.inl rfl)
  have hnb : Hid (w.heap.size ≠ L.bX ∧ w.heap.size ≠ L.gK ∧ w.heap.size ≠ L.gJ) := by
    have h1 := H.out.mx.lt (g := L.bX) (.inl rfl)
    have h2 := H.out.mx.lt (g := L.gK) (.inr (.inl rfl))
    have h3 := H.out.mx.lt (g := L.gJ) (.inr (.inr rfl))
    unfold Hid; omega
  have hXn : Hid (w.heap.size ∉ [L.bX]) := fun hm => by have := List.mem_singleton.1 hm; omega
  have HQ := hyd (qPut_self H.out.qi)
  have hqi : Hid (i < x.qs.length) := (List.getElem?_eq_some_iff.1 H.out.qi).1
  have hpn : Hid (q.pc.toNat = pc) := by unfold Hid; rw [Hpc.out]; simp
  have hstep : Hid (stepQ k J (4 * i) q p = stepQ k J (4 * i) q p) := rfl
  have hki : Hid (k[q.pc.toNat]? = some ins) := by unfold Hid; rw [hpn.out]; exact H.out.insE
  by_cases o0 : ins.o = 0
  · have Hst : Hid (stepQ k J (4 * i) q p = (exitQ q, { issuedP p (gOf (4 * i) q.group) q.pc with ts := doneAll p.ts (gOf (4 * i) q.group), opn := (exitQ q).opn })) := by unfold Hid stepQ; rw [hki.out]; simp only [if_pos o0]
    rw [o0] at Y3 M3 F3 X3 ⊢
    go_wp2_with fail
    have M3' := M3.out
    rw [← HQ.out] at M3'
    refine (exit_any M3' hqi.out H.out.wok).mono ?_
    rintro e w5 ⟨rfl, hM, hF⟩
    have M5 := hyd hM
    have F5 : Hid (∀ B, Fr B [L.bX] w w5) := fun B => (F3.out B).trans (hF B)
    have O5 := hyd (fr_block hF X3.out hXn.out)
    clear hM hF M3'
    obtain ⟨z0, z1, z2, z3, z4, z5⟩ := box3 O5.out
    go_wp2_with fail
    have O6 := hyd (box3_set O5.out (.int .i64 0) (.int .i64 0) (.int .i64 0))
    have M6 := hyd (((M5.out.setOther (B := w.heap.size) hnb.out 0 (.int .i64 0)).setOther hnb.out 1 (.int .i64 0)).setOther hnb.out 2 (.int .i64 0))
    have F6 : Hid (∀ B, Fr B [L.bX] w (((w5.setCell ⟨w.heap.size, 0, none⟩ (.int .i64 0)).setCell ⟨w.heap.size, 1, none⟩ (.int .i64 0)).setCell ⟨w.heap.size, 2, none⟩ (.int .i64 0))) := fun B => (((F5.out B).setNew (Nat.le_refl _) _ _).setNew (Nat.le_refl _) _ _).setNew (Nat.le_refl _) _ _
    generalize (((w5.setCell ⟨w.heap.size, 0, none⟩ (.int .i64 0)).setCell ⟨w.heap.size, 1, none⟩ (.int .i64 0)).setCell ⟨w.heap.size, 2, none⟩ (.int .i64 0)) = w6 at O6 M6 F6 ⊢
    obtain ⟨y0, y1, y2, -, -, -⟩ := box3 O6.out
    (try simp only [Exit.inBlock, Exit.then])
    refine bodyPost_ret (by simp [results, Tryz.results76, go_sem, y0, y1, y2]; try rfl) rfl ?_
    rw [Hst.out]
    refine ⟨⟨0, 0, 0, rfl, rfl, fun _ => ⟨rfl, rfl, rfl⟩, fun h => absurd rfl h⟩, ⟨x, M6.out, ?_, Only.refl _⟩, F6.out⟩
    exact CellsAt.done H.out.at0 _
  by_cases o12 : ins.o = 12
  · have Hst : Hid (stepQ k J (4 * i) q p = (goOn ins.b q, { issuedP p (gOf (4 * i) q.group) q.pc with opn := (goOn ins.b q).opn })) := by unfold Hid stepQ; rw [hki.out]; simp only [if_neg o0, if_pos o12]
    rw [o12] at Y3 M3 F3 X3 ⊢
    go_wp2_with fail
    have M3' := M3.out
    rw [← HQ.out] at M3'
    refine (goOn_any M3' hqi.out H.out.wok ins.b).mono ?_
    rintro e w5 ⟨rfl, hM, hF⟩
    have M5 := hyd hM
    have F5 : Hid (∀ B, Fr B [L.bX] w w5) := fun B => (F3.out B).trans (hF B)
    have O5 := hyd (fr_block hF X3.out hXn.out)
    clear hM hF M3'
    obtain ⟨z0, z1, z2, z3, z4, z5⟩ := box3 O5.out
    go_wp2_with fail
    have O6 := hyd (box3_set O5.out (.int .i64 0) (.int .i64 0) (.int .i64 0))
    have M6 := hyd (((M5.out.setOther (B := w.heap.size) hnb.out 0 (.int .i64 0)).setOther hnb.out 1 (.int .i64 0)).setOther hnb.out 2 (.int .i64 0))
    have F6 : Hid (∀ B, Fr B [L.bX] w (((w5.setCell ⟨w.heap.size, 0, none⟩ (.int .i64 0)).setCell ⟨w.heap.size, 1, none⟩ (.int .i64 0)).setCell ⟨w.heap.size, 2, none⟩ (.int .i64 0))) := fun B => (((F5.out B).setNew (Nat.le_refl _) _ _).setNew (Nat.le_refl _) _ _).setNew (Nat.le_refl _) _ _
    generalize (((w5.setCell ⟨w.heap.size, 0, none⟩ (.int .i64 0)).setCell ⟨w.heap.size, 1, none⟩ (.int .i64 0)).setCell ⟨w.heap.size, 2, none⟩ (.int .i64 0)) = w6 at O6 M6 F6 ⊢
    obtain ⟨y0, y1, y2, -, -, -⟩ := box3 O6.out
    (try simp only [Exit.inBlock, Exit.then])
    refine bodyPost_ret (by simp [results, Tryz.results76, go_sem, y0, y1, y2]; try rfl) rfl ?_
    rw [Hst.out]
    exact ⟨⟨0, 0, 0, rfl, rfl, fun _ => ⟨rfl, rfl, rfl⟩, fun h => absurd rfl h⟩, ⟨x, M6.out, H.out.at0, Only.refl _⟩, F6.out⟩
  by_cases o13 : ins.o = 13
  · have Hst : Hid (stepQ k J (4 * i) q p = (branchQ (zerM p.ts ins.a (4 * i) q.group) ins.b (q.pc + 1) (J.getD q.pc.toNat (-1)) q, { issuedP p (gOf (4 * i) q.group) q.pc with opn := (branchQ (zerM p.ts ins.a (4 * i) q.group) ins.b (q.pc + 1) (J.getD q.pc.toNat (-1)) q).opn })) := by unfold Hid stepQ; rw [hki.out]; simp only [if_neg o0, if_neg o12, if_pos o13]
    obtain ⟨a, ha, ha4⟩ := zero_nat H.out.ok o13
    have Hzq := hyd (zQ_zerM H.out.at0 ha4 H.out.rng)
    rw [← ha] at Hzq
    obtain ⟨j, hj⟩ : ∃ j, J[pc]? = some j := ⟨_, List.getElem?_eq_getElem (by rw [H.out.joins]; exact (List.getElem?_eq_some_iff.1 H.out.insE).1)⟩
    have Hj := hyd hj
    have Hjd : Hid (J.getD q.pc.toNat (-1) = j) := by unfold Hid; rw [hpn.out, List.getD_eq_getElem?_getD, hj]; rfl
    clear hj
    rw [o13, ha] at Y3 M3 F3 X3 ⊢
    have hbs : Hid (i * 4 ≤ 12) := by unfold Hid; omega
    go_wp2_with fail
    obtain ⟨x0, x1, x2, x3⟩ := box4 Y3.out
    generalize w2.alloc (.cells #[.int .i64 13, .int .i64 a, .int .i64 ins.b, .int .i64 ins.c] 92) = w3 at Y3 M3 F3 X3 x0 x1 x2 x3 ⊢
    have hz := hyd (zeros_any M3.out.drew a (i * 4) q.group ha4 hbs.out H.out.wok.grp)
    rw [show ((i * 4 : Nat) : Int) = (i : Int) * 4 by omega] at hz
    go_region_held3 (fun w' => w'.cell? ⟨w2.heap.size, 1, none⟩ = some (.int .i64 a)) (first | go_keep | exact k1) ((go_at_call 91; refine hz.out.mono ?_; rintro e w4 ⟨rfl, hb4⟩; have k1 : w4.cell? ⟨w2.heap.size, 1, none⟩ = some (.int .i64 a) := (by rw [World.cell?_of_block (hb4.block w2.heap.size (blk_lt Y3.out))]; exact x1)))
    have M4 := hyd (M3.out.drew.up hb4)
    have F4 : Hid (∀ B, Fr B [L.bX] w w4) := fun B => ((F3.out B).drew).trans (Fr.of_below hb4)
    have X4 : Hid (w4.heap[w.heap.size]? = some (.cells #[.int .i64 0, .int .i64 0, .int .i64 0] 135)) := (hb4.block _ (blk_lt X3.out)).trans X3.out
    have Y4 : Hid (w4.heap[w2.heap.size]? = some (.cells #[.int .i64 13, .int .i64 a, .int .i64 ins.b, .int .i64 ins.c] 92)) := (hb4.block _ (blk_lt Y3.out)).trans Y3.out
    clear k1 x0 x1 x2 x3 hb4
    go_wp2_with fail
    refine (mjoin_any M4.out Hj.out H.out.joins).mono ?_
    rintro e w4b ⟨rfl, hb5⟩
    have M4b := hyd (M4.out.up hb5)
    have F4b : Hid (∀ B, Fr B [L.bX] w w4b) := fun B => (F4.out B).trans (Fr.of_below hb5)
    have X4b : Hid (w4b.heap[w.heap.size]? = some (.cells #[.int .i64 0, .int .i64 0, .int .i64 0] 135)) := (hb5.block _ (blk_lt X4.out)).trans X4.out
    have Y4b : Hid (w4b.heap[w2.heap.size]? = some (.cells #[.int .i64 13, .int .i64 a, .int .i64 ins.b, .int .i64 ins.c] 92)) := (hb5.block _ (blk_lt Y4.out)).trans Y4.out
    clear hb5 M4 F4 X4 Y4
    obtain ⟨x0, x1, x2, x3⟩ := box4 Y4b.out
    have hpc1 : IntKind.i64.wrap ((pc : Int) + 1) = (pc : Int) + 1 := by
      have := (List.getElem?_eq_some_iff.1 H.out.insE).1
      have := H.out.k40
      rw [IntWalk.i64_left]; unfold wrap64; omega
    go_wp2_with fail
    have M4b' := M4b.out
    rw [← HQ.out] at M4b'
    have hop : zQ x (i * 4) a q.group &&& q.group ≠ 0 → mns q.group (zQ x (i * 4) a q.group &&& q.group) ≠ 0 → q.opn < 3 := fun h0 h1 => by
      have := two_pop H.out.wok.grp (maskOf_lt _) h0 h1
      have := H.out.size
      omega
    refine (branch_any M4b' hqi.out H.out.wok (zQ x (i * 4) a q.group) (maskOf_lt _) ins.b ((pc : Int) + 1) j hop).mono ?_
    rintro e w5 ⟨rfl, hM, hF⟩
    have M5 := hyd hM
    have F5 : Hid (∀ B, Fr B [L.bX] w w5) := fun B => (F4b.out B).trans (hF B)
    have O5 := hyd (fr_block hF X4b.out hXn.out)
    clear hM hF M4b' M4b F4b hop x0 x1 x2 x3
    obtain ⟨z0, z1, z2, z3, z4, z5⟩ := box3 O5.out
    go_wp2_with fail
    have O6 := hyd (box3_set O5.out (.int .i64 0) (.int .i64 0) (.int .i64 0))
    have M6 := hyd (((M5.out.setOther (B := w.heap.size) hnb.out 0 (.int .i64 0)).setOther hnb.out 1 (.int .i64 0)).setOther hnb.out 2 (.int .i64 0))
    have F6 : Hid (∀ B, Fr B [L.bX] w (((w5.setCell ⟨w.heap.size, 0, none⟩ (.int .i64 0)).setCell ⟨w.heap.size, 1, none⟩ (.int .i64 0)).setCell ⟨w.heap.size, 2, none⟩ (.int .i64 0))) := fun B => (((F5.out B).setNew (Nat.le_refl _) _ _).setNew (Nat.le_refl _) _ _).setNew (Nat.le_refl _) _ _
    generalize (((w5.setCell ⟨w.heap.size, 0, none⟩ (.int .i64 0)).setCell ⟨w.heap.size, 1, none⟩ (.int .i64 0)).setCell ⟨w.heap.size, 2, none⟩ (.int .i64 0)) = w6 at O6 M6 F6 ⊢
    obtain ⟨y0, y1, y2, -, -, -⟩ := box3 O6.out
    (try simp only [Exit.inBlock, Exit.then])
    refine bodyPost_ret (by simp [results, Tryz.results76, go_sem, y0, y1, y2]; try rfl) rfl ?_
    rw [Hst.out]
    refine ⟨⟨0, 0, 0, rfl, rfl, fun _ => ⟨rfl, rfl, rfl⟩, fun h => absurd rfl h⟩, ⟨x, ?_, H.out.at0, Only.refl _⟩, F6.out⟩
    rw [Hjd.out, ← Hzq.out, Hpc.out]; exact M6.out
  by_cases o14 : ins.o = 14
  · have hsW : Hid (stepQ k J (4 * i) q p = if 0 < q.opn then (q, faultP (issuedP p (gOf (4 * i) q.group) q.pc) 3 q.pc ((4 * i + firstL q.group : Nat) : Int)) else (waitQ (q.pc + 1) q, { issuedP p (gOf (4 * i) q.group) q.pc with waits := true, at0 := q.pc + 1 })) := by unfold Hid stepQ; rw [hki.out]; simp only [if_neg o0, if_neg o12, if_neg o13, if_pos o14]
    rw [o14] at Y3 M3 F3 X3 ⊢
    have hpc1 : IntKind.i64.wrap ((pc : Int) + 1) = (pc : Int) + 1 := by
      have := (List.getElem?_eq_some_iff.1 H.out.insE).1
      have := H.out.k40
      rw [IntWalk.i64_left]; unfold wrap64; omega
    go_wp2_with fail
    refine (inSplit_any M3.out H.out.qi).mono ?_
    by_cases hop : 0 < q.opn
    · have Hst := hsW
      rw [if_pos hop] at Hst
      rw [show decide (0 < q.opn) = true by simpa using hop]
      rintro e w4 ⟨rfl, rfl⟩
      clear hop hsW
      go_wp2_with fail
      refine (firstLane_any M3.out H.out.qi H.out.wok.grp H.out.g0).mono ?_
      rintro e w5 ⟨rfl, hb5⟩
      have M5 := hyd (M3.out.up hb5)
      have F5 : Hid (∀ B, Fr B [L.bX] w w5) := fun B => (F3.out B).trans (Fr.of_below hb5)
      have O5 : Hid (w5.heap[w.heap.size]? = some (.cells #[.int .i64 0, .int .i64 0, .int .i64 0] 135)) := (hb5.block _ (blk_lt X3.out)).trans X3.out
      have hf4 := (flane_at ⟨q.group, H.out.wok.grp⟩ H.out.g0).1
      dsimp only at hf4
      clear hb5
      obtain ⟨z0, z1, z2, z3, z4, z5⟩ := box3 O5.out
      go_wp2_with fail
      have O6 := hyd (box3_set O5.out (.int .i64 0) (.int .i64 3) (.int .i64 ((i : Int) * 4 + (firstL q.group : Int))))
      have M6 := hyd (((M5.out.setOther (B := w.heap.size) hnb.out 0 (.int .i64 0)).setOther hnb.out 1 (.int .i64 3)).setOther hnb.out 2 (.int .i64 ((i : Int) * 4 + (firstL q.group : Int))))
      have F6 : Hid (∀ B, Fr B [L.bX] w (((w5.setCell ⟨w.heap.size, 0, none⟩ (.int .i64 0)).setCell ⟨w.heap.size, 1, none⟩ (.int .i64 3)).setCell ⟨w.heap.size, 2, none⟩ (.int .i64 ((i : Int) * 4 + (firstL q.group : Int))))) := fun B => (((F5.out B).setNew (Nat.le_refl _) _ _).setNew (Nat.le_refl _) _ _).setNew (Nat.le_refl _) _ _
      generalize (((w5.setCell ⟨w.heap.size, 0, none⟩ (.int .i64 0)).setCell ⟨w.heap.size, 1, none⟩ (.int .i64 3)).setCell ⟨w.heap.size, 2, none⟩ (.int .i64 ((i : Int) * 4 + (firstL q.group : Int)))) = w6 at O6 M6 F6 ⊢
      obtain ⟨y0, y1, y2, -, -, -⟩ := box3 O6.out
      (try simp only [Exit.inBlock, Exit.then])
      refine bodyPost_ret (by simp [results, Tryz.results76, go_sem, y0, y1, y2]; try rfl) rfl ?_
      rw [Hst.out]
      refine ⟨⟨0, 3, (i : Int) * 4 + (firstL q.group : Int), rfl, rfl, fun h => absurd h (by decide), fun _ => ⟨rfl, rfl, ?_⟩⟩, ⟨x, ?_, H.out.at0, Only.refl _⟩, F6.out⟩
      · show ((4 * i + firstL q.group : Nat) : Int) = _
        omega
      · rw [HQ.out]; exact M6.out
    · have Hst := hsW
      rw [if_neg hop] at Hst
      rw [show decide (0 < q.opn) = false by simpa using hop]
      rintro e w4 ⟨rfl, rfl⟩
      clear hop hsW
      go_wp2_with fail
      have M3' := M3.out
      rw [← HQ.out] at M3'
      refine (wait_any M3' hqi.out H.out.wok ((pc : Int) + 1) (H.out.wok.goOn _).sp).mono ?_
      rintro e w5 ⟨rfl, hM, hF⟩
      have M5 := hyd hM
      have F5 : Hid (∀ B, Fr B [L.bX] w w5) := fun B => (F3.out B).trans (hF B)
      have O5 := hyd (fr_block hF X3.out hXn.out)
      clear hM hF M3'
      obtain ⟨z0, z1, z2, z3, z4, z5⟩ := box3 O5.out
      go_wp2_with fail
      have O6 := hyd (box3_set O5.out (.int .i64 0) (.int .i64 0) (.int .i64 0))
      have M6 := hyd (((M5.out.setOther (B := w.heap.size) hnb.out 0 (.int .i64 0)).setOther hnb.out 1 (.int .i64 0)).setOther hnb.out 2 (.int .i64 0))
      have F6 : Hid (∀ B, Fr B [L.bX] w (((w5.setCell ⟨w.heap.size, 0, none⟩ (.int .i64 0)).setCell ⟨w.heap.size, 1, none⟩ (.int .i64 0)).setCell ⟨w.heap.size, 2, none⟩ (.int .i64 0))) := fun B => (((F5.out B).setNew (Nat.le_refl _) _ _).setNew (Nat.le_refl _) _ _).setNew (Nat.le_refl _) _ _
      generalize (((w5.setCell ⟨w.heap.size, 0, none⟩ (.int .i64 0)).setCell ⟨w.heap.size, 1, none⟩ (.int .i64 0)).setCell ⟨w.heap.size, 2, none⟩ (.int .i64 0)) = w6 at O6 M6 F6 ⊢
      obtain ⟨y0, y1, y2, -, -, -⟩ := box3 O6.out
      (try simp only [Exit.inBlock, Exit.then])
      refine bodyPost_ret (by simp [results, Tryz.results76, go_sem, y0, y1, y2]; try rfl) rfl ?_
      rw [Hst.out]
      refine ⟨⟨0, 0, 0, rfl, rfl, fun _ => ⟨rfl, rfl, rfl⟩, fun h => absurd rfl h⟩, ⟨x, ?_, H.out.at0, Only.refl _⟩, F6.out⟩
      rw [Hpc.out]; exact M6.out
  have hown := own_of H.out.ok o0 o12 o13 o14
  obtain ⟨a, b, c, hins, ha4, hb4, hc4⟩ := own_nat H.out.ok hown
  have e1 : ins.a = (a : Int) := by rw [hins]
  have e2 : ins.b = (b : Int) := by rw [hins]
  have e3 : ins.c = (c : Int) := by rw [hins]
  have n0 : (ins.o == 0) = false := by simpa using o0
  have n12 : (ins.o == 12) = false := by simpa using o12
  have n13 : (ins.o == 13) = false := by simpa using o13
  have n14 : (ins.o == 14) = false := by simpa using o14
  have Hins := hyd hins
  have Hown := hyd hown
  have Hb4 := hyd hb4
  have Hc4 := hyd hc4
  have hsW : Hid (stepQ k J (4 * i) q p = if (eachP (issuedP p (gOf (4 * i) q.group) q.pc) (gOf (4 * i) q.group) q.pc ins).ends = true then (q, eachP (issuedP p (gOf (4 * i) q.group) q.pc) (gOf (4 * i) q.group) q.pc ins) else (goOn (q.pc + 1) q, { eachP (issuedP p (gOf (4 * i) q.group) q.pc) (gOf (4 * i) q.group) q.pc ins with opn := (goOn (q.pc + 1) q).opn })) := by
    unfold Hid stepQ; rw [hki.out]; simp only [if_neg o0, if_neg o12, if_neg o13, if_neg o14]
  rw [e1, e2, e3] at Y3 M3 F3 X3 ⊢
  clear hown hins hb4 hc4 e1 e2 e3 o0 o12 o13 o14
  go_wp2_with fail
  obtain ⟨x0, x1, x2, x3⟩ := box4 Y3.out
  generalize w2.alloc (.cells #[.int .i64 ins.o, .int .i64 a, .int .i64 b, .int .i64 c] 92) = w3 at Y3 M3 F3 X3 x0 x1 x2 x3 ⊢
  have hdo : Hid (∀ wz, MX wz L k J x → Calls Tryz.prog 97 #[pC L, .agg #[.int .i64 ins.o, .int .i64 a, .int .i64 b, .int .i64 c], .int .i64 ((i : Int) * 4), .int .i64 q.group] wz (DoAns wz L k J x (eachL ins (gOf (4 * i) q.group) p.ts p.mem))) := by
    intro wz hwz
    have := do_any hwz H.out.at0 ins.o a b c ha4 Hb4.out Hc4.out Hown.out (i * 4) q.group (by omega) H.out.wok.grp (by rw [Nat.mul_comm i 4]; exact H.out.rng)
    rwa [show ((i * 4 : Nat) : Int) = (i : Int) * 4 by omega, Nat.mul_comm i 4, ← Hins.out] at this
  obtain ⟨E1, E2, E3, E4, HE⟩ : ∃ E1 E2 E3 E4, Hid (eachL ins (gOf (4 * i) q.group) p.ts p.mem = (E1, E2, E3, E4)) := ⟨_, _, _, _, rfl⟩
  rw [HE.out] at hdo
  have hw3 : w2.heap.size < w3.heap.size := blk_lt Y3.out
  have YA : Hid ((w3.alloc (.cells #[.int .i64 0, .int .i64 0, .int .i64 0] 135)).heap[w2.heap.size]? = some (.cells #[.int .i64 ins.o, .int .i64 a, .int .i64 b, .int .i64 c] 92)) := (Below.heap_alloc _ _ _ hw3).trans Y3.out
  have XA : Hid ((w3.alloc (.cells #[.int .i64 0, .int .i64 0, .int .i64 0] 135)).heap[w.heap.size]? = some (.cells #[.int .i64 0, .int .i64 0, .int .i64 0] 135)) := (Below.heap_alloc _ _ _ (blk_lt X3.out)).trans X3.out
  obtain ⟨g0, g1, g2, g3⟩ := box4 YA.out
  have h2n : Hid (w2.heap.size ∉ [L.bX]) := fun hm => by have := List.mem_singleton.1 hm; omega
  have h3n : Hid (w3.heap.size ∉ [L.bX]) := fun hm => by have := List.mem_singleton.1 hm; omega
  go_region_held3 (fun w' => w'.cell? ⟨w2.heap.size, 0, none⟩ = some (.int .i64 ins.o) ∧ w'.cell? ⟨w2.heap.size, 1, none⟩ = some (.int .i64 a) ∧ w'.cell? ⟨w2.heap.size, 2, none⟩ = some (.int .i64 b) ∧ w'.cell? ⟨w2.heap.size, 3, none⟩ = some (.int .i64 c)) (first | go_keep | (refine ⟨?_, ?_, ?_, ?_⟩ <;> (rw [World.cell?_of_block (Below.heap_alloc _ _ _ kl)]; assumption)) | (refine ⟨?_, ?_, ?_, ?_⟩ <;> (rw [World.cell?_of_block (Below.heap_setCell _ _ _ _ kn), World.cell?_of_block (Below.heap_setCell _ _ _ _ kn), World.cell?_of_block (Below.heap_setCell _ _ _ _ kn)]; assumption)) | (refine ⟨?_, ?_, ?_, ?_⟩ <;> assumption)) (first
    | (go_at_call 97; refine (hdo.out _ M3.out.drew).mono ?_; rintro e w4 ⟨rfl, x', hM, hC, hO, hF⟩; obtain ⟨k0, k1, k2, k3⟩ := box4 (fr_block hF (show w3.drew.heap[w2.heap.size]? = _ from Y3.out) h2n.out); have X4 : Hid (w4.heap[w.heap.size]? = some (.cells #[.int .i64 0, .int .i64 0, .int .i64 0] 135)) := fr_block hF (show w3.drew.heap[w.heap.size]? = _ from X3.out) hXn.out; have F4 : Hid (∀ B, Fr B [L.bX] w w4) := fun B => ((F3.out B).drew).trans (hF B); have kl : w2.heap.size < w4.heap.size := Nat.lt_of_lt_of_le hw3 (hF 0).size)
    | (go_at_call 97; refine (hdo.out _ (M3.out.alloc _).drew).mono ?_; rintro e w4 ⟨rfl, x', hM, hC, hO, hF⟩; obtain ⟨k0, k1, k2, k3⟩ := box4 (fr_block hF (show (w3.alloc _).drew.heap[w2.heap.size]? = _ from YA.out) h2n.out); have X4 : Hid (w4.heap[w.heap.size]? = some (.cells #[.int .i64 0, .int .i64 0, .int .i64 0] 135)) := fr_block hF (show (w3.alloc _).drew.heap[w.heap.size]? = _ from XA.out) hXn.out; have F4 : Hid (∀ B, Fr B [L.bX] w w4) := fun B => (((F3.out B).alloc _).drew).trans (hF B); have B4 := hyd (fr_block hF (show (w3.alloc (.cells #[.int .i64 0, .int .i64 0, .int .i64 0] 135)).drew.heap[w3.heap.size]? = _ from heap_alloc_new w3 _) h3n.out); obtain ⟨b0, b1, b2, b3, b4, b5⟩ := box3 B4.out; have kn : w2.heap.size ≠ w3.heap.size := Nat.ne_of_lt hw3))
  · have OB : Hid ((w4.alloc (.cells #[.int .i64 (segC [] E3 : Nat), .int .i64 (faultOf E4).1, .int .i64 (faultOf E4).2] 135)).heap[w4.heap.size]? = some (.cells #[.int .i64 (segC [] E3 : Nat), .int .i64 (faultOf E4).1, .int .i64 (faultOf E4).2] 135)) := heap_alloc_new w4 _
    have M4 : Hid (MX (w4.alloc (.cells #[.int .i64 (segC [] E3 : Nat), .int .i64 (faultOf E4).1, .int .i64 (faultOf E4).2] 135)) L k J x') := hM.alloc _
    have F4' : Hid (∀ B, Fr B [L.bX] w (w4.alloc (.cells #[.int .i64 (segC [] E3 : Nat), .int .i64 (faultOf E4).1, .int .i64 (faultOf E4).2] 135))) := fun B => (F4.out B).alloc _
    have X4' : Hid ((w4.alloc (.cells #[.int .i64 (segC [] E3 : Nat), .int .i64 (faultOf E4).1, .int .i64 (faultOf E4).2] 135)).heap[w.heap.size]? = some (.cells #[.int .i64 0, .int .i64 0, .int .i64 0] 135)) := (Below.heap_alloc _ _ _ (blk_lt X4.out)).trans X4.out
    have hlt4 := blk_lt X4.out
    generalize (w4.alloc (.cells #[.int .i64 (segC [] E3 : Nat), .int .i64 (faultOf E4).1, .int .i64 (faultOf E4).2] 135)) = wz at OB M4 F4' X4' ⊢
    generalize w4.heap.size = bo at OB kl hlt4 ⊢
    have HC := hyd hC
    have HO := hyd hO
    have HQ' : Hid (qPut x' i q = x') := qPut_self (by rw [hO.qs]; exact H.out.qi)
    have hqi' : Hid (i < x'.qs.length) := by unfold Hid; rw [hO.qs]; exact hqi.out
    clear hM hC hO hF
    have hb0 : w.heap.size < bo := by omega
    have hpc1 : IntKind.i64.wrap ((pc : Int) + 1) = (pc : Int) + 1 := by
      have := (List.getElem?_eq_some_iff.1 H.out.insE).1
      have := H.out.k40
      rw [IntWalk.i64_left]; unfold wrap64; omega
    have hXb : Hid (bo ∉ [L.bX]) := fun hm => by have := List.mem_singleton.1 hm; omega
    cases hE4 : E4 with
    | none =>
      subst hE4
      have hEP : Hid (eachP (issuedP p (gOf (4 * i) q.group) q.pc) (gOf (4 * i) q.group) q.pc ins = { issuedP p (gOf (4 * i) q.group) q.pc with ts := E1, mem := E2, segs := (issuedP p (gOf (4 * i) q.group) q.pc).segs + segC [] E3 }) := by
        unfold Hid eachP
        rw [show (issuedP p (gOf (4 * i) q.group) q.pc).ts = p.ts from rfl, show (issuedP p (gOf (4 * i) q.group) q.pc).mem = p.mem from rfl, HE.out]
      have Hst := hsW
      rw [if_neg (by rw [hEP.out]; simp only [issuedP]; rw [H.out.ends]; decide)] at Hst
      clear hsW
      obtain ⟨v0, v1, v2, v3, v4, v5⟩ := box3 OB.out
      dsimp only [faultOf] at v1 v2
      go_wp2_with fail
      have M4' := M4.out
      rw [← HQ'.out] at M4'
      refine (goOn_any M4' hqi'.out H.out.wok ((pc : Int) + 1)).mono ?_
      rintro e w5 ⟨rfl, hM, hF⟩
      have M5 := hyd hM
      rw [← Hpc.out] at M5
      have F5 : Hid (∀ B, Fr B [L.bX] w w5) := fun B => (F4'.out B).trans (hF B)
      have O5 := hyd (fr_block hF X4'.out hXn.out)
      have OB5 := hyd (fr_block hF OB.out hXb.out)
      clear hM hF M4' v0 v1 v2 v3 v4 v5
      obtain ⟨v0, v1, v2, v3, v4, v5⟩ := box3 OB5.out
      dsimp only [faultOf] at v1 v2
      obtain ⟨z0, z1, z2, z3, z4, z5⟩ := box3 O5.out
      go_wp2_with fail
      have O6 := hyd (box3_set O5.out (.int .i64 (segC [] E3 : Nat)) (.int .i64 0) (.int .i64 0))
      have M6 := hyd (((M5.out.setOther (B := w.heap.size) hnb.out 0 (.int .i64 (segC [] E3 : Nat))).setOther hnb.out 1 (.int .i64 0)).setOther hnb.out 2 (.int .i64 0))
      have F6 : Hid (∀ B, Fr B [L.bX] w (((w5.setCell ⟨w.heap.size, 0, none⟩ (.int .i64 (segC [] E3 : Nat))).setCell ⟨w.heap.size, 1, none⟩ (.int .i64 0)).setCell ⟨w.heap.size, 2, none⟩ (.int .i64 0))) := fun B => (((F5.out B).setNew (Nat.le_refl _) _ _).setNew (Nat.le_refl _) _ _).setNew (Nat.le_refl _) _ _
      generalize (((w5.setCell ⟨w.heap.size, 0, none⟩ (.int .i64 (segC [] E3 : Nat))).setCell ⟨w.heap.size, 1, none⟩ (.int .i64 0)).setCell ⟨w.heap.size, 2, none⟩ (.int .i64 0)) = w6 at O6 M6 F6 ⊢
      obtain ⟨y0, y1, y2, -, -, -⟩ := box3 O6.out
      (try simp only [Exit.inBlock, Exit.then])
      refine bodyPost_ret (by simp [results, Tryz.results76, go_sem, y0, y1, y2]; try rfl) rfl ?_
      rw [Hst.out]
      refine ⟨⟨segC [] E3, 0, 0, rfl, ?_, fun _ => ⟨?_, ?_, ?_⟩, fun h => absurd rfl h⟩, ⟨x', M6.out, ?_, HO.out⟩, F6.out⟩
      · rw [hEP.out]; rfl
      · rw [hEP.out]; rfl
      · rw [hEP.out]; rfl
      · rw [hEP.out]; rfl
      · rw [hEP.out]; exact HC.out
    | some ft =>
      obtain ⟨f, t⟩ := ft
      subst hE4
      have hEP : Hid (eachP (issuedP p (gOf (4 * i) q.group) q.pc) (gOf (4 * i) q.group) q.pc ins = { faultP { issuedP p (gOf (4 * i) q.group) q.pc with ts := E1, mem := E2 } f q.pc t with segs := (issuedP p (gOf (4 * i) q.group) q.pc).segs + segC [] E3 }) := by
        unfold Hid eachP
        rw [show (issuedP p (gOf (4 * i) q.group) q.pc).ts = p.ts from rfl, show (issuedP p (gOf (4 * i) q.group) q.pc).mem = p.mem from rfl, HE.out]
      have hfz : Hid (f ≠ 0) := by
        have := (each_ends (issuedP p (gOf (4 * i) q.group) q.pc) (gOf (4 * i) q.group) q.pc ins).1 (by rw [hEP.out]; rfl) H.out.ends
        rw [hEP.out] at this
        exact this
      have Hst := hsW
      rw [if_pos (by rw [hEP.out]; rfl)] at Hst
      clear hsW
      have hfb : (f == 0) = false := by have := hfz.out; simpa using this
      obtain ⟨v0, v1, v2, v3, v4, v5⟩ := box3 OB.out
      dsimp only [faultOf] at v1 v2
      have M5 := M4
      have F5 := F4'
      have O5 := X4'
      generalize wz = w5 at M5 F5 O5 v0 v1 v2 v3 v4 v5 ⊢
      obtain ⟨z0, z1, z2, z3, z4, z5⟩ := box3 O5.out
      go_wp2_with fail
      have O6 := hyd (box3_set O5.out (.int .i64 (segC [] E3 : Nat)) (.int .i64 f) (.int .i64 (t : Int)))
      have M6 := hyd (((M5.out.setOther (B := w.heap.size) hnb.out 0 (.int .i64 (segC [] E3 : Nat))).setOther hnb.out 1 (.int .i64 f)).setOther hnb.out 2 (.int .i64 (t : Int)))
      have F6 : Hid (∀ B, Fr B [L.bX] w (((w5.setCell ⟨w.heap.size, 0, none⟩ (.int .i64 (segC [] E3 : Nat))).setCell ⟨w.heap.size, 1, none⟩ (.int .i64 f)).setCell ⟨w.heap.size, 2, none⟩ (.int .i64 (t : Int)))) := fun B => (((F5.out B).setNew (Nat.le_refl _) _ _).setNew (Nat.le_refl _) _ _).setNew (Nat.le_refl _) _ _
      generalize (((w5.setCell ⟨w.heap.size, 0, none⟩ (.int .i64 (segC [] E3 : Nat))).setCell ⟨w.heap.size, 1, none⟩ (.int .i64 f)).setCell ⟨w.heap.size, 2, none⟩ (.int .i64 (t : Int))) = w6 at O6 M6 F6 ⊢
      obtain ⟨y0, y1, y2, -, -, -⟩ := box3 O6.out
      (try simp only [Exit.inBlock, Exit.then])
      refine bodyPost_ret (by simp [results, Tryz.results76, go_sem, y0, y1, y2]; try rfl) rfl ?_
      rw [Hst.out]
      refine ⟨⟨segC [] E3, f, t, rfl, ?_, fun h => absurd h hfz.out, fun _ => ⟨?_, ?_, ?_⟩⟩, ⟨x', ?_, ?_, HO.out⟩, F6.out⟩
      · rw [hEP.out]; rfl
      · rw [hEP.out]; rfl
      · rw [hEP.out]; rfl
      · rw [hEP.out]; rfl
      · rw [HQ'.out]; exact M6.out
      · rw [hEP.out]; exact HC.out
  · have OB : Hid ((((w4.setCell ⟨w3.heap.size, 0, none⟩ (.int .i64 (segC [] E3 : Nat))).setCell ⟨w3.heap.size, 1, none⟩ (.int .i64 (faultOf E4).1)).setCell ⟨w3.heap.size, 2, none⟩ (.int .i64 (faultOf E4).2)).heap[w3.heap.size]? = some (.cells #[.int .i64 (segC [] E3 : Nat), .int .i64 (faultOf E4).1, .int .i64 (faultOf E4).2] 135)) := box3_set B4.out _ _ _
    have hn3 : Hid (w3.heap.size ≠ L.bX ∧ w3.heap.size ≠ L.gK ∧ w3.heap.size ≠ L.gJ) := by
      have h1 := H.out.mx.lt (g := L.bX) (.inl rfl)
      have h2 := H.out.mx.lt (g := L.gK) (.inr (.inl rfl))
      have h3 := H.out.mx.lt (g := L.gJ) (.inr (.inr rfl))
      unfold Hid; omega
    have M4 : Hid (MX (((w4.setCell ⟨w3.heap.size, 0, none⟩ (.int .i64 (segC [] E3 : Nat))).setCell ⟨w3.heap.size, 1, none⟩ (.int .i64 (faultOf E4).1)).setCell ⟨w3.heap.size, 2, none⟩ (.int .i64 (faultOf E4).2)) L k J x') := ((hM.setOther hn3.out _ _).setOther hn3.out _ _).setOther hn3.out _ _
    have hle3 : w.heap.size ≤ w3.heap.size := by omega
    have F4' : Hid (∀ B, Fr B [L.bX] w (((w4.setCell ⟨w3.heap.size, 0, none⟩ (.int .i64 (segC [] E3 : Nat))).setCell ⟨w3.heap.size, 1, none⟩ (.int .i64 (faultOf E4).1)).setCell ⟨w3.heap.size, 2, none⟩ (.int .i64 (faultOf E4).2))) := fun B => (((F4.out B).setNew hle3 _ _).setNew hle3 _ _).setNew hle3 _ _
    have hne3 : w.heap.size ≠ w3.heap.size := by omega
    have X4' : Hid ((((w4.setCell ⟨w3.heap.size, 0, none⟩ (.int .i64 (segC [] E3 : Nat))).setCell ⟨w3.heap.size, 1, none⟩ (.int .i64 (faultOf E4).1)).setCell ⟨w3.heap.size, 2, none⟩ (.int .i64 (faultOf E4).2)).heap[w.heap.size]? = some (.cells #[.int .i64 0, .int .i64 0, .int .i64 0] 135)) := (Below.heap_setCell _ _ _ _ hne3).trans ((Below.heap_setCell _ _ _ _ hne3).trans ((Below.heap_setCell _ _ _ _ hne3).trans X4.out))
    clear b0 b1 b2 b3 b4 b5 B4
    generalize (((w4.setCell ⟨w3.heap.size, 0, none⟩ (.int .i64 (segC [] E3 : Nat))).setCell ⟨w3.heap.size, 1, none⟩ (.int .i64 (faultOf E4).1)).setCell ⟨w3.heap.size, 2, none⟩ (.int .i64 (faultOf E4).2)) = wz at OB M4 F4' X4' ⊢
    have HC := hyd hC
    have HO := hyd hO
    have HQ' : Hid (qPut x' i q = x') := qPut_self (by rw [hO.qs]; exact H.out.qi)
    have hqi' : Hid (i < x'.qs.length) := by unfold Hid; rw [hO.qs]; exact hqi.out
    clear hM hC hO hF
    have hb0 : w.heap.size < w3.heap.size := by omega
    have hpc1 : IntKind.i64.wrap ((pc : Int) + 1) = (pc : Int) + 1 := by
      have := (List.getElem?_eq_some_iff.1 H.out.insE).1
      have := H.out.k40
      rw [IntWalk.i64_left]; unfold wrap64; omega
    have hXb : Hid (w3.heap.size ∉ [L.bX]) := fun hm => by have := List.mem_singleton.1 hm; omega
    cases hE4 : E4 with
    | none =>
      subst hE4
      have hEP : Hid (eachP (issuedP p (gOf (4 * i) q.group) q.pc) (gOf (4 * i) q.group) q.pc ins = { issuedP p (gOf (4 * i) q.group) q.pc with ts := E1, mem := E2, segs := (issuedP p (gOf (4 * i) q.group) q.pc).segs + segC [] E3 }) := by
        unfold Hid eachP
        rw [show (issuedP p (gOf (4 * i) q.group) q.pc).ts = p.ts from rfl, show (issuedP p (gOf (4 * i) q.group) q.pc).mem = p.mem from rfl, HE.out]
      have Hst := hsW
      rw [if_neg (by rw [hEP.out]; simp only [issuedP]; rw [H.out.ends]; decide)] at Hst
      clear hsW
      obtain ⟨v0, v1, v2, v3, v4, v5⟩ := box3 OB.out
      dsimp only [faultOf] at v1 v2
      go_wp2_with fail
      have M4' := M4.out
      rw [← HQ'.out] at M4'
      refine (goOn_any M4' hqi'.out H.out.wok ((pc : Int) + 1)).mono ?_
      rintro e w5 ⟨rfl, hM, hF⟩
      have M5 := hyd hM
      rw [← Hpc.out] at M5
      have F5 : Hid (∀ B, Fr B [L.bX] w w5) := fun B => (F4'.out B).trans (hF B)
      have O5 := hyd (fr_block hF X4'.out hXn.out)
      have OB5 := hyd (fr_block hF OB.out hXb.out)
      clear hM hF M4' v0 v1 v2 v3 v4 v5
      obtain ⟨v0, v1, v2, v3, v4, v5⟩ := box3 OB5.out
      dsimp only [faultOf] at v1 v2
      obtain ⟨z0, z1, z2, z3, z4, z5⟩ := box3 O5.out
      go_wp2_with fail
      have O6 := hyd (box3_set O5.out (.int .i64 (segC [] E3 : Nat)) (.int .i64 0) (.int .i64 0))
      have M6 := hyd (((M5.out.setOther (B := w.heap.size) hnb.out 0 (.int .i64 (segC [] E3 : Nat))).setOther hnb.out 1 (.int .i64 0)).setOther hnb.out 2 (.int .i64 0))
      have F6 : Hid (∀ B, Fr B [L.bX] w (((w5.setCell ⟨w.heap.size, 0, none⟩ (.int .i64 (segC [] E3 : Nat))).setCell ⟨w.heap.size, 1, none⟩ (.int .i64 0)).setCell ⟨w.heap.size, 2, none⟩ (.int .i64 0))) := fun B => (((F5.out B).setNew (Nat.le_refl _) _ _).setNew (Nat.le_refl _) _ _).setNew (Nat.le_refl _) _ _
      generalize (((w5.setCell ⟨w.heap.size, 0, none⟩ (.int .i64 (segC [] E3 : Nat))).setCell ⟨w.heap.size, 1, none⟩ (.int .i64 0)).setCell ⟨w.heap.size, 2, none⟩ (.int .i64 0)) = w6 at O6 M6 F6 ⊢
      obtain ⟨y0, y1, y2, -, -, -⟩ := box3 O6.out
      (try simp only [Exit.inBlock, Exit.then])
      refine bodyPost_ret (by simp [results, Tryz.results76, go_sem, y0, y1, y2]; try rfl) rfl ?_
      rw [Hst.out]
      refine ⟨⟨segC [] E3, 0, 0, rfl, ?_, fun _ => ⟨?_, ?_, ?_⟩, fun h => absurd rfl h⟩, ⟨x', M6.out, ?_, HO.out⟩, F6.out⟩
      · rw [hEP.out]; rfl
      · rw [hEP.out]; rfl
      · rw [hEP.out]; rfl
      · rw [hEP.out]; rfl
      · rw [hEP.out]; exact HC.out
    | some ft =>
      obtain ⟨f, t⟩ := ft
      subst hE4
      have hEP : Hid (eachP (issuedP p (gOf (4 * i) q.group) q.pc) (gOf (4 * i) q.group) q.pc ins = { faultP { issuedP p (gOf (4 * i) q.group) q.pc with ts := E1, mem := E2 } f q.pc t with segs := (issuedP p (gOf (4 * i) q.group) q.pc).segs + segC [] E3 }) := by
        unfold Hid eachP
        rw [show (issuedP p (gOf (4 * i) q.group) q.pc).ts = p.ts from rfl, show (issuedP p (gOf (4 * i) q.group) q.pc).mem = p.mem from rfl, HE.out]
      have hfz : Hid (f ≠ 0) := by
        have := (each_ends (issuedP p (gOf (4 * i) q.group) q.pc) (gOf (4 * i) q.group) q.pc ins).1 (by rw [hEP.out]; rfl) H.out.ends
        rw [hEP.out] at this
        exact this
      have Hst := hsW
      rw [if_pos (by rw [hEP.out]; rfl)] at Hst
      clear hsW
      have hfb : (f == 0) = false := by have := hfz.out; simpa using this
      obtain ⟨v0, v1, v2, v3, v4, v5⟩ := box3 OB.out
      dsimp only [faultOf] at v1 v2
      have M5 := M4
      have F5 := F4'
      have O5 := X4'
      generalize wz = w5 at M5 F5 O5 v0 v1 v2 v3 v4 v5 ⊢
      obtain ⟨z0, z1, z2, z3, z4, z5⟩ := box3 O5.out
      go_wp2_with fail
      have O6 := hyd (box3_set O5.out (.int .i64 (segC [] E3 : Nat)) (.int .i64 f) (.int .i64 (t : Int)))
      have M6 := hyd (((M5.out.setOther (B := w.heap.size) hnb.out 0 (.int .i64 (segC [] E3 : Nat))).setOther hnb.out 1 (.int .i64 f)).setOther hnb.out 2 (.int .i64 (t : Int)))
      have F6 : Hid (∀ B, Fr B [L.bX] w (((w5.setCell ⟨w.heap.size, 0, none⟩ (.int .i64 (segC [] E3 : Nat))).setCell ⟨w.heap.size, 1, none⟩ (.int .i64 f)).setCell ⟨w.heap.size, 2, none⟩ (.int .i64 (t : Int)))) := fun B => (((F5.out B).setNew (Nat.le_refl _) _ _).setNew (Nat.le_refl _) _ _).setNew (Nat.le_refl _) _ _
      generalize (((w5.setCell ⟨w.heap.size, 0, none⟩ (.int .i64 (segC [] E3 : Nat))).setCell ⟨w.heap.size, 1, none⟩ (.int .i64 f)).setCell ⟨w.heap.size, 2, none⟩ (.int .i64 (t : Int))) = w6 at O6 M6 F6 ⊢
      obtain ⟨y0, y1, y2, -, -, -⟩ := box3 O6.out
      (try simp only [Exit.inBlock, Exit.then])
      refine bodyPost_ret (by simp [results, Tryz.results76, go_sem, y0, y1, y2]; try rfl) rfl ?_
      rw [Hst.out]
      refine ⟨⟨segC [] E3, f, t, rfl, ?_, fun h => absurd h hfz.out, fun _ => ⟨?_, ?_, ?_⟩⟩, ⟨x', ?_, ?_, HO.out⟩, F6.out⟩
      · rw [hEP.out]; rfl
      · rw [hEP.out]; rfl
      · rw [hEP.out]; rfl
      · rw [hEP.out]; rfl
      · rw [HQ'.out]; exact M6.out
      · rw [hEP.out]; exact HC.out
end Go.Proofs.YtbhbacphiinpeaaGreat

