/- Rd5: joined. -/
import Derived.Test.YtbhbacphiinpeaaGreatZ35

/- What the document's 'Turn' does, where the pick is too great. -/
namespace Go.Proofs.YtbhbacphiinpeaaGreat
open Go.RowKit

set_option maxHeartbeats 1000000 in
set_option maxRecDepth 100000 in
theorem rturn_over {w : World} {L : RM} {gW cW : Nat} {vs : List Value} {m : PM} (h : MachAt w L gW cW vs m) (hok : PMok m) (pick : Int) (bn : Nat) (h0 : m.st = 0) (hb1 : 1 ≤ bn) (hb2 : bn ≤ 2000) (hp : 0 ≤ pick) (hp2 : ((readyL m.ws).length : Int) ≤ pick) :
    Calls Tryz.prog 38 #[.pointer (some ⟨L.bM, 0, none⟩), .int .i64 pick, .int .i64 bn] w (TurnAns w L gW cW vs m (pickW (readyL m.ws) pick) (playP m (pickW (readyL m.ws) pick) bn)) := by
  have H := hyd h
  have HOk := hyd hok
  have hw4 : Hid (m.ws.length ≤ 4) := by have h1 := hok.lenW; have h2 := hok.n16; unfold Hid; omega
  have hne := hok.rdy h0
  have M0 := hyd (h.up ((Below.refl _ w).alloc (Nat.le_refl _) (.cells #[.int .i64 0, .int .i64 0, .int .i64 0, .int .i64 0, .int .i64 0, .int .i64 0, .slice none 0 0] 76)))
  obtain ⟨-, -, -, c3, -, c5⟩ := M0.out.core.cells
  rw [h0] at c5
  have H0 := hyd h0
  have g1 : decide ((bn : Int) < 1) = false := by simp; omega
  have g2 : decide (2000 < (bn : Int)) = false := by simp; omega
  have RB0 : Hid ((w.alloc (.cells #[.int .i64 0, .int .i64 0, .int .i64 0, .int .i64 0, .int .i64 0, .int .i64 0, .slice none 0 0] 76)).heap[w.heap.size]? = some (.cells #[.int .i64 0, .int .i64 0, .int .i64 0, .int .i64 0, .int .i64 0, .int .i64 0, .slice none 0 0] 76)) := heap_alloc_new w _
  clear h hok h0
  go_enter Tryz.func38, Tryz.ntmps38
  go_wp2_with fail
  refine (ready_any M0.out hw4.out).mono ?_
  rintro e w2 ⟨v, rfl, ho, hb⟩
  have hsz2 : w.heap.size + 1 ≤ w2.heap.size := by have := hb.size; simpa using this
  have M2 := hyd (M0.out.up hb)
  have RB2 : Hid (w2.heap[w.heap.size]? = some (.cells #[.int .i64 0, .int .i64 0, .int .i64 0, .int .i64 0, .int .i64 0, .int .i64 0, .slice none 0 0] 76)) := (hb.block _ (by simp)).trans RB0.out
  have F2 : Hid (Below w.heap.size w w2) := ((Below.refl _ w).alloc (Nat.le_refl _) _).trans (hb.mono (by simp))
  obtain ⟨j, Hj⟩ : ∃ j, Hid (pickW (readyL m.ws) pick = j) := ⟨_, rfl⟩
  have hjm : j ∈ readyL m.ws := by rw [← Hj.out]; exact pick_mem hne pick
  have hjl : Hid (j < m.ws.length) := (ready_mem.1 hjm).1
  obtain ⟨l, Hl⟩ : ∃ l, Hid (readyL m.ws = l) := ⟨_, rfl⟩
  have hl4 : Hid (l.length ≤ 4) := by rw [← Hl.out]; refine Nat.le_trans (List.length_filter_le _ _) ?_; simp; exact hw4.out
  rw [Hl.out] at ho hne
  have Hjp := Hj
  rw [Hl.out] at Hjp
  obtain ⟨gl, lc, hv, hgl1, hgl2⟩ := ho.form (List.length_pos_iff.2 hne)
  subst hv
  obtain ⟨l0, hl0⟩ : ∃ l0, l[0]? = some l0 := ⟨_, List.getElem?_eq_getElem (List.length_pos_iff.2 hne)⟩
  have cl0 := (ho.cellAt 0 (by have := List.length_pos_iff.2 hne; omega)).trans (nat_at hl0)
  have hlp : 0 < l.length := List.length_pos_iff.2 hne
  obtain ⟨ll, Hll⟩ : ∃ ll, Hid (l.length = ll) := ⟨_, rfl⟩
  rw [Hll.out] at hlp ⊢
  have hlp2 : (0 : Int) < (ll : Int) := by omega
  rw [Hl.out, Hll.out] at hp2
  have hpk : Hid (j = l0) := by
    have := Hjp.out
    unfold pickW at this
    rw [Hll.out, if_neg (by omega)] at this
    rw [← this, List.getD_eq_getElem?_getD, hl0]; rfl
  have gp : decide (0 ≤ pick) = true := by simp; omega
  have gq : decide (pick < (ll : Int)) = false := by simp; omega
  rw [← hpk.out] at cl0
  clear hb c3 c5 M0 RB0 hjm hne hl0 hp hp2
  have hsz0 : w.heap.size ≤ w2.heap.size := by omega
  obtain ⟨n, Hn⟩ : ∃ n, Hid (m.ws.length = n) := ⟨_, rfl⟩
  have hjn : j < n := by rw [← Hn.out]; exact hjl.out
  have j1 : (0 : Int) ≤ (j : Int) := by omega
  have j2 : (j : Int) < (n : Int) := by omega
  have PB : Hid ((w2.alloc (.cells #[.pointer (some ⟨L.bM, 0, none⟩), .int .i64 j, .int .i64 0, .int .i64 0, .int .i64 0, .int .i64 0, .int .i64 0, .slice none 0 0, .int .i64 bn, .int .i64 0, .bool false, .bool false, .int .i64 0] 123)).heap[w2.heap.size]? = some (.cells #[.pointer (some ⟨L.bM, 0, none⟩), .int .i64 j, .int .i64 0, .int .i64 0, .int .i64 0, .int .i64 0, .int .i64 0, .slice none 0 0, .int .i64 bn, .int .i64 0, .bool false, .bool false, .int .i64 0] 123)) := by
    exact heap_alloc_new w2 _
  have BL4 : Hid (Below w2.heap.size w2 (w2.alloc (.cells #[.pointer (some ⟨L.bM, 0, none⟩), .int .i64 j, .int .i64 0, .int .i64 0, .int .i64 0, .int .i64 0, .int .i64 0, .slice none 0 0, .int .i64 bn, .int .i64 0, .bool false, .bool false, .int .i64 0] 123))) := (Below.refl _ w2).alloc (Nat.le_refl _) _
  have M4 := hyd (M2.out.up BL4.out)
  have P4 : Hid (PlayAt (w2.alloc (.cells #[.pointer (some ⟨L.bM, 0, none⟩), .int .i64 j, .int .i64 0, .int .i64 0, .int .i64 0, .int .i64 0, .int .i64 0, .slice none 0 0, .int .i64 bn, .int .i64 0, .bool false, .bool false, .int .i64 0] 123)) L w2.heap.size w.heap.size m.k m.J (.slice (some ⟨gW, 0, none⟩) m.ws.length cW) bn (j : Int) (.slice none 0 0) ⟨m.ts, m.mem, m.st, 0, 0, 0, 0, 0, [], 0, false, false, 0⟩) := ⟨PB.out, World.ownsRow_nil _ _ _ _, M4.out.core, hsz0⟩
  have RB4 : Hid ((w2.alloc (.cells #[.pointer (some ⟨L.bM, 0, none⟩), .int .i64 j, .int .i64 0, .int .i64 0, .int .i64 0, .int .i64 0, .int .i64 0, .slice none 0 0, .int .i64 bn, .int .i64 0, .bool false, .bool false, .int .i64 0] 123)).heap[w.heap.size]? = some (.cells #[.int .i64 0, .int .i64 0, .int .i64 0, .int .i64 0, .int .i64 0, .int .i64 0, .slice none 0 0] 76)) := (BL4.out.block _ (by omega)).trans RB2.out
  have F4 : Hid (Below w.heap.size w (w2.alloc (.cells #[.pointer (some ⟨L.bM, 0, none⟩), .int .i64 j, .int .i64 0, .int .i64 0, .int .i64 0, .int .i64 0, .int .i64 0, .slice none 0 0, .int .i64 bn, .int .i64 0, .bool false, .bool false, .int .i64 0] 123))) := F2.out.trans (BL4.out.mono hsz0)
  obtain ⟨-, -, -, e3, -, -⟩ := M4.out.core.cells
  rw [Hn.out] at e3
  obtain ⟨vj, hvj, f0, f1, -, -⟩ := M4.out.cellW hjl.out
  obtain ⟨at0, Hat⟩ : ∃ at0, Hid ((m.ws.getD j wrp0).at0 = at0) := ⟨_, rfl⟩
  rw [Hat.out] at f1
  have Hvj := hyd hvj
  clear hvj
  go_wp2_with fail
  generalize w2.alloc (.cells #[.pointer (some ⟨L.bM, 0, none⟩), .int .i64 j, .int .i64 0, .int .i64 0, .int .i64 0, .int .i64 0, .int .i64 0, .slice none 0 0, .int .i64 bn, .int .i64 0, .bool false, .bool false, .int .i64 0] 123) = w4 at PB BL4 M4 P4 RB4 F4 e3 f0 f1 ⊢
  clear M2 RB2 F2 cl0 hgl1 hgl2 PB
  obtain ⟨bP, HbP⟩ : ∃ bP, Hid (w2.heap.size = bP) := ⟨_, rfl⟩
  have hbPw : Hid (w.heap.size < bP) := by rw [← HbP.out]; exact hsz2
  rw [HbP.out] at P4 ⊢
  clear hsz0 hsz2 BL4
  have hX3 : Hid (∀ b ∈ L.X bP, b ∈ [L.bM, L.gT, gW, L.gM] ∨ (∀ cs fr, w4.heap[b]? ≠ some (.cells cs 3 fr))) := fun b hb => by
    simp only [RM.X, List.mem_cons, List.not_mem_nil, or_false] at hb
    rcases hb with rfl | rfl | rfl | rfl
    · right; intro cs fr e; rw [P4.out.blk] at e; simp at e
    · left; simp
    · left; simp
    · left; simp
  have G4 := hyd ((M4.out.grp j vj Hvj.out).other hX3.out)
  have hWX : Hid (gW ∉ L.X bP) := by
    have hn := M4.out.ne
    have hbp : gW < w.heap.size := (H.out.rW.lt gW rfl).2
    unfold Hid
    simp only [RM.X, List.mem_cons, List.not_mem_nil, or_false, not_or]
    refine ⟨?_, fun e => hn.1 e.symm, fun e => hn.2.2.2.1 e.symm, fun e => hn.2.2.2.2 e.symm⟩
    have := hbPw.out
    omega
  have hQ : Hid (runP m.k m.J bn bn ⟨m.ts, m.mem, m.st, 0, 0, 0, 0, 0, [], 0, false, false, 0⟩ (warpG m.ts.length j) at0 (-1) = playP m j bn) := by
    unfold Hid playP; rw [Hat.out]
  obtain ⟨sA, kA, cA⟩ := play_at HOk.out H0.out hjl.out bn
  have KA := hyd (kA HOk.out.regs)
  have SA := hyd sA
  have CA := hyd cA
  clear sA kA cA
  obtain ⟨Q, HQ⟩ : ∃ Q, Hid (playP m j bn = Q) := ⟨_, rfl⟩
  rw [HQ.out] at hQ KA SA CA
  have hfrom : Hid (FromOk m.k ⟨m.ts, m.mem, m.st, 0, 0, 0, 0, 0, [], 0, false, false, 0⟩ (warpG m.ts.length j) at0 ∨ at0 = -1) := by
    left; left
    rw [← Hat.out, List.getD_eq_getElem?_getD, List.getElem?_eq_getElem hjl.out]
    exact HOk.out.at0 _ (List.getElem_mem hjl.out)
  have HD : Hid (Fr w.heap.size (L.X bP) w4 w4.drew) := (Fr.refl _ _ _).drew
  go_region_held3 (fun w' => w'.cell? ⟨L.bM, 3, none⟩ = some (.slice (some ⟨gW, 0, none⟩) n cW) ∧ w'.cell? ⟨gW, j * 4, none⟩ = some vj ∧ w'.cell? ⟨gW, j * 4 + 1, none⟩ = some (.int .i64 at0)) (first | go_keep | (go_split_ands; exact ⟨k0, k1, k2⟩)) ((go_at_call 60; refine (run_all HOk.out.chk HOk.out.joins hb2 bn _ _ _ _ _ at0 (-1) P4.out.drew HOk.out.regs HOk.out.n16 HOk.out.m32 (begin_cnt m bn) (by simp) (G4.out.fr HD.out) (fun t ht => warp_lt ht) (warp_len _ _) hfrom.out).mono ?_; rw [hQ.out]; rintro e w5 ⟨rfl, ⟨vL5, hP5⟩, hF5⟩; have P5 := hyd hP5; have F45 := hyd (HD.out.trans hF5); have M5 : Hid (MachAt w5 L gW cW vs { m with ts := Q.ts, mem := Q.mem, st := Q.st }) := ⟨hP5.core, F45.out.owns M4.out.rW (fun g hg => by simp only [Value.ownBlock, Option.some.injEq] at hg; subst hg; exact hWX.out) (by decide), M4.out.lenV, fun i v hv => by dsimp only; rw [KA.out.2.1]; exact (M4.out.grp i v hv).of_mem F45.out hX3.out⟩; obtain ⟨-, -, -, k0, -⟩ := M5.out.core.cells; dsimp only at k0; rw [Hn.out] at k0; obtain ⟨vj', hvj', k1, k2, -⟩ := M5.out.cellW (i := j) (by dsimp only; exact hjl.out); dsimp only at k2; rw [Hat.out] at k2; have hvv := hvj'.symm.trans Hvj.out; cases hvv))
  have RB5 : Hid (w5.heap[w.heap.size]? = some (.cells #[.int .i64 0, .int .i64 0, .int .i64 0, .int .i64 0, .int .i64 0, .int .i64 0, .slice none 0 0] 76)) := by
    have hbX : w.heap.size ∉ L.X bP := fun hx => by
      simp only [RM.X, List.mem_cons, List.not_mem_nil, or_false] at hx
      have h1 : L.bM < w.heap.size := H.out.core.lt (by simp)
      have h2 : L.gT < w.heap.size := H.out.core.lt (by simp)
      have h3 : L.gM < w.heap.size := H.out.core.lt (by simp)
      have h4 := hbPw.out
      omega
    have e := RB4.out
    exact (F45.out.block _ (blk_lt e) hbX (.inr fun cs fr e' => by rw [e] at e'; simp at e')).trans e
  clear hP5 hF5 hvj' k1 k2 k0 e3 f0 f1
  obtain ⟨-, q2, q3, q4, q5, q6, q7, q8, q9, q10, q11, q12⟩ := P5.out.cells
  have q1 := P5.out.cell1
  have F5Y : Hid (Fr w.heap.size (L.Y gW) w w5) := ⟨F45.out.os.trans F4.out.os, F45.out.tape.trans F4.out.tape, F45.out.output.trans F4.out.output, Nat.le_trans F4.out.size F45.out.size, fun b hb hY _ => by
    have h1 := F4.out.block b hb
    refine (F45.out.block b (Nat.lt_of_lt_of_le hb F4.out.size) (fun hx => ?_) (.inl hb)).trans h1
    simp only [RM.X, RM.Y, List.mem_cons, List.not_mem_nil, or_false, not_or] at hx hY
    have h4 := hbPw.out
    omega⟩
  clear F45 F4 RB4 M4 P4 G4 hX3 HD
  obtain ⟨va5, vc5, hv5⟩ := slice_ofN P5.out.log
  subst hv5
  cases hen : Q.ends
  · have hst0 : Hid (Q.st = 0) := SA.out.2.1 hen
    rw [hen] at q10
    cases hwt : Q.waits
    · rw [hwt] at q11
      have hfin : Hid (afterP m j Q = settleP { m with ts := Q.ts, mem := Q.mem, st := Q.st, ws := m.ws.set j { m.ws.getD j wrp0 with done := true } }) := by
        unfold Hid afterP; rw [hen, hwt]; rfl
      obtain ⟨-, -, -, k3, -⟩ := M5.out.core.cells
      dsimp only at k3
      rw [Hn.out] at k3
      obtain ⟨vj2, -, -, -, -, a3⟩ := M5.out.cellW (i := j) (by dsimp only; exact hjl.out)
      have fz := M5.out.rW.frozenAt (j * 4 + 3)
      have M6 := hyd (M5.out.setW (i := j) (j := 3) (u := .bool true) (x' := { m.ws.getD j wrp0 with done := true }) (by dsimp only; exact hjl.out) (by omega) (fun v => rfl))
      have FSt : Hid (∀ B, Fr B [L.bM, gW] w5 (w5.setCell ⟨gW, j * 4 + 3, none⟩ (.bool true))) := fun B => (Fr.refl _ _ _).set (by simp) _
      go_wp2_with fail
      refine (settle_any M6.out (by dsimp only; rw [List.length_set]; exact hw4.out)).mono ?_
      rintro e w7 ⟨rfl, hM7, hF7⟩
      have hall : Hid (∀ b, b < w5.heap.size → b ≠ L.bM → b ≠ gW → w7.heap[b]? = w5.heap[b]?) := fun b hb h1 h2 =>
        ((FSt.out (b + 1)).trans (hF7 (b + 1))).block b hb (by simp; exact ⟨h1, h2⟩) (.inl (by omega))
      have hbPn : bP ≠ L.bM ∧ bP ≠ gW := by
        have h1 : L.bM < w.heap.size := H.out.core.lt (by simp)
        have h2 : gW < w.heap.size := (H.out.rW.lt gW rfl).2
        have h4 := hbPw.out
        omega
      have PBX : Hid (w7.heap[bP]? = some (.cells #[.pointer (some ⟨L.bM, 0, none⟩), .int .i64 j, .int .i64 Q.steps, .int .i64 Q.segs, .int .i64 Q.fault, .int .i64 Q.fpc, .int .i64 Q.fth, (.slice va5 Q.log.length vc5), .int .i64 bn, .int .i64 Q.opn, .bool Q.ends, .bool Q.waits, .int .i64 Q.at0] 123)) := (hall.out bP (blk_lt P5.out.blk) hbPn.1 hbPn.2).trans P5.out.blk
      have RBX : Hid (w7.heap[w.heap.size]? = some (.cells #[.int .i64 0, .int .i64 0, .int .i64 0, .int .i64 0, .int .i64 0, .int .i64 0, .slice none 0 0] 76)) := (hall.out _ (blk_lt RB5.out) (by have : L.bM < w.heap.size := H.out.core.lt (by simp); omega) (by have : gW < w.heap.size := (H.out.rW.lt gW rfl).2; omega)).trans RB5.out
      have OX : Hid (w7.ownsRow w.heap.size 94 2 (.slice va5 Q.log.length vc5) Q.log.length (flatL Q.log)) := owns_same P5.out.log fun g hg => hall.out g (P5.out.log.lt g hg).2 (by have := (P5.out.log.lt g hg).1; have : L.bM < w.heap.size := H.out.core.lt (by simp); omega) (by have := (P5.out.log.lt g hg).1; have : gW < w.heap.size := (H.out.rW.lt gW rfl).2; omega)
      have FX : Hid (Fr w.heap.size (L.Y gW) w w7) := F5Y.out.trans (((FSt.out w.heap.size).trans (hF7 w.heap.size)).sub (by simp [RM.Y]))
      have MX : Hid (MachAt w7 L gW cW vs (afterP m j Q)) := by rw [hfin.out]; exact hM7
      clear hM7 hF7 hall hbPn q1 q2 q3 q4 q5 q6 q7 q8 q9 q10 q11 q12
      obtain ⟨⟨b0, b1, b2, b3, b4, b5, b6⟩, z0, z1, z2, z3, z4, z5, z6⟩ := seven_cells RBX.out
      have q1 : w7.cell? ⟨bP, 1, none⟩ = some (.int .i64 j) := by rw [cell_of_row w7 bP _ _ 123 _ PBX.out]; rfl
      have q2 : w7.cell? ⟨bP, 2, none⟩ = some (.int .i64 Q.steps) := by rw [cell_of_row w7 bP _ _ 123 _ PBX.out]; rfl
      have q3 : w7.cell? ⟨bP, 3, none⟩ = some (.int .i64 Q.segs) := by rw [cell_of_row w7 bP _ _ 123 _ PBX.out]; rfl
      have q4 : w7.cell? ⟨bP, 4, none⟩ = some (.int .i64 Q.fault) := by rw [cell_of_row w7 bP _ _ 123 _ PBX.out]; rfl
      have q5 : w7.cell? ⟨bP, 5, none⟩ = some (.int .i64 Q.fpc) := by rw [cell_of_row w7 bP _ _ 123 _ PBX.out]; rfl
      have q6 : w7.cell? ⟨bP, 6, none⟩ = some (.int .i64 Q.fth) := by rw [cell_of_row w7 bP _ _ 123 _ PBX.out]; rfl
      have q7 : w7.cell? ⟨bP, 7, none⟩ = some (.slice va5 Q.log.length vc5) := by rw [cell_of_row w7 bP _ _ 123 _ PBX.out]; rfl
      go_wp2
      have hlenM : (afterP m j Q).ts.length = m.ts.length := by rw [after_ts]; exact KA.out.2.1
      have hlb : ∀ g, (Value.slice va5 Q.log.length vc5).ownBlock = some g → g ≠ w.heap.size := fun g hg e => by
        subst e
        exact owns_not OX.out RBX.out (by decide) hg.symm
      have bz := seven_below w7 w.heap.size (.int .i64 j) (.int .i64 Q.steps) (.int .i64 Q.segs) (.int .i64 Q.fault) (.int .i64 Q.fpc) (.int .i64 Q.fth) (.slice va5 Q.log.length vc5)
      have RZ := hyd (seven_set RBX.out (.int .i64 j) (.int .i64 Q.steps) (.int .i64 Q.segs) (.int .i64 Q.fault) (.int .i64 Q.fpc) (.int .i64 Q.fth) (.slice va5 Q.log.length vc5))
      have OZ := hyd (seven_owns OX.out hlb (.int .i64 j) (.int .i64 Q.steps) (.int .i64 Q.segs) (.int .i64 Q.fault) (.int .i64 Q.fpc) (.int .i64 Q.fth) (.slice va5 Q.log.length vc5))
      have MZ := hyd (H.out.low MX.out hlenM bz)
      have FZ := hyd (FX.out.low bz)
      clear bz b0 b1 b2 b3 b4 b5 b6 z0 z1 z2 z3 z4 z5 z6 q1 q2 q3 q4 q5 q6 q7 OX RBX MX FX PBX M5 P5 RB5 F5Y
      generalize ((((((w7.setCell ⟨w.heap.size, 0, none⟩ (.int .i64 j)).setCell ⟨w.heap.size, 1, none⟩ (.int .i64 Q.steps)).setCell ⟨w.heap.size, 2, none⟩ (.int .i64 Q.segs)).setCell ⟨w.heap.size, 3, none⟩ (.int .i64 Q.fault)).setCell ⟨w.heap.size, 4, none⟩ (.int .i64 Q.fpc)).setCell ⟨w.heap.size, 5, none⟩ (.int .i64 Q.fth)).setCell ⟨w.heap.size, 6, none⟩ (.slice va5 Q.log.length vc5) = wz at RZ OZ MZ FZ ⊢
      obtain ⟨⟨y0, y1, y2, y3, y4, y5, y6⟩, -⟩ := seven_cells RZ.out
      (try simp only [Exit.inBlock, Exit.then]); refine bodyPost_ret (by simp [results, Tryz.results38, go_sem, y0, y1, y2, y3, y4, y5, y6]; try rfl) rfl ?_
      rw [Hj.out, HQ.out]
      exact ⟨_, rfl, OZ.out, MZ.out, FZ.out⟩
    · rw [hwt] at q11
      have hfin : Hid (afterP m j Q = settleP { m with ts := Q.ts, mem := Q.mem, st := Q.st, ws := m.ws.set j { m.ws.getD j wrp0 with waits := true, at0 := Q.at0 } }) := by
        unfold Hid afterP; rw [hen, hwt]; rfl
      obtain ⟨-, -, -, k3, -⟩ := M5.out.core.cells
      dsimp only at k3
      rw [Hn.out] at k3
      obtain ⟨vj2, -, -, -, a2, -⟩ := M5.out.cellW (i := j) (by dsimp only; exact hjl.out)
      have fz := M5.out.rW.frozenAt (j * 4 + 2)
      have M6 := hyd (M5.out.setW (i := j) (j := 2) (u := .bool true) (x' := { m.ws.getD j wrp0 with waits := true }) (by dsimp only; exact hjl.out) (by omega) (fun v => rfl))
      have hbPg : bP ≠ gW := by
        have h2 : gW < w.heap.size := (H.out.rW.lt gW rfl).2
        have h4 := hbPw.out
        omega
      have FS1 : Hid (∀ B, Fr B [L.bM, gW] w5 (w5.setCell ⟨gW, j * 4 + 2, none⟩ (.bool true))) := fun B => (Fr.refl _ _ _).set (by simp) _
      have r12 : (w5.setCell ⟨gW, j * 4 + 2, none⟩ (.bool true)).cell? ⟨bP, 12, none⟩ = some (.int .i64 Q.at0) := by
        rw [World.cell?_of_block (Below.heap_setCell w5 ⟨gW, j * 4 + 2, none⟩ _ bP hbPg)]; exact q12
      clear hbPg
      go_wp2_with fail
      generalize w5.setCell ⟨gW, j * 4 + 2, none⟩ (.bool true) = w6 at M6 FS1 r12 ⊢
      clear k3 a2 fz
      obtain ⟨-, -, -, k3, -⟩ := M6.out.core.cells
      dsimp only at k3
      rw [List.length_set, Hn.out] at k3
      obtain ⟨vj3, -, -, a1, -, -⟩ := M6.out.cellW (i := j) (by dsimp only; rw [List.length_set]; exact hjl.out)
      have fz := M6.out.rW.frozenAt (j * 4 + 1)
      have hgd2 : Hid ((m.ws.set j { m.ws.getD j wrp0 with waits := true }).getD j wrp0 = { m.ws.getD j wrp0 with waits := true }) := by
        unfold Hid
        rw [getD_set, if_pos ⟨rfl, hjl.out⟩]
      have M7 := hyd ((M6.out.up (Below.refl _ _).drew).setW (i := j) (j := 1) (u := .int .i64 Q.at0) (x' := { m.ws.getD j wrp0 with waits := true, at0 := Q.at0 }) (by dsimp only; rw [List.length_set]; exact hjl.out) (by omega) (fun v => by dsimp only; rw [hgd2.out]; rfl))
      dsimp only at M7
      rw [List.set_set] at M7
      have FSt : Hid (∀ B, Fr B [L.bM, gW] w5 (w6.drew.setCell ⟨gW, j * 4 + 1, none⟩ (.int .i64 Q.at0))) := fun B => ((FS1.out B).drew).set (by simp) _
      clear FS1
      go_region
      go_wp2_with fail
      refine (settle_any M7.out (by dsimp only; rw [List.length_set]; exact hw4.out)).mono ?_
      rintro e w7 ⟨rfl, hM7, hF7⟩
      have hall : Hid (∀ b, b < w5.heap.size → b ≠ L.bM → b ≠ gW → w7.heap[b]? = w5.heap[b]?) := fun b hb h1 h2 =>
        ((FSt.out (b + 1)).trans (hF7 (b + 1))).block b hb (by simp; exact ⟨h1, h2⟩) (.inl (by omega))
      have hbPn : bP ≠ L.bM ∧ bP ≠ gW := by
        have h1 : L.bM < w.heap.size := H.out.core.lt (by simp)
        have h2 : gW < w.heap.size := (H.out.rW.lt gW rfl).2
        have h4 := hbPw.out
        omega
      have PBX : Hid (w7.heap[bP]? = some (.cells #[.pointer (some ⟨L.bM, 0, none⟩), .int .i64 j, .int .i64 Q.steps, .int .i64 Q.segs, .int .i64 Q.fault, .int .i64 Q.fpc, .int .i64 Q.fth, (.slice va5 Q.log.length vc5), .int .i64 bn, .int .i64 Q.opn, .bool Q.ends, .bool Q.waits, .int .i64 Q.at0] 123)) := (hall.out bP (blk_lt P5.out.blk) hbPn.1 hbPn.2).trans P5.out.blk
      have RBX : Hid (w7.heap[w.heap.size]? = some (.cells #[.int .i64 0, .int .i64 0, .int .i64 0, .int .i64 0, .int .i64 0, .int .i64 0, .slice none 0 0] 76)) := (hall.out _ (blk_lt RB5.out) (by have : L.bM < w.heap.size := H.out.core.lt (by simp); omega) (by have : gW < w.heap.size := (H.out.rW.lt gW rfl).2; omega)).trans RB5.out
      have OX : Hid (w7.ownsRow w.heap.size 94 2 (.slice va5 Q.log.length vc5) Q.log.length (flatL Q.log)) := owns_same P5.out.log fun g hg => hall.out g (P5.out.log.lt g hg).2 (by have := (P5.out.log.lt g hg).1; have : L.bM < w.heap.size := H.out.core.lt (by simp); omega) (by have := (P5.out.log.lt g hg).1; have : gW < w.heap.size := (H.out.rW.lt gW rfl).2; omega)
      have FX : Hid (Fr w.heap.size (L.Y gW) w w7) := F5Y.out.trans (((FSt.out w.heap.size).trans (hF7 w.heap.size)).sub (by simp [RM.Y]))
      have MX : Hid (MachAt w7 L gW cW vs (afterP m j Q)) := by rw [hfin.out]; exact hM7
      clear hM7 hF7 hall hbPn q1 q2 q3 q4 q5 q6 q7 q8 q9 q10 q11 q12
      obtain ⟨⟨b0, b1, b2, b3, b4, b5, b6⟩, z0, z1, z2, z3, z4, z5, z6⟩ := seven_cells RBX.out
      have q1 : w7.cell? ⟨bP, 1, none⟩ = some (.int .i64 j) := by rw [cell_of_row w7 bP _ _ 123 _ PBX.out]; rfl
      have q2 : w7.cell? ⟨bP, 2, none⟩ = some (.int .i64 Q.steps) := by rw [cell_of_row w7 bP _ _ 123 _ PBX.out]; rfl
      have q3 : w7.cell? ⟨bP, 3, none⟩ = some (.int .i64 Q.segs) := by rw [cell_of_row w7 bP _ _ 123 _ PBX.out]; rfl
      have q4 : w7.cell? ⟨bP, 4, none⟩ = some (.int .i64 Q.fault) := by rw [cell_of_row w7 bP _ _ 123 _ PBX.out]; rfl
      have q5 : w7.cell? ⟨bP, 5, none⟩ = some (.int .i64 Q.fpc) := by rw [cell_of_row w7 bP _ _ 123 _ PBX.out]; rfl
      have q6 : w7.cell? ⟨bP, 6, none⟩ = some (.int .i64 Q.fth) := by rw [cell_of_row w7 bP _ _ 123 _ PBX.out]; rfl
      have q7 : w7.cell? ⟨bP, 7, none⟩ = some (.slice va5 Q.log.length vc5) := by rw [cell_of_row w7 bP _ _ 123 _ PBX.out]; rfl
      go_wp2
      have hlenM : (afterP m j Q).ts.length = m.ts.length := by rw [after_ts]; exact KA.out.2.1
      have hlb : ∀ g, (Value.slice va5 Q.log.length vc5).ownBlock = some g → g ≠ w.heap.size := fun g hg e => by
        subst e
        exact owns_not OX.out RBX.out (by decide) hg.symm
      have bz := seven_below w7 w.heap.size (.int .i64 j) (.int .i64 Q.steps) (.int .i64 Q.segs) (.int .i64 Q.fault) (.int .i64 Q.fpc) (.int .i64 Q.fth) (.slice va5 Q.log.length vc5)
      have RZ := hyd (seven_set RBX.out (.int .i64 j) (.int .i64 Q.steps) (.int .i64 Q.segs) (.int .i64 Q.fault) (.int .i64 Q.fpc) (.int .i64 Q.fth) (.slice va5 Q.log.length vc5))
      have OZ := hyd (seven_owns OX.out hlb (.int .i64 j) (.int .i64 Q.steps) (.int .i64 Q.segs) (.int .i64 Q.fault) (.int .i64 Q.fpc) (.int .i64 Q.fth) (.slice va5 Q.log.length vc5))
      have MZ := hyd (H.out.low MX.out hlenM bz)
      have FZ := hyd (FX.out.low bz)
      clear bz b0 b1 b2 b3 b4 b5 b6 z0 z1 z2 z3 z4 z5 z6 q1 q2 q3 q4 q5 q6 q7 OX RBX MX FX PBX M5 P5 RB5 F5Y
      generalize ((((((w7.setCell ⟨w.heap.size, 0, none⟩ (.int .i64 j)).setCell ⟨w.heap.size, 1, none⟩ (.int .i64 Q.steps)).setCell ⟨w.heap.size, 2, none⟩ (.int .i64 Q.segs)).setCell ⟨w.heap.size, 3, none⟩ (.int .i64 Q.fault)).setCell ⟨w.heap.size, 4, none⟩ (.int .i64 Q.fpc)).setCell ⟨w.heap.size, 5, none⟩ (.int .i64 Q.fth)).setCell ⟨w.heap.size, 6, none⟩ (.slice va5 Q.log.length vc5) = wz at RZ OZ MZ FZ ⊢
      obtain ⟨⟨y0, y1, y2, y3, y4, y5, y6⟩, -⟩ := seven_cells RZ.out
      (try simp only [Exit.inBlock, Exit.then]); refine bodyPost_ret (by simp [results, Tryz.results38, go_sem, y0, y1, y2, y3, y4, y5, y6]; try rfl) rfl ?_
      rw [Hj.out, HQ.out]
      exact ⟨_, rfl, OZ.out, MZ.out, FZ.out⟩
  · have PBX := hyd P5.out.blk
    have RBX := RB5
    have OX := hyd P5.out.log
    have FX := F5Y
    have MX : Hid (MachAt w5 L gW cW vs (afterP m j Q)) := by
      unfold Hid afterP; rw [hen]; exact M5.out
    rw [hen] at q10
    clear q1 q2 q3 q4 q5 q6 q7 q8 q9 q11 q12
    obtain ⟨⟨b0, b1, b2, b3, b4, b5, b6⟩, z0, z1, z2, z3, z4, z5, z6⟩ := seven_cells RBX.out
    have q1 : w5.cell? ⟨bP, 1, none⟩ = some (.int .i64 j) := by rw [cell_of_row w5 bP _ _ 123 _ PBX.out]; rfl
    have q2 : w5.cell? ⟨bP, 2, none⟩ = some (.int .i64 Q.steps) := by rw [cell_of_row w5 bP _ _ 123 _ PBX.out]; rfl
    have q3 : w5.cell? ⟨bP, 3, none⟩ = some (.int .i64 Q.segs) := by rw [cell_of_row w5 bP _ _ 123 _ PBX.out]; rfl
    have q4 : w5.cell? ⟨bP, 4, none⟩ = some (.int .i64 Q.fault) := by rw [cell_of_row w5 bP _ _ 123 _ PBX.out]; rfl
    have q5 : w5.cell? ⟨bP, 5, none⟩ = some (.int .i64 Q.fpc) := by rw [cell_of_row w5 bP _ _ 123 _ PBX.out]; rfl
    have q6 : w5.cell? ⟨bP, 6, none⟩ = some (.int .i64 Q.fth) := by rw [cell_of_row w5 bP _ _ 123 _ PBX.out]; rfl
    have q7 : w5.cell? ⟨bP, 7, none⟩ = some (.slice va5 Q.log.length vc5) := by rw [cell_of_row w5 bP _ _ 123 _ PBX.out]; rfl
    go_wp2
    have hlenM : (afterP m j Q).ts.length = m.ts.length := by rw [after_ts]; exact KA.out.2.1
    have hlb : ∀ g, (Value.slice va5 Q.log.length vc5).ownBlock = some g → g ≠ w.heap.size := fun g hg e => by
      subst e
      exact owns_not OX.out RBX.out (by decide) hg.symm
    have bz := seven_below w5 w.heap.size (.int .i64 j) (.int .i64 Q.steps) (.int .i64 Q.segs) (.int .i64 Q.fault) (.int .i64 Q.fpc) (.int .i64 Q.fth) (.slice va5 Q.log.length vc5)
    have RZ := hyd (seven_set RBX.out (.int .i64 j) (.int .i64 Q.steps) (.int .i64 Q.segs) (.int .i64 Q.fault) (.int .i64 Q.fpc) (.int .i64 Q.fth) (.slice va5 Q.log.length vc5))
    have OZ := hyd (seven_owns OX.out hlb (.int .i64 j) (.int .i64 Q.steps) (.int .i64 Q.segs) (.int .i64 Q.fault) (.int .i64 Q.fpc) (.int .i64 Q.fth) (.slice va5 Q.log.length vc5))
    have MZ := hyd (H.out.low MX.out hlenM bz)
    have FZ := hyd (FX.out.low bz)
    clear bz b0 b1 b2 b3 b4 b5 b6 z0 z1 z2 z3 z4 z5 z6 q1 q2 q3 q4 q5 q6 q7 OX RBX MX FX PBX M5 P5 RB5 F5Y
    generalize ((((((w5.setCell ⟨w.heap.size, 0, none⟩ (.int .i64 j)).setCell ⟨w.heap.size, 1, none⟩ (.int .i64 Q.steps)).setCell ⟨w.heap.size, 2, none⟩ (.int .i64 Q.segs)).setCell ⟨w.heap.size, 3, none⟩ (.int .i64 Q.fault)).setCell ⟨w.heap.size, 4, none⟩ (.int .i64 Q.fpc)).setCell ⟨w.heap.size, 5, none⟩ (.int .i64 Q.fth)).setCell ⟨w.heap.size, 6, none⟩ (.slice va5 Q.log.length vc5) = wz at RZ OZ MZ FZ ⊢
    obtain ⟨⟨y0, y1, y2, y3, y4, y5, y6⟩, -⟩ := seven_cells RZ.out
    (try simp only [Exit.inBlock, Exit.then]); refine bodyPost_ret (by simp [results, Tryz.results38, go_sem, y0, y1, y2, y3, y4, y5, y6]; try rfl) rfl ?_
    rw [Hj.out, HQ.out]
    exact ⟨_, rfl, OZ.out, MZ.out, FZ.out⟩

end Go.Proofs.YtbhbacphiinpeaaGreat

