/- Rc5 Rd1: joined. -/
import Derived.Test.YtbhbacphiinpeaaGreatZ32
import Derived.Deep.LoopGhost
import Derived.Test.YtbhbacphiinpeaaGreatZ12

/- What the document's 'run' does: by induction on what is left of the budget. -/
namespace Go.Proofs.YtbhbacphiinpeaaGreat
open Go.RowKit

theorem run_ends {k : List Ins} {J : List Int} {bud F : Nat} {p : Pl} {g : List Nat} {pc to : Int} (he : p.ends = false) (hw : p.waits = false) (h : liveL p.ts g = [] ∨ pc = to) : runP k J bud F p g pc to = p := by
  cases F <;> (unfold runP; rw [if_neg (by simp [he, hw]), if_pos h])

theorem run_spent {k : List Ins} {J : List Int} {bud F : Nat} {p : Pl} {g : List Nat} {pc to : Int} (he : p.ends = false) (hw : p.waits = false) (h : ¬ (liveL p.ts g = [] ∨ pc = to)) (hs : p.steps = bud) : runP k J bud F p g pc to = { p with st := 3, ends := true } := by
  cases F <;> (unfold runP; rw [if_neg (by simp [he, hw]), if_neg h, if_pos hs])

theorem run_goes {k : List Ins} {J : List Int} {bud F : Nat} {p : Pl} {g : List Nat} {pc to : Int} (he : p.ends = false) (hw : p.waits = false) (h : ¬ (liveL p.ts g = [] ∨ pc = to)) (hs : p.steps ≠ bud) : runP k J bud (F + 1) p g pc to = runP k J bud F (doesP k J (runP k J bud F) (issuedP p (liveL p.ts g) pc) (liveL p.ts g) pc).1 (liveL p.ts g) (doesP k J (runP k J bud F) (issuedP p (liveL p.ts g) pc) (liveL p.ts g) pc).2 to := by
  rw [runP, if_neg (by simp [he, hw]), if_neg h, if_neg hs]

theorem cnt_issued {bud : Nat} {p : Pl} (h : Cnt bud p) (hs : p.steps ≠ bud) (g : List Nat) (pc : Int) : Cnt bud (issuedP p g pc) ∧ (issuedP p g pc).opn + 1 ≤ (issuedP p g pc).steps :=
  ⟨⟨by have := h.steps; simp only [issuedP]; omega, by simp [issuedP, h.log], by have := h.segs; simp only [issuedP]; omega, by have := h.opn; simp only [issuedP]; omega⟩, by have := h.opn; simp only [issuedP]; omega⟩

theorem live_live (ts : List Thr) (g : List Nat) : liveL ts (liveL ts g) = liveL ts g := by unfold liveL; rw [List.filter_filter]; simp

/-- The counts behind an instruction: by the run of one instruction more. -/
theorem cnt_does {k : List Ins} {J : List Int} {bud F : Nat} {p : Pl} {g : List Nat} {pc : Int} (h : Cnt bud p) (hs : p.steps ≠ bud) (hg : (liveL p.ts g).length ≤ 4) : Cnt bud (doesP k J (runP k J bud F) (issuedP p (liveL p.ts g) pc) (liveL p.ts g) pc).1 := by
  have hl : (liveL p.ts g).length ≤ 4 := hg
  obtain ⟨h0, hopn⟩ := cnt_issued h hs (liveL p.ts g) pc
  have hseg : (issuedP p (liveL p.ts g) pc).segs + 4 ≤ 4 * (issuedP p (liveL p.ts g) pc).steps := by have := h.segs; simp only [issuedP]; omega
  generalize issuedP p (liveL p.ts g) pc = q at h0 hseg hopn
  generalize liveL p.ts g = l at hl
  cases hx : k[pc.toNat]? with
  | none => unfold doesP; rw [hx]; exact h0
  | some x =>
  rw [does_some J _ q l hx]
  split
  · exact ⟨h0.steps, h0.log, h0.segs, h0.opn⟩
  split
  · exact h0
  split
  · unfold partsP
    split
    · exact h0
    split
    · exact h0
    · have hz : ∀ (P : Nat → Bool), (l.filter P).length ≤ 4 := fun P => Nat.le_trans (List.length_filter_le _ _) hl
      have q1 : Cnt bud { q with opn := q.opn + 1 } := ⟨h0.steps, h0.log, h0.segs, hopn⟩
      obtain ⟨c1, e1⟩ := cnt_run k J bud F _ (l.filter (isZ q.ts x.a)) x.b (J.getD pc.toNat (-1)) (hz _) q1
      obtain ⟨c2, e2⟩ := cnt_run k J bud F _ (l.filter (fun t => !isZ q.ts x.a t)) (pc + 1) (J.getD pc.toNat (-1)) (hz _) c1
      exact ⟨c2.steps, c2.log, c2.segs, by have := c2.opn; dsimp only; omega⟩
  split
  · split
    · exact ⟨h0.steps, h0.log, h0.segs, h0.opn⟩
    · exact ⟨h0.steps, h0.log, h0.segs, h0.opn⟩
  · obtain ⟨s1, s2, s3, s4⟩ := segs_each q l pc x
    exact ⟨by rw [s2]; exact h0.steps, by rw [s2, s3]; exact h0.log, by show (eachP q l pc x).segs ≤ 4 * (eachP q l pc x).steps; rw [s2]; omega, by rw [s2, s4]; exact h0.opn⟩

set_option maxHeartbeats 1000000 in
set_option maxRecDepth 100000 in
theorem rrun_step {L : RM} {bP B : Nat} {k : List Ins} {J : List Int} {vW : Value} {bud : Nat} {warp : Int} {N : Nat} (hk : chk k = (0, 0)) (hJ : JoinsAre k J) (hbud : bud ≤ 2000) (IH : ∀ f, f < N → RunOk L bP B k J vW bud warp f) : RunOk L bP B k J vW bud warp N := by
  intro w vL p vg g a b hP h4 h16 h32 hcnt hf hg hlt hlen hfrom
  obtain ⟨R, HR⟩ : ∃ R, Hid (runP k J bud N p g a b = R) := ⟨_, rfl⟩
  rw [HR.out]
  have Hk := hyd hk
  have HJ := hyd hJ
  have HIH := hyd IH
  have P0 := hyd hP
  have R0 := hyd h4
  have C0 := hyd hcnt
  have G0 := hyd hg
  have L0 := hyd hlt
  have M0 := hyd hfrom
  clear hk hJ IH hP h4 hcnt hg hlt hfrom
  go_enter Tryz.func60, Tryz.ntmps60
  go_wp2_with fail
  go_loopg [1, 8] N (fun F gv cv wr => ∃ (q : Pl) (l : List Nat) (pc : Int) (vl : Value), F ≤ N ∧ cv = .int .i64 pc ∧ GAt wr (L.X bP) gv l ∧ PlayAt wr L bP B k J vW bud warp vl q ∧ Reg4 q.ts ∧ q.ts.length ≤ 16 ∧ q.mem.length ≤ 32 ∧ Cnt bud q ∧ bud ≤ q.steps + F ∧ (∀ t ∈ l, t < q.ts.length) ∧ l.length ≤ 4 ∧ (FromOk k q l pc ∨ pc = b) ∧ runP k J bud F q l pc b = R ∧ Fr B (L.X bP) w wr)
  case atStart => exact ⟨p, g, a, vL, Nat.le_refl _, rfl, G0.out, P0.out, R0.out, h16, h32, C0.out, hf, L0.out, hlen, M0.out, HR.out, Fr.refl _ _ _⟩
  case round =>
    obtain ⟨q, l, pc, vl, hFN, rfl, hG, hQ, hr, hq16, hq32, hc, hbs, hll, hl4, hfr, hrun, hF⟩ := hrel
    have G1 := hyd hG
    have P1 := hyd hQ
    have R1 := hyd hr
    have C1 := hyd hc
    have L1 := hyd hll
    have M1 := hyd hfr
    have HRun := hyd hrun
    have F1 := hyd hF
    obtain ⟨ao, cap, hgv⟩ := hG.slice
    subst hgv
    obtain ⟨-, -, -, -, -, -, -, -, -, e10, e11, -⟩ := hQ.cells
    clear hG hQ hr hc hll hfr hrun hF P0 R0 C0 G0 L0 M0
    cases hen : q.ends
    · cases hwt : q.waits
      · rw [hen] at e10
        rw [hwt] at e11
        go_wp2_with fail
        refine (live_any P1.out R1.out G1.out L1.out (by omega)).mono ?_
        rintro e w2 ⟨vg2, rfl, hG2, hb2⟩
        obtain ⟨l', Hl'⟩ : ∃ l', Hid (liveL q.ts l = l') := ⟨_, rfl⟩
        rw [Hl'.out] at hG2
        obtain ⟨ao2, cap2, hgv2⟩ := hG2.slice
        subst hgv2
        have G2 := hyd hG2
        have P2 := hyd (P1.out.up hb2)
        have F2 := hyd (F1.out.trans (Fr.of_below hb2))
        have hl4' : l'.length ≤ 4 := by rw [← Hl'.out]; exact Nat.le_trans (live_len _ _) hl4
        have L2 : Hid (∀ t ∈ l', t < q.ts.length) := fun t ht => by rw [← Hl'.out] at ht; exact L1.out t (List.mem_filter.1 ht).1
        clear hG2 hb2 e10 e11
        by_cases hstop : l' = [] ∨ pc = b
        · have hfin : Hid (R = q) := by rw [← HRun.out]; exact run_ends hen hwt (by rw [Hl'.out]; exact hstop)
          rcases hstop with h0 | h0
          · have hz : l'.length = 0 := by rw [h0]; rfl
            rw [hz]
            go_wp2
            (try simp only [Exit.inBlock, Exit.then]); refine bodyPost_ret (results_none rfl _ _ _) rfl ?_
            rw [hfin.out]
            exact ⟨rfl, ⟨vl, P2.out⟩, F2.out⟩
          · have gpc : (pc == b) = true := by rw [h0]; simp
            clear h0
            by_cases hz : l'.length = 0
            · rw [hz]
              go_wp2
              (try simp only [Exit.inBlock, Exit.then]); refine bodyPost_ret (results_none rfl _ _ _) rfl ?_
              rw [hfin.out]
              exact ⟨rfl, ⟨vl, P2.out⟩, F2.out⟩
            · have gz : ((l'.length : Int) == 0) = false := by rw [beq_eq_false_iff_ne]; omega
              clear hz
              go_wp2
              (try simp only [Exit.inBlock, Exit.then]); refine bodyPost_ret (results_none rfl _ _ _) rfl ?_
              rw [hfin.out]
              exact ⟨rfl, ⟨vl, P2.out⟩, F2.out⟩
        · have hne : l' ≠ [] := fun e => hstop (.inl e)
          have gz : ((l'.length : Int) == 0) = false := by
            have : l'.length ≠ 0 := fun e => hne (List.eq_nil_of_length_eq_zero e)
            rw [beq_eq_false_iff_ne]; omega
          have gpc : (pc == b) = false := beq_eq_false_iff_ne.2 fun e => hstop (.inr e)
          have Hst : Hid (¬ (liveL q.ts l = [] ∨ pc = b)) := by unfold Hid; rw [Hl'.out]; exact hstop
          obtain ⟨i0, i2, -, -, -, -, -, i8, -, i10, -⟩ := P2.out.cells
          have Hne := hyd hne
          clear hstop hne
          have hst := C1.out.steps
          by_cases hs : q.steps = bud
          · have gs : ((q.steps : Int) == (bud : Int)) = true := by rw [hs]; simp
            have hfin : Hid (R = { q with st := 3, ends := true }) := by rw [← HRun.out]; exact run_spent hen hwt Hst.out hs
            clear hs hst
            go_wp2_with fail
            go_quiet (fail)
            generalize hw3 : World.drewN w2 _ = w3
            have P3 : Hid (PlayAt w3 L bP B k J vW bud warp vl q) := by rw [← hw3]; exact P2.out.drewN _
            have F3 : Hid (Fr B (L.X bP) w w3) := by rw [← hw3]; exact F2.out.drewN _
            clear hw3 i0 i2 i8 i10
            obtain ⟨j0, -, -, -, -, -, -, -, -, j10, -⟩ := P3.out.cells
            obtain ⟨-, -, -, -, -, m5⟩ := P3.out.core.cells
            have fm : w3.frozen? ⟨L.bM, 5, none⟩ = false := frozen_of_row w3 L.bM 5 _ 85 P3.out.core.blk
            have f10 := P3.out.frozen 10
            have hne0 := P3.out.ne.1
            have hne' : bP ≠ L.bM := fun e => hne0 e.symm
            have hln : Hid (∀ g, vl.ownBlock = some g → g ≠ bP ∧ g ≠ L.bM) := fun g hg => ⟨(P3.out.ne.2.2.2.2.2 g hg).1, (P3.out.ne.2.2.2.2.2 g hg).2.1⟩
            go_wp2
            (try simp only [Exit.inBlock, Exit.then]); refine bodyPost_ret (results_none rfl _ _ _) rfl ?_
            have P4 := P3.out.into (P3.out.core.setS 3) (Below.heap_setCell _ _ _ _ hne') (fun g hg => Below.heap_setCell _ _ _ _ (hln.out g hg).2)
            have P5 := P4.set (i := 10) (v := .bool true) (p' := { q with st := 3, ends := true }) (vL' := vl) rfl P4.log (fun g hg => (hln.out g hg).1) rfl rfl rfl
            rw [hfin.out]
            exact ⟨rfl, ⟨vl, P5⟩, (F3.out.set (by simp [RM.X]) _).set (by simp [RM.X]) _⟩
          · have gs : ((q.steps : Int) == (bud : Int)) = false := by rw [beq_eq_false_iff_ne]; omega
            have hrange : 0 ≤ pc ∧ pc < k.length := by
              rcases M1.out with (h | h | h | h) | h
              · exact h
              · rw [hen] at h; cases h
              · rw [hwt] at h; cases h
              · exact absurd (.inl h) Hst.out
              · exact absurd (.inr h) Hst.out
            obtain ⟨m, hm⟩ : ∃ m : Nat, pc = (m : Int) := ⟨pc.toNat, by omega⟩
            subst hm
            have hmk : m < k.length := by omega
            obtain ⟨r, hr⟩ : ∃ r, gk = r + 1 := ⟨gk - 1, by omega⟩
            have hrN : r < N := by omega
            have hbr : bud ≤ q.steps + 1 + r := by omega
            have CI := hyd (cnt_issued C1.out hs l' (m : Int))
            have CD := hyd (cnt_does (k := k) (J := J) (F := r) (pc := (m : Int)) (g := l) C1.out hs (by rw [Hl'.out]; exact hl4'))
            rw [Hl'.out] at CD
            have hEq : Hid (runP k J bud r (doesP k J (runP k J bud r) (issuedP q l' (m : Int)) l' (m : Int)).1 l' (doesP k J (runP k J bud r) (issuedP q l' (m : Int)) l' (m : Int)).2 b = R) := by
              unfold Hid
              rw [← HRun.out, hr, run_goes hen hwt Hst.out hs, Hl'.out]
            have KD := hyd (keep_does k J (runP k J bud r) (fun p g a b => keep_run k J bud r p g a b) (issuedP q l' (m : Int)) l' (m : Int) R1.out)
            have DO := hyd (does_ok (bud := bud) (f := r) Hk.out HJ.out (run_none Hk.out HJ.out r) (p := issuedP q l' (m : Int)) (g := l') (pc := m) hmk R1.out L2.out)
            obtain ⟨D, HD⟩ : ∃ D, Hid (doesP k J (runP k J bud r) (issuedP q l' (m : Int)) l' (m : Int) = D) := ⟨_, rfl⟩
            rw [HD.out] at CD hEq KD DO
            have hlen16 : Hid (∀ t ∈ l', t < 16) := fun t ht => by have := L2.out t ht; omega
            have hs2000 : q.steps ≤ 2000 := by omega
            have hl2000 : Hid (q.log.length ≤ 2000) := by have := C1.out.log; unfold Hid; omega
            have hrX := hyd hr
            have Hs := hyd hs
            clear hs hst hrange hr
            go_wp2_with fail
            go_quiet (fail)
            generalize hw3 : World.drewN w2 _ = w3
            have P3 : Hid (PlayAt w3 L bP B k J vW bud warp vl q) := by rw [← hw3]; exact P2.out.drewN _
            have F3 : Hid (Fr B (L.X bP) w w3) := by rw [← hw3]; exact F2.out.drewN _
            have G3 : Hid (GAt w3 (L.X bP) (.slice ao2 l'.length cap2) l') := by rw [← hw3]; exact G2.out.fr ((Fr.refl B (L.X bP) w2).drewN _)
            clear hw3 i0 i2 i8 i10
            go_wp2_with fail
            refine (issued_any P3.out G3.out (by omega) hs2000 hl2000.out hlen16.out (m : Int)).mono ?_
            rintro e w4 ⟨rfl, ⟨vL4, hP4⟩, hF4⟩
            have P4 := hyd hP4
            have F4 := hyd (F3.out.trans hF4)
            have G4 := hyd (G3.out.fr hF4)
            clear hP4 hF4
            go_wp2_with fail
            refine (does_any (HIH.out r hrN) P4.out R1.out hq16 hq32 CI.out.1 CI.out.2 hbud (by simp only [issuedP]; omega) G4.out Hne.out L2.out hl4' hmk Hk.out HJ.out).mono ?_
            rw [HD.out]
            rintro e w5 ⟨rfl, ⟨vL5, hP5⟩, hF5⟩
            have P5 := hyd hP5
            have F5 := hyd (F4.out.trans hF5)
            have G5 := hyd (G4.out.fr hF5)
            clear hP5 hF5
            go_wp2
            go_roundg r
            case measure => have := hrX.out; omega
            case rel =>
              have hst1 := KD.out.2.2.2.2
              have hts : (issuedP q l' (m : Int)).ts = q.ts := rfl
              have hmm : (issuedP q l' (m : Int)).mem = q.mem := rfl
              have k1 := KD.out.2.1
              have k2 := KD.out.2.2.1
              rw [hts] at k1
              rw [hmm] at k2
              simp only [issuedP] at hst1
              exact ⟨D.1, l', D.2, vL5, by omega, rfl, G5.out, P5.out, KD.out.1, by omega, by omega, CD.out, by omega, fun t ht => by rw [k1]; exact L2.out t ht, hl4', .inl DO.out, hEq.out, F5.out⟩
      · rw [hen] at e10
        rw [hwt] at e11
        have hfin : Hid (R = q) := by rw [← HRun.out]; exact run_stop (.inr hwt)
        go_wp2
        go_end0
        rw [hfin.out]
        exact ⟨rfl, ⟨vl, P1.out⟩, F1.out⟩
    · rw [hen] at e10
      have hfin : Hid (R = q) := by rw [← HRun.out]; exact run_stop (.inl hen)
      go_wp2
      go_end0
      rw [hfin.out]
      exact ⟨rfl, ⟨vl, P1.out⟩, F1.out⟩

theorem run_all {L : RM} {bP B : Nat} {k : List Ins} {J : List Int} {vW : Value} {bud : Nat} {warp : Int} (hk : chk k = (0, 0)) (hJ : JoinsAre k J) (hbud : bud ≤ 2000) (N : Nat) : RunOk L bP B k J vW bud warp N :=
  Nat.strongRecOn N fun _ IH => rrun_step hk hJ hbud IH

end Go.Proofs.YtbhbacphiinpeaaGreat

/- The document's machine with its warps, as it lies in memory; what its 'ready', 'Registers' and 'Done' answer. -/
namespace Go.Proofs.YtbhbacphiinpeaaGreat
open Go.RowKit

def flatW (l : List (Value × Wrp)) : List Value := l.flatMap fun x => [x.1, .int .i64 x.2.at0, .bool x.2.waits, .bool x.2.done]

theorem flatW_length (l : List (Value × Wrp)) : (flatW l).length = l.length * 4 := by
  induction l with
  | nil => rfl
  | cons x l ih => simp only [flatW, List.flatMap_cons, List.length_append, List.length_cons] at ih ⊢; rw [ih]; simp; omega

theorem flatW_at {l : List (Value × Wrp)} {i : Nat} {v : Value} {x : Wrp} (h : l[i]? = some (v, x)) : (flatW l)[i * 4]? = some v ∧ (flatW l)[i * 4 + 1]? = some (.int .i64 x.at0) ∧ (flatW l)[i * 4 + 2]? = some (.bool x.waits) ∧ (flatW l)[i * 4 + 3]? = some (.bool x.done) := by
  induction l generalizing i with
  | nil => simp at h
  | cons y l ih =>
    cases i with
    | zero => simp at h; subst h; exact ⟨rfl, rfl, rfl, rfl⟩
    | succ i =>
      simp only [List.getElem?_cons_succ] at h
      obtain ⟨h0, h1, h2, h3⟩ := ih h
      have e : ∀ j, (flatW (y :: l))[(i + 1) * 4 + j]? = (flatW l)[i * 4 + j]? := fun j => by
        show ([y.1, .int .i64 y.2.at0, .bool y.2.waits, .bool y.2.done] ++ flatW l)[(i + 1) * 4 + j]? = _
        rw [List.getElem?_append_right (by simp; omega)]
        congr 1
        simp
        omega
      exact ⟨(e 0).trans h0, (e 1).trans h1, (e 2).trans h2, (e 3).trans h3⟩

theorem flatW_set {l : List (Value × Wrp)} {i j : Nat} {v u : Value} {x x' : Wrp} (h : l[i]? = some (v, x)) (hj : j < 4) (h' : ([v, .int .i64 x.at0, .bool x.waits, .bool x.done] : List Value).set j u = [v, .int .i64 x'.at0, .bool x'.waits, .bool x'.done]) : (flatW l).set (i * 4 + j) u = flatW (l.set i (v, x')) := by
  induction l generalizing i with
  | nil => simp at h
  | cons y l ih =>
    cases i with
    | zero =>
      simp at h; subst h
      show ([v, .int .i64 x.at0, .bool x.waits, .bool x.done] ++ flatW l).set (0 * 4 + j) u = _
      rw [Nat.zero_mul, Nat.zero_add, List.set_append_left _ _ (by simp; omega), h']
      rfl
    | succ i =>
      simp only [List.getElem?_cons_succ] at h
      show ([y.1, .int .i64 y.2.at0, .bool y.2.waits, .bool y.2.done] ++ flatW l).set ((i + 1) * 4 + j) u = _
      rw [List.set_append_right _ _ (by simp; omega)]
      have e : (i + 1) * 4 + j - ([y.1, .int .i64 y.2.at0, .bool y.2.waits, .bool y.2.done] : List Value).length = i * 4 + j := by simp; omega
      rw [e, ih h]
      rfl

/-- A machine in memory. -/
structure MachAt (w : World) (L : RM) (gW cW : Nat) (vs : List Value) (m : PM) : Prop where
  core : Core w L m.k m.J (.slice (some ⟨gW, 0, none⟩) m.ws.length cW) m.ts m.mem m.st
  rW : w.ownsRow 0 118 4 (.slice (some ⟨gW, 0, none⟩) m.ws.length cW) m.ws.length (flatW (vs.zip m.ws))
  lenV : vs.length = m.ws.length
  grp : ∀ (i : Nat) v, vs[i]? = some v → GAt w [L.bM, L.gT, gW, L.gM] v (warpG m.ts.length i)

def RM.Y (L : RM) (gW : Nat) : List Nat := [L.bM, L.gT, gW, L.gM]

theorem zip_at {vs : List Value} {ws : List Wrp} (hl : vs.length = ws.length) {i : Nat} (hi : i < ws.length) : ∃ v, vs[i]? = some v ∧ (vs.zip ws)[i]? = some (v, ws.getD i wrp0) := by
  have h1 : vs[i]? = some vs[i] := List.getElem?_eq_getElem (by omega)
  have h2 : ws[i]? = some ws[i] := List.getElem?_eq_getElem hi
  refine ⟨_, h1, ?_⟩
  rw [List.getElem?_zip_eq_some]
  exact ⟨h1, by rw [List.getD_eq_getElem?_getD, h2]; rfl⟩

theorem zip_set {vs : List Value} {ws : List Wrp} {i : Nat} {v : Value} {x : Wrp} (hv : vs[i]? = some v) : (vs.zip ws).set i (v, x) = vs.zip (ws.set i x) := by
  apply List.ext_getElem?
  intro j
  rw [List.getElem?_set]
  by_cases hij : i = j
  · subst hij
    rw [if_pos rfl]
    by_cases hl : i < (vs.zip ws).length
    · rw [if_pos hl]
      have h2 : i < ws.length := by simp at hl; omega
      symm
      rw [List.getElem?_zip_eq_some]
      exact ⟨hv, by rw [List.getElem?_set, if_pos rfl, if_pos h2]⟩
    · rw [if_neg hl]
      symm
      rw [List.getElem?_eq_none_iff]
      simp at hl ⊢
      omega
  · rw [if_neg hij]
    simp only [List.zip, List.getElem?_zipWith]
    rw [List.getElem?_set_ne hij]

theorem MachAt.cellW {w : World} {L : RM} {gW cW : Nat} {vs : List Value} {m : PM} (h : MachAt w L gW cW vs m) {i : Nat} (hi : i < m.ws.length) :
    ∃ v, vs[i]? = some v ∧ w.cell? ⟨gW, i * 4, none⟩ = some v ∧ w.cell? ⟨gW, i * 4 + 1, none⟩ = some (.int .i64 (m.ws.getD i wrp0).at0) ∧ w.cell? ⟨gW, i * 4 + 2, none⟩ = some (.bool (m.ws.getD i wrp0).waits) ∧ w.cell? ⟨gW, i * 4 + 3, none⟩ = some (.bool (m.ws.getD i wrp0).done) := by
  obtain ⟨v, hv, hz⟩ := zip_at h.lenV hi
  obtain ⟨a0, a1, a2, a3⟩ := flatW_at hz
  exact ⟨v, hv, (h.rW.cellAt (i * 4) (by omega)).trans a0, (h.rW.cellAt (i * 4 + 1) (by omega)).trans a1, (h.rW.cellAt (i * 4 + 2) (by omega)).trans a2, (h.rW.cellAt (i * 4 + 3) (by omega)).trans a3⟩

theorem ready_take (ws : List Wrp) (i : Nat) : (List.range (i + 1)).filter (fun i => rdy (ws.getD i wrp0)) = (List.range i).filter (fun i => rdy (ws.getD i wrp0)) ++ (if rdy (ws.getD i wrp0) then [i] else []) := by
  rw [List.range_succ, List.filter_append]
  cases h : rdy (ws.getD i wrp0) <;> (rw [List.filter_cons, h]; rfl)

set_option maxHeartbeats 1000000 in
set_option maxRecDepth 100000 in
theorem ready_any {w : World} {L : RM} {gW cW : Nat} {vs : List Value} {m : PM} (h : MachAt w L gW cW vs m) (hw : m.ws.length ≤ 4) :
    Calls Tryz.prog 59 #[.pointer (some ⟨L.bM, 0, none⟩)] w fun e w' => ∃ v, e = .returned v ∧ w'.ownsRow w.heap.size 3 1 v (readyL m.ws).length (natVals (readyL m.ws)) ∧ Below w.heap.size w w' := by
  have H := hyd h
  obtain ⟨-, -, -, c3, -⟩ := h.core.cells
  have hbl : L.bM < w.heap.size := h.core.lt (by simp)
  have hgl : gW < w.heap.size := (h.rW.lt gW rfl).2
  clear h
  obtain ⟨n, Hn⟩ : ∃ n, Hid (m.ws.length = n) := ⟨_, rfl⟩
  rw [Hn.out] at hw c3
  have hn2 : (n : Int) ≤ 4 := by omega
  obtain ⟨i0, hi, hz0, hz1, hz2⟩ := info_parts Tryz.info3
  go_enter Tryz.func59, Tryz.ntmps59
  go_wp2_with fail
  go_loopw [3, 4] (fun lv iv wr => ∃ (i : Nat) (A : List Nat), i ≤ n ∧ iv = .int .i64 i ∧ A = (List.range i).filter (fun i => rdy (m.ws.getD i wrp0)) ∧ wr.ownsRow w.heap.size 3 1 lv A.length (natVals A) ∧ Below w.heap.size w wr) (fun _ iv _ => n - (intOf iv).toNat)
  case atStart => exact ⟨0, [], Nat.zero_le _, rfl, by simp, World.ownsRow_nil _ _ _ _, Below.refl _ _⟩
  case round =>
    obtain ⟨i, A, hin, rfl, hA, hown, hb⟩ := hrel
    have HA := hyd hA
    have Hown := hyd hown
    have HB := hyd hb
    have hsz := hb.size
    have hAl : A.length ≤ 4 := by rw [hA]; refine Nat.le_trans (List.length_filter_le _ _) ?_; simp; omega
    have d3 := (hb.cell (p := ⟨L.bM, 3, none⟩) hbl).trans c3
    clear hA hown hb
    by_cases hil : i < n
    · obtain ⟨v, hv, a0, a1, a2, a3⟩ := H.out.cellW (i := i) (by rw [Hn.out]; exact hil)
      have e2 := (HB.out.cell (p := ⟨gW, i * 4 + 2, none⟩) hgl).trans a2
      have e3 := (HB.out.cell (p := ⟨gW, i * 4 + 3, none⟩) hgl).trans a3
      have hE := hyd (ready_take m.ws i)
      clear hv a0 a1 a2 a3
      have i1 : (0 : Int) ≤ (i : Int) := by omega
      have i2 : (i : Int) < (n : Int) := by omega
      obtain ⟨x, Hx⟩ : ∃ x, Hid (m.ws.getD i wrp0 = x) := ⟨_, rfl⟩
      rw [Hx.out] at e2 e3 hE
      cases hd : x.done
      · cases hwt : x.waits
        · rw [hd] at e3
          rw [hwt] at e2
          have hr : Hid (rdy x = true) := by unfold Hid rdy; rw [hd, hwt]; rfl
          rw [hr.out] at hE
          go_wp2_with (at_builtin; go_must (refine wpList_append_own _ rfl (.tmp 34) (.tmp 36) 24 rfl w.heap.size 3 i0 (.int .i64 0) 1 8 Tryz.underlying24 hi hz0 hz1 hz2 rfl (by decide) u3 A.length (natVals A) rfl ?a0 ⟨wr.heap.size, 0, none⟩ 1 1 [.int .i64 i] rfl rfl ?a1 ?a2 ?a3 ?a4 ?a5 ?_))
          case a0 => exact Hown.out.alloc _
          case a2 => first | rfl | (intro u hu; simp at hu; subst hu; rfl)
          case a3 => unfold maxLen; omega
          case a4 => omega
          case a5 => first | omega | (simp; omega)
          · intro v3 w4 hown3 hgrow3 _
            rw [← nat_snoc] at hown3
            have hb3 : Below w.heap.size w w4 := (HB.out.alloc hsz _).grown hgrow3 (by simp; omega) (fun x hx => (Hown.out.lt x hx).1)
            have HXX := hyd (And.intro hown3 hb3)
            clear hown3 hgrow3 hb3
            go_wp2
            go_roundw
            case rel => exact ⟨i + 1, A ++ [i], by omega, by go_num, by rw [hE.out, ← HA.out]; rfl, by rw [List.length_append]; exact HXX.out.1, HXX.out.2⟩
            case measure => simp [intOf] <;> omega
        · rw [hd] at e3
          rw [hwt] at e2
          have hr : Hid (rdy x = false) := by unfold Hid rdy; rw [hd, hwt]; rfl
          rw [hr.out] at hE
          go_wp2
          go_roundw
          case rel => exact ⟨i + 1, A, by omega, by go_num, by rw [hE.out, ← HA.out]; simp, Hown.out, HB.out⟩
          case measure => simp [intOf] <;> omega
      · rw [hd] at e3
        have hr : Hid (rdy x = false) := by unfold Hid rdy; rw [hd]; rfl
        rw [hr.out] at hE
        go_wp2
        go_roundw
        case rel => exact ⟨i + 1, A, by omega, by go_num, by rw [hE.out, ← HA.out]; simp, Hown.out, HB.out⟩
        case measure => simp [intOf] <;> omega
    · have hin' : i = m.ws.length := by rw [Hn.out]; omega
      have e : Hid (A = readyL m.ws) := by have := HA.out; rw [hin'] at this; exact this
      go_wp2
      go_ret
      rw [← e.out]
      exact ⟨_, rfl, Hown.out, HB.out⟩

end Go.Proofs.YtbhbacphiinpeaaGreat

