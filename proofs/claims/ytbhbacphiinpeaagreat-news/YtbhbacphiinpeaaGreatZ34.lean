/- Rd2 Rd3: joined. -/
import Derived.Test.YtbhbacphiinpeaaGreatZ33

/- What the document's 'settle' does. -/
namespace Go.Proofs.YtbhbacphiinpeaaGreat
open Go.RowKit

theorem MachAt.up {w w' : World} {L : RM} {gW cW : Nat} {vs : List Value} {m : PM} (h : MachAt w L gW cW vs m) (hb : Below w.heap.size w w') : MachAt w' L gW cW vs m :=
  ⟨h.core.up hb, h.rW.keptB hb, h.lenV, fun i v hv => (h.grp i v hv).fr (B := 0) (Fr.of_below hb)⟩

theorem MachAt.ne {w : World} {L : RM} {gW cW : Nat} {vs : List Value} {m : PM} (h : MachAt w L gW cW vs m) : L.bM ≠ gW ∧ L.gK ≠ gW ∧ L.gJ ≠ gW ∧ L.gT ≠ gW ∧ L.gM ≠ gW := by
  have hB := h.core.blk
  obtain ⟨cK, hK⟩ := owns_blk h.core.rK
  obtain ⟨cJ, hJ⟩ := owns_blk h.core.rJ
  obtain ⟨cT, hT⟩ := owns_blk h.core.rT
  obtain ⟨cM, hM⟩ := owns_blk h.core.rM
  obtain ⟨cX, hX⟩ := owns_blk h.rW
  have gen : ∀ {a b : Nat} {ca cb : Array Value} {ta tb : TypeId}, w.heap[a]? = some (.cells ca ta) → w.heap[b]? = some (.cells cb tb) → ta ≠ tb → a ≠ b := fun {a b ca cb ta tb} h1 h2 hne e => by
    subst e
    rw [h1] at h2
    simp only [Option.some.injEq, Obj.cells.injEq] at h2
    exact hne h2.2.1
  exact ⟨gen hB hX (by decide), gen hK hX (by decide), gen hJ hX (by decide), gen hT hX (by decide), gen hM hX (by decide)⟩

/-- The state is stored. -/
theorem MachAt.setS {w : World} {L : RM} {gW cW : Nat} {vs : List Value} {m : PM} (h : MachAt w L gW cW vs m) (v : Int) : MachAt (w.setCell ⟨L.bM, 5, none⟩ (.int .i64 v)) L gW cW vs { m with st := v } :=
  ⟨h.core.setS v, owns_set1 h.rW (fun e => h.ne.1 e.symm) _, h.lenV, fun i v hv => (h.grp i v hv).fr (B := 0) ((Fr.refl _ _ _).set (by simp) _)⟩

/-- A cell of a warp is stored. -/
theorem MachAt.setW {w : World} {L : RM} {gW cW : Nat} {vs : List Value} {m : PM} (h : MachAt w L gW cW vs m) {i j : Nat} {u : Value} {x' : Wrp} (hi : i < m.ws.length) (hj : j < 4)
    (h' : ∀ v : Value, ([v, .int .i64 (m.ws.getD i wrp0).at0, .bool (m.ws.getD i wrp0).waits, .bool (m.ws.getD i wrp0).done] : List Value).set j u = [v, .int .i64 x'.at0, .bool x'.waits, .bool x'.done]) :
    MachAt (w.setCell ⟨gW, i * 4 + j, none⟩ u) L gW cW vs { m with ws := m.ws.set i x' } := by
  obtain ⟨v, hv, hz⟩ := zip_at h.lenV hi
  obtain ⟨n1, n2, n3, n4, n5⟩ := h.ne
  refine ⟨?_, ?_, by simp [h.lenV], fun i v hv => (h.grp i v hv).fr (B := 0) ((Fr.refl _ _ _).set (by simp) _)⟩
  · dsimp only
    rw [List.length_set]
    exact h.core.keep fun g hg => Below.heap_setCell _ _ _ _ (by rcases hg with rfl | rfl | rfl | rfl | rfl <;> assumption)
  · have := (h.rW.stored (i * 4 + j) u).1
    rw [flatW_set hz hj (h' v), zip_set hv] at this
    dsimp only
    rw [List.length_set]
    exact this

theorem all_take {ws : List Wrp} {i : Nat} (hi : i < ws.length) : (ws.take (i + 1)).all (fun x => x.done) = ((ws.take i).all (fun x => x.done) && (ws.getD i wrp0).done) := by
  have hx : ws[i]? = some ws[i] := List.getElem?_eq_getElem hi
  rw [List.take_add_one, hx, List.all_append, List.getD_eq_getElem?_getD, hx]
  simp

/-- Of the first i warps none waits any more. -/
def clr (ws : List Wrp) (i : Nat) : List Wrp := (ws.take i).map (fun x => { x with waits := false }) ++ ws.drop i

theorem clr_len (ws : List Wrp) (i : Nat) : (clr ws i).length = ws.length := by unfold clr; simp; omega
theorem clr_at {ws : List Wrp} {i : Nat} (hi : i < ws.length) : (clr ws i).getD i wrp0 = ws.getD i wrp0 := by
  unfold clr
  rw [List.getD_eq_getElem?_getD, List.getElem?_append_right (by simp; omega), List.getElem?_drop, List.getD_eq_getElem?_getD]
  congr 2
  simp
  omega
theorem clr_set {ws : List Wrp} {i : Nat} (hi : i < ws.length) : (clr ws i).set i { ws.getD i wrp0 with waits := false } = clr ws (i + 1) := by
  have hx : ws[i]? = some ws[i] := List.getElem?_eq_getElem hi
  unfold clr
  have hl : ((ws.take i).map (fun x : Wrp => { x with waits := false })).length = i := by simp; omega
  rw [List.set_append_right _ _ (by omega), hl, Nat.sub_self, List.drop_eq_getElem_cons hi, List.set_cons_zero, List.take_add_one, hx, List.map_append, List.getD_eq_getElem?_getD, hx]
  simp

set_option maxHeartbeats 1000000 in
set_option maxRecDepth 100000 in
theorem settle_any {w : World} {L : RM} {gW cW : Nat} {vs : List Value} {m : PM} (h : MachAt w L gW cW vs m) (hw : m.ws.length ≤ 4) :
    Calls Tryz.prog 61 #[.pointer (some ⟨L.bM, 0, none⟩)] w fun e w' => e = .returned (.tuple #[]) ∧ MachAt w' L gW cW vs (settleP m) ∧ ∀ B, Fr B [L.bM, gW] w w' := by
  have H := hyd h
  obtain ⟨-, -, -, c3, -, c5⟩ := h.core.cells
  have fm : w.frozen? ⟨L.bM, 5, none⟩ = false := frozen_of_row w L.bM 5 _ 85 h.core.blk
  clear h
  obtain ⟨n, Hn⟩ : ∃ n, Hid (m.ws.length = n) := ⟨_, rfl⟩
  have Hw4 := hyd hw
  rw [Hn.out] at hw c3
  have hn2 : (n : Int) ≤ 4 := by omega
  go_enter Tryz.func61, Tryz.ntmps61
  go_wp2_with fail
  go_loopw [2, 3] (fun ov iv wr => ∃ (i : Nat) (o : Bool), i ≤ n ∧ iv = .int .i64 i ∧ ov = .bool o ∧ o = (m.ws.take i).all (fun x => x.done) ∧ wr = w) (fun _ iv _ => n - (intOf iv).toNat)
  case atStart => exact ⟨0, true, Nat.zero_le _, rfl, rfl, by simp, rfl⟩
  case round =>
    obtain ⟨i, o, hin, rfl, rfl, ho, hwr⟩ := hrel
    subst wr
    have HO := hyd ho
    clear ho
    by_cases hil : i < n
    · have hil' : i < m.ws.length := by rw [Hn.out]; exact hil
      obtain ⟨v, hv, a0, a1, a2, a3⟩ := H.out.cellW hil'
      have hE := hyd (all_take hil')
      obtain ⟨d, Hd⟩ : ∃ d, Hid ((m.ws.getD i wrp0).done = d) := ⟨_, rfl⟩
      rw [Hd.out] at a3 hE
      clear hv a0 a1 a2 hil'
      have i1 : (0 : Int) ≤ (i : Int) := by omega
      have i2 : (i : Int) < (n : Int) := by omega
      cases o
      · go_wp2
        go_roundw
        case rel => exact ⟨i + 1, false, by omega, by go_num, rfl, by rw [hE.out, ← HO.out]; rfl, trivial⟩
        case measure => simp [intOf] <;> omega
      · go_wp2
        go_roundw
        case rel => exact ⟨i + 1, d, by omega, by go_num, rfl, by rw [hE.out, ← HO.out]; simp, trivial⟩
        case measure => simp [intOf] <;> omega
    · have hin' : i = m.ws.length := by rw [Hn.out]; omega
      have e : Hid (o = m.ws.all (fun x => x.done)) := by have := HO.out; rw [hin', take_all] at this; exact this
      clear HO
      cases o
      · go_wp2_with fail
        refine (ready_any H.out Hw4.out).mono ?_
        rintro e1 w2 ⟨v, rfl, hown, hb⟩
        obtain ⟨l, Hl⟩ : ∃ l, Hid (readyL m.ws = l) := ⟨_, rfl⟩
        rw [Hl.out] at hown
        obtain ⟨ra, rc, hv⟩ := slice_ofN hown
        subst hv
        have M2 := hyd (H.out.up hb)
        have F2 : Hid (∀ B, Fr B [L.bM, gW] w w2) := fun B => Fr.of_below hb
        clear hown hb c3 c5 fm
        obtain ⟨q, Hq⟩ : ∃ q, Hid (l.length = q) := ⟨_, rfl⟩
        rw [Hq.out]
        by_cases hq : q = 0
        · subst hq
          have hl0 : Hid (l = []) := List.eq_nil_of_length_eq_zero Hq.out
          have hfin : Hid (settleP m = { m with ws := clr m.ws m.ws.length }) := by
            unfold Hid settleP
            rw [← e.out, Hl.out, if_neg (by simp), if_pos hl0.out]
            unfold clr
            simp
          go_wp2_with fail
          go_loopw [5] (fun iv wr => ∃ (j : Nat), j ≤ n ∧ iv = .int .i64 j ∧ MachAt wr L gW cW vs { m with ws := clr m.ws j } ∧ ∀ B, Fr B [L.bM, gW] w wr) (fun iv _ => n - (intOf iv).toNat)
          case atStart => exact ⟨0, Nat.zero_le _, rfl, by have := M2.out; unfold clr; simpa using this, F2.out⟩
          case round =>
            obtain ⟨j, hjn, rfl, hM, hF⟩ := hrel
            have M3 := hyd hM
            have F3 := hyd hF
            obtain ⟨-, -, -, d3, -⟩ := hM.core.cells
            dsimp only at d3
            rw [clr_len, Hn.out] at d3
            clear hM hF M2 F2
            by_cases hjl : j < n
            · have hjl' : j < m.ws.length := by rw [Hn.out]; exact hjl
              obtain ⟨v, hv, a0, a1, a2, a3⟩ := M3.out.cellW (i := j) (by dsimp only; rw [clr_len]; exact hjl')
              have fz := M3.out.rW.frozenAt (j * 4 + 2)
              have M4 := hyd (M3.out.setW (i := j) (j := 2) (u := .bool false) (x' := { m.ws.getD j wrp0 with waits := false }) (by dsimp only; rw [clr_len]; exact hjl') (by omega) (fun v => by dsimp only; rw [clr_at hjl']; rfl))
              dsimp only at M4
              rw [clr_set hjl'] at M4
              clear hv a0 a1 a3 hjl'
              have j1 : (0 : Int) ≤ (j : Int) := by omega
              have j2 : (j : Int) < (n : Int) := by omega
              go_wp2
              go_roundw
              case rel => exact ⟨j + 1, by omega, by go_num, M4.out, fun B => (F3.out B).set (by simp) _⟩
              case measure => simp [intOf] <;> omega
            · have hj' : j = m.ws.length := by rw [Hn.out]; omega
              have M4 : Hid (MachAt wr L gW cW vs { m with ws := clr m.ws m.ws.length }) := by have := M3.out; rw [hj'] at this; exact this
              go_wp2
              go_end0
              rw [hfin.out]
              exact ⟨rfl, M4.out, F3.out⟩
        · have hfin : Hid (settleP m = m) := by
            unfold Hid settleP
            rw [← e.out, Hl.out, if_neg (by simp), if_neg (fun h => hq (by rw [← Hq.out, h]; rfl))]
          have g1 : decide ((0 : Int) < (q : Int)) = true := by simp; omega
          go_wp2
          (try simp only [Exit.inBlock, Exit.then]); refine bodyPost_ret (results_none rfl _ _ _) rfl ?_
          rw [hfin.out]
          exact ⟨rfl, M2.out, F2.out⟩
      · have hfin : Hid (settleP m = { m with st := 1 }) := by unfold Hid settleP; rw [← e.out]; rfl
        go_wp2
        (try simp only [Exit.inBlock, Exit.then]); refine bodyPost_ret (results_none rfl _ _ _) rfl ?_
        rw [hfin.out]
        exact ⟨rfl, H.out.setS 1, fun B => (Fr.refl _ _ _).set (by simp) _⟩

end Go.Proofs.YtbhbacphiinpeaaGreat

/- What the document's 'Registers' and 'Done' answer. -/
namespace Go.Proofs.YtbhbacphiinpeaaGreat
open Go.RowKit

def noThread (m : PM) (t : Int) : Prop := t < 0 ∨ (m.ts.length : Int) ≤ t

set_option maxHeartbeats 1000000 in
set_option maxRecDepth 100000 in
theorem rregs_yes {w : World} {L : RM} {gW cW : Nat} {vs : List Value} {m : PM} (h : MachAt w L gW cW vs m) (h4 : Reg4 m.ts) (t : Nat) (ht : t < m.ts.length) :
    Calls Tryz.prog 44 #[.pointer (some ⟨L.bM, 0, none⟩), .int .i64 t] w fun e w' => ∃ v, e = .returned (.tuple #[v, .int .i64 0]) ∧ w'.ownsRow w.heap.size 3 1 v 4 (zVals (m.ts.getD t thr0).regs) ∧ Below w.heap.size w w' := by
  have H := hyd h
  have H4 := hyd h4
  obtain ⟨-, -, c2, -⟩ := h.core.cells
  have hbl : L.bM < w.heap.size := h.core.lt (by simp)
  have hgl : L.gT < w.heap.size := h.core.lt (by simp)
  clear h h4
  have hx : Hid (m.ts[t]? = some (m.ts.getD t thr0)) := by unfold Hid; rw [List.getD_eq_getElem?_getD, List.getElem?_eq_getElem ht]; rfl
  have Ht := hyd ht
  obtain ⟨th, Hth⟩ : ∃ th, Hid (m.ts.getD t thr0 = th) := ⟨_, rfl⟩
  rw [Hth.out] at hx ⊢
  have hr4 : Hid (th.regs.length = 4) := H4.out th (List.mem_of_getElem? hx.out)
  obtain ⟨n, Hn⟩ : ∃ n, Hid (m.ts.length = n) := ⟨_, rfl⟩
  rw [Hn.out] at ht c2
  have t1 : (t : Int) < (n : Int) := by omega
  have t0 : (0 : Int) ≤ (t : Int) := by omega
  have g0 : decide ((t : Int) < 0) = false := by simp
  have g1 : decide (n ≤ t) = false := by simp; omega
  obtain ⟨i0, hi, hz0, hz1, hz2⟩ := info_parts Tryz.info3
  go_enter Tryz.func44, Tryz.ntmps44
  go_wp2_with fail
  go_loopw [6, 7] (fun lv iv wr => ∃ (i : Nat) (A : List Int), i ≤ 4 ∧ iv = .int .i64 i ∧ A = th.regs.take i ∧ wr.ownsRow w.heap.size 3 1 lv i (zVals A) ∧ Below w.heap.size w wr) (fun _ iv _ => 4 - (intOf iv).toNat)
  case atStart => exact ⟨0, [], Nat.zero_le _, rfl, by simp, World.ownsRow_nil _ _ _ _, Below.refl _ _⟩
  case round =>
    obtain ⟨i, A, hin, rfl, hA, hown, hb⟩ := hrel
    have HA := hyd hA
    have Hown := hyd hown
    have HB := hyd hb
    have hsz := hb.size
    have d2 := (hb.cell (p := ⟨L.bM, 2, none⟩) hbl).trans c2
    clear hown hb hA
    by_cases hil : i < 4
    · have hr : th.regs[i]? = some (th.get (i : Int)) := by
        unfold Thr.get
        rw [List.getD_eq_getElem?_getD, Int.toNat_natCast, List.getElem?_eq_getElem (by rw [hr4.out]; exact hil)]; rfl
      have cr := (HB.out.cell (p := ⟨L.gT, t * 6 + 1 + i, none⟩) hgl).trans (H.out.core.cellR H4.out hx.out hil)
      have hE : Hid (th.regs.take (i + 1) = A ++ [th.get (i : Int)]) := by
        unfold Hid; rw [List.take_add_one, hr, HA.out]; rfl
      clear hr
      obtain ⟨rv, Hrv⟩ : ∃ rv, Hid (th.get (i : Int) = rv) := ⟨_, rfl⟩
      rw [Hrv.out] at cr hE
      have i1 : (0 : Int) ≤ (i : Int) := by omega
      have i2 : (i : Int) < 4 := by omega
      go_wp2_with (at_builtin; go_must (refine wpList_append_own _ rfl (.tmp 23) (.tmp 34) 24 rfl w.heap.size 3 i0 (.int .i64 0) 1 8 Tryz.underlying24 hi hz0 hz1 hz2 rfl (by decide) u6 i (zVals A) rfl ?a0 ⟨wr.heap.size, 0, none⟩ 1 1 [.int .i64 rv] rfl rfl ?a1 ?a2 ?a3 ?a4 ?a5 ?_))
      case a0 => exact Hown.out.alloc _
      case a1 => exact World.news_of_block (heap_alloc_new wr _)
      case a2 => intro u hu; simp at hu; subst hu; rfl
      case a3 => unfold maxLen; omega
      case a4 => omega
      case a5 => simp; omega
      · intro v3 w4 hown3 hgrow3 _
        have hzs : zVals A ++ [.int .i64 rv] = zVals (A ++ [rv]) := by simp [zVals]
        rw [hzs] at hown3
        have hb3 : Below w.heap.size w w4 := (HB.out.alloc hsz _).grown hgrow3 (by simp; omega) (fun x hx => (Hown.out.lt x hx).1)
        have HXX := hyd (And.intro hown3 hb3)
        clear hown3 hgrow3 hb3
        go_wp2
        go_roundw
        case rel => exact ⟨i + 1, A ++ [rv], by omega, by go_num, hE.out.symm, HXX.out.1, HXX.out.2⟩
        case measure => simp [intOf] <;> omega
    · have hin' : i = 4 := by omega
      subst hin'
      have e : Hid (A = th.regs) := HA.out.trans (List.take_of_length_le (by rw [hr4.out]; exact Nat.le_refl _))
      rw [e.out] at Hown
      go_wp2
      go_ret2
      exact ⟨_, rfl, Hown.out, HB.out⟩

set_option maxHeartbeats 400000 in
theorem rregs_no {w : World} {L : RM} {gW cW : Nat} {vs : List Value} {m : PM} (h : MachAt w L gW cW vs m) (t : Int) (ht : noThread m t) :
    Calls Tryz.prog 44 #[.pointer (some ⟨L.bM, 0, none⟩), .int .i64 t] w fun e w' => e = .returned (.tuple #[.slice none 0 0, .int .i64 8]) ∧ w' = w := by
  obtain ⟨-, -, c2, -⟩ := h.core.cells
  by_cases h0 : t < 0
  · have g0 : decide (t < 0) = true := by simpa using h0
    go_enter Tryz.func44, Tryz.ntmps44
    go_wp2
    go_ret2
    exact ⟨rfl, rfl⟩
  · have g0 : decide (t < 0) = false := by simpa using h0
    have g1 : decide ((m.ts.length : Int) ≤ t) = true := by
      rcases ht with h | h
      · exact absurd h h0
      · simpa using h
    go_enter Tryz.func44, Tryz.ntmps44
    go_wp2
    go_ret2
    exact ⟨rfl, rfl⟩

set_option maxHeartbeats 400000 in
theorem rdone_no {w : World} {L : RM} {gW cW : Nat} {vs : List Value} {m : PM} (h : MachAt w L gW cW vs m) (t : Int) (ht : noThread m t) :
    Calls Tryz.prog 46 #[.pointer (some ⟨L.bM, 0, none⟩), .int .i64 t] w fun e w' => e = .returned (.tuple #[.bool false, .int .i64 8]) ∧ w' = w := by
  obtain ⟨-, -, c2, -⟩ := h.core.cells
  by_cases h0 : t < 0
  · have g0 : decide (t < 0) = true := by simpa using h0
    go_enter Tryz.func46, Tryz.ntmps46
    go_wp2
    go_ret2
    exact ⟨rfl, rfl⟩
  · have g0 : decide (t < 0) = false := by simpa using h0
    have g1 : decide ((m.ts.length : Int) ≤ t) = true := by
      rcases ht with h | h
      · exact absurd h h0
      · simpa using h
    go_enter Tryz.func46, Tryz.ntmps46
    go_wp2
    go_ret2
    exact ⟨rfl, rfl⟩

set_option maxHeartbeats 400000 in
theorem rdone_yes {w : World} {L : RM} {gW cW : Nat} {vs : List Value} {m : PM} (h : MachAt w L gW cW vs m) (h4 : Reg4 m.ts) (t : Nat) (ht : t < m.ts.length) :
    Calls Tryz.prog 46 #[.pointer (some ⟨L.bM, 0, none⟩), .int .i64 t] w fun e w' => e = .returned (.tuple #[.bool (isDone m.ts t), .int .i64 0]) ∧ Below w.heap.size w w' := by
  obtain ⟨-, -, c2, -⟩ := h.core.cells
  have cd := done_at h.core h4 ht
  obtain ⟨n, Hn⟩ : ∃ n, Hid (m.ts.length = n) := ⟨_, rfl⟩
  rw [Hn.out] at ht c2
  have t1 : (t : Int) < (n : Int) := by omega
  have t0 : (0 : Int) ≤ (t : Int) := by omega
  have g0 : decide ((t : Int) < 0) = false := by simp
  have g1 : decide (n ≤ t) = false := by simp; omega
  clear h h4
  go_enter Tryz.func46, Tryz.ntmps46
  go_wp2
  go_ret2
  exact ⟨rfl, Below.refl _ _⟩

end Go.Proofs.YtbhbacphiinpeaaGreat

