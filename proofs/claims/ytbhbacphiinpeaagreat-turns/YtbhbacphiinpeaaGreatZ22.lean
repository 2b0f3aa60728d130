/- Mt Tv: joined. -/
import Derived.Test.YtbhbacphiinpeaaGreatZ18
import Derived.Test.YtbhbacphiinpeaaGreatZ21
import Derived.Test.YtbhbacphiinpeaaGreatZ11

/- What choose, allDone, noneReady, stateBehind and releaseAll of package loom do. -/
namespace Go.Proofs.YtbhbacphiinpeaaGreat
open Go.RowKit

def pM' (L : XM) : Value := .pointer (some ⟨L.bX, 0, none⟩)

theorem qs_at {x : QM} (h : Shp x) {i : Nat} (hi : i < 4) : x.qs[i]? = some (x.qs.getD i wq0) := by
  rw [List.getD_eq_getElem?_getD, List.getElem?_eq_getElem (by rw [h.ql]; exact hi)]; rfl

theorem oW_int (i : Nat) : oW i = 102 + i * 21 := rfl

set_option maxHeartbeats 1000000 in
set_option maxRecDepth 100000 in
theorem choose_any {w : World} {L : XM} {k : List Ins} {J : List Int} {x : QM} (h : MX w L k J x) (pick : Int) :
    Calls Tryz.prog 54 #[pM' L, .int .i64 pick] w fun e w' => e = .returned (.int .i64 (pickW (rdyN x.qs 4) pick : Nat)) ∧ w' = w := by
  have H := hyd h
  clear h
  unfold pM'
  go_enter Tryz.func54, Tryz.ntmps54
  go_wp2_with fail
  go_loopw [5, 6, 8] (fun cv pv iv wr => ∃ (i c n : Nat), i ≤ 4 ∧ iv = .int .i64 i ∧ cv = .int .i64 c ∧ pv = .int .i64 n ∧ n ≤ i ∧ Hid (c = pickW (rdyN x.qs i) pick) ∧ Hid (n = (rdyN x.qs i).length) ∧ wr = w) (fun _ _ iv _ => 4 - (intOf iv).toNat)
  case atStart => exact ⟨0, 0, 0, by omega, rfl, rfl, rfl, by omega, by unfold Hid pickW rdyN; simp, by unfold Hid rdyN; simp, rfl⟩
  case round =>
    obtain ⟨i, c, n, hi4, rfl, rfl, rfl, hni, Hc, Hn, rfl⟩ := hrel
    by_cases hi : i < 4
    · have i1 : (0 : Int) ≤ (i : Int) := by omega
      have i2 : (i : Int) < 4 := by omega
      have hq := hyd (wready_any H.out (qs_at H.out.shp hi))
      have hs := hyd (rdyN_succ x.qs i)
      unfold pW at hq
      rw [oW_int] at hq
      go_wp2_with fail
      refine hq.out.mono ?_
      cases hr : rdyQ (x.qs.getD i wq0) with
      | false =>
        rintro e w2 ⟨rfl, rfl⟩
        have hs' : Hid (rdyN x.qs (i + 1) = rdyN x.qs i) := by have := hs.out; rw [hr] at this; simpa [Hid] using this
        clear hs
        go_wp2_with fail
        refine ⟨⟨i + 1, c, n, by omega, rfl, rfl, rfl, by omega, ?_, ?_, by trivial⟩, ?_⟩
        · unfold Hid; rw [hs'.out]; exact Hc.out
        · unfold Hid; rw [hs'.out]; exact Hn.out
        · simp only [intOf]; omega
      | true =>
        rintro e w2 ⟨rfl, rfl⟩
        have hs' : Hid (rdyN x.qs (i + 1) = rdyN x.qs i ++ [i]) := by have := hs.out; rw [hr] at this; simpa [Hid] using this
        clear hs
        have hp := hyd (pick_snoc (rdyN x.qs i) i pick)
        by_cases hn0 : n = 0
        · subst hn0
          go_wp2_with fail
          refine ⟨⟨i + 1, i, 1, by omega, rfl, rfl, rfl, by omega, ?_, ?_, by trivial⟩, ?_⟩
          · unfold Hid; rw [hs'.out, hp.out, if_pos (.inl (List.eq_nil_of_length_eq_zero Hn.out.symm))]
          · unfold Hid; rw [hs'.out, List.length_append, ← Hn.out]; rfl
          · simp only [intOf]; omega
        · have hnb : ((n : Int) == 0) = false := by simp; omega
          by_cases hpk : (n : Int) = pick
          · have hpb : ((n : Int) == pick) = true := by simpa using hpk
            have HPK := hyd hpk
            clear hpk
            go_wp2_with fail
            refine ⟨⟨i + 1, i, n + 1, by omega, rfl, rfl, rfl, by omega, ?_, ?_, by trivial⟩, ?_⟩
            · unfold Hid; rw [hs'.out, hp.out, if_pos (.inr (by rw [← Hn.out]; exact HPK.out))]
            · unfold Hid; rw [hs'.out, List.length_append, ← Hn.out]; rfl
            · simp only [intOf]; omega
          · have hpb : ((n : Int) == pick) = false := by simpa using hpk
            have HPK := hyd hpk
            clear hpk
            go_wp2_with fail
            refine ⟨⟨i + 1, c, n + 1, by omega, rfl, rfl, rfl, by omega, ?_, ?_, by trivial⟩, ?_⟩
            · unfold Hid
              rw [hs'.out, hp.out, if_neg, Hc.out]
              rintro (e | e)
              · have := Hn.out; rw [e] at this; exact hn0 this
              · exact HPK.out (by rw [Hn.out]; exact e)
            · unfold Hid; rw [hs'.out, List.length_append, ← Hn.out]; rfl
            · simp only [intOf]; omega
    · have : i = 4 := by omega
      subst this
      go_wp2_with fail
      go_ret
      exact ⟨by rw [Hc.out]; rfl, rfl⟩

theorem allZ_succ (qs : List Wq) (n : Nat) : allZ qs (n + 1) = (allZ qs n && decide ((qs.getD n wq0).group = 0)) := by
  unfold allZ
  rw [List.range_succ, List.all_append]
  simp
theorem allZ_false {qs : List Wq} {i : Nat} (hi : i < 4) (h : ¬ (qs.getD i wq0).group = 0) : allZ qs 4 = false := by
  cases e : allZ qs 4 with
  | false => rfl
  | true =>
    unfold allZ at e
    rw [List.all_eq_true] at e
    have := e i (List.mem_range.2 hi)
    simp only [decide_eq_true_eq] at this
    exact absurd this h

set_option maxHeartbeats 1000000 in
set_option maxRecDepth 100000 in
theorem allDone_any {w : World} {L : XM} {k : List Ins} {J : List Int} {x : QM} (h : MX w L k J x) :
    Calls Tryz.prog 77 #[pM' L] w fun e w' => e = .returned (.bool (allZ x.qs 4)) ∧ w' = w := by
  have H := hyd h
  clear h
  unfold pM'
  go_enter Tryz.func77, Tryz.ntmps77
  go_wp2_with fail
  go_loopw [4] (fun iv wr => ∃ (i : Nat), i ≤ 4 ∧ iv = .int .i64 i ∧ Hid (allZ x.qs i = true) ∧ wr = w) (fun iv _ => 4 - (intOf iv).toNat)
  case atStart => exact ⟨0, by omega, rfl, rfl, rfl⟩
  case round =>
    obtain ⟨i, hi4, rfl, Hz, rfl⟩ := hrel
    by_cases hi : i < 4
    · have i1 : (0 : Int) ≤ (i : Int) := by omega
      have i2 : (i : Int) < 4 := by omega
      have hq := hyd (wdone_any H.out (qs_at H.out.shp hi))
      have hs := hyd (allZ_succ x.qs i)
      unfold pW at hq
      rw [oW_int] at hq
      go_wp2_with fail
      refine hq.out.mono ?_
      by_cases hg : (x.qs.getD i wq0).group = 0
      · rw [show decide ((x.qs.getD i wq0).group = 0) = true by simpa using hg]
        rintro e w2 ⟨rfl, rfl⟩
        have HG := hyd hg
        clear hg
        go_wp2_with fail
        refine ⟨⟨i + 1, by omega, rfl, ?_, by trivial⟩, ?_⟩
        · unfold Hid; rw [hs.out, Hz.out, HG.out]; rfl
        · simp only [intOf]; omega
      · rw [show decide ((x.qs.getD i wq0).group = 0) = false by simpa using hg]
        rintro e w2 ⟨rfl, rfl⟩
        have HG := hyd (allZ_false hi hg)
        clear hg
        go_wp2_with fail
        go_ret
        exact ⟨by rw [HG.out]; rfl, rfl⟩
    · have : i = 4 := by omega
      subst this
      go_wp2_with fail
      go_ret
      exact ⟨by rw [Hz.out]; rfl, rfl⟩

theorem rdyN_nil {qs : List Wq} {n : Nat} : rdyN qs n = [] ↔ ∀ i, i < n → rdyQ (qs.getD i wq0) = false := by
  unfold rdyN
  rw [List.filter_eq_nil_iff]
  simp only [List.mem_range, Bool.not_eq_true]

set_option maxHeartbeats 1000000 in
set_option maxRecDepth 100000 in
theorem noneReady_any {w : World} {L : XM} {k : List Ins} {J : List Int} {x : QM} (h : MX w L k J x) :
    Calls Tryz.prog 57 #[pM' L] w fun e w' => e = .returned (.bool (decide (rdyN x.qs 4 = []))) ∧ w' = w := by
  have H := hyd h
  clear h
  unfold pM'
  go_enter Tryz.func57, Tryz.ntmps57
  go_wp2_with fail
  go_loopw [4] (fun iv wr => ∃ (i : Nat), i ≤ 4 ∧ iv = .int .i64 i ∧ Hid (∀ j, j < i → rdyQ (x.qs.getD j wq0) = false) ∧ wr = w) (fun iv _ => 4 - (intOf iv).toNat)
  case atStart => exact ⟨0, by omega, rfl, (fun j hj => by omega), rfl⟩
  case round =>
    obtain ⟨i, hi4, rfl, Hz, rfl⟩ := hrel
    by_cases hi : i < 4
    · have i1 : (0 : Int) ≤ (i : Int) := by omega
      have i2 : (i : Int) < 4 := by omega
      have hq := hyd (wready_any H.out (qs_at H.out.shp hi))
      unfold pW at hq
      rw [oW_int] at hq
      go_wp2_with fail
      refine hq.out.mono ?_
      cases hr : rdyQ (x.qs.getD i wq0) with
      | false =>
        rintro e w2 ⟨rfl, rfl⟩
        have HR := hyd hr
        clear hr
        go_wp2_with fail
        refine ⟨⟨i + 1, by omega, rfl, ?_, by trivial⟩, ?_⟩
        · intro j hj
          by_cases e : j = i
          · subst e; exact HR.out
          · exact Hz.out j (by omega)
        · simp only [intOf]; omega
      | true =>
        rintro e w2 ⟨rfl, rfl⟩
        have HR : Hid (¬ rdyN x.qs 4 = []) := fun e => by have := rdyN_nil.1 e i hi; rw [hr] at this; cases this
        clear hr
        go_wp2_with fail
        go_ret
        exact ⟨by rw [show decide (rdyN x.qs 4 = []) = false by simpa using HR.out]; rfl, rfl⟩
    · have : i = 4 := by omega
      subst this
      go_wp2_with fail
      go_ret
      exact ⟨by rw [show decide (rdyN x.qs 4 = []) = true by simpa using rdyN_nil.2 Hz.out]; rfl, rfl⟩

set_option maxHeartbeats 1000000 in
set_option maxRecDepth 100000 in
theorem mbehind_any {w : World} {L : XM} {k : List Ins} {J : List Int} {x : QM} (h : MX w L k J x) (i : Nat) (hi : i < 4) (f : Int) :
    Calls Tryz.prog 56 #[pM' L, .int .i64 i, .int .i64 f] w fun e w' => e = .returned (.int .i64 (behindQ x.qs i f)) ∧ w' = w := by
  have H := hyd h
  clear h
  unfold behindQ
  by_cases hf : f ≠ 0
  · rw [if_pos hf]
    have hb : (f != 0) = true := by simpa using hf
    clear hf
    unfold pM'
    go_enter Tryz.func56, Tryz.ntmps56
    go_wp2_with fail
    go_ret
    exact ⟨rfl, rfl⟩
  · rw [if_neg hf]
    have hf0 : f = 0 := by simpa using hf
    subst hf0
    clear hf
    have i1 : (0 : Int) ≤ (i : Int) := by omega
    have i2 : (i : Int) < 4 := by omega
    have hq := hyd (wready_any H.out (qs_at H.out.shp hi))
    unfold pW at hq
    rw [oW_int] at hq
    have ha := hyd (allDone_any H.out)
    unfold pM' at ha ⊢
    cases hr : rdyQ (x.qs.getD i wq0) with
    | true =>
      rw [hr] at hq
      rw [if_pos rfl]
      go_enter Tryz.func56, Tryz.ntmps56
      go_wp2_with fail
      refine hq.out.mono ?_
      rintro e w2 ⟨rfl, rfl⟩
      go_wp2_with fail
      go_ret
      exact ⟨rfl, rfl⟩
    | false =>
      rw [hr] at hq
      rw [if_neg (by decide)]
      cases hz : allZ x.qs 4 with
      | true =>
        rw [hz] at ha
        rw [if_pos rfl]
        go_enter Tryz.func56, Tryz.ntmps56
        go_wp2_with fail
        refine hq.out.mono ?_
        rintro e w2 ⟨rfl, rfl⟩
        go_wp2_with fail
        refine ha.out.mono ?_
        rintro e w2 ⟨rfl, rfl⟩
        go_wp2_with fail
        go_ret
        exact ⟨rfl, rfl⟩
      | false =>
        rw [hz] at ha
        rw [if_neg (by decide)]
        go_enter Tryz.func56, Tryz.ntmps56
        go_wp2_with fail
        refine hq.out.mono ?_
        rintro e w2 ⟨rfl, rfl⟩
        go_wp2_with fail
        refine ha.out.mono ?_
        rintro e w2 ⟨rfl, rfl⟩
        go_wp2_with fail
        go_ret
        exact ⟨rfl, rfl⟩

/-- The first n warps let go on. -/
def relN (qs : List Wq) (n : Nat) : List Wq := (qs.take n).map (fun q => ({ q with waits := false } : Wq)) ++ qs.drop n
theorem relN_len (qs : List Wq) (n : Nat) : (relN qs n).length = qs.length := by unfold relN; simp; omega
theorem relN_at {qs : List Wq} {n : Nat} (h : n < qs.length) : (relN qs n)[n]? = some (qs.getD n wq0) := by
  unfold relN
  rw [List.getElem?_append_right (by simp; omega), List.length_map, List.length_take, Nat.min_eq_left (by omega), Nat.sub_self, List.getElem?_drop, Nat.add_zero, List.getD_eq_getElem?_getD, List.getElem?_eq_getElem h]
  rfl
theorem relN_set {qs : List Wq} {n : Nat} (h : n < qs.length) : (relN qs n).set n { qs.getD n wq0 with waits := false } = relN qs (n + 1) := by
  unfold relN
  have e : qs.drop n = qs.getD n wq0 :: qs.drop (n + 1) := by
    rw [List.getD_eq_getElem?_getD, List.getElem?_eq_getElem h]
    exact List.drop_eq_getElem_cons h
  rw [List.set_append_right _ _ (by simp; omega)]
  have e2 : n - ((qs.take n).map (fun q => ({ q with waits := false } : Wq))).length = 0 := by simp; omega
  have e3 : qs.getD n wq0 = qs[n] := by rw [List.getD_eq_getElem?_getD, List.getElem?_eq_getElem h]; rfl
  rw [e2, e, List.set_cons_zero, List.take_succ_eq_append_getElem h, List.map_append, e3, List.append_assoc]
  rfl
theorem relN_sp {qs : List Wq} (h : ∀ q ∈ qs, q.sp.length = 3) (n : Nat) : ∀ q ∈ relN qs n, q.sp.length = 3 := by
  intro q hq
  unfold relN at hq
  rw [List.mem_append] at hq
  rcases hq with hq | hq
  · obtain ⟨y, hy, rfl⟩ := List.mem_map.1 hq
    exact h y (List.mem_of_mem_take hy)
  · exact h q (List.mem_of_mem_drop hq)

set_option maxHeartbeats 1000000 in
set_option maxRecDepth 100000 in
theorem releaseAll_any {w : World} {L : XM} {k : List Ins} {J : List Int} {x : QM} (h : MX w L k J x) :
    Calls Tryz.prog 58 #[pM' L] w fun e w' => e = .returned (.tuple #[]) ∧ MX w' L k J { x with qs := x.qs.map fun q => ({ q with waits := false } : Wq) } ∧ ∀ B, Fr B [L.bX] w w' := by
  have hl4 := h.shp.ql
  have HS := hyd h.shp
  have H0 : Hid (MX w L k J { x with qs := relN x.qs 0 }) := by unfold Hid relN; simpa using h
  have HL := hyd hl4
  clear h hl4
  unfold pM'
  go_enter Tryz.func58, Tryz.ntmps58
  go_wp2_with fail
  go_loopw [3] (fun iv wr => ∃ (i : Nat), i ≤ 4 ∧ iv = .int .i64 i ∧ Hid (MX wr L k J { x with qs := relN x.qs i }) ∧ Hid (∀ B, Fr B [L.bX] w wr)) (fun iv _ => 4 - (intOf iv).toNat)
  case atStart => exact ⟨0, by omega, rfl, H0, fun B => Fr.refl _ _ _⟩
  case round =>
    obtain ⟨i, hi4, rfl, M, F⟩ := hrel
    by_cases hi : i < 4
    · have i1 : (0 : Int) ≤ (i : Int) := by omega
      have i2 : (i : Int) < 4 := by omega
      have hlt : Hid (i < ({ x with qs := relN x.qs i } : QM).qs.length) := by unfold Hid; show i < (relN x.qs i).length; rw [relN_len, HL.out]; exact hi
      have hqa : Hid (({ x with qs := relN x.qs i } : QM).qs[i]? = some (x.qs.getD i wq0)) := relN_at (by rw [HL.out]; exact hi)
      have M' := M.out
      rw [← qPut_self hqa.out] at M'
      have hq := hyd (release_any M' hlt.out (HS.out.sl _ (List.mem_of_getElem? (qs_at HS.out hi))))
      clear M'
      have hE : Hid (qPut { x with qs := relN x.qs i } i { x.qs.getD i wq0 with waits := false } = { x with qs := relN x.qs (i + 1) }) := by
        unfold Hid qPut; rw [relN_set (by rw [HL.out]; exact hi)]
      unfold pW at hq
      rw [oW_int] at hq
      go_wp2_with fail
      refine hq.out.mono ?_
      rintro e w2 ⟨rfl, hM, hF⟩
      rw [hE.out] at hM
      have M2 := hyd hM
      have F2 : Hid (∀ B, Fr B [L.bX] w w2) := fun B => (F.out B).trans (hF B)
      clear hM hF
      go_wp2_with fail
      refine ⟨⟨i + 1, by omega, rfl, M2, F2⟩, ?_⟩
      simp only [intOf]; omega
    · have : i = 4 := by omega
      subst this
      go_wp2_with fail
      go_end0
      refine ⟨rfl, ?_, F.out⟩
      have e : relN x.qs 4 = x.qs.map fun q => ({ q with waits := false } : Wq) := by
        unfold relN
        rw [List.take_of_length_le (by rw [HL.out]; omega), List.drop_eq_nil_of_le (by rw [HL.out]; omega), List.append_nil]
      have := M.out
      rw [e] at this
      exact this

end Go.Proofs.YtbhbacphiinpeaaGreat

/- What a turn answers, as a value, and its seven cells in memory. -/
namespace Go.Proofs.YtbhbacphiinpeaaGreat
open Go.RowKit

/-- A turn's answer, as a value; its log is the list v. -/
def Trn.val (t : Trn) (v : Value) : Value := .agg #[.int .i64 t.warp, .int .i64 t.steps, .int .i64 t.segs, .int .i64 t.fault, .int .i64 t.fpc, .int .i64 t.fth, v]

/-- What a Turn of a machine answers and does, as the plain machine has it. -/
def TurnDone (w : World) (base : Nat) (m : PM) (pick bud : Int) (e : Ending) (w' : World) : Prop :=
  ∃ v, e = .returned (.tuple #[(turnP m pick bud).2.1.val v, .int .i64 (turnP m pick bud).2.2]) ∧ w'.ownsRow base 94 2 v (turnP m pick bud).2.1.log.length (flatL (turnP m pick bud).2.1.log) ∧ ((turnP m pick bud).2.2 ≠ 0 → v = .slice none 0 0) ∧ w.heap.size ≤ w'.heap.size

/-- The seven cells of an answer. -/
theorem seven_cells {w : World} {b : Nat} {v0 v1 v2 v3 v4 v5 v6 : Value} {t : TypeId} (h : w.heap[b]? = some (.cells #[v0, v1, v2, v3, v4, v5, v6] t)) :
    (w.cell? ⟨b, 0, none⟩ = some v0 ∧ w.cell? ⟨b, 1, none⟩ = some v1 ∧ w.cell? ⟨b, 2, none⟩ = some v2 ∧ w.cell? ⟨b, 3, none⟩ = some v3 ∧ w.cell? ⟨b, 4, none⟩ = some v4 ∧ w.cell? ⟨b, 5, none⟩ = some v5 ∧ w.cell? ⟨b, 6, none⟩ = some v6) ∧
    (w.frozen? ⟨b, 0, none⟩ = false ∧ w.frozen? ⟨b, 1, none⟩ = false ∧ w.frozen? ⟨b, 2, none⟩ = false ∧ w.frozen? ⟨b, 3, none⟩ = false ∧ w.frozen? ⟨b, 4, none⟩ = false ∧ w.frozen? ⟨b, 5, none⟩ = false ∧ w.frozen? ⟨b, 6, none⟩ = false) := by
  refine ⟨⟨?_, ?_, ?_, ?_, ?_, ?_, ?_⟩, ?_, ?_, ?_, ?_, ?_, ?_, ?_⟩
  all_goals first | (rw [cell_of_row w b _ _ t _ h]; rfl) | exact frozen_of_row w b _ _ t h

theorem seven_set {w : World} {b : Nat} {v0 v1 v2 v3 v4 v5 v6 : Value} {t : TypeId} (h : w.heap[b]? = some (.cells #[v0, v1, v2, v3, v4, v5, v6] t)) (u0 u1 u2 u3 u4 u5 u6 : Value) :
    (((((((w.setCell ⟨b, 0, none⟩ u0).setCell ⟨b, 1, none⟩ u1).setCell ⟨b, 2, none⟩ u2).setCell ⟨b, 3, none⟩ u3).setCell ⟨b, 4, none⟩ u4).setCell ⟨b, 5, none⟩ u5).setCell ⟨b, 6, none⟩ u6).heap[b]? = some (.cells #[u0, u1, u2, u3, u4, u5, u6] t) := by
  have s0 : (w.setCell ⟨b, 0, none⟩ u0).heap[b]? = some (.cells #[u0, v1, v2, v3, v4, v5, v6] t) := heap_setCell_same w b 0 _ t u0 h
  have s1 : ((w.setCell ⟨b, 0, none⟩ u0).setCell ⟨b, 1, none⟩ u1).heap[b]? = some (.cells #[u0, u1, v2, v3, v4, v5, v6] t) := heap_setCell_same _ b 1 _ t u1 s0
  have s2 : (((w.setCell ⟨b, 0, none⟩ u0).setCell ⟨b, 1, none⟩ u1).setCell ⟨b, 2, none⟩ u2).heap[b]? = some (.cells #[u0, u1, u2, v3, v4, v5, v6] t) := heap_setCell_same _ b 2 _ t u2 s1
  have s3 := heap_setCell_same _ b 3 _ t u3 s2
  have s4 := heap_setCell_same _ b 4 _ t u4 s3
  have s5 := heap_setCell_same _ b 5 _ t u5 s4
  exact heap_setCell_same _ b 6 _ t u6 s5

theorem seven_below (w : World) (b : Nat) (u0 u1 u2 u3 u4 u5 u6 : Value) :
    Below b w (((((((w.setCell ⟨b, 0, none⟩ u0).setCell ⟨b, 1, none⟩ u1).setCell ⟨b, 2, none⟩ u2).setCell ⟨b, 3, none⟩ u3).setCell ⟨b, 4, none⟩ u4).setCell ⟨b, 5, none⟩ u5).setCell ⟨b, 6, none⟩ u6) :=
  (((((((Below.refl b w).setCell (p := ⟨b, 0, none⟩) (Nat.le_refl b) u0).setCell (p := ⟨b, 1, none⟩) (Nat.le_refl b) u1).setCell (p := ⟨b, 2, none⟩) (Nat.le_refl b) u2).setCell (p := ⟨b, 3, none⟩) (Nat.le_refl b) u3).setCell (p := ⟨b, 4, none⟩) (Nat.le_refl b) u4).setCell (p := ⟨b, 5, none⟩) (Nat.le_refl b) u5).setCell (p := ⟨b, 6, none⟩) (Nat.le_refl b) u6

theorem seven_owns {w : World} {b base : Nat} {e : TypeId} {size : Nat} {v : Value} {n : Nat} {xs : List Value} (h : w.ownsRow base e size v n xs) (hl : ∀ g, v.ownBlock = some g → g ≠ b) (u0 u1 u2 u3 u4 u5 u6 : Value) :
    (((((((w.setCell ⟨b, 0, none⟩ u0).setCell ⟨b, 1, none⟩ u1).setCell ⟨b, 2, none⟩ u2).setCell ⟨b, 3, none⟩ u3).setCell ⟨b, 4, none⟩ u4).setCell ⟨b, 5, none⟩ u5).setCell ⟨b, 6, none⟩ u6).ownsRow base e size v n xs :=
  owns_setCell (owns_setCell (owns_setCell (owns_setCell (owns_setCell (owns_setCell (owns_setCell h hl _) hl _) hl _) hl _) hl _) hl _) hl _

end Go.Proofs.YtbhbacphiinpeaaGreat

