/- What loomkeep's run answers: what lies in memory. -/
import Derived.Test.YtbhbacphiinpeaaSf
import Derived.Deep.AppendLies
import Derived.BigRegion
import Derived.Deep.Cut
import Derived.Deep.OwnRows
import Derived.Deep.RegionLaw
import Derived.Deep.RegionHeld3
namespace Go.Proofs.Ytbhbacphiinpeaa
open Go.RowKit

theorem Try.infoI53 : (Try.prog.info? 64).map (fun i => (i.zero, i.size, i.bytes)) = some (some (.agg #[.int .i64 0, .int .i64 0]), 2, 16) := by kernel_rfl

theorem Try.infoI32 : (Try.prog.info? 47).map (fun i => (i.zero, i.size, i.bytes)) = some (some (.slice none 0 0), 1, 24) := by kernel_rfl
theorem Try.infoS36 : (Try.prog.info? 51).map (·.size) = some 10 := by kernel_rfl
theorem made_rep (z : Value) (n : Nat) : madeCells #[z] n = (List.replicate n z).toArray := by
  unfold madeCells
  apply Array.ext'
  simp
  apply List.ext_getElem
  · simp
  · intro i h1 h2
    simp [Nat.mod_one]

theorem logs_start {w : World} {bL base c : Nat} (h : w.heap[bL]? = some (.cells (List.replicate c (.slice none 0 0)).toArray 47)) : LogsAt w bL base c (rn0 c).logs (List.replicate c (.slice none 0 0)) := by
  refine ⟨by simp [rn0], by simp, h, fun i l v hl hv => ?_, fun i j vi vj g hi _ hg _ => ?_⟩
  · simp only [rn0, List.getElem?_replicate] at hl hv
    split at hl
    · rw [if_pos (by assumption)] at hv
      cases hl; cases hv
      exact World.ownsRow_nil _ _ _ _
    · cases hl
  · simp only [List.getElem?_replicate] at hi
    split at hi
    · cases hi; simp [Value.ownBlock] at hg
    · cases hi

theorem ten_cells {w : World} {b : Nat} {v0 v1 v2 v3 v4 v5 v6 v7 v8 v9 : Value} {t : TypeId} (h : w.heap[b]? = some (.cells #[v0, v1, v2, v3, v4, v5, v6, v7, v8, v9] t)) :
    (w.cell? ⟨b, 0, none⟩ = some v0 ∧ w.cell? ⟨b, 1, none⟩ = some v1 ∧ w.cell? ⟨b, 2, none⟩ = some v2 ∧ w.cell? ⟨b, 3, none⟩ = some v3 ∧ w.cell? ⟨b, 4, none⟩ = some v4 ∧ w.cell? ⟨b, 5, none⟩ = some v5 ∧ w.cell? ⟨b, 6, none⟩ = some v6 ∧ w.cell? ⟨b, 7, none⟩ = some v7 ∧ w.cell? ⟨b, 8, none⟩ = some v8 ∧ w.cell? ⟨b, 9, none⟩ = some v9) ∧
    (∀ i, w.frozen? ⟨b, i, none⟩ = false) := by
  refine ⟨⟨?_, ?_, ?_, ?_, ?_, ?_, ?_, ?_, ?_, ?_⟩, fun i => frozen_of_row w b _ _ t h⟩
  all_goals (rw [cell_of_row w b _ _ t _ h]; rfl)

/-- The run's boxes: its result (not yet stored), its lists, and the run itself. -/
structure RunS (w wr : World) (b : Nat) (L : XM) (c : Nat) (st : Int) (r : Rn) (tv : Value) (vs : List Value) : Prop where
  size : b + 3 ≤ wr.heap.size
  res : wr.heap[b]? = some (.cells #[.slice none 0 0, .int .i64 0, .int .i64 0, .int .i64 0, .int .i64 0, .int .i64 0, .int .i64 0, .int .i64 0, .int .i64 0, .slice none 0 0] 51)
  box : wr.heap[b + 1 + 1]? = some (.cells #[.slice (some ⟨b + 1, 0, none⟩) c c, .int .i64 r.steps, .int .i64 st, .int .i64 r.last.warp, .int .i64 r.last.steps, .int .i64 r.last.segs, .int .i64 r.last.fault, .int .i64 r.last.fpc, .int .i64 r.last.fth, tv] 51)
  logs : LogsAt wr (b + 1) (b + 3) c r.logs vs
  chg : Chg [L.bX] w wr

theorem LogsAt.keep {w w' : World} {bL base c : Nat} {logs : List (List (Int × Int))} {vs : List Value} (h : LogsAt w bL base c logs vs) (hk : ∀ g, (g = bL ∨ (base ≤ g ∧ g < w.heap.size ∧ ∃ cs, w.heap[g]? = some (.cells cs 64))) → w'.heap[g]? = w.heap[g]?) : LogsAt w' bL base c logs vs :=
  ⟨h.len, h.vl, (hk _ (.inl rfl)).trans h.row, fun i l v hl hv => owns_same (h.own i l v hl hv) fun g hg => hk g (.inr (by
    have ho := h.own i l v hl hv
    have := ho.lt g hg
    refine ⟨this.1, this.2, ?_⟩
    rcases ho.2 with ⟨h0, -⟩ | ⟨g', cap, cur, hv', hB, hh, -⟩
    · rw [h0] at hg; simp [Value.ownBlock] at hg
    · rw [hv'] at hg
      simp only [Value.ownBlock, Option.some.injEq] at hg
      subst hg
      exact ⟨cur, hh⟩)), h.apart⟩

theorem Chg.then {X : List Nat} {w w' w'' : World} (h : Chg X w w') (hb : Below w.heap.size w' w'') : Chg X w w'' :=
  ⟨hb.os.trans h.os, hb.tape.trans h.tape, hb.output.trans h.output, Nat.le_trans h.size hb.size, fun k hk hX => (hb.block k hk).trans (h.block k hk hX)⟩

theorem RunS.of_chg {w wr wr' : World} {b : Nat} {L : XM} {c : Nat} {st : Int} {r : Rn} {tv : Value} {vs : List Value} (h : RunS w wr b L c st r tv vs) (hc : Chg [L.bX] wr wr') (hbX : L.bX < b) : RunS w wr' b L c st r tv vs := by
  have hs := h.size
  have hne : ∀ g, b ≤ g → g ∉ [L.bX] := fun g hg hm => by simp at hm; omega
  refine ⟨Nat.le_trans hs hc.size, (hc.block b (by omega) (hne b (by omega))).trans h.res, (hc.block (b + 1 + 1) (by omega) (hne _ (by omega))).trans h.box, h.logs.keep fun g hg => ?_, h.chg.trans hc⟩
  rcases hg with rfl | ⟨h1, h2, -⟩
  · exact hc.block _ (by omega) (hne _ (by omega))
  · exact hc.block _ h2 (hne _ (by omega))

theorem RunS.boxSet {w wr : World} {b : Nat} {L : XM} {c : Nat} {st : Int} {r : Rn} {tv : Value} {vs : List Value} (h : RunS w wr b L c st r tv vs) (hb : w.heap.size = b) (i : Nat) (v : Value) {st' : Int} {r' : Rn} {tv' : Value} (hl : r'.logs = r.logs)
    (hx : (#[.slice (some ⟨b + 1, 0, none⟩) c c, .int .i64 r.steps, .int .i64 st, .int .i64 r.last.warp, .int .i64 r.last.steps, .int .i64 r.last.segs, .int .i64 r.last.fault, .int .i64 r.last.fpc, .int .i64 r.last.fth, tv] : Array Value).setIfInBounds i v = #[.slice (some ⟨b + 1, 0, none⟩) c c, .int .i64 r'.steps, .int .i64 st', .int .i64 r'.last.warp, .int .i64 r'.last.steps, .int .i64 r'.last.segs, .int .i64 r'.last.fault, .int .i64 r'.last.fpc, .int .i64 r'.last.fth, tv']) :
    RunS w (wr.setCell ⟨b + 1 + 1, i, none⟩ v) b L c st' r' tv' vs := by
  have hs := h.size
  have hB : Below w.heap.size wr (wr.setCell ⟨b + 1 + 1, i, none⟩ v) := (Below.refl _ _).setCell (p := ⟨b + 1 + 1, i, none⟩) (by show w.heap.size ≤ b + 1 + 1; omega) v
  refine ⟨Nat.le_trans hs hB.size, (heap_setCell_other wr _ b v (by show b ≠ b + 1 + 1; omega)).trans h.res, ?_, ?_, h.chg.then hB⟩
  · rw [heap_setCell_same wr (b + 1 + 1) i _ 51 v h.box, hx]
  · rw [hl]
    exact h.logs.keep fun g hg => heap_setCell_other wr _ g v (by
      show g ≠ b + 1 + 1
      rcases hg with rfl | ⟨h1, -, -⟩ <;> omega)

theorem XAt.off {w : World} {L : XM} {m : PM} {x : QM} {b : Nat} (h : XAt w L m x) (hb : ∀ g, (g = L.bX ∨ g = L.gK ∨ g = L.gJ) → g < b) {a : Addr} (ha : b ≤ a.block) (v : Value) : XAt (w.setCell a v) L m x :=
  h.keep fun g hg => heap_setCell_other w a g v (by have := hb g hg; omega)

theorem flatL_length (l : List (Int × Int)) : (flatL l).length = l.length * 2 := by
  induction l with
  | nil => rfl
  | cons a l ih => simp only [flatL, List.flatMap_cons, List.length_append, List.length_cons] at ih ⊢; simp at ih ⊢; omega
theorem flatL_append (l m : List (Int × Int)) : flatL (l ++ m) = flatL l ++ flatL m := by simp [flatL]
theorem flatL_one (l : List (Int × Int)) : ∀ u ∈ flatL l, u.oneCell' = true := by
  intro u hu
  simp only [flatL, List.mem_flatMap] at hu
  obtain ⟨x, -, hu⟩ := hu
  simp at hu
  rcases hu with rfl | rfl <;> rfl

/-- Behind an append to a warp's list, stored in its place. -/
theorem RunS.logged {w wr w5 : World} {b : Nat} {L : XM} {c : Nat} {st : Int} {r : Rn} {tv : Value} {vs : List Value} (h : RunS w wr b L c st r tv vs) (hb : w.heap.size = b) {q : Nat} {lq ln : List (Int × Int)} {vq : Value} (hq : r.logs[q]? = some lq) (hv : vs[q]? = some vq)
    {gg cap : Nat} (hown : w5.ownsRow (b + 3) 64 2 (.slice (some ⟨gg, 0, none⟩) (lq.length + ln.length) cap) (lq.length + ln.length) (flatL lq ++ flatL ln)) (hg : wr.drew.grownBy w5 vq.ownBlock) (hat : vq.ownBlock = some gg ∨ gg = wr.heap.size) :
    RunS w (w5.setCell ⟨b + 1, q, none⟩ (.slice (some ⟨gg, 0, none⟩) (lq.length + ln.length) cap)) b L c st { r with logs := r.logs.set q (lq ++ ln) } tv (vs.set q (.slice (some ⟨gg, 0, none⟩) (lq.length + ln.length) cap)) := by
  have hs := h.size
  have hoq := h.logs.own q lq vq hq hv
  have far : ∀ g, g < wr.heap.size → vq.ownBlock ≠ some g → w5.heap[g]? = wr.heap[g]? := fun g h1 h2 => hg.block g h1 (fun e => h2 e.symm)
  have low : ∀ g, g < b + 3 → w5.heap[g]? = wr.heap[g]? := fun g h1 => far g (by omega) fun e => by have := (hoq.lt g e).1; omega
  have hql : q < c := by have := (List.getElem?_eq_some_iff.1 hq).1; rw [h.logs.len] at this; exact this
  have hbel : Below w.heap.size wr w5 := ⟨hg.os, hg.tape, hg.output, hg.size, fun k hk => low k (by omega)⟩
  have hB : Below w.heap.size w5 (w5.setCell ⟨b + 1, q, none⟩ (.slice (some ⟨gg, 0, none⟩) (lq.length + ln.length) cap)) := (Below.refl _ _).setCell (p := ⟨b + 1, q, none⟩) (by show w.heap.size ≤ b + 1; omega) _
  have oth : ∀ g, g ≠ b + 1 → (w5.setCell ⟨b + 1, q, none⟩ (.slice (some ⟨gg, 0, none⟩) (lq.length + ln.length) cap)).heap[g]? = w5.heap[g]? := fun g hne => heap_setCell_other w5 _ g _ hne
  refine ⟨Nat.le_trans (Nat.le_trans hs hg.size) hB.size, (oth b (by omega)).trans ((low b (by omega)).trans h.res), (oth (b + 1 + 1) (by omega)).trans ((low _ (by omega)).trans h.box), ⟨by simp [h.logs.len], by simp [h.logs.vl], ?_, ?_, ?_⟩, (h.chg.then hbel).then hB⟩
  · rw [heap_setCell_same w5 (b + 1) q _ 47 _ ((low _ (by omega)).trans h.logs.row)]
    simp
  · intro i l v hl hv'
    by_cases hiq : i = q
    · subst hiq
      simp only [List.getElem?_set, h.logs.len, h.logs.vl, hql, if_true] at hl hv'
      cases hl; cases hv'
      rw [List.length_append, flatL_append]
      exact owns_setCell hown (fun g hg' => by have := (hown.lt g hg').1; show g ≠ b + 1; omega) _
    · rw [List.getElem?_set_ne (fun e => hiq e.symm)] at hl hv'
      have ho := h.logs.own i l v hl hv'
      refine owns_setCell (owns_same ho fun g hg' => far g (ho.lt g hg').2 fun e => ?_) (fun g hg' => by have := (ho.lt g hg').1; show g ≠ b + 1; omega) _
      exact hiq (h.logs.apart i q v vq g hv' hv hg' e)
  · intro i j vi vj g hi hj hgi hgj
    have key : ∀ (i : Nat) vi, i ≠ q → vs[i]? = some vi → vi.ownBlock = some g → gg = g → False := fun i vi hne hvi hgi he => by
      subst he
      rcases hat with e | e
      · exact hne (h.logs.apart i q vi vq gg hvi hv hgi e)
      · have hil : i < r.logs.length := by rw [h.logs.len, ← h.logs.vl]; exact (List.getElem?_eq_some_iff.1 hvi).1
        have := ((h.logs.own i _ vi (List.getElem?_eq_getElem hil) hvi).lt gg hgi).2
        omega
    by_cases hiq : i = q
    · by_cases hjq : j = q
      · omega
      · subst hiq
        simp only [List.getElem?_set, h.logs.vl, hql, if_true] at hi
        cases hi
        rw [List.getElem?_set_ne (fun e => hjq e.symm)] at hj
        simp only [Value.ownBlock, Option.some.injEq] at hgi
        exact (key j vj hjq hj hgj hgi).elim
    · rw [List.getElem?_set_ne (fun e => hiq e.symm)] at hi
      by_cases hjq : j = q
      · subst hjq
        simp only [List.getElem?_set, h.logs.vl, hql, if_true] at hj
        cases hj
        simp only [Value.ownBlock, Option.some.injEq] at hgj
        exact (key i vi hiq hi hgi hgj).elim
      · rw [List.getElem?_set_ne (fun e => hjq e.symm)] at hj
        exact h.logs.apart i j vi vj g hi hj hgi hgj


end Go.Proofs.Ytbhbacphiinpeaa
