/- Vc: joined. -/
import Derived.Test.YtbhbacphiinpeaaGreatZ42
import Derived.Deep.DeepCutAuto

/- What 'machine' (of loomlaw) answers and keeps: Turn. -/
namespace Go.Proofs.YtbhbacphiinpeaaGreat
open Go.RowKit

theorem cell_seven {w : World} {b : Nat} {a : Addr} (h : a.block ≠ b) (u0 u1 u2 u3 u4 u5 u6 : Value) :
    (((((((w.setCell ⟨b, 0, none⟩ u0).setCell ⟨b, 1, none⟩ u1).setCell ⟨b, 2, none⟩ u2).setCell ⟨b, 3, none⟩ u3).setCell ⟨b, 4, none⟩ u4).setCell ⟨b, 5, none⟩ u5).setCell ⟨b, 6, none⟩ u6).cell? a = w.cell? a := by
  have k : ∀ (w : World) (i : Nat) (u : Value), (w.setCell ⟨b, i, none⟩ u).cell? a = w.cell? a := fun w i u => World.cell?_of_block (Below.heap_setCell _ _ _ _ h)
  rw [k, k, k, k, k, k, k]

/-- Behind the program's turn. -/
structure TX (w1 wc : World) (P : Pw) (m' : PM) (T : Trn) (E : Int) (bt : Nat) (v : Value) : Prop where
  box : wc.heap[bt]? = some (.cells #[.int .i64 T.warp, .int .i64 T.steps, .int .i64 T.segs, .int .i64 T.fault, .int .i64 T.fpc, .int .i64 T.fth, v] 76)
  new : w1.heap.size ≤ bt
  row : wc.ownsRow w1.heap.size 94 2 v T.log.length (flatL T.log)
  nil : E ≠ 0 → v = .slice none 0 0
  x : ∃ x', XAt wc P.LX m' x'
  chg : Chg [P.LX.bX] w1 wc

theorem Chg.alloc {X : List Nat} {w w' : World} (h : Chg X w w') (o : Obj) : Chg X w (w'.alloc o) := h.trans (.of_below ((Below.refl _ _).alloc (Nat.le_refl _) _))
theorem Chg.lowB {X : List Nat} {w w1 w2 : World} (h : Chg X w w1) (hb : Below w.heap.size w1 w2) : Chg X w w2 :=
  ⟨hb.os.trans h.os, hb.tape.trans h.tape, hb.output.trans h.output, Nat.le_trans h.size hb.size, fun b hbl hX => (hb.block b hbl).trans (h.block b hbl hX)⟩

theorem TX.mkA {w1 w4 : World} {P : Pw} {m' : PM} {T : Trn} {E : Int} {va : Option Addr} {lv vc : Nat} (hcg : Chg [P.LX.bX] w1.drew w4) (hlv : T.log.length = lv) (ho : w4.ownsRow w1.heap.size 94 2 (.slice va lv vc) lv (flatL T.log)) (hn : E ≠ 0 → Value.slice va lv vc = .slice none 0 0) (hx : ∃ x', XAt w4 P.LX m' x') :
    TX w1 (w4.alloc (.cells #[.int .i64 T.warp, .int .i64 T.steps, .int .i64 T.segs, .int .i64 T.fault, .int .i64 T.fpc, .int .i64 T.fth, .slice va lv vc] 76)) P m' T E w4.heap.size (.slice va lv vc) := by
  obtain ⟨x', hx⟩ := hx
  have hc : Chg [P.LX.bX] w1 w4 := ⟨hcg.os, hcg.tape, hcg.output, hcg.size, hcg.block⟩
  exact ⟨heap_alloc_new w4 _, hc.size, by rw [hlv]; exact ho.alloc _, hn, ⟨x', hx.up ((Below.refl _ _).alloc (Nat.le_refl _) _)⟩, hc.alloc _⟩

theorem TX.mkB {w1 w4 : World} {P : Pw} {m m' : PM} {T : Trn} {E : Int} {va : Option Addr} {lv vc : Nat} {y0 y1 y2 y3 y4 y5 y6 : Value} {o : Obj} (h : PairAt w1 P m) (hcg : Chg [P.LX.bX] (w1.alloc o).drew w4) (hlv : T.log.length = lv) (ho : w4.ownsRow (w1.alloc o).heap.size 94 2 (.slice va lv vc) lv (flatL T.log)) (hn : E ≠ 0 → Value.slice va lv vc = .slice none 0 0) (hx : ∃ x', XAt w4 P.LX m' x')
    (hb : w4.heap[w1.heap.size]? = some (.cells #[y0, y1, y2, y3, y4, y5, y6] 76)) :
    TX w1 (((((((w4.setCell ⟨w1.heap.size, 0, none⟩ (.int .i64 T.warp)).setCell ⟨w1.heap.size, 1, none⟩ (.int .i64 T.steps)).setCell ⟨w1.heap.size, 2, none⟩ (.int .i64 T.segs)).setCell ⟨w1.heap.size, 3, none⟩ (.int .i64 T.fault)).setCell ⟨w1.heap.size, 4, none⟩ (.int .i64 T.fpc)).setCell ⟨w1.heap.size, 5, none⟩ (.int .i64 T.fth)).setCell ⟨w1.heap.size, 6, none⟩ (.slice va lv vc)) P m' T E w1.heap.size (.slice va lv vc) := by
  obtain ⟨x', hx⟩ := hx
  obtain ⟨x0, hx0⟩ := h.x
  have hc : Chg [P.LX.bX] w1 w4 := (Chg.of_below ((Below.refl _ w1).alloc (Nat.le_refl _) o)).trans ⟨hcg.os, hcg.tape, hcg.output, hcg.size, hcg.block⟩
  have bz := seven_below w4 w1.heap.size (.int .i64 T.warp) (.int .i64 T.steps) (.int .i64 T.segs) (.int .i64 T.fault) (.int .i64 T.fpc) (.int .i64 T.fth) (.slice va lv vc)
  have hne : ∀ g, (Value.slice va lv vc).ownBlock = some g → g ≠ w1.heap.size := fun g hg e => by
    have := (ho.lt g hg).1
    simp only [World.size_alloc] at this
    omega
  exact ⟨seven_set hb _ _ _ _ _ _ _, Nat.le_refl _, by rw [hlv]; exact seven_owns (owns_down ho (by simp)) hne _ _ _ _ _ _ _, hn, ⟨x', hx.keep fun g hg => bz.block g (hx0.mx.lt hg)⟩, hc.lowB bz⟩

theorem MachAt.chgX {w w' : World} {P : Pw} {m : PM} (h : PairAt w P m) (hc : Chg [P.LX.bX] w w') : MachAt w' P.LR P.gW P.cW P.vs m := by
  obtain ⟨x, hx⟩ := h.x
  refine mach_frame h.y fun b cs t fr e ht _ => hc.block b (blk_lt e) fun hm => ?_
  have := List.mem_singleton.1 hm
  subst this
  rw [hx.mx.blk] at e
  simp only [Option.some.injEq, Obj.cells.injEq] at e
  obtain ⟨-, rfl, -⟩ := e
  simp at ht

theorem y_types {w : World} {L : RM} {gW cW : Nat} {vs : List Value} {m : PM} (h : MachAt w L gW cW vs m) {b : Nat} (hb : b ∈ L.Y gW) : ∃ cs t fr, w.heap[b]? = some (.cells cs t fr) ∧ (t ∈ [85, 116, 118] ∨ (t = 3 ∧ b = L.gM)) := by
  simp only [RM.Y, List.mem_cons, List.not_mem_nil, or_false] at hb
  rcases hb with rfl | rfl | rfl | rfl
  · exact ⟨_, _, _, h.core.blk, .inl (by simp)⟩
  · obtain ⟨cs, e⟩ := owns_blk h.core.rT; exact ⟨_, _, _, e, .inl (by simp)⟩
  · obtain ⟨cs, e⟩ := owns_blk h.rW; exact ⟨_, _, _, e, .inl (by simp)⟩
  · obtain ⟨cs, e⟩ := owns_blk h.core.rM; exact ⟨_, _, _, e, .inr ⟨rfl, rfl⟩⟩

/-- Behind both turns. -/
structure TY (w1 wc wd : World) (P : Pw) (m' : PM) (T : Trn) (bt bu : Nat) (v u : Value) : Prop where
  tx : wd.heap[bt]? = some (.cells #[.int .i64 T.warp, .int .i64 T.steps, .int .i64 T.segs, .int .i64 T.fault, .int .i64 T.fpc, .int .i64 T.fth, v] 76)
  ty : wd.heap[bu]? = some (.cells #[.int .i64 T.warp, .int .i64 T.steps, .int .i64 T.segs, .int .i64 T.fault, .int .i64 T.fpc, .int .i64 T.fth, u] 76)
  rx : wd.ownsRow w1.heap.size 94 2 v T.log.length (flatL T.log)
  ry : wd.ownsRow wc.heap.size 94 2 u T.log.length (flatL T.log)
  x : ∃ x', XAt wd P.LX m' x'
  y : MachAt wd P.LR P.gW P.cW P.vs m'
  chg : Chg P.X w1 wd

/-- The document's turn behind the program's. -/
theorem TX.then {w1 wc wd : World} {P : Pw} {m m' : PM} {T : Trn} {E : Int} {bt : Nat} {v : Value} (h : TX w1 wc P m' T E bt v) (hne : P.LX.gJ ≠ P.LR.gM) (hY : MachAt wc P.LR P.gW P.cW P.vs m) (hF : Chg (P.LR.Y P.gW) wc wd) :
    wd.heap[bt]? = wc.heap[bt]? ∧ wd.ownsRow w1.heap.size 94 2 v T.log.length (flatL T.log) ∧ (∃ x', XAt wd P.LX m' x') ∧ Chg P.X w1 wd := by
  have same : ∀ (b : Nat) (cs : Array Value) (t : TypeId) (fr : Nat × Nat), wc.heap[b]? = some (.cells cs t fr) → t ∉ [85, 116, 118] → (t = 3 → b ≠ P.LR.gM) → wd.heap[b]? = wc.heap[b]? := fun b cs t fr e ht h3 => hF.block b (blk_lt e) fun hm => by
    obtain ⟨cs', t', fr', e', h'⟩ := y_types hY hm
    rw [e] at e'
    simp only [Option.some.injEq, Obj.cells.injEq] at e'
    obtain ⟨-, rfl, -⟩ := e'
    rcases h' with h' | ⟨h', h''⟩
    · exact ht h'
    · exact h3 h' h''
  refine ⟨same bt _ _ _ h.box (by decide) (fun e => by cases e), ?_, ?_, ?_⟩
  · obtain ⟨k1, k2⟩ := h.row
    refine ⟨k1, ?_⟩
    rcases k2 with k2 | ⟨g, cap, cur, rfl, hgb, hh, r⟩
    · exact .inl k2
    · exact .inr ⟨g, cap, cur, rfl, hgb, (same g _ _ _ hh (by decide) (fun e => by cases e)).trans hh, r⟩
  · obtain ⟨x', hx⟩ := h.x
    refine ⟨x', hx.keep fun g hg => ?_⟩
    obtain ⟨cs, t, fr, e, ht⟩ := x_types hx hg
    refine same g cs t fr e (fun hm => ?_) (fun h3 => ?_)
    · simp only [List.mem_cons, List.not_mem_nil, or_false] at ht hm
      rcases ht with rfl | rfl | rfl <;> simp at hm
    · subst h3
      rcases hg with rfl | rfl | rfl
      · rw [hx.mx.blk] at e; simp only [Option.some.injEq, Obj.cells.injEq] at e; exact absurd e.2.1 (by decide)
      · obtain ⟨cs', e'⟩ := owns_blk hx.mx.rK; rw [e] at e'; simp only [Option.some.injEq, Obj.cells.injEq] at e'; exact absurd e'.2.1 (by decide)
      · exact hne
  · refine (h.chg.sub fun x hx => ?_).trans (hF.sub fun x hx => ?_)
    · have := List.mem_singleton.1 hx; subst this; simp [Pw.X]
    · simp only [RM.Y, Pw.X, List.mem_cons, List.not_mem_nil, or_false] at hx ⊢
      rcases hx with rfl | rfl | rfl | rfl <;> simp

def issL (l : List (Int × Int)) : List Iss := l.map fun x => ⟨x.1, x.2⟩
theorem flatI_L (l : List (Int × Int)) : flatI (issL l) = flatL l := by
  induction l with
  | nil => rfl
  | cons x l ih =>
    unfold issL flatI flatL at *
    simp only [List.map_cons, List.flatMap_cons]
    rw [ih]; rfl
theorem sees_log {w : World} {base : Nat} {v : Value} {l : List (Int × Int)} (hl : l.length ≤ 2000) (h : w.ownsRow base 94 2 v l.length (flatL l)) : SeesL w v (issL l) := by
  have e : (issL l).length = l.length := by simp [issL]
  exact ownsRow_seesL (by rw [e]; omega) (by rw [e, flatI_L]; exact h)

theorem val_cells (T : Trn) (v : Value) : T.val v = .agg #[.int .i64 T.warp, .int .i64 T.steps, .int .i64 T.segs, .int .i64 T.fault, .int .i64 T.fpc, .int .i64 T.fth, v] := rfl

/-- Behind 'ownLog'. -/
theorem kept_log {w wd w4 : World} {BW : Nat} {vps : Value} {ei ec eg : List Ent} {Ps : List (Pw × PM)} {en : Ent} {B j : Nat} {P : Pw} {m m' : PM} (h : InvA w BW vps ei ec eg Ps) (hj : Ps[j]? = some (P, m)) (hc : Chg P.X w wd) (hp : PairAt wd P m') (hI : InvG w4 w4.heap.size BW vps ei ec (eg ++ [en])) (hBW : Below BW wd w4) (hB : w.heap.size ≤ B) (hf : OwnFr B BW 52 wd w4) : Kept w BW vps ei ec eg Ps w4 := by
  have A1 := h.turn hj hc hp
  obtain ⟨vi, vc, vg, h1, h2, -⟩ := A1.g
  have same : ∀ (b : Nat) (cs : Array Value) (t : TypeId) (fr : Nat × Nat), wd.heap[b]? = some (.cells cs t fr) → t ∉ [34, 52] → b < w.heap.size → w4.heap[b]? = wd.heap[b]? := fun b cs t fr hb ht hlt => hf b (by omega) (fun e => by
    subst e
    rw [h1] at hb
    simp only [Option.some.injEq, Obj.cells.injEq] at hb
    obtain ⟨-, rfl, -⟩ := hb
    simp at ht) (fun cs' fr' e => by rw [hb] at e; simp only [Option.some.injEq, Obj.cells.injEq] at e; obtain ⟨-, rfl, -⟩ := e; simp at ht)
  have hsz : w.heap.size ≤ w4.heap.size := Nat.le_trans hc.size hBW.size
  have hrow : w4.ownsRow (BW + 1) 41 1 vps (Ps.set j (P, m')).length ((Ps.set j (P, m')).map fun p => .pointer (some ⟨p.1.bP, 0, none⟩)) := by
    obtain ⟨k1, k2⟩ := A1.row
    refine ⟨k1, ?_⟩
    rcases k2 with k2 | ⟨g, cap, cur, rfl, hgb, hh, r⟩
    · exact .inl k2
    · refine .inr ⟨g, cap, cur, rfl, hgb, (same g _ _ _ hh (by decide) ?_).trans hh, r⟩
      exact (h.row.lt g rfl).2
  have hpm : ∀ p, p ∈ Ps.set j (P, m') → ∃ p0 ∈ Ps, p0.1 = p.1 := fun p hp' => by
    rcases List.mem_or_eq_of_mem_set hp' with h0 | rfl
    · exact ⟨p, h0, rfl⟩
    · exact ⟨_, List.mem_of_getElem? hj, rfl⟩
  refine ⟨[], [en], Ps.set j (P, m'), ?_, ⟨by simp, by simp, by simp⟩, (hc.below (fun x hx => ?_) (Nat.le_of_lt h.bw)).trans hBW, fun b cs t fr e ht => ?_⟩
  · rw [List.append_nil]
    refine ⟨hI, hrow, fun p hp' => (A1.each p hp').keep fun b hb cs t fr e ht => same b cs t fr e (fun hx => ?_) ?_, A1.apart, fun p hp' => ?_, A1.ents⟩
    · simp only [List.mem_cons, List.not_mem_nil, or_false] at ht hx
      rcases ht with rfl | rfl | rfl | rfl | rfl | rfl | rfl <;> simp at hx
    · obtain ⟨p0, a1, a2⟩ := hpm p hp'
      have h3 := ((A1.each p hp').foot b hb).2
      have h4 := (h.out p0 a1).2
      rw [a2] at h4
      omega
    · obtain ⟨p0, a1, a2⟩ := hpm p hp'
      have h4 := h.out p0 a1
      rw [a2] at h4
      exact ⟨h4.1, Nat.le_trans h4.2 hsz⟩
  · have hP : PairAt w P m := h.each _ (List.mem_of_getElem? hj)
    have h5 := (hP.foot x (hP.xfeet hx)).1
    have h6 := (h.out _ (List.mem_of_getElem? hj)).1
    dsimp only at h6
    omega
  · have hP : PairAt w P m := h.each _ (List.mem_of_getElem? hj)
    have e1 : wd.heap[b]? = w.heap[b]? := hc.block b (blk_lt e) fun hx => by
      obtain ⟨cs', t', fr', e', h'⟩ := hP.xtypes hx
      rw [e] at e'
      simp only [Option.some.injEq, Obj.cells.injEq] at e'
      obtain ⟨-, rfl, -⟩ := e'
      rcases ht with rfl | rfl
      · rcases h' with h' | ⟨h', -⟩
        · simp at h'
        · cases h'
      · rcases h' with h' | ⟨h', -⟩
        · simp at h'
        · cases h'
    refine (same b cs t fr (e1.trans e) (fun hx => ?_) (blk_lt e)).trans e1
    rcases ht with rfl | rfl <;> simp at hx

theorem turn_len {m : PM} (h : PMok m) (pick bud : Int) : (turnP m pick bud).1.ts.length = m.ts.length := by
  unfold turnP
  by_cases h0 : m.st = 0
  · rw [if_neg (by omega)]
    split
    · rfl
    · simp only
      rw [after_ts]
      exact ((play_at h h0 (ready_mem.1 (pick_mem (h.rdy h0) pick)).1 bud.toNat).2.1 h.regs).2.1
  · rw [if_pos h0]

theorem TY.mkA {w1 wc w4 : World} {P : Pw} {m m' : PM} {T : Trn} {E : Int} {bt : Nat} {v : Value} {va : Option Addr} {lv vc : Nat} (h : TX w1 wc P m' T E bt v) (hne : P.LX.gJ ≠ P.LR.gM) (hY : MachAt wc P.LR P.gW P.cW P.vs m) (hcg : Chg (P.LR.Y P.gW) wc.drew w4) (hlv : T.log.length = lv) (ho : w4.ownsRow wc.heap.size 94 2 (.slice va lv vc) lv (flatL T.log)) (hy : MachAt w4 P.LR P.gW P.cW P.vs m') :
    TY w1 wc (w4.alloc (.cells #[.int .i64 T.warp, .int .i64 T.steps, .int .i64 T.segs, .int .i64 T.fault, .int .i64 T.fpc, .int .i64 T.fth, .slice va lv vc] 76)) P m' T bt w4.heap.size v (.slice va lv vc) := by
  have hc : Chg (P.LR.Y P.gW) wc w4 := ⟨hcg.os, hcg.tape, hcg.output, hcg.size, hcg.block⟩
  obtain ⟨t1, t2, ⟨x', t3⟩, t4⟩ := h.then hne hY hc
  have hb := t1.trans h.box
  have hu : Below w4.heap.size w4 (w4.alloc (.cells #[.int .i64 T.warp, .int .i64 T.steps, .int .i64 T.segs, .int .i64 T.fault, .int .i64 T.fpc, .int .i64 T.fth, .slice va lv vc] 76)) := (Below.refl _ _).alloc (Nat.le_refl _) _
  exact ⟨(hu.block bt (blk_lt hb)).trans hb, heap_alloc_new w4 _, t2.alloc _, by rw [hlv]; exact ho.alloc _, ⟨x', t3.up hu⟩, hy.up hu, t4.alloc _⟩

theorem TY.mkB {w1 wc w4 : World} {P : Pw} {m m' : PM} {T : Trn} {E : Int} {bt : Nat} {v : Value} {va : Option Addr} {lv vc : Nat} {y0 y1 y2 y3 y4 y5 y6 : Value} {o : Obj} (h : TX w1 wc P m' T E bt v) (hne : P.LX.gJ ≠ P.LR.gM) (hY : MachAt wc P.LR P.gW P.cW P.vs m) (hl : m'.ts.length = m.ts.length) (hcg : Chg (P.LR.Y P.gW) (wc.alloc o).drew w4) (hlv : T.log.length = lv) (ho : w4.ownsRow (wc.alloc o).heap.size 94 2 (.slice va lv vc) lv (flatL T.log)) (hy : MachAt w4 P.LR P.gW P.cW P.vs m')
    (hb : w4.heap[wc.heap.size]? = some (.cells #[y0, y1, y2, y3, y4, y5, y6] 76)) :
    TY w1 wc (((((((w4.setCell ⟨wc.heap.size, 0, none⟩ (.int .i64 T.warp)).setCell ⟨wc.heap.size, 1, none⟩ (.int .i64 T.steps)).setCell ⟨wc.heap.size, 2, none⟩ (.int .i64 T.segs)).setCell ⟨wc.heap.size, 3, none⟩ (.int .i64 T.fault)).setCell ⟨wc.heap.size, 4, none⟩ (.int .i64 T.fpc)).setCell ⟨wc.heap.size, 5, none⟩ (.int .i64 T.fth)).setCell ⟨wc.heap.size, 6, none⟩ (.slice va lv vc)) P m' T bt wc.heap.size v (.slice va lv vc) := by
  have hc : Chg (P.LR.Y P.gW) wc w4 := (Chg.of_below ((Below.refl _ wc).alloc (Nat.le_refl _) o)).trans ⟨hcg.os, hcg.tape, hcg.output, hcg.size, hcg.block⟩
  obtain ⟨t1, t2, ⟨x', t3⟩, t4⟩ := h.then hne hY hc
  obtain ⟨x0, hx0⟩ := h.x
  have hbt := t1.trans h.box
  have bz := seven_below w4 wc.heap.size (.int .i64 T.warp) (.int .i64 T.steps) (.int .i64 T.segs) (.int .i64 T.fault) (.int .i64 T.fpc) (.int .i64 T.fth) (.slice va lv vc)
  have hn1 : ∀ g, (Value.slice va lv vc).ownBlock = some g → g ≠ wc.heap.size := fun g hg e => by
    have := (ho.lt g hg).1
    simp only [World.size_alloc] at this
    omega
  have hn2 : ∀ g, v.ownBlock = some g → g ≠ wc.heap.size := fun g hg e => by
    have := (h.row.lt g hg).2
    omega
  exact ⟨(bz.block bt (blk_lt h.box)).trans hbt, seven_set hb _ _ _ _ _ _ _, seven_owns t2 hn2 _ _ _ _ _ _ _, by rw [hlv]; exact seven_owns (owns_down ho (by simp)) hn1 _ _ _ _ _ _ _, ⟨x', t3.keep fun g hg => bz.block g (hx0.mx.lt hg)⟩, hY.low hy hl bz, t4.lowB (bz.mono h.chg.size)⟩

set_option maxHeartbeats 2000000 in
set_option maxRecDepth 100000 in
theorem mach5 {w : World} {BW : Nat} {vps : Value} {ei ec eg : List Ent} {Ps : List (Pw × PM)} (h : InvA w BW vps ei ec eg Ps) (hes : eg.length ≤ 1759218604000) {j : Nat} {P : Pw} {m : PM} (hj : Ps[j]? = some (P, m)) (a b c : Int) (s : ByteArray) (la : Option Addr) (ln lc : Nat) (ka : Option Addr) (kn kc : Nat) :
    Calls Tryz.prog 16 #[.pointer (some ⟨BW, 0, none⟩), .agg #[.int .i64 5, .int .i64 a, .int .i64 b, .int .i64 c, .string s, .slice la ln lc, .slice ka kn kc], .pointer (some ⟨P.bP, 0, none⟩)] w fun e w' => e = .returned (.bool true) ∧ Kept w BW vps ei ec eg Ps w' := by
  have H := hyd h
  have HJ := hyd hj
  have B0 : Hid (Below w.heap.size w (w.alloc (.cells #[.int .i64 5, .int .i64 a, .int .i64 b, .int .i64 c, .string s, .slice la ln lc, .slice ka kn kc] 37))) := (Below.refl _ _).alloc (Nat.le_refl _) _
  have X0 := hyd (heap_alloc_new w (.cells #[.int .i64 5, .int .i64 a, .int .i64 b, .int .i64 c, .string s, .slice la ln lc, .slice ka kn kc] 37))
  have P0 := hyd ((h.each _ (List.mem_of_getElem? hj)).up B0.out)
  dsimp only at P0
  obtain ⟨m', T, E, HT⟩ : ∃ m' T E, Hid (turnP m b c = (m', T, E)) := ⟨_, _, _, rfl⟩
  obtain ⟨lv, Hlv⟩ : ∃ lv, Hid (T.log.length = lv) := ⟨_, rfl⟩
  have hA : Hid (∀ wx, Below (w.alloc (.cells #[.int .i64 5, .int .i64 a, .int .i64 b, .int .i64 c, .string s, .slice la ln lc, .slice ka kn kc] 37)).heap.size (w.alloc (.cells #[.int .i64 5, .int .i64 a, .int .i64 b, .int .i64 c, .string s, .slice la ln lc, .slice ka kn kc] 37)) wx → Calls Tryz.prog 37 #[.pointer (some ⟨P.LX.bX, 0, none⟩), .int .i64 b, .int .i64 c] wx fun e w' => ∃ va vc, e = .returned (.tuple #[.agg #[.int .i64 T.warp, .int .i64 T.steps, .int .i64 T.segs, .int .i64 T.fault, .int .i64 T.fpc, .int .i64 T.fth, .slice va lv vc], .int .i64 E]) ∧ w'.ownsRow wx.heap.size 94 2 (.slice va lv vc) lv (flatL T.log) ∧ (E ≠ 0 → Value.slice va lv vc = .slice none 0 0) ∧ (∃ x', XAt w' P.LX m' x') ∧ Chg [P.LX.bX] wx w' ∧ T.log.length ≤ 2000) := by
    intro wx hb
    obtain ⟨x, hx⟩ := (P0.out.up hb).x
    refine (mturn_any hx P0.out.ok b c).mono ?_
    rintro e w' ⟨⟨v, h1, h2, h3, -⟩, h4, h5, h6⟩
    rw [HT.out] at h1 h2 h3 h4 h5
    dsimp only at h2
    rw [Hlv.out] at h2
    obtain ⟨va, vc, hv⟩ := slice_ofM h2
    subst hv
    exact ⟨va, vc, h1, h2, h3, h5, Chg.of_fr (h6 wx.heap.size) (Nat.le_refl _), h4⟩
  have hC : Hid (∀ wx, MachAt wx P.LR P.gW P.cW P.vs m → Calls Tryz.prog 38 #[.pointer (some ⟨P.LR.bM, 0, none⟩), .int .i64 b, .int .i64 c] wx fun e w' => ∃ va vc, e = .returned (.tuple #[.agg #[.int .i64 T.warp, .int .i64 T.steps, .int .i64 T.segs, .int .i64 T.fault, .int .i64 T.fpc, .int .i64 T.fth, .slice va lv vc], .int .i64 E]) ∧ w'.ownsRow wx.heap.size 94 2 (.slice va lv vc) lv (flatL T.log) ∧ MachAt w' P.LR P.gW P.cW P.vs m' ∧ Chg (P.LR.Y P.gW) wx w') := by
    intro wx hy
    refine (rturn_any hy P0.out.ok b c).mono ?_
    rintro e w' ⟨⟨v, h1, h2, h3, -⟩, h5, h6⟩
    rw [HT.out] at h1 h2 h5
    dsimp only at h2
    rw [Hlv.out] at h2
    obtain ⟨va, vc, hv⟩ := slice_ofM h2
    subst hv
    exact ⟨va, vc, h1, h2, h5, Chg.of_fr h6 (Nat.le_refl _)⟩
  have hok' : Hid (PMok m') := by have := turn_ok P0.out.ok b c; rw [HT.out] at this; exact this
  clear h hj
  go_enter Tryz.func16, Tryz.ntmps16
  go_upto_region 3 with fail
  generalize w.alloc (.cells #[.int .i64 5, .int .i64 a, .int .i64 b, .int .i64 c, .string s, .slice la ln lc, .slice ka kn kc] 37) = w1 at B0 X0 P0 hA ⊢
  obtain ⟨p0, p1⟩ := pair_cells P0.out
  have x2 : w1.cell? ⟨w.heap.size, 2, none⟩ = some (.int .i64 b) := by rw [cell_of_row w1 w.heap.size 2 _ 37 _ X0.out]; rfl
  have x3 : w1.cell? ⟨w.heap.size, 3, none⟩ = some (.int .i64 c) := by rw [cell_of_row w1 w.heap.size 3 _ 37 _ X0.out]; rfl
  have hl0 : Hid (P.bP < w1.heap.size ∧ w.heap.size < w1.heap.size) := ⟨blk_lt P0.out.blk, blk_lt X0.out⟩
  have hne0 : Hid (P.bP ∉ [P.LX.bX] ∧ w.heap.size ∉ [P.LX.bX]) := by
    obtain ⟨x, hx⟩ := P0.out.x
    refine ⟨fun hm => ?_, fun hm => ?_⟩
    · have e := List.mem_singleton.1 hm
      have h1 := P0.out.blk
      rw [e, hx.mx.blk] at h1
      simp only [Option.some.injEq, Obj.cells.injEq] at h1
      exact absurd h1.2.1 (by decide)
    · have e := List.mem_singleton.1 hm
      have h1 := X0.out
      rw [e, hx.mx.blk] at h1
      simp only [Option.some.injEq, Obj.cells.injEq] at h1
      exact absurd h1.2.1 (by decide)
  go_cut [7, 8] (fun t7 t8 wc => ∃ bt v, t7 = .pointer (some ⟨bt, 0, none⟩) ∧ t8 = .int .i64 E ∧ Hid (TX w1 wc P m' T E bt v) ∧ Hid (T.log.length ≤ 2000))
  case first =>
    have q0 := (World.cell?_of_block (a := ⟨P.bP, 0, none⟩) (Below.heap_alloc w1 (.cells #[.int .i64 0, .int .i64 0, .int .i64 0, .int .i64 0, .int .i64 0, .int .i64 0, .slice none 0 0] 76) P.bP hl0.out.1)).trans p0
    have q2 := (World.cell?_of_block (a := ⟨w.heap.size, 2, none⟩) (Below.heap_alloc w1 (.cells #[.int .i64 0, .int .i64 0, .int .i64 0, .int .i64 0, .int .i64 0, .int .i64 0, .slice none 0 0] 76) w.heap.size hl0.out.2)).trans x2
    have q3 := (World.cell?_of_block (a := ⟨w.heap.size, 3, none⟩) (Below.heap_alloc w1 (.cells #[.int .i64 0, .int .i64 0, .int .i64 0, .int .i64 0, .int .i64 0, .int .i64 0, .slice none 0 0] 76) w.heap.size hl0.out.2)).trans x3
    go_region_held3 (fun w' => w'.cell? ⟨P.bP, 0, none⟩ = some (.pointer (some ⟨P.LX.bX, 0, none⟩)) ∧ w'.cell? ⟨w.heap.size, 2, none⟩ = some (.int .i64 b) ∧ w'.cell? ⟨w.heap.size, 3, none⟩ = some (.int .i64 c)) (first | go_keep | (refine ⟨?_, ?_, ?_⟩ <;> (first | (rw [World.cell?_of_block (Below.heap_alloc _ _ _ kl1)]; assumption) | (rw [World.cell?_of_block (Below.heap_alloc _ _ _ kl2)]; assumption))) | (refine ⟨?_, ?_, ?_⟩ <;> (first | (rw [cell_seven (a := ⟨P.bP, 0, none⟩) kn1]; assumption) | (rw [cell_seven (a := ⟨w.heap.size, 2, none⟩) kn2]; assumption) | (rw [cell_seven (a := ⟨w.heap.size, 3, none⟩) kn2]; assumption))) | (refine ⟨?_, ?_, ?_⟩ <;> assumption)) (first
      | (go_at_call 37; refine (hA.out _ (Below.refl _ _).drew).mono ?_; rintro e w4 ⟨va, vc, rfl, ho, hn, hx, hcg, hll⟩; have k0 : w4.cell? ⟨P.bP, 0, none⟩ = some (.pointer (some ⟨P.LX.bX, 0, none⟩)) := (World.cell?_of_block (a := ⟨P.bP, 0, none⟩) (hcg.block P.bP hl0.out.1 hne0.out.1)).trans p0; have k2 : w4.cell? ⟨w.heap.size, 2, none⟩ = some (.int .i64 b) := (World.cell?_of_block (a := ⟨w.heap.size, 2, none⟩) (hcg.block w.heap.size hl0.out.2 hne0.out.2)).trans x2; have k3 : w4.cell? ⟨w.heap.size, 3, none⟩ = some (.int .i64 c) := (World.cell?_of_block (a := ⟨w.heap.size, 3, none⟩) (hcg.block w.heap.size hl0.out.2 hne0.out.2)).trans x3; have kl1 : P.bP < w4.heap.size := Nat.lt_of_lt_of_le hl0.out.1 hcg.size; have kl2 : w.heap.size < w4.heap.size := Nat.lt_of_lt_of_le hl0.out.2 hcg.size)
      | (go_at_call 37; refine (hA.out _ ((Below.refl _ _).alloc (Nat.le_refl _) _).drew).mono ?_; rintro e w4 ⟨va, vc, rfl, ho, hn, hx, hcg, hll⟩; have k0 : w4.cell? ⟨P.bP, 0, none⟩ = some (.pointer (some ⟨P.LX.bX, 0, none⟩)) := (World.cell?_of_block (a := ⟨P.bP, 0, none⟩) (hcg.block P.bP (by have := hl0.out.1; simp; omega) hne0.out.1)).trans q0; have k2 : w4.cell? ⟨w.heap.size, 2, none⟩ = some (.int .i64 b) := (World.cell?_of_block (a := ⟨w.heap.size, 2, none⟩) (hcg.block w.heap.size (by have := hl0.out.2; simp; omega) hne0.out.2)).trans q2; have k3 : w4.cell? ⟨w.heap.size, 3, none⟩ = some (.int .i64 c) := (World.cell?_of_block (a := ⟨w.heap.size, 3, none⟩) (hcg.block w.heap.size (by have := hl0.out.2; simp; omega) hne0.out.2)).trans q3; have bb := hcg.block w1.heap.size (by simp) (fun hm => by have e := List.mem_singleton.1 hm; obtain ⟨x, hxx⟩ := P0.out.x; have := hxx.mx.lt (.inl rfl); omega); have B4 := hyd (bb.trans (heap_alloc_new w1 (.cells #[.int .i64 0, .int .i64 0, .int .i64 0, .int .i64 0, .int .i64 0, .int .i64 0, .slice none 0 0] 76))); obtain ⟨⟨r0, r1, r2, r3, r4, r5, r6⟩, z0, z1, z2, z3, z4, z5, z6⟩ := seven_cells B4.out; have kn1 : P.bP ≠ w1.heap.size := Nat.ne_of_lt hl0.out.1; have kn2 : w.heap.size ≠ w1.heap.size := Nat.ne_of_lt hl0.out.2))
    · have K := hyd (And.intro (TX.mkA hcg Hlv.out ho hn hx) hll)
      clear hcg ho hn hx hll
      (try go_wp2_with fail)
      go_meet
      exact ⟨w4.heap.size, .slice va lv vc, rfl, rfl, K.out.1, K.out.2⟩
    · have K := hyd (And.intro (TX.mkB P0.out hcg Hlv.out ho hn hx B4.out) hll)
      clear hcg ho hn hx hll
      (try go_wp2_with fail)
      go_meet
      exact ⟨w1.heap.size, .slice va lv vc, rfl, rfl, K.out.1, K.out.2⟩
  case rest =>
    obtain ⟨bt, v, rfl, rfl, X1, HL⟩ := hcut
    clear p0 x2 x3
    have Y1 := hyd (MachAt.chgX P0.out X1.out.chg)
    have hlen := hyd (turn_len P0.out.ok b c)
    rw [HT.out] at hlen
    dsimp only at hlen
    have hlc : Hid (P.bP < wc.heap.size ∧ w.heap.size < wc.heap.size) := ⟨Nat.lt_of_lt_of_le hl0.out.1 X1.out.chg.size, Nat.lt_of_lt_of_le hl0.out.2 X1.out.chg.size⟩
    have xbP : Hid (wc.heap[P.bP]? = some (.cells #[.pointer (some ⟨P.LX.bX, 0, none⟩), .pointer (some ⟨P.LR.bM, 0, none⟩)] 74)) := (X1.out.chg.block P.bP hl0.out.1 hne0.out.1).trans P0.out.blk
    have xob : Hid (wc.heap[w.heap.size]? = some (.cells #[.int .i64 5, .int .i64 a, .int .i64 b, .int .i64 c, .string s, .slice la ln lc, .slice ka kn kc] 37)) := (X1.out.chg.block w.heap.size hl0.out.2 hne0.out.2).trans X0.out
    have hneY : Hid (P.bP ∉ P.LR.Y P.gW ∧ w.heap.size ∉ P.LR.Y P.gW) := by
      refine ⟨fun hm => ?_, fun hm => ?_⟩
      · obtain ⟨cs', t', fr', e', h'⟩ := y_types Y1.out hm
        rw [xbP.out] at e'
        simp only [Option.some.injEq, Obj.cells.injEq] at e'
        obtain ⟨-, rfl, -⟩ := e'
        rcases h' with h' | ⟨h', -⟩
        · simp at h'
        · cases h'
      · obtain ⟨cs', t', fr', e', h'⟩ := y_types Y1.out hm
        rw [xob.out] at e'
        simp only [Option.some.injEq, Obj.cells.injEq] at e'
        obtain ⟨-, rfl, -⟩ := e'
        rcases h' with h' | ⟨h', -⟩
        · simp at h'
        · cases h'
    have p1 : wc.cell? ⟨P.bP, 1, none⟩ = some (.pointer (some ⟨P.LR.bM, 0, none⟩)) := by rw [cell_of_row wc P.bP 1 _ 74 _ xbP.out]; rfl
    have x2 : wc.cell? ⟨w.heap.size, 2, none⟩ = some (.int .i64 b) := by rw [cell_of_row wc w.heap.size 2 _ 37 _ xob.out]; rfl
    have x3 : wc.cell? ⟨w.heap.size, 3, none⟩ = some (.int .i64 c) := by rw [cell_of_row wc w.heap.size 3 _ 37 _ xob.out]; rfl
    go_upto_region 4 with fail
    go_cut [9, 10] (fun t9 t10 wd => ∃ bu u, t9 = .pointer (some ⟨bu, 0, none⟩) ∧ t10 = .int .i64 E ∧ Hid (TY w1 wc wd P m' T bt bu v u))
    case first =>
      have q1 := (World.cell?_of_block (a := ⟨P.bP, 1, none⟩) (Below.heap_alloc wc (.cells #[.int .i64 0, .int .i64 0, .int .i64 0, .int .i64 0, .int .i64 0, .int .i64 0, .slice none 0 0] 76) P.bP hlc.out.1)).trans p1
      have q2 := (World.cell?_of_block (a := ⟨w.heap.size, 2, none⟩) (Below.heap_alloc wc (.cells #[.int .i64 0, .int .i64 0, .int .i64 0, .int .i64 0, .int .i64 0, .int .i64 0, .slice none 0 0] 76) w.heap.size hlc.out.2)).trans x2
      have q3 := (World.cell?_of_block (a := ⟨w.heap.size, 3, none⟩) (Below.heap_alloc wc (.cells #[.int .i64 0, .int .i64 0, .int .i64 0, .int .i64 0, .int .i64 0, .int .i64 0, .slice none 0 0] 76) w.heap.size hlc.out.2)).trans x3
      go_region_held3 (fun w' => w'.cell? ⟨P.bP, 1, none⟩ = some (.pointer (some ⟨P.LR.bM, 0, none⟩)) ∧ w'.cell? ⟨w.heap.size, 2, none⟩ = some (.int .i64 b) ∧ w'.cell? ⟨w.heap.size, 3, none⟩ = some (.int .i64 c)) (first | go_keep | (refine ⟨?_, ?_, ?_⟩ <;> (first | (rw [World.cell?_of_block (Below.heap_alloc _ _ _ kl1)]; assumption) | (rw [World.cell?_of_block (Below.heap_alloc _ _ _ kl2)]; assumption))) | (refine ⟨?_, ?_, ?_⟩ <;> (first | (rw [cell_seven (a := ⟨P.bP, 1, none⟩) kn1]; assumption) | (rw [cell_seven (a := ⟨w.heap.size, 2, none⟩) kn2]; assumption) | (rw [cell_seven (a := ⟨w.heap.size, 3, none⟩) kn2]; assumption))) | (refine ⟨?_, ?_, ?_⟩ <;> assumption)) (first
        | (go_at_call 38; refine (hC.out _ (Y1.out.up (Below.refl _ _).drew)).mono ?_; rintro e w4 ⟨va, vc, rfl, ho, hy, hcg⟩; have k0 : w4.cell? ⟨P.bP, 1, none⟩ = some (.pointer (some ⟨P.LR.bM, 0, none⟩)) := (World.cell?_of_block (a := ⟨P.bP, 1, none⟩) (hcg.block P.bP hlc.out.1 hneY.out.1)).trans p1; have k2 : w4.cell? ⟨w.heap.size, 2, none⟩ = some (.int .i64 b) := (World.cell?_of_block (a := ⟨w.heap.size, 2, none⟩) (hcg.block w.heap.size hlc.out.2 hneY.out.2)).trans x2; have k3 : w4.cell? ⟨w.heap.size, 3, none⟩ = some (.int .i64 c) := (World.cell?_of_block (a := ⟨w.heap.size, 3, none⟩) (hcg.block w.heap.size hlc.out.2 hneY.out.2)).trans x3; have kl1 : P.bP < w4.heap.size := Nat.lt_of_lt_of_le hlc.out.1 hcg.size; have kl2 : w.heap.size < w4.heap.size := Nat.lt_of_lt_of_le hlc.out.2 hcg.size)
        | (go_at_call 38; refine (hC.out _ (Y1.out.up ((Below.refl _ _).alloc (Nat.le_refl _) _).drew)).mono ?_; rintro e w4 ⟨va, vc, rfl, ho, hy, hcg⟩; have k0 : w4.cell? ⟨P.bP, 1, none⟩ = some (.pointer (some ⟨P.LR.bM, 0, none⟩)) := (World.cell?_of_block (a := ⟨P.bP, 1, none⟩) (hcg.block P.bP (by have := hlc.out.1; simp; omega) hneY.out.1)).trans q1; have k2 : w4.cell? ⟨w.heap.size, 2, none⟩ = some (.int .i64 b) := (World.cell?_of_block (a := ⟨w.heap.size, 2, none⟩) (hcg.block w.heap.size (by have := hlc.out.2; simp; omega) hneY.out.2)).trans q2; have k3 : w4.cell? ⟨w.heap.size, 3, none⟩ = some (.int .i64 c) := (World.cell?_of_block (a := ⟨w.heap.size, 3, none⟩) (hcg.block w.heap.size (by have := hlc.out.2; simp; omega) hneY.out.2)).trans q3; have bb := hcg.block wc.heap.size (by simp) (fun hm => by obtain ⟨cs', t', fr', e', -⟩ := y_types Y1.out hm; have := blk_lt e'; omega); have B4 := hyd (bb.trans (heap_alloc_new wc (.cells #[.int .i64 0, .int .i64 0, .int .i64 0, .int .i64 0, .int .i64 0, .int .i64 0, .slice none 0 0] 76))); obtain ⟨⟨r0, r1, r2, r3, r4, r5, r6⟩, z0, z1, z2, z3, z4, z5, z6⟩ := seven_cells B4.out; have kn1 : P.bP ≠ wc.heap.size := Nat.ne_of_lt hlc.out.1; have kn2 : w.heap.size ≠ wc.heap.size := Nat.ne_of_lt hlc.out.2))
      · have K := hyd (TY.mkA X1.out P0.out.ne Y1.out hcg Hlv.out ho hy)
        clear hcg ho hy
        (try go_wp2_with fail)
        go_meet
        exact ⟨w4.heap.size, .slice va lv vc, rfl, rfl, K⟩
      · have K := hyd (TY.mkB X1.out P0.out.ne Y1.out hlen.out hcg Hlv.out ho hy B4.out)
        clear hcg ho hy
        (try go_wp2_with fail)
        go_meet
        exact ⟨wc.heap.size, .slice va lv vc, rfl, rfl, K⟩
    case rest =>
      obtain ⟨bu, u, rfl, rfl, Y2⟩ := hcut
      clear p1 x2 x3
      rename_i wo
      generalize hwd : wc = wd at Y2 ⊢
      clear hwd
      have RX := hyd Y2.out.rx
      have RY := hyd Y2.out.ry
      rw [Hlv.out] at RX RY
      have hlv2 : lv ≤ 2000 := by rw [← Hlv.out]; exact HL.out
      obtain ⟨va, vc, hv⟩ := slice_ofM RX.out
      subst hv
      obtain ⟨ua, uc, hu⟩ := slice_ofM RY.out
      subst hu
      have N1 := hyd X1.out.nil
      have CH : Hid (Chg P.X w wd) := (Chg.of_below B0.out).trans Y2.out.chg
      have hsz1 : Hid (w1.heap.size ≤ wd.heap.size ∧ w.heap.size ≤ w1.heap.size) := ⟨Y2.out.chg.size, B0.out.size⟩
      have PD : Hid (PairAt wd P m') := by
        refine ⟨(Y2.out.chg.block P.bP hl0.out.1 fun hm => ?_).trans P0.out.blk, Y2.out.x, Y2.out.y, hok'.out, P0.out.foot, P0.out.ne⟩
        obtain ⟨cs', t', fr', e', h'⟩ := P0.out.xtypes hm
        rw [P0.out.blk] at e'
        simp only [Option.some.injEq, Obj.cells.injEq] at e'
        obtain ⟨-, rfl, -⟩ := e'
        rcases h' with h' | ⟨h', -⟩
        · simp at h'
        · cases h'
      have BT := hyd Y2.out.tx
      have BU := hyd Y2.out.ty
      have L1 := hyd (sees_log (by rw [Hlv.out]; exact hlv2) (by rw [Hlv.out]; exact RX.out))
      have L2 := hyd (sees_log (by rw [Hlv.out]; exact hlv2) (by rw [Hlv.out]; exact RY.out))
      obtain ⟨⟨t0, t1, t2, t3, t4, t5, t6⟩, -⟩ := seven_cells BT.out
      obtain ⟨⟨s0, s1, s2, s3, s4, s5, s6⟩, -⟩ := seven_cells BU.out
      clear X1 Y2 X0 hA hC hneY xbP xob Y1
      go_wp2_with fail
      refine (sameT L1.out L2.out _ _ _ _ _ _).mono ?_
      rintro e w5 ⟨rfl, hb5⟩
      have C5 : Hid (Chg P.X w w5) := CH.out.trans (.of_below hb5)
      have P5 := hyd (PD.out.up hb5)
      have R5 := hyd (RX.out.keptB hb5)
      have T5 : Hid (w5.heap[bt]? = _) := (hb5.block bt (blk_lt BT.out)).trans BT.out
      have hs5 : Hid (w1.heap.size ≤ w5.heap.size) := Nat.le_trans hsz1.out.1 hb5.size
      have G5 : Hid (InvG w5 w.heap.size BW vps ei ec eg) := H.out.g.chg C5.out (H.out.xt (List.mem_of_getElem? HJ.out))
      clear hb5 L1 L2 BU CH PD RX RY BT t0 t1 t2 t3 t4 t5 t6 s0 s1 s2 s3 s4 s5 s6
      obtain ⟨⟨t0, t1, t2, t3, t4, t5, t6⟩, -⟩ := seven_cells T5.out
      have hbt5 : Hid (bt < w5.heap.size) := blk_lt T5.out
      by_cases hE : E = 0
      · subst hE
        have I5 : Hid (InvG w5.drew w1.heap.size BW vps ei ec eg) := (G5.out.up (Below.refl _ _).drew).wide hsz1.out.2
        go_wp2_with fail
        go_region_with ((go_at_call 40; refine (ownG I5.out hes hs5.out R5.out (by omega)).mono ?_; rintro e w6 ⟨rfl, ⟨en, hI6, hN6⟩, hb6, hf6⟩))
        have K := hyd (kept_log H.out HJ.out (C5.out.trans (.of_below (Below.refl _ _).drew)) (P5.out.up (Below.refl _ _).drew) hI6 hb6 hsz1.out.2 hf6)
        clear hI6 hN6 hb6 hf6
        go_wp2_with fail
        go_ret
        exact ⟨by simp, K.out⟩
      · have hEb : (E == 0) = false := by simpa using hE
        have hv0 := N1.out hE
        simp only [Value.slice.injEq] at hv0
        obtain ⟨e1, e2, e3⟩ := hv0
        subst e1 e2 e3
        have I5 : Hid (InvG w5.drew w5.heap.size BW vps ei ec eg) := (G5.out.up (Below.refl _ _).drew).wide (Nat.le_trans hsz1.out.2 hs5.out)
        have hnilq : ∀ (wx : World) (a : Option Addr) (n c : Nat), (binOp .eql 50 (.slice a n c) (.slice none 0 0)).run Tryz.prog wx = .ok (.bool a.isNone) wx := fun wx a n c => Lib.run_eql_slice_nil (P := Tryz.prog) wx 50 94 a n c 0 0 Tryz.underlying50
        clear hE
        go_wp2_with fail
        go_region_with ((go_at_call 40; refine (ownG (xs := []) I5.out hes (Nat.le_refl _) (World.ownsRow_nil _ _ _ _) (by omega)).mono ?_; rintro e w6 ⟨rfl, ⟨en, hI6, hN6⟩, hb6, hf6⟩))
        have K := hyd (kept_log H.out HJ.out (C5.out.trans (.of_below (Below.refl _ _).drew)) (P5.out.up (Below.refl _ _).drew) hI6 hb6 (Nat.le_trans hsz1.out.2 hs5.out) hf6)
        have t6' : w6.cell? ⟨bt, 6, none⟩ = some (.slice none 0 0) := by
          have hbw : bt ≠ BW := fun e => by
            obtain ⟨_, _, _, h1, -⟩ := G5.out
            rw [← e, T5.out] at h1
            simp only [Option.some.injEq, Obj.cells.injEq] at h1
            exact absurd h1.2.1 (by decide)
          have := hf6 bt hbt5.out hbw (fun cs fr e => by
            have e' : w5.heap[bt]? = some (.cells cs 52 fr) := e
            rw [T5.out] at e'
            simp only [Option.some.injEq, Obj.cells.injEq] at e'
            exact absurd e'.2.1 (by decide))
          exact (World.cell?_of_block (a := ⟨bt, 6, none⟩) this).trans t6
        clear hI6 hN6 hb6 hf6
        go_wp2_with fail
        go_ret
        exact ⟨by simp, K.out⟩

end Go.Proofs.YtbhbacphiinpeaaGreat

