/- Va Cl: joined. -/
import Derived.Test.YtbhbacphiinpeaaGreatZ25
import Derived.Test.YtbhbacphiinpeaaGreatZ37
import Derived.Test.YtbhbacphiinpeaaGreatZ39
import Derived.Test.YtbhbacphiinpeaaGreatZ02
import Derived.WalkSmall

/- The machines that a script has made, in memory, beside the lists that came out: what stays true of them; nothing of the program is in this text. -/
namespace Go.Proofs.YtbhbacphiinpeaaGreat
open Go.RowKit

/-- Nothing that was there has turned but the blocks X. -/
structure Chg (X : List Nat) (w w' : World) : Prop where
  os : w'.os = w.os
  tape : w'.tape = w.tape
  output : w'.output = w.output
  size : w.heap.size ≤ w'.heap.size
  block : ∀ b, b < w.heap.size → b ∉ X → w'.heap[b]? = w.heap[b]?

theorem Chg.of_below {X : List Nat} {w w' : World} (h : Below w.heap.size w w') : Chg X w w' := ⟨h.os, h.tape, h.output, h.size, fun b hb _ => h.block b hb⟩
theorem Chg.of_fr {X : List Nat} {w w' : World} {B : Nat} (h : Fr B X w w') (hB : w.heap.size ≤ B) : Chg X w w' := ⟨h.os, h.tape, h.output, h.size, fun b hb hX => h.block b hb hX (.inl (by omega))⟩
theorem Chg.trans {X : List Nat} {a b c : World} (h : Chg X a b) (k : Chg X b c) : Chg X a c :=
  ⟨k.os.trans h.os, k.tape.trans h.tape, k.output.trans h.output, Nat.le_trans h.size k.size, fun i hi hX => (k.block i (Nat.lt_of_lt_of_le hi h.size) hX).trans (h.block i hi hX)⟩
theorem Chg.sub {X Y : List Nat} {w w' : World} (h : Chg X w w') (hs : ∀ x ∈ X, x ∈ Y) : Chg Y w w' := ⟨h.os, h.tape, h.output, h.size, fun b hb hY => h.block b hb fun hx => hY (hs b hx)⟩
theorem Chg.below {X : List Nat} {w w' : World} {B : Nat} (h : Chg X w w') (hX : ∀ x ∈ X, B ≤ x) (hB : B ≤ w.heap.size) : Below B w w' :=
  ⟨h.os, h.tape, h.output, h.size, fun b hb => h.block b (by omega) fun hx => by have := hX b hx; omega⟩

/-- Where a pair lies: from block lo on, below block hi. -/
structure Pw where
  bP : Nat
  LX : XM
  LR : RM
  gW : Nat
  cW : Nat
  vs : List Value
  lo : Nat
  hi : Nat

def Pw.feet (P : Pw) : List Nat := [P.bP, P.LX.bX, P.LX.gK, P.LX.gJ, P.LR.bM, P.LR.gK, P.LR.gJ, P.LR.gT, P.LR.gM, P.gW] ++ P.vs.filterMap Value.ownBlock
/-- What a turn may turn. -/
def Pw.X (P : Pw) : List Nat := [P.LX.bX, P.LR.bM, P.LR.gT, P.gW, P.LR.gM]

structure PairAt (w : World) (P : Pw) (m : PM) : Prop where
  blk : w.heap[P.bP]? = some (.cells #[.pointer (some ⟨P.LX.bX, 0, none⟩), .pointer (some ⟨P.LR.bM, 0, none⟩)] 74)
  x : ∃ x, XAt w P.LX m x
  y : MachAt w P.LR P.gW P.cW P.vs m
  ok : PMok m
  foot : ∀ b ∈ P.feet, P.lo ≤ b ∧ b < P.hi
  ne : P.LX.gJ ≠ P.LR.gM

theorem mach_keep {w w' : World} {L : RM} {gW cW : Nat} {vs : List Value} {m : PM} (h : MachAt w L gW cW vs m) (hk : ∀ b, (b ∈ [L.bM, L.gK, L.gJ, L.gT, L.gM, gW] ∨ b ∈ vs.filterMap Value.ownBlock) → w'.heap[b]? = w.heap[b]?) : MachAt w' L gW cW vs m := by
  refine ⟨h.core.keep fun g hg => hk g (.inl ?_), owns_same h.rW fun g hg => ?_, h.lenV, fun i v hv => ?_⟩
  · rcases hg with rfl | rfl | rfl | rfl | rfl <;> simp
  · simp only [Value.ownBlock, Option.some.injEq] at hg
    subst hg
    exact hk _ (.inl (by simp))
  · obtain ⟨ao, cap, hv1, h2⟩ := h.grp i v hv
    refine ⟨ao, cap, hv1, ?_⟩
    rcases h2 with h2 | ⟨b, cur, ha, hh, hX, hc⟩
    · exact .inl h2
    · refine .inr ⟨b, cur, ha, (hk b (.inr ?_)).trans hh, hX, hc⟩
      exact List.mem_filterMap.2 ⟨v, List.mem_of_getElem? hv, by rw [hv1, ha]; rfl⟩

/-- The types of what a machine of the document's lies in. -/
theorem mach_types {w : World} {L : RM} {gW cW : Nat} {vs : List Value} {m : PM} (h : MachAt w L gW cW vs m) {b : Nat} (hb : b ∈ [L.bM, L.gK, L.gJ, L.gT, L.gM, gW]) : ∃ cs t fr, w.heap[b]? = some (.cells cs t fr) ∧ t ∈ [85, 92, 3, 116, 118] := by
  have row : ∀ {e : TypeId} {size g n c : Nat} {xs : List Value}, w.ownsRow 0 e size (.slice (some ⟨g, 0, none⟩) n c) n xs → ∃ cs fr, w.heap[g]? = some (.cells cs e fr) := fun ho => by
    obtain ⟨cs, hc⟩ := owns_blk ho
    exact ⟨_, _, hc⟩
  simp only [List.mem_cons, List.not_mem_nil, or_false] at hb
  rcases hb with rfl | rfl | rfl | rfl | rfl | rfl
  · exact ⟨_, _, _, h.core.blk, by simp⟩
  · obtain ⟨cs, fr, e⟩ := row h.core.rK; exact ⟨cs, _, fr, e, by simp⟩
  · obtain ⟨cs, fr, e⟩ := row h.core.rJ; exact ⟨cs, _, fr, e, by simp⟩
  · obtain ⟨cs, fr, e⟩ := row h.core.rT; exact ⟨cs, _, fr, e, by simp⟩
  · obtain ⟨cs, fr, e⟩ := row h.core.rM; exact ⟨cs, _, fr, e, by simp⟩
  · obtain ⟨cs, fr, e⟩ := row h.rW; exact ⟨cs, _, fr, e, by simp⟩

/-- A machine of the document's is as it was where nothing of these types has turned. -/
theorem mach_frame {w w' : World} {L : RM} {gW cW : Nat} {vs : List Value} {m : PM} (h : MachAt w L gW cW vs m) (hk : ∀ (b : Nat) (cs : Array Value) (t : TypeId) (fr : Nat × Nat), w.heap[b]? = some (.cells cs t fr) → t ∈ [85, 92, 3, 116, 118] → (b ∈ [L.bM, L.gK, L.gJ, L.gT, L.gM, gW] ∨ b ∈ vs.filterMap Value.ownBlock) → w'.heap[b]? = w.heap[b]?) : MachAt w' L gW cW vs m := by
  refine ⟨h.core.keep fun g hg => ?_, owns_same h.rW fun g hg => ?_, h.lenV, fun i v hv => ?_⟩
  · have hb : g ∈ [L.bM, L.gK, L.gJ, L.gT, L.gM, gW] := by rcases hg with rfl | rfl | rfl | rfl | rfl <;> simp
    obtain ⟨cs, t, fr, e, ht⟩ := mach_types h hb
    exact hk g cs t fr e ht (.inl hb)
  · simp only [Value.ownBlock, Option.some.injEq] at hg
    subst hg
    obtain ⟨cs, t, fr, e, ht⟩ := mach_types h (b := gW) (by simp)
    exact hk gW cs t fr e ht (.inl (by simp))
  · obtain ⟨ao, cap, hv1, h2⟩ := h.grp i v hv
    refine ⟨ao, cap, hv1, ?_⟩
    rcases h2 with h2 | ⟨b, cur, ha, hh, hX, hc⟩
    · exact .inl h2
    · exact .inr ⟨b, cur, ha, (hk b _ _ _ hh (by simp) (.inr (List.mem_filterMap.2 ⟨v, List.mem_of_getElem? hv, by rw [hv1, ha]; rfl⟩))).trans hh, hX, hc⟩

theorem x_types {w : World} {L : XM} {m : PM} {x : QM} (h : XAt w L m x) {b : Nat} (hb : b = L.bX ∨ b = L.gK ∨ b = L.gJ) : ∃ cs t fr, w.heap[b]? = some (.cells cs t fr) ∧ t ∈ [112, 92, 3] := by
  rcases hb with rfl | rfl | rfl
  · exact ⟨_, _, _, h.mx.blk, by simp⟩
  · obtain ⟨cs, e⟩ := owns_blk h.mx.rK; exact ⟨_, _, _, e, by simp⟩
  · obtain ⟨cs, e⟩ := owns_blk h.mx.rJ; exact ⟨_, _, _, e, by simp⟩

/-- A pair is as it was where none of its blocks has turned. -/
theorem PairAt.keep {w w' : World} {P : Pw} {m : PM} (h : PairAt w P m) (hk : ∀ b ∈ P.feet, ∀ cs t fr, w.heap[b]? = some (.cells cs t fr) → t ∈ [74, 112, 92, 3, 85, 116, 118] → w'.heap[b]? = w.heap[b]?) : PairAt w' P m := by
  obtain ⟨x, hx⟩ := h.x
  refine ⟨(hk P.bP (by simp [Pw.feet]) _ _ _ h.blk (by simp)).trans h.blk, ⟨x, hx.keep fun g hg => ?_⟩, mach_frame h.y fun b cs t fr e ht hb => ?_, h.ok, h.foot, h.ne⟩
  · obtain ⟨cs, t, fr, e, ht⟩ := x_types hx hg
    refine hk g ?_ cs t fr e ?_
    · rcases hg with rfl | rfl | rfl <;> simp [Pw.feet]
    · simp only [List.mem_cons, List.not_mem_nil, or_false] at ht ⊢
      rcases ht with rfl | rfl | rfl <;> simp
  · refine hk b ?_ cs t fr e ?_
    · unfold Pw.feet
      rw [List.mem_append]
      rcases hb with hb | hb
      · left
        simp only [List.mem_cons, List.not_mem_nil, or_false] at hb ⊢
        rcases hb with rfl | rfl | rfl | rfl | rfl | rfl <;> simp
      · exact .inr hb
    · simp only [List.mem_cons, List.not_mem_nil, or_false] at ht ⊢
      rcases ht with rfl | rfl | rfl | rfl | rfl <;> simp

theorem PairAt.lt {w : World} {P : Pw} {m : PM} (h : PairAt w P m) {b : Nat} (hb : b ∈ P.X) : b < w.heap.size := by
  obtain ⟨x, hx⟩ := h.x
  simp only [Pw.X, List.mem_cons, List.not_mem_nil, or_false] at hb
  rcases hb with rfl | rfl | rfl | rfl | rfl
  · exact hx.mx.lt (.inl rfl)
  · exact blk_lt h.y.core.blk
  · exact (h.y.core.rT.lt _ rfl).2
  · exact (h.y.rW.lt _ rfl).2
  · exact (h.y.core.rM.lt _ rfl).2
theorem PairAt.xfeet {w : World} {P : Pw} {m : PM} (_ : PairAt w P m) {b : Nat} (hb : b ∈ P.X) : b ∈ P.feet := by
  unfold Pw.feet
  rw [List.mem_append]
  left
  simp only [Pw.X, List.mem_cons, List.not_mem_nil, or_false] at hb ⊢
  rcases hb with rfl | rfl | rfl | rfl | rfl <;> simp
/-- The types of what a turn may turn. -/
theorem PairAt.xtypes {w : World} {P : Pw} {m : PM} (h : PairAt w P m) {b : Nat} (hb : b ∈ P.X) : ∃ cs t fr, w.heap[b]? = some (.cells cs t fr) ∧ (t ∈ [112, 85, 116, 118] ∨ (t = 3 ∧ b = P.LR.gM)) := by
  obtain ⟨x, hx⟩ := h.x
  simp only [Pw.X, List.mem_cons, List.not_mem_nil, or_false] at hb
  rcases hb with rfl | rfl | rfl | rfl | rfl
  · exact ⟨_, _, _, hx.mx.blk, .inl (by simp)⟩
  · exact ⟨_, _, _, h.y.core.blk, .inl (by simp)⟩
  · obtain ⟨cs, e⟩ := owns_blk h.y.core.rT; exact ⟨_, _, _, e, .inl (by simp)⟩
  · obtain ⟨cs, e⟩ := owns_blk h.y.rW; exact ⟨_, _, _, e, .inl (by simp)⟩
  · obtain ⟨cs, e⟩ := owns_blk h.y.core.rM; exact ⟨_, _, _, e, .inr ⟨rfl, rfl⟩⟩

/-- The entry's lists lie in other blocks than b. -/
def entOut (e : Ent) (b : Nat) : Prop := (e.n ≠ 0 → e.l.ownBlock ≠ some b) ∧ e.one.ownBlock ≠ some b ∧ e.three.ownBlock ≠ some b

theorem mrk_lt {f : Fam} {w : World} {B : Nat} {v : Value} {n : Nat} {m : Int} (h : MrkG f w B v n m) (hn : n ≠ 0) {b : Nat} (hb : v.ownBlock = some b) : b < B := by
  obtain ⟨ao, cap, rfl, h⟩ := h
  rcases h with h | ⟨g, cur, rfl, hg, -⟩
  · exact absurd h hn
  · simp only [Value.ownBlock, Option.some.injEq] at hb; omega
theorem ent_far {f : Fam} {w : World} {B : Nat} {e : Ent} (h : EOkG f w B e) {b : Nat} (hb : B ≤ b) : entOut e b :=
  ⟨fun hn he => by have := mrk_lt h.1 hn he; omega, fun he => by have := mrk_lt h.2.1 (by omega) he; omega, fun he => by have := mrk_lt h.2.2.1 (by omega) he; omega⟩
theorem ent_new {B : Nat} {e : Ent} (h : NewEnt B e) {b : Nat} (hb : b < B) : entOut e b :=
  ⟨fun _ he => by have := h b (.inl he); omega, fun he => by have := h b (.inr (.inl he)); omega, fun he => by have := h b (.inr (.inr he)); omega⟩

theorem MrkG.keep1 {f : Fam} {w w' : World} {B B' : Nat} {v : Value} {n : Nat} {m : Int} (h : MrkG f w B v n m) (hB : B ≤ B') (hk : n ≠ 0 → ∀ g cur, v.ownBlock = some g → g < B → w.heap[g]? = some (.cells cur f.e) → w'.heap[g]? = w.heap[g]?) : MrkG f w' B' v n m := by
  obtain ⟨ao, cap, hv, h⟩ := h
  refine ⟨ao, cap, hv, ?_⟩
  by_cases hn : n = 0
  · exact .inl hn
  rcases h with h | ⟨g, cur, ha, hg, hh, ht⟩
  · exact .inl h
  · exact .inr ⟨g, cur, ha, by omega, (hk hn g cur (by rw [hv, ha]; rfl) hg hh).trans hh, ht⟩

/-- The lists that came out, where blocks X of machines have turned. -/
theorem InvG.chg {w w' : World} {BW : Nat} {vps : Value} {ei ec eg : List Ent} {X : List Nat} (h : InvG w w.heap.size BW vps ei ec eg) (hc : Chg X w w')
    (hX : ∀ b ∈ X, ∃ cs t fr, w.heap[b]? = some (.cells cs t fr) ∧ (t ∈ [112, 85, 116, 118] ∨ (t = 3 ∧ ∀ e ∈ ei, entOut e b))) : InvG w' w.heap.size BW vps ei ec eg := by
  obtain ⟨vi, vc, vg, h1, h2, h3, h4, h5⟩ := h
  have same : ∀ (b : Nat) (cs : Array Value) (t : TypeId) (fr : Nat × Nat), w.heap[b]? = some (.cells cs t fr) → t ∉ [112, 85, 116, 118] → t ≠ 3 → w'.heap[b]? = w.heap[b]? := fun b cs t fr hb ht ht3 => hc.block b (blk_lt hb) fun hx => by
    obtain ⟨cs', t', fr', e, h⟩ := hX b hx
    rw [hb] at e
    simp only [Option.some.injEq, Obj.cells.injEq] at e
    obtain ⟨-, rfl, -⟩ := e
    rcases h with h | ⟨h, -⟩
    · exact ht h
    · exact ht3 h
  have row : ∀ {f : Fam} {v : Value} {es : List Ent}, RowG f w w.heap.size BW v es → f.st ∉ [112, 85, 116, 118] → f.st ≠ 3 → (∀ e ∈ es, EOkG f w w.heap.size e → EOkG f w' w.heap.size e) → RowG f w' w.heap.size BW v es := fun {f v es} hr a1 a2 a3 => by
    refine ⟨?_, fun g hg => hr.2.1 g hg, fun e he => a3 e he (hr.2.2 e he)⟩
    obtain ⟨k1, k2⟩ := hr.1
    refine ⟨k1, ?_⟩
    rcases k2 with k2 | ⟨g, cap, cur, rfl, hgb, hh, r⟩
    · exact .inl k2
    · exact .inr ⟨g, cap, cur, rfl, hgb, (same g _ _ _ hh a1 a2).trans hh, r⟩
  refine ⟨vi, vc, vg, (same BW _ _ _ h1 (by decide) (by decide)).trans h1, h2, row h3 (by decide) (by decide) fun e he hE => ?_, row h4 (by decide) (by decide) fun e he hE => ?_, row h5 (by decide) (by decide) fun e he hE => ?_⟩
  · have key : ∀ g cur, w.heap[g]? = some (.cells cur 3) → (∀ b, entOut e b → g ≠ b) → w'.heap[g]? = w.heap[g]? := fun g cur hg ho => hc.block g (blk_lt hg) fun hx => by
      obtain ⟨cs', t', fr', e0, h⟩ := hX g hx
      rw [hg] at e0
      simp only [Option.some.injEq, Obj.cells.injEq] at e0
      obtain ⟨-, rfl, -⟩ := e0
      rcases h with h | ⟨-, h⟩
      · exact absurd h (by decide)
      · exact ho g (h e he) rfl
    refine ⟨hE.1.keep1 (Nat.le_refl _) fun hn g cur hv _ hg => key g cur hg fun b ho eq => ?_, hE.2.1.keep1 (Nat.le_refl _) fun _ g cur hv _ hg => key g cur hg fun b ho eq => ?_, hE.2.2.1.keep1 (Nat.le_refl _) fun _ g cur hv _ hg => key g cur hg fun b ho eq => ?_, hE.2.2.2⟩
    · subst eq; exact ho.1 hn hv
    · subst eq; exact ho.2.1 hv
    · subst eq; exact ho.2.2 hv
  · exact hE.keep (Nat.le_refl _) fun g cur _ hg => same g cur _ _ hg (by decide) (by decide)
  · exact hE.keep (Nat.le_refl _) fun g cur _ hg => same g cur _ _ hg (by decide) (by decide)

/-- All that a script keeps. -/
structure InvA (w : World) (BW : Nat) (vps : Value) (ei ec eg : List Ent) (Ps : List (Pw × PM)) : Prop where
  g : InvG w w.heap.size BW vps ei ec eg
  row : w.ownsRow (BW + 1) 41 1 vps Ps.length (Ps.map fun p => .pointer (some ⟨p.1.bP, 0, none⟩))
  each : ∀ p ∈ Ps, PairAt w p.1 p.2
  apart : ∀ (i j : Nat) p q, i < j → Ps[i]? = some p → Ps[j]? = some q → p.1.hi ≤ q.1.lo
  out : ∀ p ∈ Ps, BW < p.1.lo ∧ p.1.hi ≤ w.heap.size
  ents : ∀ p ∈ Ps, ∀ e ∈ ei, entOut e p.1.LR.gM

theorem InvA.nil {w : World} {BW : Nat} {ei ec eg : List Ent} (h : InvG w w.heap.size BW (.slice none 0 0) ei ec eg) : InvA w BW (.slice none 0 0) ei ec eg [] :=
  ⟨h, World.ownsRow_nil _ _ _ _, fun p hp => by simp at hp, fun i j p q _ hp => by simp at hp, fun p hp => by simp at hp, fun p hp => by simp at hp⟩

/-- Through a step that turns nothing but the world of the script and its lists. -/
theorem InvA.step {w w' : World} {BW : Nat} {vps : Value} {ei ec eg ni nc ng : List Ent} {Ps : List (Pw × PM)} (h : InvA w BW vps ei ec eg Ps) (hg : InvG w' w'.heap.size BW vps (ei ++ ni) (ec ++ nc) (eg ++ ng)) (hn : ∀ e ∈ ni, NewEnt w.heap.size e) (hf : Fst BW w w') (hs : w.heap.size ≤ w'.heap.size) :
    InvA w' BW vps (ei ++ ni) (ec ++ nc) (eg ++ ng) Ps := by
  obtain ⟨vi, vc, vg, h1, h2, -⟩ := h.g
  have same : ∀ (b : Nat) (cs : Array Value) (t : TypeId) (fr : Nat × Nat), w.heap[b]? = some (.cells cs t fr) → t ∉ [34, 45, 48, 52] → w'.heap[b]? = w.heap[b]? := fun b cs t fr hb ht => hf b (blk_lt hb) (fun e => by
    subst e
    rw [h1] at hb
    simp only [Option.some.injEq, Obj.cells.injEq] at hb
    obtain ⟨-, rfl, -⟩ := hb
    simp at ht) (fun cs' fr' e => by rw [hb] at e; simp only [Option.some.injEq, Obj.cells.injEq] at e; obtain ⟨-, rfl, -⟩ := e; simp at ht) (fun cs' fr' e => by rw [hb] at e; simp only [Option.some.injEq, Obj.cells.injEq] at e; obtain ⟨-, rfl, -⟩ := e; simp at ht) (fun cs' fr' e => by rw [hb] at e; simp only [Option.some.injEq, Obj.cells.injEq] at e; obtain ⟨-, rfl, -⟩ := e; simp at ht)
  refine ⟨hg, ?_, fun p hp => (h.each p hp).keep fun b _ cs t fr e ht => same b cs t fr e fun hx => ?_, h.apart, fun p hp => ⟨(h.out p hp).1, Nat.le_trans (h.out p hp).2 hs⟩, fun p hp e he => ?_⟩
  · obtain ⟨k1, k2⟩ := h.row
    refine ⟨k1, ?_⟩
    rcases k2 with k2 | ⟨g, cap, cur, rfl, hgb, hh, r⟩
    · exact .inl k2
    · exact .inr ⟨g, cap, cur, rfl, hgb, (same g _ _ _ hh (by decide)).trans hh, r⟩
  · simp only [List.mem_cons, List.not_mem_nil, or_false] at ht hx
    rcases ht with rfl | rfl | rfl | rfl | rfl | rfl | rfl <;> simp at hx
  · rcases List.mem_append.1 he with he | he
    · exact h.ents p hp e he
    · exact ent_new (hn e he) ((h.each p hp).lt (by simp [Pw.X]))

theorem InvA.up {w w' : World} {BW : Nat} {vps : Value} {ei ec eg : List Ent} {Ps : List (Pw × PM)} (h : InvA w BW vps ei ec eg Ps) (hb : Below w.heap.size w w') : InvA w' BW vps ei ec eg Ps := by
  have := h.step (ni := []) (nc := []) (ng := []) (w' := w') (by simpa using (h.g.up hb).wide hb.size) (fun e he => by simp at he) (Fst.of_below hb) hb.size
  simpa using this
theorem InvA.bw {w : World} {BW : Nat} {vps : Value} {ei ec eg : List Ent} {Ps : List (Pw × PM)} (h : InvA w BW vps ei ec eg Ps) : BW < w.heap.size := by
  obtain ⟨_, _, _, _, h2, _⟩ := h.g
  exact h2

/-- What a turn may turn, as the lists that came out want it. -/
theorem InvA.xt {w : World} {BW : Nat} {vps : Value} {ei ec eg : List Ent} {Ps : List (Pw × PM)} (h : InvA w BW vps ei ec eg Ps) {P : Pw} {m : PM} (hm : (P, m) ∈ Ps) : ∀ b ∈ P.X, ∃ cs t fr, w.heap[b]? = some (.cells cs t fr) ∧ (t ∈ [112, 85, 116, 118] ∨ (t = 3 ∧ ∀ e ∈ ei, entOut e b)) := fun b hb => by
  obtain ⟨cs, t, fr, e, ht⟩ := (h.each _ hm).xtypes hb
  refine ⟨cs, t, fr, e, ?_⟩
  rcases ht with ht | ⟨ht, rfl⟩
  · exact .inl ht
  · exact .inr ⟨ht, fun e he => h.ents _ hm e he⟩

/-- Through a call that turns blocks of the j-th machine alone. -/
theorem InvA.turn {w w' : World} {BW : Nat} {vps : Value} {ei ec eg : List Ent} {Ps : List (Pw × PM)} (h : InvA w BW vps ei ec eg Ps) {j : Nat} {P : Pw} {m m' : PM} (hj : Ps[j]? = some (P, m)) (hc : Chg P.X w w') (hp : PairAt w' P m') : InvA w' BW vps ei ec eg (Ps.set j (P, m')) := by
  have hP : PairAt w P m := h.each _ (List.mem_of_getElem? hj)
  have hlen : j < Ps.length := (List.getElem?_eq_some_iff.1 hj).1
  have hX : ∀ b ∈ P.X, ∃ cs t fr, w.heap[b]? = some (.cells cs t fr) ∧ (t ∈ [112, 85, 116, 118] ∨ (t = 3 ∧ ∀ e ∈ ei, entOut e b)) := fun b hb => by
    obtain ⟨cs, t, fr, e, ht⟩ := hP.xtypes hb
    refine ⟨cs, t, fr, e, ?_⟩
    rcases ht with ht | ⟨ht, rfl⟩
    · exact .inl ht
    · exact .inr ⟨ht, fun e he => h.ents _ (List.mem_of_getElem? hj) e he⟩
  have hset : ∀ p, p ∈ Ps.set j (P, m') → p = (P, m') ∨ ∃ i, i ≠ j ∧ Ps[i]? = some p := fun p hp => by
    obtain ⟨i, hi⟩ := List.getElem?_of_mem hp
    rw [List.getElem?_set] at hi
    by_cases e : j = i
    · subst e
      rw [if_pos rfl, if_pos hlen] at hi
      exact .inl (Option.some.inj hi).symm
    · rw [if_neg e] at hi
      exact .inr ⟨i, fun e' => e e'.symm, hi⟩
  have hpw : ∀ (i : Nat) p, (Ps.set j (P, m'))[i]? = some p → ∃ p0, Ps[i]? = some p0 ∧ p0.1 = p.1 := fun i p hi => by
    rw [List.getElem?_set] at hi
    by_cases e : j = i
    · subst e
      rw [if_pos rfl, if_pos hlen] at hi
      have := Option.some.inj hi
      subst this
      exact ⟨_, hj, rfl⟩
    · rw [if_neg e] at hi
      exact ⟨p, hi, rfl⟩
  have hpm : ∀ p, p ∈ Ps.set j (P, m') → ∃ p0 ∈ Ps, p0.1 = p.1 := fun p hp => by
    obtain ⟨i, hi⟩ := List.getElem?_of_mem hp
    obtain ⟨p0, h0, e⟩ := hpw i p hi
    exact ⟨p0, List.mem_of_getElem? h0, e⟩
  refine ⟨(h.g.chg hc hX).wide hc.size, ?_, fun p hp' => ?_, fun i i' p q hi hp' hq => ?_, fun p hp' => ?_, fun p hp' e he => ?_⟩
  · have em : (Ps.set j (P, m')).map (fun p => Value.pointer (some ⟨p.1.bP, 0, none⟩)) = Ps.map (fun p => Value.pointer (some ⟨p.1.bP, 0, none⟩)) := by
      apply List.ext_getElem?
      intro i
      rw [List.getElem?_map, List.getElem?_map, List.getElem?_set]
      by_cases e : j = i
      · subst e; rw [if_pos rfl, if_pos hlen, hj]; rfl
      · rw [if_neg e]
    rw [List.length_set, em]
    obtain ⟨k1, k2⟩ := h.row
    refine ⟨k1, ?_⟩
    rcases k2 with k2 | ⟨g, cap, cur, rfl, hgb, hh, r⟩
    · exact .inl k2
    · refine .inr ⟨g, cap, cur, rfl, hgb, (hc.block g (blk_lt hh) fun hx => ?_).trans hh, r⟩
      obtain ⟨cs, t, fr, e, ht⟩ := hX g hx
      rw [hh] at e
      simp only [Option.some.injEq, Obj.cells.injEq] at e
      obtain ⟨-, rfl, -⟩ := e
      rcases ht with ht | ⟨ht, -⟩
      · simp at ht
      · cases ht
  · rcases hset p hp' with rfl | ⟨i, hij, hi⟩
    · exact hp
    · refine (h.each p (List.mem_of_getElem? hi)).keep fun b hb cs t fr e _ => hc.block b (blk_lt e) fun hx => ?_
      have b1 := (h.each p (List.mem_of_getElem? hi)).foot b hb
      have b2 := hP.foot b (hP.xfeet hx)
      rcases Nat.lt_or_gt_of_ne hij with hlt | hlt
      · have := h.apart i j _ _ hlt hi hj; dsimp only at this; omega
      · have := h.apart j i _ _ hlt hj hi; dsimp only at this; omega
  · obtain ⟨p0, a1, a2⟩ := hpw i p hp'
    obtain ⟨q0, b1, b2⟩ := hpw i' q hq
    rw [← a2, ← b2]
    exact h.apart i i' p0 q0 hi a1 b1
  · obtain ⟨p0, a1, a2⟩ := hpm p hp'
    rw [← a2]
    exact ⟨(h.out p0 a1).1, Nat.le_trans (h.out p0 a1).2 hc.size⟩
  · obtain ⟨p0, a1, a2⟩ := hpm p hp'
    rw [← a2]
    exact h.ents p0 a1 e he

end Go.Proofs.YtbhbacphiinpeaaGreat

/- Plain facts on the end of a block of a kernel that is being made; nothing of the program is in this text. -/
namespace Go.Proofs.YtbhbacphiinpeaaGreat
open Go.RowKit

theorem flatB_last (l : List Blk) (b : Blk) : (flatB (l ++ [b]))[l.length * 3]? = some (.int .i64 b.at0) ∧ (flatB (l ++ [b]))[l.length * 3 + 1]? = some (.bool b.loop) ∧ (flatB (l ++ [b]))[l.length * 3 + 2]? = some (.bool b.sides) := by
  rw [flatB_append, flatB_one]
  have hl := flatB_length l
  refine ⟨?_, ?_, ?_⟩
  · rw [List.getElem?_append_right (by omega), hl, show l.length * 3 - l.length * 3 = 0 by omega]; rfl
  · rw [List.getElem?_append_right (by omega), hl, show l.length * 3 + 1 - l.length * 3 = 1 by omega]; rfl
  · rw [List.getElem?_append_right (by omega), hl, show l.length * 3 + 2 - l.length * 3 = 2 by omega]; rfl

theorem flat_cons (x : Ins) (l : List Ins) : flat (x :: l) = x.vals ++ flat l := by simp [flat]

theorem flat_modify : ∀ (l : List Ins) (i : Nat) (n : Int), i < l.length → flat (l.modify i fun x => { x with b := n }) = (flat l).set (i * 4 + 2) (.int .i64 n)
  | [], i, n, h => by simp at h
  | x :: l, 0, n, _ => by
    rw [List.modify_zero_cons, flat_cons, flat_cons]
    simp [Ins.vals]
  | x :: l, i + 1, n, h => by
    rw [List.modify_succ_cons, flat_cons, flat_cons, flat_modify l i n (by simpa using h), List.set_append_right _ _ (by simp [Ins.vals]; omega)]
    have e : (i + 1) * 4 + 2 - x.vals.length = i * 4 + 2 := by simp [Ins.vals]; omega
    rw [e]

theorem close_eq {s : St} {ops : List Blk} {b : Blk} (h : s.op = ops ++ [b]) (second : Bool) : s.close second = (((({ s with op := ops } : St).ends b).other b second)).aim b.at0 := by
  unfold St.close
  rw [h]
  simp

end Go.Proofs.YtbhbacphiinpeaaGreat

