/- Q2 Vb: joined. -/
import Derived.Test.YtbhbacphiinpeaaGreatZ08
import Derived.Test.YtbhbacphiinpeaaGreatZ03
import Derived.Test.YtbhbacphiinpeaaGreatZ40
import Derived.Test.YtbhbacphiinpeaaGreatZ41
import Derived.Lib.SliceRun

/- What 'wide' and 'still' do with numbers. -/
namespace Go.Proofs.YtbhbacphiinpeaaGreat
open Go.RowKit

set_option maxHeartbeats 1000000 in
set_option maxRecDepth 100000 in
theorem wideI_none (ao : Option Addr) (cap : Nat) (hp : ao = none → cap = 0) (w : World) :
    Calls Tryz.prog 33 #[.slice ao 0 cap] w fun e w' => ∃ g c, e = .returned (.slice (some ⟨g, 0, none⟩) 0 c) ∧ w'.ownsRow w.heap.size 3 1 (.slice (some ⟨g, 0, none⟩) 1 c) 1 (zVals [-1000]) ∧ Below w.heap.size w w' := by
  obtain ⟨i0, hi, hz0, hz1, hz2⟩ := info_parts Tryz.infoQ3
  cases ao with
  | none =>
    have hp0 := hp rfl
    subst hp0
    clear hp
    go_enter Tryz.func33, Tryz.ntmps33
    go_wp2_with (first | (at_builtin; refine wpList_append_own_none rfl (.tmp 4) (.tmp 5) 24 rfl w.heap.size 3 i0 1 Tryz.underlying24 hi (.slice none 0 0) 0 [] rfl (World.ownsRow_nil _ _ _ _) rfl ?_) | (at_builtin; go_must (refine wpList_append_lies _ rfl (.tmp 7) (.tmp 8) 24 rfl w.heap.size 3 i0 (.int .i64 0) 1 8 Tryz.underlying24 hi hz0 hz1 hz2 rfl (by decide) (.slice none 0 0) 0 [] rfl ?d0 ⟨w.heap.size, 0, none⟩ 1 1 (zVals [-1000]) rfl rfl ?d1 ?d2 (by omega) ?d3 ?d4 ?d5 (w.heap.size + 1) ?d6 ?_)))
    case d0 => exact World.ownsRow_nil _ _ _ _
    case d1 => exact World.news_of_block (heap_alloc_new w _)
    case d2 => exact oneCell_z _
    case d3 => decide
    case d4 => decide
    case d5 => simp
    case d6 => simp
    · intro g2 c2 w2 hown2 hgrow2 _ _
      have hb2 : Below w.heap.size w w2 := ((Below.refl _ w).alloc (Nat.le_refl _) _).grown hgrow2 (by simp) (fun k hk => by simp [Value.ownBlock] at hk)
      have hown3 : w2.ownsRow w.heap.size 3 1 (.slice (some ⟨g2, 0, none⟩) 1 c2) 1 (zVals [-1000]) := by simpa using hown2
      have Hown2 := hyd hown3
      have HB2 := hyd hb2
      clear hown2 hown3 hgrow2 hb2
      go_wp2
      go_ret
      exact ⟨g2, c2, rfl, Hown2.out, HB2.out⟩
  | some a =>
    clear hp
    go_enter Tryz.func33, Tryz.ntmps33
    go_wp2_with (at_builtin; go_must (refine wpList_append_own _ rfl (.tmp 4) (.tmp 5) 24 rfl w.heap.size 3 i0 (.int .i64 0) 1 8 Tryz.underlying24 hi hz0 hz1 hz2 rfl (by decide) (.slice none 0 0) 0 [] rfl ?c0 a 0 cap [] rfl rfl ?c1 ?c2 ?c3 ?c4 ?c5 ?_))
    case c0 => exact World.ownsRow_nil _ _ _ _
    case c1 => intro j u hu; simp at hu
    case c2 => intro u hu; simp at hu
    case c3 => decide
    case c4 => decide
    case c5 => exact Nat.le_refl _
    · intro v1 w1 hown1 hgrow1 hnil
      have hv1 : v1 = .slice none 0 0 := by simpa using hnil
      have HB1 : Hid (Below w.heap.size w w1) := (Below.refl _ w).grown hgrow1 (Nat.le_refl _) (fun k hk => by simp [Value.ownBlock] at hk)
      subst hv1
      clear hown1 hgrow1 hnil
      go_wp2_with (at_builtin; go_must (refine wpList_append_lies _ rfl (.tmp 7) (.tmp 8) 24 rfl w.heap.size 3 i0 (.int .i64 0) 1 8 Tryz.underlying24 hi hz0 hz1 hz2 rfl (by decide) (.slice none 0 0) 0 [] rfl ?d0 ⟨w1.heap.size, 0, none⟩ 1 1 (zVals [-1000]) rfl rfl ?d1 ?d2 (by omega) ?d3 ?d4 ?d5 (w1.heap.size + 1) ?d6 ?_))
      case d0 => exact World.ownsRow_nil _ _ _ _
      case d1 => exact World.news_of_block (heap_alloc_new w1 _)
      case d2 => exact oneCell_z _
      case d3 => decide
      case d4 => decide
      case d5 => have := HB1.out.size; simp; omega
      case d6 => simp
      · intro g2 c2 w2 hown2 hgrow2 _ _
        have hb2 : Below w.heap.size w w2 := (HB1.out.alloc HB1.out.size _).grown hgrow2 (by have := HB1.out.size; simp; omega) (fun k hk => by simp [Value.ownBlock] at hk)
        have hown3 : w2.ownsRow w.heap.size 3 1 (.slice (some ⟨g2, 0, none⟩) 1 c2) 1 (zVals [-1000]) := by simpa using hown2
        have Hown2 := hyd hown3
        have HB2 := hyd hb2
        clear hown2 hown3 hgrow2 hb2
        go_wp2
        go_ret
        exact ⟨g2, c2, rfl, Hown2.out, HB2.out⟩

theorem wideI_any {w : World} {v : Value} {l : List Int} (h : SeesZ w v l) (hp : ∀ n cap, v = .slice none n cap → cap = 0) (hn : l.length ≤ 17592186044415) :
    Calls Tryz.prog 33 #[v] w fun e w' => ∃ g c, e = .returned (.slice (some ⟨g, 0, none⟩) l.length c) ∧ w'.ownsRow w.heap.size 3 1 (.slice (some ⟨g, 0, none⟩) (l.length + 1) c) (l.length + 1) (zVals (l ++ [-1000])) ∧ Below w.heap.size w w' := by
  obtain ⟨-, h⟩ := h
  rcases h with ⟨rfl, ao, cap, rfl⟩ | ⟨b, off, cap, rfl, hlt, hc⟩
  · exact wideI_none ao cap (fun e => hp 0 cap (by rw [e])) w
  · by_cases h0 : l.length = 0
    · have e := List.eq_nil_of_length_eq_zero h0
      subst e
      exact wideI_none (some ⟨b, off, none⟩) cap (fun e => by cases e) w
    · exact wideI_some b off l.length cap l rfl (by omega) hn w hc

theorem ownsRow_popZ {w : World} {base g n cap : Nat} {l : List Int} {x : Int} (hl : l.length = n) (h : w.ownsRow base 3 1 (.slice (some ⟨g, 0, none⟩) (n + 1) cap) (n + 1) (zVals (l ++ [x]))) : w.ownsRow base 3 1 (.slice (some ⟨g, 0, none⟩) n cap) n (zVals l) := by
  rw [zVals_append] at h
  exact ownsRow_pop (by rw [zVals_length, hl, Nat.mul_one]) h

set_option maxHeartbeats 1000000 in
set_option maxRecDepth 100000 in
theorem stillI_any {w : World} {v : Value} {l : List Int} {g n cap base : Nat} (hl : l.length = n) (hn : n ≤ 17592186044415) (hown : w.ownsRow base 3 1 (.slice (some ⟨g, 0, none⟩) (n + 1) cap) (n + 1) (zVals (l ++ [-1000]))) (hs : SeesZ w v l) (hbase : base ≤ w.heap.size) :
    Calls Tryz.prog 35 #[.slice (some ⟨g, 0, none⟩) n cap, v] w fun e w' => e = .returned (.bool true) ∧ Below base w w' ∧ ∀ b, b < w.heap.size → b ≠ g → w'.heap[b]? = w.heap[b]? := by
  have hown0 := ownsRow_popZ hl hown
  have Hs0 : Hid (SeesZ w (.slice (some ⟨g, 0, none⟩) n cap) l) := ownsRow_seesZ (by omega) (by rw [hl]; exact hown0)
  have Hs1 := hyd hs
  have Hown := hyd hown
  have hv : ∃ ao c, v = .slice ao n c := by
    rcases hs.2 with ⟨h0, ao, c, rfl⟩ | ⟨b, off, c, rfl, -⟩
    · subst h0; exact ⟨ao, c, by rw [← hl]; rfl⟩
    · exact ⟨_, c, by rw [hl]⟩
  obtain ⟨ao, c, rfl⟩ := hv
  have hcap : n + 1 ≤ cap := by
    rcases hown.2 with ⟨h0, -⟩ | ⟨g', cap', cur, hv, -, -, hc, -⟩
    · cases h0
    · cases hv; exact hc
  have hcap2 : (n : Int) + 1 ≤ (cap : Int) := by omega
  have hn2 : (n : Int) ≤ 17592186044415 := by omega
  obtain ⟨hg1, hg2⟩ := hown.lt g rfl
  have hfar : (l ++ [-1000])[n]? = some (-1000) := by rw [List.getElem?_append_right (by omega), hl]; simp
  have Hf := hyd (zVals_at hfar)
  clear hown hown0 hs hl hfar
  go_enter Tryz.func35, Tryz.ntmps35
  go_wp2_with fail
  refine (sameI Hs0.out Hs1.out).mono ?_
  rintro e w1 ⟨rfl, hb1⟩
  have hown1 := Hown.out.keptB hb1
  have c0 := (hown1.cellAt n (by omega)).trans Hf.out
  have hgw1 : g < w1.heap.size := (hown1.lt g rfl).2
  have hbw : base ≤ w1.heap.size := Nat.le_trans hbase hb1.size
  have Hown1 := hyd hown1
  have HB1 := hyd hb1
  clear hown1 hb1 Hs0 Hs1
  go_wp2_with fail
  go_loopw [7] (fun i wr => ∃ k : Nat, ∃ xs, k ≤ n + 1 ∧ i = .int .i64 k ∧ wr.ownsRow base 3 1 (.slice (some ⟨g, 0, none⟩) (n + 1) cap) (n + 1) xs ∧ Below base w wr ∧ Hid (∀ b, b < w.heap.size → b ≠ g → wr.heap[b]? = w.heap[b]?)) (fun i _ => n + 1 - (intOf i).toNat)
  case atStart => exact ⟨0, _, Nat.zero_le _, rfl, Hown1.out, HB1.out.mono hbase, fun b hb _ => HB1.out.block b hb⟩
  case round =>
    obtain ⟨k, xs, hk, rfl, ho, hb, HO2⟩ := hrel
    clear c0
    by_cases hkn : k < n + 1
    · have hlen : xs.length = (n + 1) * 1 := ho.1
      have e0 : ∃ u, wr.cell? ⟨g, k, none⟩ = some u := ⟨_, (ho.cellAt k (by omega)).trans (List.getElem?_eq_getElem (by omega))⟩
      obtain ⟨u0, e0⟩ := e0
      have z0 := ho.frozenAt k
      have Ho := hyd ho
      clear ho hlen
      have i1 : (0 : Int) ≤ (k : Int) := by omega
      have i2 : (k : Int) < (n : Int) + 1 := by omega
      go_wp2
      go_roundw
      case rel => exact ⟨k + 1, _, by omega, by go_num, (Ho.out.stored k _).1, hb.setCell (p := ⟨g, k, none⟩) hg1 _, fun b hbl hne => (Below.heap_setCell _ _ _ _ hne).trans (HO2.out b hbl hne)⟩
      case measure => simp [intOf]; omega
    · go_wp2
      go_ret
      exact ⟨rfl, hb, HO2.out⟩

end Go.Proofs.YtbhbacphiinpeaaGreat

/- What 'machine' (of loomlaw) answers and keeps: State, Memory, Registers, Done. -/
namespace Go.Proofs.YtbhbacphiinpeaaGreat
open Go.RowKit

/-- A script's world behind a step on a machine. -/
def Kept (w : World) (BW : Nat) (vps : Value) (ei ec eg : List Ent) (Ps : List (Pw × PM)) (w' : World) : Prop :=
  ∃ ni ng Ps', InvA w' BW vps (ei ++ ni) ec (eg ++ ng) Ps' ∧ (ni.length ≤ 1 ∧ ng.length ≤ 1 ∧ Ps'.length = Ps.length) ∧ Below BW w w' ∧ ∀ (b : Nat) (cs : Array Value) (t : TypeId) (fr : Nat × Nat), w.heap[b]? = some (.cells cs t fr) → t = 37 ∨ t = 41 → w'.heap[b]? = w.heap[b]?

theorem Kept.same {w w' : World} {BW : Nat} {vps : Value} {ei ec eg : List Ent} {Ps : List (Pw × PM)} (h : InvA w BW vps ei ec eg Ps) (hb : Below w.heap.size w w') : Kept w BW vps ei ec eg Ps w' :=
  ⟨[], [], Ps, by simpa using h.up hb, ⟨by simp, by simp, rfl⟩, hb.mono (Nat.le_of_lt h.bw), fun b _ _ _ e _ => hb.block b (blk_lt e)⟩

theorem pair_cells {w : World} {P : Pw} {m : PM} (h : PairAt w P m) : w.cell? ⟨P.bP, 0, none⟩ = some (.pointer (some ⟨P.LX.bX, 0, none⟩)) ∧ w.cell? ⟨P.bP, 1, none⟩ = some (.pointer (some ⟨P.LR.bM, 0, none⟩)) := by
  refine ⟨?_, ?_⟩ <;> (rw [cell_of_row w P.bP _ _ 74 _ h.blk]; rfl)
theorem PairAt.up {w w' : World} {P : Pw} {m : PM} (h : PairAt w P m) (hb : Below w.heap.size w w') : PairAt w' P m := h.keep fun b _ _ _ _ e _ => hb.block b (blk_lt e)

set_option maxHeartbeats 1000000 in
set_option maxRecDepth 100000 in
theorem mach6 {w : World} {BW : Nat} {vps : Value} {ei ec eg : List Ent} {Ps : List (Pw × PM)} (h : InvA w BW vps ei ec eg Ps) {P : Pw} {m : PM} (hP : (P, m) ∈ Ps) (a b c : Int) (s : ByteArray) (la : Option Addr) (ln lc : Nat) (ka : Option Addr) (kn kc : Nat) :
    Calls Tryz.prog 16 #[.pointer (some ⟨BW, 0, none⟩), .agg #[.int .i64 6, .int .i64 a, .int .i64 b, .int .i64 c, .string s, .slice la ln lc, .slice ka kn kc], .pointer (some ⟨P.bP, 0, none⟩)] w fun e w' => e = .returned (.bool true) ∧ Kept w BW vps ei ec eg Ps w' := by
  have H := hyd h
  have B0 : Hid (Below w.heap.size w (w.alloc (.cells #[.int .i64 6, .int .i64 a, .int .i64 b, .int .i64 c, .string s, .slice la ln lc, .slice ka kn kc] 37))) := (Below.refl _ _).alloc (Nat.le_refl _) _
  have P0 := hyd ((h.each _ hP).up B0.out)
  dsimp only at P0
  obtain ⟨p0, p1⟩ := pair_cells P0.out
  obtain ⟨x, hx⟩ := P0.out.x
  have hq := hyd (mstate_any hx)
  obtain ⟨-, -, -, -, -, c5⟩ := P0.out.y.core.cells
  clear h hx
  unfold pM at hq
  go_enter Tryz.func16, Tryz.ntmps16
  go_wp2_with fail
  refine hq.out.mono ?_
  rintro e w2 ⟨rfl, rfl⟩
  go_wp2_with fail
  go_ret
  exact ⟨by simp, Kept.same H.out B0.out⟩

/-- Behind 'own' of a list of numbers. -/
theorem kept_own {w w3 w4 : World} {BW : Nat} {vps : Value} {ei ec eg : List Ent} {Ps : List (Pw × PM)} {en : Ent} {B : Nat} (h : InvA w BW vps ei ec eg Ps) (hb : Below w.heap.size w w3) (hI : InvG w4 w4.heap.size BW vps (ei ++ [en]) ec eg) (hN : NewEnt B en) (hB : w.heap.size ≤ B) (hBW : Below BW w3 w4) (hf : OwnFr B BW 45 w3 w4) : Kept w BW vps ei ec eg Ps w4 := by
  have hs : w.heap.size ≤ w4.heap.size := Nat.le_trans hb.size hBW.size
  have := h.step (ni := [en]) (nc := []) (ng := []) (w' := w4) (by simpa using hI) (fun e he => by simp at he; subst he; exact fun g hg => Nat.le_trans hB (hN g hg)) (Fst.own hb (Nat.le_refl _) (fun b hbl => hf b (by omega)) (.inl rfl)) hs
  obtain ⟨_, _, _, g1, -⟩ := h.g
  refine ⟨[en], [], Ps, by simpa using this, ⟨by simp, by simp, rfl⟩, (hb.mono (Nat.le_of_lt h.bw)).trans hBW, fun b cs t fr e ht => ?_⟩
  have e3 := (hb.block b (blk_lt e)).trans e
  refine (hf b (by have := blk_lt e; omega) (fun e0 => ?_) (fun cs' fr' e' => ?_)).trans (hb.block b (blk_lt e))
  · subst e0
    rw [g1] at e
    simp only [Option.some.injEq, Obj.cells.injEq] at e
    rcases ht with rfl | rfl <;> exact absurd e.2.1 (by decide)
  · rw [e3] at e'
    simp only [Option.some.injEq, Obj.cells.injEq] at e'
    rcases ht with rfl | rfl <;> exact absurd e'.2.1 (by decide)

set_option maxHeartbeats 1000000 in
set_option maxRecDepth 100000 in
theorem mach7 {w : World} {BW : Nat} {vps : Value} {ei ec eg : List Ent} {Ps : List (Pw × PM)} (h : InvA w BW vps ei ec eg Ps) (hes : ei.length ≤ 1759218604000) {P : Pw} {m : PM} (hP : (P, m) ∈ Ps) (a b c : Int) (s : ByteArray) (la : Option Addr) (ln lc : Nat) (ka : Option Addr) (kn kc : Nat) :
    Calls Tryz.prog 16 #[.pointer (some ⟨BW, 0, none⟩), .agg #[.int .i64 7, .int .i64 a, .int .i64 b, .int .i64 c, .string s, .slice la ln lc, .slice ka kn kc], .pointer (some ⟨P.bP, 0, none⟩)] w fun e w' => e = .returned (.bool true) ∧ Kept w BW vps ei ec eg Ps w' := by
  have H := hyd h
  have B0 : Hid (Below w.heap.size w (w.alloc (.cells #[.int .i64 7, .int .i64 a, .int .i64 b, .int .i64 c, .string s, .slice la ln lc, .slice ka kn kc] 37))) := (Below.refl _ _).alloc (Nat.le_refl _) _
  have hsz : Hid ((w.alloc (.cells #[.int .i64 7, .int .i64 a, .int .i64 b, .int .i64 c, .string s, .slice la ln lc, .slice ka kn kc] 37)).heap.size = w.heap.size + 1) := World.size_alloc _ _
  have P0 := hyd ((h.each _ hP).up B0.out)
  dsimp only at P0
  obtain ⟨p0, p1⟩ := pair_cells P0.out
  obtain ⟨x, hx⟩ := P0.out.x
  have hq := hyd (mmem_any hx)
  have hm32 : m.mem.length ≤ 32 := P0.out.ok.m32
  clear h hx
  unfold pM at hq
  go_enter Tryz.func16, Tryz.ntmps16
  go_wp2_with fail
  generalize w.alloc (.cells #[.int .i64 7, .int .i64 a, .int .i64 b, .int .i64 c, .string s, .slice la ln lc, .slice ka kn kc] 37) = w1 at B0 hsz P0 p0 p1 hq ⊢
  refine hq.out.mono ?_
  rintro e w2 ⟨v, rfl, ho, hb⟩
  have P2 := hyd (P0.out.up hb)
  have B2 : Hid (Below w.heap.size w w2) := B0.out.trans (hb.mono B0.out.size)
  have O2 := hyd ho
  have hs2 : Hid (w1.heap.size ≤ w2.heap.size) := hb.size
  clear ho hb hq p0 p1
  obtain ⟨p0, p1⟩ := pair_cells P2.out
  obtain ⟨-, -, -, -, c4, -⟩ := P2.out.y.core.cells
  obtain ⟨mn, Hmn⟩ : ∃ mn, Hid (m.mem.length = mn) := ⟨_, rfl⟩
  rw [Hmn.out] at O2 hm32 c4
  obtain ⟨va, vc, hv⟩ := slice_ofM O2.out
  subst hv
  have S1 : Hid (SeesZ w2 (.slice va mn vc) m.mem) := ownsRow_seesZ (by rw [Hmn.out]; omega) (by rw [Hmn.out]; exact O2.out)
  have S2 : Hid (SeesZ w2 (.slice (some ⟨P.LR.gM, 0, none⟩) mn P.LR.cM) m.mem) := by
    have := ownsRow_seesZ (by rw [Hmn.out]; omega) P2.out.y.core.rM
    rw [Hmn.out] at this; exact this
  go_wp2_with fail
  refine (sameI S1.out S2.out).mono ?_
  rintro e w3 ⟨rfl, hb3⟩
  have B3 : Hid (Below w.heap.size w w3) := B2.out.trans (hb3.mono B2.out.size)
  have O3 := hyd (O2.out.keptB hb3)
  have hs3 : Hid (w1.heap.size ≤ w3.heap.size) := Nat.le_trans hs2.out hb3.size
  clear hb3 S1 S2 p0 p1 c4
  have I3 : Hid (InvG w3 w1.heap.size BW vps ei ec eg) := (H.out.g.up B3.out).wide B0.out.size
  go_wp2_with fail
  refine (ownI I3.out hes hs3.out O3.out (by omega)).mono ?_
  rintro e w4 ⟨rfl, ⟨en, hI4, hN4⟩, hb4, hf4⟩
  have K := hyd (kept_own H.out B3.out hI4 hN4 B0.out.size hb4 hf4)
  clear hI4 hN4 hb4 hf4
  go_wp2_with fail
  go_ret
  exact ⟨rfl, K.out⟩

set_option maxHeartbeats 1000000 in
set_option maxRecDepth 100000 in
theorem mach9 {w : World} {BW : Nat} {vps : Value} {ei ec eg : List Ent} {Ps : List (Pw × PM)} (h : InvA w BW vps ei ec eg Ps) {P : Pw} {m : PM} (hP : (P, m) ∈ Ps) (a b c : Int) (s : ByteArray) (la : Option Addr) (ln lc : Nat) (ka : Option Addr) (kn kc : Nat) :
    Calls Tryz.prog 16 #[.pointer (some ⟨BW, 0, none⟩), .agg #[.int .i64 9, .int .i64 a, .int .i64 b, .int .i64 c, .string s, .slice la ln lc, .slice ka kn kc], .pointer (some ⟨P.bP, 0, none⟩)] w fun e w' => e = .returned (.bool true) ∧ Kept w BW vps ei ec eg Ps w' := by
  have H := hyd h
  have B0 : Hid (Below w.heap.size w (w.alloc (.cells #[.int .i64 9, .int .i64 a, .int .i64 b, .int .i64 c, .string s, .slice la ln lc, .slice ka kn kc] 37))) := (Below.refl _ _).alloc (Nat.le_refl _) _
  have X0 := hyd (heap_alloc_new w (.cells #[.int .i64 9, .int .i64 a, .int .i64 b, .int .i64 c, .string s, .slice la ln lc, .slice ka kn kc] 37))
  have P0 := hyd ((h.each _ hP).up B0.out)
  dsimp only at P0
  obtain ⟨x, hx⟩ := P0.out.x
  have hR4 := P0.out.ok.regs
  -- both answer the same
  obtain ⟨D, E, hA, hC⟩ : ∃ D E, Hid (∀ wx, Below (w.alloc (.cells #[.int .i64 9, .int .i64 a, .int .i64 b, .int .i64 c, .string s, .slice la ln lc, .slice ka kn kc] 37)).heap.size (w.alloc (.cells #[.int .i64 9, .int .i64 a, .int .i64 b, .int .i64 c, .string s, .slice la ln lc, .slice ka kn kc] 37)) wx → Calls Tryz.prog 45 #[.pointer (some ⟨P.LX.bX, 0, none⟩), .int .i64 b] wx fun e w' => e = .returned (.tuple #[.bool D, .int .i64 E]) ∧ Below wx.heap.size wx w') ∧
      Hid (∀ wx, Below (w.alloc (.cells #[.int .i64 9, .int .i64 a, .int .i64 b, .int .i64 c, .string s, .slice la ln lc, .slice ka kn kc] 37)).heap.size (w.alloc (.cells #[.int .i64 9, .int .i64 a, .int .i64 b, .int .i64 c, .string s, .slice la ln lc, .slice ka kn kc] 37)) wx → Calls Tryz.prog 46 #[.pointer (some ⟨P.LR.bM, 0, none⟩), .int .i64 b] wx fun e w' => e = .returned (.tuple #[.bool D, .int .i64 E]) ∧ Below wx.heap.size wx w') := by
    by_cases ht : noThr m b
    · refine ⟨false, 8, fun wx hb => ?_, fun wx hb => ?_⟩
      · exact (mdone_no (hx.up hb) b ht).mono fun e w' hh => ⟨hh.1, by rw [hh.2]; exact Below.refl _ _⟩
      · exact (rdone_no (P0.out.up hb).y b ht).mono fun e w' hh => ⟨hh.1, by rw [hh.2]; exact Below.refl _ _⟩
    · unfold noThr at ht
      obtain ⟨t, rfl⟩ : ∃ t : Nat, b = (t : Int) := ⟨b.toNat, by omega⟩
      refine ⟨isDone m.ts t, 0, fun wx hb => ?_, fun wx hb => ?_⟩
      · exact mdone_yes (hx.up hb) t (by omega)
      · exact rdone_yes (P0.out.up hb).y hR4 t (by omega)
  clear h hx hR4
  go_enter Tryz.func16, Tryz.ntmps16
  go_wp2_with fail
  generalize w.alloc (.cells #[.int .i64 9, .int .i64 a, .int .i64 b, .int .i64 c, .string s, .slice la ln lc, .slice ka kn kc] 37) = w1 at B0 X0 P0 hA hC ⊢
  obtain ⟨p0, p1⟩ := pair_cells P0.out
  have x2 : w1.cell? ⟨w.heap.size, 2, none⟩ = some (.int .i64 b) := by rw [cell_of_row w1 w.heap.size 2 _ 37 _ X0.out]; rfl
  have hl0 : Hid (P.bP < w1.heap.size ∧ w.heap.size < w1.heap.size) := ⟨blk_lt P0.out.blk, blk_lt X0.out⟩
  go_region_held3 (fun w' => w'.cell? ⟨P.bP, 0, none⟩ = some (.pointer (some ⟨P.LX.bX, 0, none⟩)) ∧ w'.cell? ⟨w.heap.size, 2, none⟩ = some (.int .i64 b)) (first | go_keep | exact ⟨k0, k1⟩) ((go_at_call 45; refine (hA.out _ (Below.refl _ _).drew).mono ?_; rintro e w2 ⟨rfl, hb2⟩; have k0 : w2.cell? ⟨P.bP, 0, none⟩ = some (.pointer (some ⟨P.LX.bX, 0, none⟩)) := (hb2.cell (p := ⟨P.bP, 0, none⟩) hl0.out.1).trans p0; have k1 : w2.cell? ⟨w.heap.size, 2, none⟩ = some (.int .i64 b) := (hb2.cell (p := ⟨w.heap.size, 2, none⟩) hl0.out.2).trans x2))
  have B2 : Hid (Below w1.heap.size w1 w2) := (Below.refl _ w1).drew.trans hb2
  clear hb2 k0 k1
  have p1' : w2.cell? ⟨P.bP, 1, none⟩ = some (.pointer (some ⟨P.LR.bM, 0, none⟩)) := (B2.out.cell (p := ⟨P.bP, 1, none⟩) hl0.out.1).trans p1
  have x2' : w2.cell? ⟨w.heap.size, 2, none⟩ = some (.int .i64 b) := (B2.out.cell (p := ⟨w.heap.size, 2, none⟩) hl0.out.2).trans x2
  have hl2 : Hid (P.bP < w2.heap.size ∧ w.heap.size < w2.heap.size) := ⟨Nat.lt_of_lt_of_le hl0.out.1 B2.out.size, Nat.lt_of_lt_of_le hl0.out.2 B2.out.size⟩
  clear p0 p1 x2
  go_wp2_with fail
  go_region_held3 (fun w' => w'.cell? ⟨P.bP, 1, none⟩ = some (.pointer (some ⟨P.LR.bM, 0, none⟩)) ∧ w'.cell? ⟨w.heap.size, 2, none⟩ = some (.int .i64 b)) (first | go_keep | exact ⟨k0, k1⟩) ((go_at_call 46; refine (hC.out _ B2.out.drew).mono ?_; rintro e w3 ⟨rfl, hb3⟩; have k0 : w3.cell? ⟨P.bP, 1, none⟩ = some (.pointer (some ⟨P.LR.bM, 0, none⟩)) := (hb3.cell (p := ⟨P.bP, 1, none⟩) hl2.out.1).trans p1'; have k1 : w3.cell? ⟨w.heap.size, 2, none⟩ = some (.int .i64 b) := (hb3.cell (p := ⟨w.heap.size, 2, none⟩) hl2.out.2).trans x2'))
  have B3 : Hid (Below w2.heap.size w2 w3) := (Below.refl _ w2).drew.trans hb3
  clear hb3 k0 k1 p1' x2'
  have BF : Hid (Below w.heap.size w w3) := B0.out.trans ((B2.out.mono B0.out.size).trans (B3.out.mono (Nat.le_trans B0.out.size B2.out.size)))
  go_wp2_with fail
  go_ret
  exact ⟨by simp, Kept.same H.out BF.out⟩

set_option maxHeartbeats 1000000 in
set_option maxRecDepth 100000 in
theorem mach8 {w : World} {BW : Nat} {vps : Value} {ei ec eg : List Ent} {Ps : List (Pw × PM)} (h : InvA w BW vps ei ec eg Ps) (hes : ei.length ≤ 1759218604000) {P : Pw} {m : PM} (hP : (P, m) ∈ Ps) (a b c : Int) (s : ByteArray) (la : Option Addr) (ln lc : Nat) (ka : Option Addr) (kn kc : Nat) :
    Calls Tryz.prog 16 #[.pointer (some ⟨BW, 0, none⟩), .agg #[.int .i64 8, .int .i64 a, .int .i64 b, .int .i64 c, .string s, .slice la ln lc, .slice ka kn kc], .pointer (some ⟨P.bP, 0, none⟩)] w fun e w' => e = .returned (.bool true) ∧ Kept w BW vps ei ec eg Ps w' := by
  have H := hyd h
  have hnilq : ∀ (wx : World) (a : Option Addr) (n c : Nat), (binOp .eql 24 (.slice a n c) (.slice none 0 0)).run Tryz.prog wx = .ok (.bool a.isNone) wx := fun wx a n c => Lib.run_eql_slice_nil (P := Tryz.prog) wx 24 3 a n c 0 0 Tryz.underlying24
  have B0 : Hid (Below w.heap.size w (w.alloc (.cells #[.int .i64 8, .int .i64 a, .int .i64 b, .int .i64 c, .string s, .slice la ln lc, .slice ka kn kc] 37))) := (Below.refl _ _).alloc (Nat.le_refl _) _
  have X0 := hyd (heap_alloc_new w (.cells #[.int .i64 8, .int .i64 a, .int .i64 b, .int .i64 c, .string s, .slice la ln lc, .slice ka kn kc] 37))
  have P0 := hyd ((h.each _ hP).up B0.out)
  dsimp only at P0
  obtain ⟨x, hx⟩ := P0.out.x
  have hR4 := P0.out.ok.regs
  -- both answer the same
  obtain ⟨R, E, hA, hC, hRl⟩ : ∃ (R : List Int) (E : Int), Hid (∀ wx, Below (w.alloc (.cells #[.int .i64 8, .int .i64 a, .int .i64 b, .int .i64 c, .string s, .slice la ln lc, .slice ka kn kc] 37)).heap.size (w.alloc (.cells #[.int .i64 8, .int .i64 a, .int .i64 b, .int .i64 c, .string s, .slice la ln lc, .slice ka kn kc] 37)) wx → Calls Tryz.prog 43 #[.pointer (some ⟨P.LX.bX, 0, none⟩), .int .i64 b] wx fun e w' => ∃ v, e = .returned (.tuple #[v, .int .i64 E]) ∧ w'.ownsRow wx.heap.size 3 1 v R.length (zVals R) ∧ (E ≠ 0 → v = .slice none 0 0) ∧ Below wx.heap.size wx w') ∧
      Hid (∀ wx, Below (w.alloc (.cells #[.int .i64 8, .int .i64 a, .int .i64 b, .int .i64 c, .string s, .slice la ln lc, .slice ka kn kc] 37)).heap.size (w.alloc (.cells #[.int .i64 8, .int .i64 a, .int .i64 b, .int .i64 c, .string s, .slice la ln lc, .slice ka kn kc] 37)) wx → Calls Tryz.prog 44 #[.pointer (some ⟨P.LR.bM, 0, none⟩), .int .i64 b] wx fun e w' => ∃ v, e = .returned (.tuple #[v, .int .i64 E]) ∧ w'.ownsRow wx.heap.size 3 1 v R.length (zVals R) ∧ Below wx.heap.size wx w') ∧ R.length ≤ 4 := by
    by_cases ht : noThr m b
    · refine ⟨[], 8, fun wx hb => ?_, fun wx hb => ?_, by simp⟩
      · exact (mregs_no (hx.up hb) b ht).mono fun e w' hh => ⟨_, hh.1, World.ownsRow_nil _ _ _ _, fun _ => rfl, by rw [hh.2]; exact Below.refl _ _⟩
      · exact (rregs_no (P0.out.up hb).y b ht).mono fun e w' hh => ⟨_, hh.1, World.ownsRow_nil _ _ _ _, by rw [hh.2]; exact Below.refl _ _⟩
    · unfold noThr at ht
      obtain ⟨t, rfl⟩ : ∃ t : Nat, b = (t : Int) := ⟨b.toNat, by omega⟩
      have h4 := reg4_at hR4 (t := t) (by omega)
      refine ⟨(m.ts.getD t thr0).regs, 0, fun wx hb => ?_, fun wx hb => ?_, by rw [h4]; exact Nat.le_refl _⟩
      · refine (mregs_yes (hx.up hb) t (by omega)).mono ?_
        rintro e w' ⟨v, h1, h2, h3⟩
        exact ⟨v, h1, by rw [h4]; exact h2, fun hx => absurd rfl hx, h3⟩
      · refine (rregs_yes (P0.out.up hb).y hR4 t (by omega)).mono ?_
        rintro e w' ⟨v, h1, h2, h3⟩
        exact ⟨v, h1, by rw [h4]; exact h2, h3⟩
  clear h hx hR4
  go_enter Tryz.func16, Tryz.ntmps16
  go_wp2_with fail
  generalize w.alloc (.cells #[.int .i64 8, .int .i64 a, .int .i64 b, .int .i64 c, .string s, .slice la ln lc, .slice ka kn kc] 37) = w1 at B0 X0 P0 hA hC ⊢
  obtain ⟨p0, p1⟩ := pair_cells P0.out
  have x2 : w1.cell? ⟨w.heap.size, 2, none⟩ = some (.int .i64 b) := by rw [cell_of_row w1 w.heap.size 2 _ 37 _ X0.out]; rfl
  have hl0 : Hid (P.bP < w1.heap.size ∧ w.heap.size < w1.heap.size) := ⟨blk_lt P0.out.blk, blk_lt X0.out⟩
  obtain ⟨rn, Hrn⟩ : ∃ rn, Hid (R.length = rn) := ⟨_, rfl⟩
  rw [Hrn.out] at hA hC hRl
  go_region_held3 (fun w' => w'.cell? ⟨P.bP, 0, none⟩ = some (.pointer (some ⟨P.LX.bX, 0, none⟩)) ∧ w'.cell? ⟨w.heap.size, 2, none⟩ = some (.int .i64 b)) (first | go_keep | exact ⟨k0, k1⟩) ((go_at_call 43; refine (hA.out _ (Below.refl _ _).drew).mono ?_; rintro e w2 ⟨v, rfl, ho2, hn2, hb2⟩; have k0 : w2.cell? ⟨P.bP, 0, none⟩ = some (.pointer (some ⟨P.LX.bX, 0, none⟩)) := (hb2.cell (p := ⟨P.bP, 0, none⟩) hl0.out.1).trans p0; have k1 : w2.cell? ⟨w.heap.size, 2, none⟩ = some (.int .i64 b) := (hb2.cell (p := ⟨w.heap.size, 2, none⟩) hl0.out.2).trans x2))
  have B2 : Hid (Below w1.heap.size w1 w2) := (Below.refl _ w1).drew.trans hb2
  have O2 : Hid (w2.ownsRow w1.heap.size 3 1 v rn (zVals R)) := ho2
  have N2 := hyd hn2
  clear hb2 k0 k1 ho2 hn2
  have p1' : w2.cell? ⟨P.bP, 1, none⟩ = some (.pointer (some ⟨P.LR.bM, 0, none⟩)) := (B2.out.cell (p := ⟨P.bP, 1, none⟩) hl0.out.1).trans p1
  have x2' : w2.cell? ⟨w.heap.size, 2, none⟩ = some (.int .i64 b) := (B2.out.cell (p := ⟨w.heap.size, 2, none⟩) hl0.out.2).trans x2
  have hl2 : Hid (P.bP < w2.heap.size ∧ w.heap.size < w2.heap.size) := ⟨Nat.lt_of_lt_of_le hl0.out.1 B2.out.size, Nat.lt_of_lt_of_le hl0.out.2 B2.out.size⟩
  clear p0 p1 x2
  obtain ⟨va, vc, hv⟩ := slice_ofM O2.out
  subst hv
  go_wp2_with fail
  go_region_held3 (fun w' => w'.cell? ⟨P.bP, 1, none⟩ = some (.pointer (some ⟨P.LR.bM, 0, none⟩)) ∧ w'.cell? ⟨w.heap.size, 2, none⟩ = some (.int .i64 b)) (first | go_keep | exact ⟨k0, k1⟩) ((go_at_call 44; refine (hC.out _ B2.out.drew).mono ?_; rintro e w3 ⟨v3, rfl, ho3, hb3⟩; have k0 : w3.cell? ⟨P.bP, 1, none⟩ = some (.pointer (some ⟨P.LR.bM, 0, none⟩)) := (hb3.cell (p := ⟨P.bP, 1, none⟩) hl2.out.1).trans p1'; have k1 : w3.cell? ⟨w.heap.size, 2, none⟩ = some (.int .i64 b) := (hb3.cell (p := ⟨w.heap.size, 2, none⟩) hl2.out.2).trans x2'))
  have B3 : Hid (Below w2.heap.size w2 w3) := (Below.refl _ w2).drew.trans hb3
  have OX3 := hyd ho3
  have O3 := hyd (O2.out.keptB B3.out)
  clear hb3 k0 k1 p1' x2' ho3
  obtain ⟨va3, vc3, hv3⟩ := slice_ofM OX3.out
  subst hv3
  have BW3 : Hid (Below w.heap.size w w3) := B0.out.trans ((B2.out.mono B0.out.size).trans (B3.out.mono (Nat.le_trans B0.out.size B2.out.size)))
  have hs3 : Hid (w1.heap.size ≤ w3.heap.size) := Nat.le_trans B2.out.size B3.out.size
  have S1 : Hid (SeesZ w3 (.slice va rn vc) R) := ownsRow_seesZ (by rw [Hrn.out]; omega) (by rw [Hrn.out]; exact O3.out)
  have S2 : Hid (SeesZ w3 (.slice va3 rn vc3) R) := ownsRow_seesZ (by rw [Hrn.out]; omega) (by rw [Hrn.out]; exact OX3.out)
  go_wp2_with fail
  refine (sameI S1.out S2.out).mono ?_
  rintro e w4 ⟨rfl, hb4⟩
  have B4 : Hid (Below w.heap.size w w4) := BW3.out.trans (hb4.mono BW3.out.size)
  have O4 := hyd (O3.out.keptB hb4)
  have hs4 : Hid (w1.heap.size ≤ w4.heap.size) := Nat.le_trans hs3.out hb4.size
  clear hb4 S1 S2
  have I4 : Hid (InvG w4 w1.heap.size BW vps ei ec eg) := (H.out.g.up B4.out).wide B0.out.size
  go_wp2_with fail
  refine (ownI I4.out hes hs4.out O4.out (by omega)).mono ?_
  rintro e w5 ⟨rfl, ⟨en, hI5, hN5⟩, hb5, hf5⟩
  have K := hyd (kept_own H.out B4.out hI5 hN5 B0.out.size hb5 hf5)
  clear hI5 hN5 hb5 hf5
  by_cases hE : E = 0
  · subst hE
    go_wp2_with fail
    go_ret
    exact ⟨rfl, K.out⟩
  · have hEb : (E == 0) = false := by simpa using hE
    have hv0 := N2.out hE
    simp only [Value.slice.injEq] at hv0
    obtain ⟨e1, e2, e3⟩ := hv0
    subst e1
    clear hE e2 e3
    go_wp2_with fail
    go_ret
    exact ⟨by simp, K.out⟩

end Go.Proofs.YtbhbacphiinpeaaGreat

