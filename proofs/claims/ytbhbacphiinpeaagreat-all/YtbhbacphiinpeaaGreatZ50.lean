/- Re5 Vd J1: joined. -/
import Derived.Test.YtbhbacphiinpeaaGreatZ49
import Derived.Test.YtbhbacphiinpeaaGreatZ46
import Derived.Test.YtbhbacphiinpeaaGreatZ47
import Derived.Test.YtbhbacphiinpeaaGreatZ42
import Derived.Deep.Cut
import Derived.Test.YtbhbacphiinpeaaGreatZ29
import Derived.Test.YtbhbacphiinpeaaGreatZ39
import Derived.Lib.SliceRun

/- What the document's 'New' answers and makes. -/
namespace Go.Proofs.YtbhbacphiinpeaaGreat
open Go.RowKit

theorem rnew_any (s : ByteArray) (hm : s.size ≤ 140737488355328) (t f : Int) {v : Value} {mem : List Int} (w : World) (hv : SeesZ w v mem) :
    Calls Tryz.prog 36 #[.string s, .int .i64 t, .int .i64 f, v] w fun e w' => ((newE s t f mem.length).1 ≠ 0 → e = .returned (.tuple #[.pointer none, .int .i64 (newE s t f mem.length).1, .int .i64 (newE s t f mem.length).2]) ∧ Below w.heap.size w w') ∧
      ((newE s t f mem.length).1 = 0 → ∃ J, JoinsAre (decL s) J ∧ PMok (newP (decL s) J t.toNat f.toNat mem) ∧ NewAns w (newP (decL s) J t.toNat f.toNat mem) e w') := by
  obtain ⟨ao, cap, hvs⟩ : ∃ ao cap, v = .slice ao mem.length cap := by
    rcases hv.2 with ⟨h0, ao, cap, h⟩ | ⟨b, off, cap, h, -⟩
    · exact ⟨ao, cap, by rw [h, h0]; rfl⟩
    · exact ⟨_, cap, h⟩
  by_cases h0 : (dchk s).1 = 0
  · have e1 : newE s t f mem.length = (newErr t f mem.length, 0) := by unfold newE; rw [if_neg (by omega)]
    by_cases he : newErr t f mem.length = 0
    · obtain ⟨tn, fn, rfl, rfl, a1, a2, a3, a4, a5⟩ := newErr_zero he
      rcases hv.2 with ⟨h00, -⟩ | ⟨b, off, cap', h, hb, hc⟩
      · rw [h00] at a4; simp at a4
      · subst h
        refine (rnew_yes s hm h0 tn fn a1 a2 a3 b off cap' mem w hb a4 a5 hc).mono ?_
        rintro e w' ⟨J, hJ, hN⟩
        rw [e1]
        refine ⟨fun hx => absurd he hx, fun _ => ⟨J, hJ, ?_, ?_⟩⟩
        · rw [Int.toNat_natCast, Int.toNat_natCast]
          exact new_ok (dec_good h0).1 hJ a1 a2 a4 a5
        · rw [Int.toNat_natCast, Int.toNat_natCast]
          exact hN
    · subst hvs
      refine (rnew_bad s hm h0 t f ao mem.length cap hv.1 w he).mono ?_
      rintro e w' ⟨rfl, hb⟩
      rw [e1]
      exact ⟨fun _ => ⟨rfl, hb⟩, fun hx => absurd hx he⟩
  · have e1 : newE s t f mem.length = dchk s := by unfold newE; rw [if_pos h0]
    subst hvs
    refine (rnew_no s hm h0 t f ao mem.length cap w).mono ?_
    rintro e w' ⟨rfl, hb⟩
    rw [e1]
    exact ⟨fun _ => ⟨rfl, hb⟩, fun hx => absurd hx h0⟩

end Go.Proofs.YtbhbacphiinpeaaGreat

/- What 'made' (of loomlaw) answers and keeps. -/
namespace Go.Proofs.YtbhbacphiinpeaaGreat
open Go.RowKit

theorem Tryz.infoP41 : (Tryz.prog.info? 41).map (fun i => (i.zero, i.size, i.bytes)) = some (some (.pointer none), 1, 8) := by kernel_rfl

/-- A script's world behind a New. -/
def KeptN (w : World) (BW : Nat) (ei ec eg : List Ent) (Ps : List (Pw × PM)) (w' : World) : Prop :=
  ∃ vps' Ps', InvA w' BW vps' ei ec eg Ps' ∧ Ps'.length ≤ Ps.length + 1 ∧ Below BW w w'

/-- One pair more. -/
theorem kept_new {w w5 w6 : World} {BW : Nat} {vps v' : Value} {ei ec eg : List Ent} {Ps : List (Pw × PM)} {P : Pw} {m : PM} {ob ob2 : Obj} (h : InvA w BW vps ei ec eg Ps) (hb : Below w.heap.size w w5) (hp : PairAt ((w5.alloc ob).alloc ob2) P m)
    (hlo : P.lo = w.heap.size) (hhi : P.hi = w5.heap.size + 1) (hg : ((w5.alloc ob).alloc ob2).grownBy w6 vps.ownBlock) (ho : w6.ownsRow (BW + 1) 41 1 v' (Ps.length + 1) ((Ps.map fun p => .pointer (some ⟨p.1.bP, 0, none⟩)) ++ [.pointer (some ⟨P.bP, 0, none⟩)])) :
    KeptN w BW ei ec eg Ps (w6.setCell ⟨BW, 0, none⟩ v') := by
  have hbw := h.bw
  have hs5 := hb.size
  have hs6 := hg.size
  simp only [World.size_alloc] at hs6
  have hG5 := h.g.up hb
  obtain ⟨vi, vc, vg, h1, h2, h3, h4, h5⟩ := hG5
  have hne : ∀ (b : Nat) (cs : Array Value) (t : TypeId) (fr : Nat × Nat), w5.heap[b]? = some (.cells cs t fr) → t ≠ 41 → some b ≠ vps.ownBlock := fun b cs t fr e ht => by
    have hr5 : w5.ownsRow (BW + 1) 41 1 vps Ps.length (Ps.map fun p => .pointer (some ⟨p.1.bP, 0, none⟩)) := by
      obtain ⟨k1, k2⟩ := h.row
      refine ⟨k1, ?_⟩
      rcases k2 with k2 | ⟨g, cap, cur, rfl, hgb, hh, r⟩
      · exact .inl k2
      · exact .inr ⟨g, cap, cur, rfl, hgb, (hb.block g (blk_lt hh)).trans hh, r⟩
    exact owns_not hr5 e ht
  have same0 : ∀ (b : Nat) (cs : Array Value) (t : TypeId) (fr : Nat × Nat), w5.heap[b]? = some (.cells cs t fr) → t ≠ 41 → w6.heap[b]? = w5.heap[b]? := fun b cs t fr e ht => by
    rw [hg.block b (by have := blk_lt e; simp; omega) (hne b cs t fr e ht), Below.heap_alloc _ _ _ (by have := blk_lt e; simp; omega), Below.heap_alloc _ _ _ (blk_lt e)]
  have same : ∀ (b : Nat) (cs : Array Value) (t : TypeId) (fr : Nat × Nat), w5.heap[b]? = some (.cells cs t fr) → t ≠ 41 → t ≠ 34 → (w6.setCell ⟨BW, 0, none⟩ v').heap[b]? = w5.heap[b]? := fun b cs t fr e ht ht2 => by
    rw [Below.heap_setCell _ _ _ _ (fun e0 => by
      dsimp only at e0
      subst e0
      rw [h1] at e
      simp only [Option.some.injEq, Obj.cells.injEq] at e
      exact ht2 e.2.1.symm)]
    exact same0 b cs t fr e ht
  have hss : (w6.setCell ⟨BW, 0, none⟩ v').heap.size = w6.heap.size := by simp [World.setCell]
  have row : ∀ {f : Fam} {v : Value} {es : List Ent}, RowG f w5 w.heap.size BW v es → f.st ≠ 41 → f.st ≠ 34 → f.e ≠ 41 → f.e ≠ 34 → RowG f (w6.setCell ⟨BW, 0, none⟩ v') w6.heap.size BW v es := fun {f v es} hr a1 a2 a3 a4 => by
    refine ⟨?_, fun g hg' => by have := hr.2.1 g hg'; omega, fun e he => (hr.2.2 e he).keep (by omega) fun g cur _ hgc => same g cur _ _ hgc a3 a4⟩
    obtain ⟨k1, k2⟩ := hr.1
    refine ⟨k1, ?_⟩
    rcases k2 with k2 | ⟨g, cap, cur, rfl, hgb, hh, r⟩
    · exact .inl k2
    · exact .inr ⟨g, cap, cur, rfl, hgb, (same g _ _ _ hh a1 a2).trans hh, r⟩
  have hmap : (Ps ++ [(P, m)]).map (fun p => Value.pointer (some ⟨p.1.bP, 0, none⟩)) = (Ps.map fun p => .pointer (some ⟨p.1.bP, 0, none⟩)) ++ [.pointer (some ⟨P.bP, 0, none⟩)] := by simp
  refine ⟨v', Ps ++ [(P, m)], ⟨?_, ?_, fun p hp' => ?_, fun i j p q hij hi hj => ?_, fun p hp' => ?_, fun p hp' e he => ?_⟩, by simp, ?_⟩
  · rw [hss]
    refine ⟨vi, vc, vg, ?_, by omega, row h3 (by decide) (by decide) (by decide) (by decide), row h4 (by decide) (by decide) (by decide) (by decide), row h5 (by decide) (by decide) (by decide) (by decide)⟩
    rw [heap_setCell_same w6 BW 0 _ 34 v' ((same0 BW _ _ _ h1 (by decide)).trans h1)]
    rfl
  · rw [hmap, List.length_append]
    obtain ⟨k1, k2⟩ := ho
    refine ⟨k1, ?_⟩
    rcases k2 with k2 | ⟨g, cap, cur, rfl, hgb, hh, r⟩
    · exact .inl k2
    · exact .inr ⟨g, cap, cur, rfl, hgb, (Below.heap_setCell _ _ _ _ (by show g ≠ BW; omega)).trans hh, r⟩
  · rcases List.mem_append.1 hp' with hp' | hp'
    · refine (h.each p hp').keep fun b _ cs t fr e ht => ?_
      have e5 := (hb.block b (blk_lt e)).trans e
      refine (same b cs t fr e5 (fun e0 => ?_) (fun e0 => ?_)).trans (hb.block b (blk_lt e))
      · subst e0; simp at ht
      · subst e0; simp at ht
    · have e := List.mem_singleton.1 hp'
      subst e
      refine hp.keep fun b hb' cs t fr e ht => ?_
      have hbl : b < w5.heap.size + 1 := by have := (hp.foot b hb').2; rw [hhi] at this; exact this
      have hge : w.heap.size ≤ b := by have := (hp.foot b hb').1; rw [hlo] at this; exact this
      rw [Below.heap_setCell _ _ _ _ (by show b ≠ BW; omega)]
      refine hg.block b (by simp; omega) fun e0 => ?_
      have := (h.row.lt b e0.symm).2
      omega
  · by_cases hjl : j < Ps.length
    · rw [List.getElem?_append_left hjl] at hj
      rw [List.getElem?_append_left (by omega)] at hi
      exact h.apart i j p q hij hi hj
    · have hj' : j = Ps.length := by
        have := (List.getElem?_eq_some_iff.1 hj).1
        rw [List.length_append, List.length_singleton] at this
        omega
      subst hj'
      rw [List.getElem?_append_right (Nat.le_refl _), Nat.sub_self] at hj
      have e := Option.some.inj hj
      subst e
      rw [List.getElem?_append_left hij] at hi
      rw [hlo]
      exact (h.out p (List.mem_of_getElem? hi)).2
  · rw [hss]
    rcases List.mem_append.1 hp' with hp' | hp'
    · have := h.out p hp'; exact ⟨this.1, by omega⟩
    · have e := List.mem_singleton.1 hp'
      subst e
      exact ⟨by rw [hlo]; exact hbw, by rw [hhi]; omega⟩
  · rcases List.mem_append.1 hp' with hp' | hp'
    · exact h.ents p hp' e he
    · have e0 := List.mem_singleton.1 hp'
      subst e0
      obtain ⟨_, _, _, _, _, g3, -⟩ := h.g
      refine ent_far (g3.2.2 e he) ?_
      have := (hp.foot P.LR.gM (by simp [Pw.feet])).1
      rw [hlo] at this
      exact this
  · have hb6 : Below BW w w6 := (((hb.mono (Nat.le_of_lt hbw)).alloc (by omega) _).alloc (by simp; omega) _).grown hg (by simp; omega) (fun x hx => by have := (h.row.lt x hx).1; omega)
    exact hb6.setCell (p := ⟨BW, 0, none⟩) (Nat.le_refl _) v'

set_option maxHeartbeats 2000000 in
set_option maxRecDepth 100000 in
theorem made_any {w : World} {BW : Nat} {vps : Value} {ei ec eg : List Ent} {Ps : List (Pw × PM)} (h : InvA w BW vps ei ec eg Ps) (hps : Ps.length ≤ 1759218604000) (a b c : Int) (s : ByteArray) (la : Option Addr) (ln lc : Nat) (ka : Option Addr) (kn kc : Nat) (hs : s.size ≤ 140737488355328) {l : List Int} (hl : l.length ≤ 17592186044415) (hp : ∀ n cap, Value.slice la ln lc = .slice none n cap → cap = 0) (hz : SeesZ w (.slice la ln lc) l) :
    Calls Tryz.prog 15 #[.pointer (some ⟨BW, 0, none⟩), .agg #[.int .i64 4, .int .i64 a, .int .i64 b, .int .i64 c, .string s, .slice la ln lc, .slice ka kn kc]] w fun e w' => e = .returned (.bool true) ∧ KeptN w BW ei ec eg Ps w' := by
  have H := hyd h
  have B0 : Hid (Below w.heap.size w (w.alloc (.cells #[.int .i64 4, .int .i64 a, .int .i64 b, .int .i64 c, .string s, .slice la ln lc, .slice ka kn kc] 37))) := (Below.refl _ _).alloc (Nat.le_refl _) _
  have X0 := hyd (heap_alloc_new w (.cells #[.int .i64 4, .int .i64 a, .int .i64 b, .int .i64 c, .string s, .slice la ln lc, .slice ka kn kc] 37))
  have Z0 := hyd (hz.up (Nat.le_refl _) B0.out)
  have hw := hyd (wideI_any Z0.out hp hl)
  have ZZ := hyd hz
  clear h hz
  go_enter Tryz.func15, Tryz.ntmps15
  go_wp2_with fail
  generalize w.alloc (.cells #[.int .i64 4, .int .i64 a, .int .i64 b, .int .i64 c, .string s, .slice la ln lc, .slice ka kn kc] 37) = w1 at B0 X0 Z0 hw ⊢
  refine hw.out.mono ?_
  rintro e w2 ⟨g, cc, rfl, hown2, hb2⟩
  obtain ⟨n, Hn⟩ : ∃ n, Hid (l.length = n) := ⟨_, rfl⟩
  rw [Hn.out] at hown2
  have O2 := hyd hown2
  have B2 : Hid (Below w.heap.size w w2) := B0.out.trans (hb2.mono B0.out.size)
  have X2 : Hid (w2.heap[w.heap.size]? = _) := (hb2.block _ (blk_lt X0.out)).trans X0.out
  have Z2 := hyd (Z0.out.up (Nat.le_refl _) hb2)
  have hs12 : Hid (w1.heap.size ≤ w2.heap.size) := hb2.size
  have hl2 : n ≤ 17592186044415 := by rw [← Hn.out]; exact hl
  have SZ : Hid (SeesZ w2 (.slice (some ⟨g, 0, none⟩) n cc) l) := ownsRow_seesZ (by rw [Hn.out]; omega) (by rw [Hn.out]; exact ownsRow_popZ Hn.out hown2)
  have hgl : Hid (g < w2.heap.size ∧ w1.heap.size ≤ g) := ⟨(hown2.lt g rfl).2, (hown2.lt g rfl).1⟩
  clear hown2 hb2 hw
  rw [Hn.out]
  have x1 : w2.cell? ⟨w.heap.size, 1, none⟩ = some (.int .i64 a) := by rw [cell_of_row w2 w.heap.size 1 _ 37 _ X2.out]; rfl
  have x2 : w2.cell? ⟨w.heap.size, 2, none⟩ = some (.int .i64 b) := by rw [cell_of_row w2 w.heap.size 2 _ 37 _ X2.out]; rfl
  have x4 : w2.cell? ⟨w.heap.size, 4, none⟩ = some (.string s) := by rw [cell_of_row w2 w.heap.size 4 _ 37 _ X2.out]; rfl
  go_wp2_with fail
  refine (mnew_any s hs a b w2 SZ.out).mono ?_
  rw [Hn.out]
  obtain ⟨E1, E2, HE⟩ : ∃ E1 E2, Hid (newE s a b n = (E1, E2)) := ⟨_, _, rfl⟩
  rw [HE.out]
  rintro e w3 ⟨hno, hyes⟩
  by_cases h0 : E1 = 0
  · subst h0
    obtain ⟨J, hJ, hok, L, x, rfl, hX, hLb, hb3⟩ := hyes rfl
    have HX := hyd hX
    have HLb := hyd hLb
    have HJ := hyd hJ
    have HOK := hyd hok
    clear hno hyes hX hLb hJ hok
    have B3 : Hid (Below w.heap.size w w3) := B2.out.trans (hb3.mono B2.out.size)
    have X3 : Hid (w3.heap[w.heap.size]? = _) := (hb3.block _ (blk_lt X2.out)).trans X2.out
    have O3 := hyd (O2.out.keptB hb3)
    have Z3 : Hid (SeesZ w3 (.slice la ln lc) l) := Z2.out.up (Nat.le_refl _) hb3
    have hs23 : Hid (w2.heap.size ≤ w3.heap.size) := hb3.size
    clear hb3 x1 x2 x4
    have x5 : w3.cell? ⟨w.heap.size, 5, none⟩ = some (.slice la ln lc) := by rw [cell_of_row w3 w.heap.size 5 _ 37 _ X3.out]; rfl
    go_wp2_with fail
    refine (stillI_any Hn.out hl2 O3.out Z3.out (Nat.le_trans hs12.out hs23.out)).mono ?_
    rintro e w4 ⟨rfl, hb4, hoth⟩
    have B4 : Hid (Below w.heap.size w w4) := B3.out.trans (hb4.mono B0.out.size)
    have X4 : Hid (w4.heap[w.heap.size]? = _) := (hb4.block _ (blk_lt X0.out)).trans X3.out
    have Z4 : Hid (SeesZ w4 (.slice la ln lc) l) := ZZ.out.up (Nat.le_refl _) B4.out
    have OT := hyd hoth
    have hs34 : Hid (w3.heap.size ≤ w4.heap.size) := hb4.size
    clear hb4 hoth x5
    have x1 : w4.cell? ⟨w.heap.size, 1, none⟩ = some (.int .i64 a) := by rw [cell_of_row w4 w.heap.size 1 _ 37 _ X4.out]; rfl
    have x2 : w4.cell? ⟨w.heap.size, 2, none⟩ = some (.int .i64 b) := by rw [cell_of_row w4 w.heap.size 2 _ 37 _ X4.out]; rfl
    have x4 : w4.cell? ⟨w.heap.size, 4, none⟩ = some (.string s) := by rw [cell_of_row w4 w.heap.size 4 _ 37 _ X4.out]; rfl
    have x5 : w4.cell? ⟨w.heap.size, 5, none⟩ = some (.slice la ln lc) := by rw [cell_of_row w4 w.heap.size 5 _ 37 _ X4.out]; rfl
    go_wp2_with fail
    refine (rnew_any s hs a b w4 Z4.out).mono ?_
    rw [Hn.out, HE.out]
    rintro e w5 ⟨hno, hyes⟩
    obtain ⟨J2, hJ2, -, RL, gW, cW, vs, rfl, hY, hYb, hKb, hb5⟩ := hyes rfl
    have eJ := joins_one hJ2 HJ.out
    subst eJ
    have X4b : Hid (XAt w4 L (newP (decL s) J2 a.toNat b.toNat l) x) := HX.out.keep fun g' hg' => OT.out g' (HX.out.mx.lt hg') (fun e => by
      have h1 := HLb.out
      have h2 := hgl.out
      rcases hg' with rfl | rfl | rfl <;> omega)
    have B5 : Hid (Below w.heap.size w w5) := B4.out.trans (hb5.mono B4.out.size)
    have hlo : Hid (w.heap.size ≤ w2.heap.size ∧ w2.heap.size ≤ w4.heap.size ∧ w4.heap.size ≤ w5.heap.size) := ⟨B2.out.size, Nat.le_trans hs23.out hs34.out, hb5.size⟩
    have XW := hyd (X4b.out.up hb5)
    have YW := hyd hY
    have YB := hyd hYb
    have KB := hyd hKb
    have hLlt : Hid (L.bX < w4.heap.size ∧ L.gK < w4.heap.size ∧ L.gJ < w4.heap.size) := ⟨X4b.out.mx.lt (.inl rfl), X4b.out.mx.lt (.inr (.inl rfl)), X4b.out.mx.lt (.inr (.inr rfl))⟩
    clear hno hyes hJ2 hY hYb hKb hb5 x1 x2 x4 x5 X4b
    obtain ⟨m, Hm⟩ : ∃ m, Hid (newP (decL s) J2 a.toNat b.toNat l = m) := ⟨_, rfl⟩
    rw [Hm.out] at XW YW HOK
    obtain ⟨i0, hi, hz0, hz1, hz2⟩ := info_parts Tryz.infoP41
    have hI5 := H.out.up B5.out
    obtain ⟨vi, vcc, vg, g1, g2, -⟩ := hI5.g
    have G1 := hyd g1
    have R5 := hyd hI5.row
    clear hI5 g1
    have hbw5 : Hid (BW < w5.heap.size) := blk_lt G1.out
    obtain ⟨pa, pc, hv⟩ := slice_ofM R5.out
    subst hv
    obtain ⟨pn, Hpn⟩ : ∃ pn, Hid (Ps.length = pn) := ⟨_, rfl⟩
    rw [Hpn.out] at R5 G1 hps H
    have c0 : w5.cell? ⟨BW, 0, none⟩ = some (.slice pa pn pc) := by rw [cell_of_row w5 BW 0 _ 34 _ G1.out]; rfl
    have ca : ∀ o, (w5.alloc o).cell? ⟨BW, 0, none⟩ = some (.slice pa pn pc) := fun o => (World.cell?_of_block (a := ⟨BW, 0, none⟩) (Below.heap_alloc w5 o BW hbw5.out)).trans c0
    have hsz5 : Hid (BW + 1 ≤ w5.heap.size) := hbw5.out
    go_wp2_with (at_builtin; go_must (refine wpList_append_lies _ rfl (.tmp 70) (.tmp 75) 27 rfl (BW + 1) 41 i0 (.pointer none) 1 8 Tryz.underlying27 hi hz0 hz1 hz2 rfl (by decide) (.slice pa pn pc) pn (Ps.map fun p => .pointer (some ⟨p.1.bP, 0, none⟩)) rfl ?d0 ⟨w5.heap.size + 1, 0, none⟩ 1 1 [.pointer (some ⟨w5.heap.size, 0, none⟩)] rfl rfl ?d1 ?d2 (by omega) ?d3 ?d4 ?d5 (w5.heap.size + 2) ?d6 ?_))
    case d0 => exact (R5.out.alloc _).alloc _
    case d1 =>
      have h := World.news_of_block (heap_alloc_new (w5.alloc (.cells #[.pointer (some ⟨L.bX, 0, none⟩), .pointer (some ⟨RL.bM, 0, none⟩)] 74)) (.cells #[.pointer (some ⟨w5.heap.size, 0, none⟩)] 41))
      rw [World.size_alloc] at h
      exact h
    case d2 => intro u hu; simp at hu; subst hu; rfl
    case d3 => unfold maxLen; omega
    case d4 => omega
    case d5 => have := hsz5.out; simp; omega
    case d6 => simp
    · intro g6 c6 w6 hown6 hg6 hat6 _
      have hPair : PairAt ((w5.alloc (.cells #[.pointer (some ⟨L.bX, 0, none⟩), .pointer (some ⟨RL.bM, 0, none⟩)] 74)).alloc (.cells #[.pointer (some ⟨w5.heap.size, 0, none⟩)] 41)) ⟨w5.heap.size, L, RL, gW, cW, vs, w.heap.size, w5.heap.size + 1⟩ m := by
        have u1 : Below w5.heap.size w5 ((w5.alloc (.cells #[.pointer (some ⟨L.bX, 0, none⟩), .pointer (some ⟨RL.bM, 0, none⟩)] 74)).alloc (.cells #[.pointer (some ⟨w5.heap.size, 0, none⟩)] 41)) := ((Below.refl _ _).alloc (Nat.le_refl _) _).alloc (by simp) _
        have hlo' := hlo.out
        have hL := HLb.out
        have hLt := hLlt.out
        have hK := KB.out
        have hK1 : w4.heap.size ≤ RL.gK := hK.1
        have hK2 : w4.heap.size ≤ RL.gJ := hK.2.1
        have yb := YB.out
        have l1 : RL.bM < w5.heap.size := blk_lt YW.out.core.blk
        have l2 : RL.gK < w5.heap.size := (YW.out.core.rK.lt _ rfl).2
        have l3 : RL.gJ < w5.heap.size := (YW.out.core.rJ.lt _ rfl).2
        have l4 : RL.gT < w5.heap.size := (YW.out.core.rT.lt _ rfl).2
        have l5 : RL.gM < w5.heap.size := (YW.out.core.rM.lt _ rfl).2
        have l6 : gW < w5.heap.size := (YW.out.rW.lt _ rfl).2
        have y1 := yb RL.bM (by simp [RM.Y])
        have y2 := yb RL.gT (by simp [RM.Y])
        have y3 := yb gW (by simp [RM.Y])
        have y4 := yb RL.gM (by simp [RM.Y])
        refine ⟨?_, ⟨x, XW.out.up u1⟩, YW.out.up u1, HOK.out, fun b' hb' => ?_, by show L.gJ ≠ RL.gM; omega⟩
        · exact (Below.heap_alloc _ _ _ (by simp)).trans (heap_alloc_new w5 _)
        · unfold Pw.feet at hb'
          rw [List.mem_append] at hb'
          show w.heap.size ≤ b' ∧ b' < w5.heap.size + 1
          rcases hb' with hb' | hb'
          · simp only [List.mem_cons, List.not_mem_nil, or_false] at hb'
            rcases hb' with rfl | rfl | rfl | rfl | rfl | rfl | rfl | rfl | rfl | rfl <;> ((try dsimp only) <;> omega)
          · obtain ⟨v, hv, hvb⟩ := List.mem_filterMap.1 hb'
            have h1 := hK.2.2 v hv b' hvb
            obtain ⟨i, hi'⟩ := List.getElem?_of_mem hv
            have hil : i < vs.length := (List.getElem?_eq_some_iff.1 hi').1
            rw [YW.out.lenV, HOK.out.lenW] at hil
            obtain ⟨ao, cap, hv1, h2⟩ := YW.out.grp i v hi'
            rcases h2 with h2 | ⟨bb, cur, ha, hh, -⟩
            · exfalso
              unfold warpG at h2
              rw [List.range'_eq_nil_iff] at h2
              omega
            · rw [hv1, ha] at hvb
              simp only [Value.ownBlock, Option.some.injEq] at hvb
              subst hvb
              have := blk_lt hh
              omega
      have K := hyd (kept_new (P := ⟨w5.heap.size, L, RL, gW, cW, vs, w.heap.size, w5.heap.size + 1⟩) H.out B5.out hPair rfl rfl hg6 (by rw [Hpn.out]; exact hown6))
      have hne6 := (owns_ne' ((R5.out.alloc (.cells #[.pointer (some ⟨L.bX, 0, none⟩), .pointer (some ⟨RL.bM, 0, none⟩)] 74)).alloc (.cells #[.pointer (some ⟨w5.heap.size, 0, none⟩)] 41)) (Nat.lt_succ_self BW)).1
      have hbl6 : w6.heap[BW]? = w5.heap[BW]? := (hg6.block BW (by have := hbw5.out; simp; omega) hne6).trans ((Below.heap_alloc _ _ _ (by have := hbw5.out; simp; omega)).trans (Below.heap_alloc _ _ _ hbw5.out))
      have r0 : w6.cell? ⟨BW, 0, none⟩ = some (.slice pa pn pc) := (World.cell?_of_block (a := ⟨BW, 0, none⟩) hbl6).trans c0
      have rf : w6.frozen? ⟨BW, 0, none⟩ = false := frozen_of_row w6 BW 0 _ 34 (hbl6.trans G1.out)
      clear hown6 hg6 hat6 hPair hne6 hbl6 c0 ca
      go_wp2_with fail
      go_ret
      exact ⟨rfl, K.out⟩
  · obtain ⟨rfl, hb3⟩ := hno h0
    have h0b : (E1 == 0) = false := by simpa using h0
    have H0 := hyd h0
    clear hyes hno h0
    have B3 : Hid (Below w.heap.size w w3) := B2.out.trans (hb3.mono B2.out.size)
    have X3 : Hid (w3.heap[w.heap.size]? = _) := (hb3.block _ (blk_lt X2.out)).trans X2.out
    have O3 := hyd (O2.out.keptB hb3)
    have Z3 : Hid (SeesZ w3 (.slice la ln lc) l) := Z2.out.up (Nat.le_refl _) hb3
    have hs23 : Hid (w2.heap.size ≤ w3.heap.size) := hb3.size
    clear hb3 x1 x2 x4
    have x5 : w3.cell? ⟨w.heap.size, 5, none⟩ = some (.slice la ln lc) := by rw [cell_of_row w3 w.heap.size 5 _ 37 _ X3.out]; rfl
    go_wp2_with fail
    refine (stillI_any Hn.out hl2 O3.out Z3.out (Nat.le_trans hs12.out hs23.out)).mono ?_
    rintro e w4 ⟨rfl, hb4, hoth⟩
    have B4 : Hid (Below w.heap.size w w4) := B3.out.trans (hb4.mono B0.out.size)
    have X4 : Hid (w4.heap[w.heap.size]? = _) := (hb4.block _ (blk_lt X0.out)).trans X3.out
    have Z4 : Hid (SeesZ w4 (.slice la ln lc) l) := ZZ.out.up (Nat.le_refl _) B4.out
    have OT := hyd hoth
    have hs34 : Hid (w3.heap.size ≤ w4.heap.size) := hb4.size
    clear hb4 hoth x5
    have x1 : w4.cell? ⟨w.heap.size, 1, none⟩ = some (.int .i64 a) := by rw [cell_of_row w4 w.heap.size 1 _ 37 _ X4.out]; rfl
    have x2 : w4.cell? ⟨w.heap.size, 2, none⟩ = some (.int .i64 b) := by rw [cell_of_row w4 w.heap.size 2 _ 37 _ X4.out]; rfl
    have x4 : w4.cell? ⟨w.heap.size, 4, none⟩ = some (.string s) := by rw [cell_of_row w4 w.heap.size 4 _ 37 _ X4.out]; rfl
    have x5 : w4.cell? ⟨w.heap.size, 5, none⟩ = some (.slice la ln lc) := by rw [cell_of_row w4 w.heap.size 5 _ 37 _ X4.out]; rfl
    go_wp2_with fail
    refine (rnew_any s hs a b w4 Z4.out).mono ?_
    rw [Hn.out, HE.out]
    rintro e w5 ⟨hno, hyes⟩
    obtain ⟨rfl, hb5⟩ := hno H0.out
    have B5 : Hid (Below w.heap.size w w5) := B4.out.trans (hb5.mono B4.out.size)
    clear hno hyes hb5 x1 x2 x4 x5
    go_wp2_with fail
    go_ret
    exact ⟨rfl, _, Ps, H.out.up B5.out, Nat.le_succ _, B5.out.mono (Nat.le_of_lt H.out.bw)⟩

end Go.Proofs.YtbhbacphiinpeaaGreat

/- What 'joined' answers and keeps, if the program's Joins keeps its contract (JoinsOk). -/
namespace Go.Proofs.YtbhbacphiinpeaaGreat
open Go.RowKit

set_option maxHeartbeats 1000000 in
set_option maxRecDepth 100000 in
theorem joined_any (HJ : JoinsOk) {w : World} {B BW : Nat} {vps : Value} {ei ec eg : List Ent} (x0 x1 x2 x3 : Int) (s : ByteArray) (aL : Option Addr) (nL cL : Nat) (aK : Option Addr) (nK cK : Nat) (hs : s.size ≤ 140737488355328) (h : InvG w B BW vps ei ec eg) (hes : ei.length ≤ 1759218604000) (hB : B ≤ w.heap.size) :
    Calls Tryz.prog 14 #[.pointer (some ⟨BW, 0, none⟩), .agg #[.int .i64 x0, .int .i64 x1, .int .i64 x2, .int .i64 x3, .string s, .slice aL nL cL, .slice aK nK cK]] w fun e w' => e = .returned (.bool true) ∧ (∃ en, InvG w' w'.heap.size BW vps (ei ++ [en]) ec eg ∧ NewEnt w.heap.size en) ∧ Below BW w w' ∧ Fst BW w w' := by
  have H := hyd h
  have hBW : BW < B := by obtain ⟨_, _, _, _, h4, _⟩ := h; exact h4
  clear h
  have HJ' := hyd HJ
  clear HJ
  have hnilq : ∀ (wx : World) (a : Option Addr) (n c : Nat), (binOp .eql 24 (.slice a n c) (.slice none 0 0)).run Tryz.prog wx = .ok (.bool a.isNone) wx := fun wx a n c => Lib.run_eql_slice_nil (P := Tryz.prog) wx 24 3 a n c 0 0 Tryz.underlying24
  have I0 : Hid (InvG (w.alloc (.cells #[.int .i64 x0, .int .i64 x1, .int .i64 x2, .int .i64 x3, .string s, .slice aL nL cL, .slice aK nK cK] 37)) (w.heap.size + 1) BW vps ei ec eg) := (H.out.up ((Below.refl B w).alloc hB _)).wide (by omega)
  go_enter Tryz.func14, Tryz.ntmps14
  go_wp2_with fail
  refine (HJ'.out s hs _).mono ?_
  rintro e w1 ⟨v, J, rfl, hb1, hown1, hyes, hnil⟩
  simp only [World.size_alloc] at hb1 hown1
  have HL := hyd (joins_len hyes (fun h => ⟨(hnil h).1, trivial⟩))
  obtain ⟨n, Hn⟩ : ∃ n, Hid (J.length = n) := ⟨_, rfl⟩
  rw [Hn.out] at hown1
  have hn40 : n ≤ 40 := by rw [← Hn.out]; exact HL.out
  obtain ⟨va, vcap, rfl⟩ := slice_ofN hown1
  have Hown1 := hyd hown1
  have HN := hyd hnil
  have HY := hyd hyes
  have HB1 := hyd hb1
  have d4 : w1.cell? ⟨w.heap.size, 4, none⟩ = some (.string s) := by
    rw [hb1.cell (by simp), cell_of_row _ w.heap.size 4 _ 37 (0, 0) (heap_alloc_new w _)]; rfl
  have hsz1 : w.heap.size + 1 ≤ w1.heap.size := by have := hb1.size; simpa using this
  clear hown1 hnil hb1 hyes
  go_wp2_with fail
  refine (rjoins_any s hs _).mono ?_
  rintro e w2 ⟨v2, J2, rfl, hb2, hown2, hyes2, hnil2⟩
  have HJJ : Hid (J2 = J) := by
    by_cases h0 : (dchk s).1 = 0
    · exact joins_one (hyes2 h0) (HY.out h0)
    · exact (hnil2 h0).1.trans (HN.out h0).1.symm
  clear hyes2 hnil2
  rw [HJJ.out, Hn.out] at hown2
  clear HJJ J2
  obtain ⟨va2, vcap2, rfl⟩ := slice_ofN hown2
  have Hown12 := hyd (Hown1.out.keptB hb2)
  have HS1 : Hid (SeesZ w2 (.slice va n vcap) J) := ownsRow_seesZ (by rw [Hn.out]; omega) (by rw [Hn.out]; exact Hown12.out)
  have HS2 : Hid (SeesZ w2 (.slice va2 n vcap2) J) := ownsRow_seesZ (by rw [Hn.out]; omega) (by rw [Hn.out]; exact hown2)
  have HB2 := hyd (HB1.out.trans (hb2.mono hsz1))
  clear hown2 hb2 d4 Hown1
  go_wp2_with fail
  refine (sameI HS1.out HS2.out).mono ?_
  rintro e w3 ⟨rfl, hb3⟩
  have Hown3 := hyd (Hown12.out.keptB hb3)
  have HB3 := hyd (HB2.out.trans (hb3.mono (by have := HB2.out.size; simpa using this)))
  have hsz3 : w.heap.size + 1 ≤ w3.heap.size := by have := HB3.out.size; simpa using this
  have I3 : Hid (InvG w3 (w.heap.size + 1) BW vps ei ec eg) := I0.out.up HB3.out
  clear hb3 Hown12 HS1 HS2
  go_wp2_with fail
  refine (ownI I3.out hes hsz3 Hown3.out (by omega)).mono ?_
  rintro e w4 ⟨rfl, ⟨en, hI4, hN4⟩, hb4, hf4⟩
  have HI4 : Hid (∃ en, InvG w4 w4.heap.size BW vps (ei ++ [en]) ec eg ∧ NewEnt w.heap.size en) := ⟨en, hI4, fun g hg => Nat.le_trans (Nat.le_succ _) (hN4 g hg)⟩
  have HFs : Hid (Fst BW w w4) := Fst.own (B := w.heap.size) (((Below.refl _ w).alloc (Nat.le_refl _) _).trans (HB3.out.mono (Nat.le_succ _))) (Nat.le_refl _) (fun b hb => hf4 b (by omega)) (.inl rfl)
  have HB4 : Hid (Below BW w w4) := (((Below.refl BW w).alloc (by omega) _).trans (HB3.out.mono (by omega))).trans hb4
  clear hI4 hb4 hN4 hf4
  by_cases h0 : (dchk s).1 = 0
  · have g0 : ((dchk s).1 == 0) = true := by rw [h0]; rfl
    clear h0
    go_wp2
    go_ret
    exact ⟨rfl, HI4.out, HB4.out, HFs.out⟩
  · have g0 : ((dchk s).1 == 0) = false := beq_eq_false_iff_ne.2 h0
    have hv0 := (HN.out h0).2
    simp only [Value.slice.injEq] at hv0
    obtain ⟨e1, e2, e3⟩ := hv0
    subst e1
    clear h0 e2 e3
    go_wp2
    go_ret
    exact ⟨rfl, HI4.out, HB4.out, HFs.out⟩

end Go.Proofs.YtbhbacphiinpeaaGreat

