/- Re4: joined. -/
import Derived.Test.YtbhbacphiinpeaaGreatZ48
import Derived.Deep.AppendLies
import Derived.Deep.RegionHeld3
import Derived.Deep.RegionLaw
import Derived.BigRegion

/- What the document's 'New' makes. -/
namespace Go.Proofs.YtbhbacphiinpeaaGreat
open Go.RowKit

theorem Tryz.infoT128 : (Tryz.prog.info? 116).map (fun i => (i.zero, i.size, i.bytes)) = some (some (.agg #[.int .i64 0, .int .i64 0, .int .i64 0, .int .i64 0, .int .i64 0, .bool false]), 6, 48) := by kernel_rfl
theorem Tryz.infoW130 : (Tryz.prog.info? 118).map (fun i => (i.zero, i.size, i.bytes)) = some (some (.agg #[.slice none 0 0, .int .i64 0, .bool false, .bool false]), 4, 40) := by kernel_rfl

theorem zip_rep (vs : List Value) (x : Wrp) : vs.zip (List.replicate vs.length x) = vs.map fun v => (v, x) := by
  induction vs with
  | nil => rfl
  | cons v vs ih => rw [List.length_cons, List.replicate_succ, List.zip_cons_cons, ih]; rfl

theorem World.heap_drew' (w : World) : w.drew.heap = w.heap := rfl

theorem NewAt.drew {w : World} {B bM gK cK gJ cJ gM cM : Nat} {k : List Ins} {J mem : List Int} {ts : List Thr} {vT vW : Value} {vs : List Value} {gs : List (List Nat)} (h : NewAt w B bM gK cK gJ cJ gM cM k J mem ts vT vW vs gs) : NewAt w.drew B bM gK cK gJ cJ gM cM k J mem ts vT vW vs gs :=
  ⟨h.blk, h.rT.drew, h.rW.drew, h.lenG, fun i v g hv hg => (h.rG i v g hv hg).drew, h.ap, h.hB⟩

/-- What a New that is not refused answers: a machine at its beginning, in blocks of its own. -/
def NewAns (w : World) (m : PM) (e : Ending) (w' : World) : Prop :=
  ∃ L gW cW vs, e = .returned (.tuple #[.pointer (some ⟨L.bM, 0, none⟩), .int .i64 0, .int .i64 0]) ∧ MachAt w' L gW cW vs m ∧ (∀ b ∈ L.Y gW, w.heap.size ≤ b) ∧ (w.heap.size ≤ L.gK ∧ w.heap.size ≤ L.gJ ∧ ∀ v ∈ vs, ∀ b, v.ownBlock = some b → w.heap.size ≤ b) ∧ Below w.heap.size w w'

set_option maxHeartbeats 4000000 in
set_option maxRecDepth 100000 in
theorem rnew_yes (s : ByteArray) (hm : s.size ≤ 140737488355328) (h0 : (dchk s).1 = 0) (tn fn : Nat) (ht1 : 1 ≤ tn) (ht2 : tn ≤ 16) (hf : fn ≤ 1000) (b off cap : Nat) (mem : List Int) (w : World) (hb : b < w.heap.size) (hm1 : 1 ≤ mem.length) (hm2 : mem.length ≤ 32)
    (hc : ∀ (i : Nat) x, mem[i]? = some x → w.cell? ⟨b, off + i, none⟩ = some (.int .i64 x)) :
    Calls Tryz.prog 36 #[.string s, .int .i64 tn, .int .i64 fn, .slice (some ⟨b, off, none⟩) mem.length cap] w fun e w' => ∃ J, JoinsAre (decL s) J ∧ NewAns w (newP (decL s) J tn fn mem) e w' := by
  have g0 : ((dchk s).1 != 0) = false := by simpa using h0
  obtain ⟨hk, hk1, hk2⟩ := dec_good h0
  have Hd := hyd (dchk_zero h0)
  have Hc := hyd hc
  obtain ⟨k, Hk⟩ : ∃ k, Hid (decL s = k) := ⟨_, rfl⟩
  rw [Hk.out] at hk hk1 hk2
  have HK := hyd hk
  obtain ⟨kn, Hkn⟩ : ∃ kn, Hid (k.length = kn) := ⟨_, rfl⟩
  obtain ⟨mn, Hmn⟩ : ∃ mn, Hid (mem.length = mn) := ⟨_, rfl⟩
  rw [Hkn.out] at hk1 hk2
  rw [Hmn.out] at hm1 hm2 ⊢
  have H0 := hyd h0
  clear h0 hk hc
  have g1 : decide ((tn : Int) < 1) = false := by simp; omega
  have g2 : decide (16 < (tn : Int)) = false := by simp; omega
  have g3 : decide ((fn : Int) < 0) = false := by simp
  have g4 : decide (1000 < (fn : Int)) = false := by simp; omega
  have g5 : decide ((mn : Int) < 1) = false := by simp; omega
  have g6 : decide (32 < (mn : Int)) = false := by simp; omega
  obtain ⟨i3, hi3, hz30, hz31, hz32⟩ := info_parts Tryz.info3
  obtain ⟨iT, hiT, hzT0, hzT1, hzT2⟩ := info_parts Tryz.infoT128
  obtain ⟨iW, hiW, hzW0, hzW1, hzW2⟩ := info_parts Tryz.infoW130
  go_enter Tryz.func36, Tryz.ntmps36
  go_wp2_with fail
  refine (rdecode_any s hm _).mono ?_
  rw [Hk.out, Hkn.out]
  rintro e w1 ⟨vK, rfl, hb1, hoK⟩
  obtain ⟨gK, cK, hvK, hgK1, hgK2⟩ := hoK.form (by omega)
  subst hvK
  have OK1 := hyd hoK
  have B1 := hyd hb1
  have hsz1 := hb1.size
  clear hoK hb1
  go_wp2_with fail
  refine (rjoins_any s hm _).mono ?_
  rintro e w3 ⟨vJ, J, rfl, hb3, hoJ, hJ, -⟩
  have HJ : Hid (JoinsAre k J) := by rw [← Hk.out]; exact hJ H0.out
  have hJl : J.length = kn := by rw [HJ.out.1, Hkn.out]
  rw [hJl] at hoJ
  obtain ⟨gJ, cJ, hvJ, hgJ1, hgJ2⟩ := hoJ.form (by omega)
  subst hvJ
  simp only [World.size_alloc] at hgJ1
  have hB3 : Below (w1.heap.size + 1) (w1.alloc (.cells #[.slice (some ⟨gK, 0, none⟩) kn cK, .slice none 0 0, .slice none 0 0, .slice none 0 0, .slice none 0 0, .int .i64 0] 85)) w3 := by have := hb3; simp only [World.size_alloc] at this; exact this
  have BK3 : Hid (w3.heap[w1.heap.size]? = some (.cells #[.slice (some ⟨gK, 0, none⟩) kn cK, .slice none 0 0, .slice none 0 0, .slice none 0 0, .slice none 0 0, .int .i64 0] 85)) := (hB3.block _ (by omega)).trans (heap_alloc_new w1 _)
  have OK3 : Hid (w3.ownsRow w.heap.size 92 4 (.slice (some ⟨gK, 0, none⟩) kn cK) kn (flat k)) := (OK1.out.alloc (.cells #[.slice (some ⟨gK, 0, none⟩) kn cK, .slice none 0 0, .slice none 0 0, .slice none 0 0, .slice none 0 0, .int .i64 0] 85)).keptB hb3
  have OJ3 : Hid (w3.ownsRow (w1.heap.size + 1) 3 1 (.slice (some ⟨gJ, 0, none⟩) kn cJ) kn (zVals J)) := by have := hoJ; simp only [World.size_alloc] at this; exact this
  have F3 : Hid (Below w.heap.size w w3) := (B1.out.alloc hsz1 (.cells #[.slice (some ⟨gK, 0, none⟩) kn cK, .slice none 0 0, .slice none 0 0, .slice none 0 0, .slice none 0 0, .int .i64 0] 85)).trans (hB3.mono (by omega))
  have hsz3 : w1.heap.size + 1 ≤ w3.heap.size := by have := hB3.size; simpa using this
  obtain ⟨bM, HbM⟩ : ∃ bM, Hid (w1.heap.size = bM) := ⟨_, rfl⟩
  rw [HbM.out] at BK3 OJ3 hsz3 hgJ1 hsz1 hgK2 ⊢
  clear hJ hJl hoJ hb3 hB3 OK1
  have c1 : w3.cell? ⟨bM, 1, none⟩ = some (.slice none 0 0) := by rw [cell_of_row w3 bM _ _ 85 _ BK3.out]; rfl
  have f1 : w3.frozen? ⟨bM, 1, none⟩ = false := frozen_of_row w3 bM 1 _ 85 BK3.out
  have BK4 : Hid ((w3.setCell ⟨bM, 1, none⟩ (.slice (some ⟨gJ, 0, none⟩) kn cJ)).heap[bM]? = some (.cells #[.slice (some ⟨gK, 0, none⟩) kn cK, .slice (some ⟨gJ, 0, none⟩) kn cJ, .slice none 0 0, .slice none 0 0, .slice none 0 0, .int .i64 0] 85)) := by
    unfold Hid; rw [heap_setCell_same w3 bM 1 _ 85 _ BK3.out]; rfl
  have c4 : (w3.setCell ⟨bM, 1, none⟩ (.slice (some ⟨gJ, 0, none⟩) kn cJ)).cell? ⟨bM, 4, none⟩ = some (.slice none 0 0) := by rw [cell_of_row _ bM _ _ 85 _ BK4.out]; rfl
  go_wp2_with (at_builtin; go_must (refine wpList_append_lies _ rfl (.tmp 69) (.tmp 70) 24 rfl (w3.heap.size) 3 i3 (.int .i64 0) 1 8 Tryz.underlying24 hi3 hz30 hz31 hz32 rfl (by decide) (.slice none 0 0) 0 [] rfl ?a0 ⟨b, off, none⟩ mn cap (zVals mem) rfl ?a00 ?a1 ?a2 (by omega) ?a3 ?a4 ?a5 (w3.heap.size) ?a6 ?_))
  case a0 => exact World.ownsRow_nil _ _ _ _
  case a00 => rw [zVals_length, Hmn.out]; omega
  case a1 =>
    have hcc : ∀ (i : Nat) x, mem[i]? = some x → (w3.setCell ⟨bM, 1, none⟩ (.slice (some ⟨gJ, 0, none⟩) kn cJ)).cell? ⟨b, off + i, none⟩ = some (.int .i64 x) := fun i x hx => by
      have hne : b ≠ bM := by omega
      rw [World.cell?_of_block (Below.heap_setCell w3 ⟨bM, 1, none⟩ _ b hne)]
      exact (F3.out.cell hb).trans (Hc.out i x hx)
    exact seesZ_cells hcc
  case a2 => exact oneCell_z mem
  case a3 => unfold maxLen; omega
  case a4 => omega
  case a5 => rw [set_size]; exact Nat.le_refl _
  case a6 => rw [set_size]
  · intro gM cM w5 hown5 hgrow5 hat5 _
    try simp only [Nat.zero_add, List.nil_append] at hown5
    have hgM : w3.heap.size ≤ gM := (hown5.lt gM rfl).1
    have hgM2 : gM < w5.heap.size := (hown5.lt gM rfl).2
    have hkeep : ∀ x, x < w3.heap.size → w5.heap[x]? = (w3.setCell ⟨bM, 1, none⟩ (.slice (some ⟨gJ, 0, none⟩) kn cJ)).heap[x]? := fun x hx => hgrow5.block x (by rw [set_size]; exact hx) (by simp [Value.ownBlock])
    have hsz5 : w3.heap.size ≤ w5.heap.size := by have := hgrow5.size; rw [set_size] at this; exact this
    have hbM3 : bM < w3.heap.size := by omega
    have BK5 : Hid (w5.heap[bM]? = some (.cells #[.slice (some ⟨gK, 0, none⟩) kn cK, .slice (some ⟨gJ, 0, none⟩) kn cJ, .slice none 0 0, .slice none 0 0, .slice none 0 0, .int .i64 0] 85)) := (hkeep bM hbM3).trans BK4.out
    have keepR : ∀ x, x < w3.heap.size → x ≠ bM → w5.heap[x]? = w3.heap[x]? := fun x hx hne => (hkeep x hx).trans (Below.heap_setCell _ _ _ _ hne)
    have hgJ3 : gJ < w3.heap.size := (OJ3.out.lt gJ rfl).2
    have OK5 : Hid (w5.ownsRow w.heap.size 92 4 (.slice (some ⟨gK, 0, none⟩) kn cK) kn (flat k)) := owns_same OK3.out fun x hx => by
      simp only [Value.ownBlock, Option.some.injEq] at hx; subst hx; exact keepR _ (by omega) (by omega)
    have OJ5 : Hid (w5.ownsRow (bM + 1) 3 1 (.slice (some ⟨gJ, 0, none⟩) kn cJ) kn (zVals J)) := owns_same OJ3.out fun x hx => by
      simp only [Value.ownBlock, Option.some.injEq] at hx; subst hx; exact keepR _ hgJ3 (by omega)
    have OM5 := hyd hown5
    have F5 : Hid (Below w.heap.size w w5) := ⟨hgrow5.os.trans F3.out.os, hgrow5.tape.trans F3.out.tape, hgrow5.output.trans F3.out.output, Nat.le_trans F3.out.size hsz5, fun x hx => (keepR x (by have := F3.out.size; omega) (by omega)).trans (F3.out.block x hx)⟩
    clear hkeep keepR hown5 hgrow5 hat5 BK3 BK4 OK3 OJ3 F3 c1 f1 c4
    have c4 : w5.cell? ⟨bM, 4, none⟩ = some (.slice none 0 0) := by rw [cell_of_row w5 bM _ _ 85 _ BK5.out]; rfl
    have f4 : w5.frozen? ⟨bM, 4, none⟩ = false := frozen_of_row w5 bM 4 _ 85 BK5.out
    have BK6 : Hid ((w5.setCell ⟨bM, 4, none⟩ (.slice (some ⟨gM, 0, none⟩) mn cM)).heap[bM]? = some (.cells #[.slice (some ⟨gK, 0, none⟩) kn cK, .slice (some ⟨gJ, 0, none⟩) kn cJ, .slice none 0 0, .slice none 0 0, .slice (some ⟨gM, 0, none⟩) mn cM, .int .i64 0] 85)) := by
      unfold Hid; rw [heap_setCell_same w5 bM 4 _ 85 _ BK5.out]; rfl
    have OK6 := hyd (owns_set1 OK5.out (a := ⟨bM, 4, none⟩) (by dsimp only; omega) (.slice (some ⟨gM, 0, none⟩) mn cM))
    have OJ6 := hyd (owns_set1 OJ5.out (a := ⟨bM, 4, none⟩) (by dsimp only; omega) (.slice (some ⟨gM, 0, none⟩) mn cM))
    have OM6 := hyd (owns_set1 OM5.out (a := ⟨bM, 4, none⟩) (by dsimp only; omega) (.slice (some ⟨gM, 0, none⟩) mn cM))
    have F6 := hyd (F5.out.setCell (p := ⟨bM, 4, none⟩) hsz1 (.slice (some ⟨gM, 0, none⟩) mn cM))
    have hs6 : Hid ((w5.setCell ⟨bM, 4, none⟩ (.slice (some ⟨gM, 0, none⟩) mn cM)).heap.size = w5.heap.size) := set_size _ _ _
    go_wp2_with fail
    generalize w5.setCell ⟨bM, 4, none⟩ (.slice (some ⟨gM, 0, none⟩) mn cM) = w6 at BK6 OK6 OJ6 OM6 F6 hs6 ⊢
    have hgJM : Hid (gJ ≠ gM) := by unfold Hid; omega
    have hB6 : bM < w6.heap.size := by rw [hs6.out]; omega
    have N6 : Hid (NewAt w6 w6.heap.size bM gK cK gJ cJ gM cM k J mem [] (.slice none 0 0) (.slice none 0 0) [] []) := ⟨by rw [Hkn.out, Hmn.out]; exact BK6.out, World.ownsRow_nil _ _ _ _, World.ownsRow_nil _ _ _ _, rfl, fun i v g hv => by simp at hv, fun i j v u _ hv => by simp at hv, hB6⟩
    clear BK5 OK5 OJ5 OM5 F5 c4 f4
    go_loopw [18] (fun iv wr => ∃ (i : Nat) (vT vW : Value) (vs : List Value), i ≤ tn ∧ iv = .int .i64 i ∧ NewAt wr w6.heap.size bM gK cK gJ cJ gM cM k J mem ((List.range i).map (thrOf fn)) vT vW vs (gsOf i) ∧ Fr w6.heap.size [bM] w6 wr) (fun iv _ => tn - (intOf iv).toNat)
    case atStart => exact ⟨0, _, _, [], Nat.zero_le _, rfl, N6.out, Fr.refl _ _ _⟩
    case round =>
      obtain ⟨i, vT, vW, vs, hin, rfl, hN, hF⟩ := hrel
      have N1 := hyd hN
      have F1 := hyd hF
      obtain ⟨⟨c2, c3⟩, f2, f3⟩ := hN.cells
      clear hN hF N6
      by_cases hil : i < tn
      · have hszr := F1.out.size
        obtain ⟨ts, Hts⟩ : ∃ ts, Hid ((List.range i).map (thrOf fn) = ts) := ⟨_, rfl⟩
        have htl : ts.length = i := by rw [← Hts.out]; simp
        rw [Hts.out] at N1
        have RT := hyd N1.out.rT
        rw [htl] at RT
        have i1 : (0 : Int) ≤ (i : Int) := by omega
        have i2 : (i : Int) < (tn : Int) := by omega
        have i3' : (i : Int) ≤ 16 := by omega
        have f0 : (0 : Int) ≤ (fn : Int) := by omega
        have f1' : (fn : Int) ≤ 1000 := by omega
        have Htl := hyd htl
        clear htl
        go_wp2_with (at_builtin; go_must (refine wpList_append_lies _ rfl (.tmp 83) (.tmp 88) 82 rfl w6.heap.size 116 iT (.agg #[.int .i64 0, .int .i64 0, .int .i64 0, .int .i64 0, .int .i64 0, .bool false]) 6 48 Tryz.underlying82 hiT hzT0 hzT1 hzT2 rfl (by decide) vT i (flatT ts) rfl ?b0 ⟨wr.heap.size, 0, none⟩ 1 1 (thrOf fn i).vals rfl rfl ?b1 ?b2 (by omega) ?b3 ?b4 ?b5 (wr.heap.size + 1) ?b6 ?_))
        case b0 => exact RT.out.alloc _
        case b1 => exact World.news_of_block (heap_alloc_new wr _)
        case b2 => intro u hu; simp [thrOf, Thr.vals] at hu; rcases hu with rfl | rfl | rfl <;> rfl
        case b3 => unfold maxLen; omega
        case b4 => omega
        case b5 => simp; omega
        case b6 => simp
        · intro gT cT w7 hown7 hgrow7 hat7 _
          have N1a := N1.out.alloc (.cells #[.int .i64 ((fn : Int) + (i : Int)), .int .i64 0, .int .i64 0, .int .i64 0, .int .i64 0, .bool false] 116)
          obtain ⟨hb7, hN8⟩ := N1a.thread (t := thrOf fn i) (vT' := (.slice (some ⟨gT, 0, none⟩) (i + 1) cT)) (by rw [Htl.out]; exact hown7) hgrow7
          have hblw : Below w6.heap.size wr w7 := ((Below.refl _ _).alloc hszr _).grown hgrow7 (by simp; omega) (fun x hx => (RT.out.lt x hx).1)
          have F8 := hyd ((F1.out.low hblw).set (a := ⟨bM, 2, none⟩) (by simp) (.slice (some ⟨gT, 0, none⟩) (i + 1) cT))
          have N8 := hyd hN8
          have blk7 := hb7.trans N1a.blk
          have c2' : w7.cell? ⟨bM, 2, none⟩ = some vT := by rw [cell_of_row w7 bM _ _ 85 _ blk7]; rfl
          have f2' : w7.frozen? ⟨bM, 2, none⟩ = false := frozen_of_row w7 bM 2 _ 85 blk7
          obtain ⟨⟨-, e3⟩, -, g3'⟩ := hN8.cells
          have hsz7 : w6.heap.size ≤ w7.heap.size := Nat.le_trans hszr hblw.size
          have HT' : Hid (ts ++ [thrOf fn i] = (List.range (i + 1)).map (thrOf fn)) := by unfold Hid; rw [← Hts.out, List.range_succ]; simp
          obtain ⟨wi, Hwi⟩ : ∃ wi, Hid (i / 4 = wi) := ⟨_, rfl⟩
          have hvsl : Hid (vs.length = (i + 3) / 4) := by unfold Hid; rw [← N8.out.lenG, gsOf_len]
          clear hown7 hgrow7 hat7 N1a hb7 hN8 hblw blk7 c2 c3 f2 f3
          by_cases hmod : i % 4 = 0
          · have gm : (((i : Int) % 4) == 0) = true := by
              have : (i : Int) % 4 = 0 := by omega
              rw [this]; rfl
            have hmid : Hid (gsMid i = gsOf i ++ [[]]) := by unfold Hid gsMid; rw [if_pos hmod]
            have hvl0 : Hid (vs.length = wi) := by have := hvsl.out; have := Hwi.out; unfold Hid; omega
            have RW := hyd N8.out.rW
            rw [hvl0.out] at RW
            have hwi4 : wi ≤ 4 := by have := Hwi.out; omega
            clear hmod
            go_wp2_with (at_builtin; go_must (refine wpList_append_lies _ rfl (.tmp 99) (.tmp 101) 83 rfl w6.heap.size 118 iW (.agg #[.slice none 0 0, .int .i64 0, .bool false, .bool false]) 4 40 Tryz.underlying83 hiW hzW0 hzW1 hzW2 rfl (by decide) vW wi (flatW (zipW vs)) rfl ?d0 ⟨w7.heap.size, 0, none⟩ 1 1 [.slice none 0 0, .int .i64 0, .bool false, .bool false] rfl rfl ?d1 ?d2 (by omega) ?d3 ?d4 ?d5 (w7.heap.size + 1) ?d6 ?_))
            case d0 => exact RW.out.alloc _
            case d1 =>
              have h := World.news_of_block (heap_alloc_new (w7.setCell ⟨bM, 2, none⟩ (.slice (some ⟨gT, 0, none⟩) (i + 1) cT)) (.cells #[.slice none 0 0, .int .i64 0, .bool false, .bool false] 118))
              rw [set_size] at h
              exact h
            case d2 => intro u hu; simp at hu; rcases hu with rfl | rfl | rfl <;> rfl
            case d3 => unfold maxLen; omega
            case d4 => omega
            case d5 => simp only [World.size_alloc, set_size]; omega
            case d6 => simp only [World.size_alloc, set_size]
            · intro gW cW w9 hown9 hgrow9 hat9 _
              have N8a := N8.out.alloc (.cells #[.slice none 0 0, .int .i64 0, .bool false, .bool false] 118)
              obtain ⟨hb9, hN10⟩ := N8a.warp (vW' := .slice (some ⟨gW, 0, none⟩) (wi + 1) cW) (by rw [hvl0.out]; exact hown9) hgrow9
              have hblw : Below w6.heap.size (w7.setCell ⟨bM, 2, none⟩ (.slice (some ⟨gT, 0, none⟩) (i + 1) cT)) w9 := ((Below.refl _ _).alloc (by rw [set_size]; exact hsz7) _).grown hgrow9 (by simp only [World.size_alloc, set_size]; omega) (fun x hx => (RW.out.lt x hx).1)
              have FQ := hyd ((F8.out.low hblw).set (a := ⟨bM, 3, none⟩) (by simp) (.slice (some ⟨gW, 0, none⟩) (wi + 1) cW))
              have blk9 := hb9.trans N8a.blk
              have c3' : w9.cell? ⟨bM, 3, none⟩ = some vW := by rw [cell_of_row w9 bM _ _ 85 _ blk9]; rfl
              have f3' : w9.frozen? ⟨bM, 3, none⟩ = false := frozen_of_row w9 bM 3 _ 85 blk9
              have N := hyd hN10
              rw [← hmid.out] at N
              obtain ⟨⟨-, k3⟩, -, -⟩ := hN10.cells
              obtain ⟨vs', Hvs'⟩ : ∃ vs', Hid (vs ++ [Value.slice none 0 0] = vs') := ⟨_, rfl⟩
              have hvl : Hid (vs'.length = wi + 1) := by unfold Hid; rw [← Hvs'.out, List.length_append, hvl0.out]; rfl
              rw [Hvs'.out] at N
              clear hown9 hgrow9 hat9 N8a hb9 hN10 hblw blk9 N8 F8 RW
              go_wp2_with fail
              generalize w9.setCell ⟨bM, 3, none⟩ (.slice (some ⟨gW, 0, none⟩) (wi + 1) cW) = wq at N FQ k3 ⊢
              clear c3' f3' k3 e3 g3' c2' f2'
              obtain ⟨nW, HnW⟩ : ∃ nW, Hid (wi + 1 = nW) := ⟨_, rfl⟩
              rw [HnW.out] at N hvl ⊢
              have w2' : (wi : Int) < (nW : Int) := by have := HnW.out; omega
              have w3' : (nW : Int) - 1 = (wi : Int) := by have := HnW.out; omega
              have hwn : wi < nW := by have := HnW.out; omega
              obtain ⟨v, hv⟩ : ∃ v, vs'[wi]? = some v := ⟨_, List.getElem?_eq_getElem (by rw [hvl.out]; exact hwn)⟩
              obtain ⟨grp, Hgrp⟩ : ∃ grp, Hid (warpG i wi = grp) := ⟨_, rfl⟩
              have hmi : Hid ((gsMid i)[wi]? = some grp) := by rw [← Hgrp.out, ← Hwi.out]; exact mid_at i
              have RG := hyd (N.out.rG wi v grp hv hmi.out)
              have hgl4 : grp.length ≤ 4 := by rw [← Hgrp.out]; exact warp_len _ _
              obtain ⟨va, vc, hvv⟩ := slice_ofN RG.out
              subst hvv
              obtain ⟨gl, Hgl⟩ : ∃ gl, Hid (grp.length = gl) := ⟨_, rfl⟩
              have Hv := hyd hv
              have NW : Hid (wq.ownsRow w6.heap.size 118 4 (.slice (some ⟨gW, 0, none⟩) nW cW) nW (flatW (zipW vs'))) := by have := N.out.rW; rw [hvl.out] at this; exact this
              have cv := (NW.out.cellAt (wi * 4) (by omega)).trans (flatW_at (zipW_at hv)).1
              have fv := NW.out.frozenAt (wi * 4)
              obtain ⟨⟨-, c3⟩, -, -⟩ := N.out.cells
              have hszq := FQ.out.size
              have hgWq := (NW.out.lt gW rfl).2
              have hbMq : bM < wq.heap.size := blkM_lt N.out
              have c3a : ∀ o, (wq.alloc o).cell? ⟨bM, 3, none⟩ = some (.slice (some ⟨gW, 0, none⟩) nW cW) := fun o => (World.cell?_of_block (a := ⟨bM, 3, none⟩) (Below.heap_alloc wq o bM hbMq)).trans c3
              have cva : ∀ o, (wq.alloc o).cell? ⟨gW, wi * 4, none⟩ = some (.slice va grp.length vc) := fun o => (World.cell?_of_block (a := ⟨gW, wi * 4, none⟩) (Below.heap_alloc wq o gW hgWq)).trans cv
              clear hv
              rw [Hgl.out] at cv RG hgl4 cva
              have w1' : (0 : Int) ≤ (wi : Int) := by omega
              have Hv' : Hid (vs'[wi]? = some (.slice va gl vc)) := by have := Hv.out; rw [Hgl.out] at this; exact this
              clear Hv
              go_region_law ((refine step_append_lies _ (by rfl) _ _ _ (by rfl) w6.heap.size 3 i3 _ 1 8 Tryz.underlying24 hi3 hz30 hz31 hz32 rfl (by omega) (.slice va gl vc) gl (natVals grp) (by rfl) ((RG.out.alloc _).drew) ⟨wq.heap.size, 0, none⟩ 1 1 [.int .i64 i] (by rfl) (by rfl) (World.news_of_block (cs := #[.int .i64 i]) (t := 3) (fr := (0, 0)) (heap_alloc_new wq _)) (by intro u hu; simp at hu; subst hu; rfl) (by omega) (by unfold maxLen; omega) (by omega) (by simp; omega) (wq.heap.size + 1) (by simp) ?_; intro gg cc w11 hown11 hgrow11 hat11 hlt11; obtain ⟨hbm, hgw, hN12⟩ := NewAt.member (N.out.alloc (.cells #[.int .i64 i] 3)).drew hvl.out Hv'.out hmi.out (v' := .slice (some ⟨gg, 0, none⟩) (gl + 1) cc) (x := i) (by rw [Hgl.out, nat_snoc]; exact hown11) hgrow11 (fun b' hb' => by simp only [Value.ownBlock, Option.some.injEq] at hb'; subst hb'; rcases hat11 with h | h; exact .inl h; right; simp only [World.heap_drew', World.size_alloc]; omega); have x1 : w11.cell? ⟨bM, 3, none⟩ = some (.slice (some ⟨gW, 0, none⟩) nW cW) := (World.cell?_of_block (a := ⟨bM, 3, none⟩) (hbm.trans (Below.heap_alloc wq _ bM hbMq))).trans c3; have x2 : w11.cell? ⟨gW, wi * 4, none⟩ = some (.slice va gl vc) := (World.cell?_of_block (a := ⟨gW, wi * 4, none⟩) (hgw.trans (Below.heap_alloc wq _ gW hgWq))).trans cv; have x3 : w11.frozen? ⟨gW, wi * 4, none⟩ = false := (World.frozen?_of_block (a := ⟨gW, wi * 4, none⟩) (hgw.trans (Below.heap_alloc wq _ gW hgWq))).trans fv))
              all_goals
                have hblw2 : Below w6.heap.size wq w11 := (((Below.refl _ _).alloc hszq _).drew).grown hgrow11 (by show w6.heap.size ≤ (wq.alloc _).heap.size; rw [World.size_alloc]; omega) (fun x hx => (RG.out.lt x hx).1)
                have hgWB := (NW.out.lt gW rfl).1
                have FZ := hyd ((FQ.out.low hblw2).low ((Below.refl _ _).setCell (p := ⟨gW, wi * 4, none⟩) hgWB (.slice (some ⟨gg, 0, none⟩) (gl + 1) cc)))
                have hgz : Hid ((gsMid i).set wi (grp ++ [i]) = gsOf (i + 1)) := by unfold Hid; rw [← Hgrp.out, ← Hwi.out]; exact mid_set i
                have NZ := hyd hN12
                rw [hgz.out, HT'.out] at NZ
                clear hN12 hbm hgw hown11 hgrow11 hat11 hlt11 x1 x2 x3 hblw2
                go_wp2
                go_roundw
                case rel => exact ⟨i + 1, _, _, _, by omega, by go_num, NZ.out, FZ.out⟩
                case measure => simp [intOf] <;> omega
          · have gm : (((i : Int) % 4) == 0) = false := by
              rw [beq_eq_false_iff_ne]; omega
            have hmid : Hid (gsMid i = gsOf i) := by unfold Hid gsMid; rw [if_neg hmod]
            have hvl0 : Hid (vs.length = wi + 1) := by have := hvsl.out; have := Hwi.out; unfold Hid; omega
            have RW := hyd N8.out.rW
            rw [hvl0.out] at RW
            have hwi4 : wi ≤ 4 := by have := Hwi.out; omega
            obtain ⟨gW, cW, hvW, -, -⟩ := RW.out.form (by omega)
            subst hvW
            have N := N8
            rw [← hmid.out] at N
            have FQ := F8
            obtain ⟨vs', Hvs'⟩ : ∃ vs', Hid (vs = vs') := ⟨_, rfl⟩
            have hvl : Hid (vs'.length = wi + 1) := by rw [← Hvs'.out]; exact hvl0
            rw [Hvs'.out] at N
            clear hmod N8 F8 RW
            go_wp2_with fail
            generalize w7.setCell ⟨bM, 2, none⟩ (.slice (some ⟨gT, 0, none⟩) (i + 1) cT) = wq at N FQ e3 ⊢
            clear e3 g3' c2' f2'
            obtain ⟨nW, HnW⟩ : ∃ nW, Hid (wi + 1 = nW) := ⟨_, rfl⟩
            rw [HnW.out] at N hvl ⊢
            have w2' : (wi : Int) < (nW : Int) := by have := HnW.out; omega
            have w3' : (nW : Int) - 1 = (wi : Int) := by have := HnW.out; omega
            have hwn : wi < nW := by have := HnW.out; omega
            obtain ⟨v, hv⟩ : ∃ v, vs'[wi]? = some v := ⟨_, List.getElem?_eq_getElem (by rw [hvl.out]; exact hwn)⟩
            obtain ⟨grp, Hgrp⟩ : ∃ grp, Hid (warpG i wi = grp) := ⟨_, rfl⟩
            have hmi : Hid ((gsMid i)[wi]? = some grp) := by rw [← Hgrp.out, ← Hwi.out]; exact mid_at i
            have RG := hyd (N.out.rG wi v grp hv hmi.out)
            have hgl4 : grp.length ≤ 4 := by rw [← Hgrp.out]; exact warp_len _ _
            obtain ⟨va, vc, hvv⟩ := slice_ofN RG.out
            subst hvv
            obtain ⟨gl, Hgl⟩ : ∃ gl, Hid (grp.length = gl) := ⟨_, rfl⟩
            have Hv := hyd hv
            have NW : Hid (wq.ownsRow w6.heap.size 118 4 (.slice (some ⟨gW, 0, none⟩) nW cW) nW (flatW (zipW vs'))) := by have := N.out.rW; rw [hvl.out] at this; exact this
            have cv := (NW.out.cellAt (wi * 4) (by omega)).trans (flatW_at (zipW_at hv)).1
            have fv := NW.out.frozenAt (wi * 4)
            obtain ⟨⟨-, c3⟩, -, -⟩ := N.out.cells
            have hszq := FQ.out.size
            have hgWq := (NW.out.lt gW rfl).2
            have hbMq : bM < wq.heap.size := blkM_lt N.out
            have c3a : ∀ o, (wq.alloc o).cell? ⟨bM, 3, none⟩ = some (.slice (some ⟨gW, 0, none⟩) nW cW) := fun o => (World.cell?_of_block (a := ⟨bM, 3, none⟩) (Below.heap_alloc wq o bM hbMq)).trans c3
            have cva : ∀ o, (wq.alloc o).cell? ⟨gW, wi * 4, none⟩ = some (.slice va grp.length vc) := fun o => (World.cell?_of_block (a := ⟨gW, wi * 4, none⟩) (Below.heap_alloc wq o gW hgWq)).trans cv
            clear hv
            rw [Hgl.out] at cv RG hgl4 cva
            have w1' : (0 : Int) ≤ (wi : Int) := by omega
            have Hv' : Hid (vs'[wi]? = some (.slice va gl vc)) := by have := Hv.out; rw [Hgl.out] at this; exact this
            clear Hv
            go_region_law ((refine step_append_lies _ (by rfl) _ _ _ (by rfl) w6.heap.size 3 i3 _ 1 8 Tryz.underlying24 hi3 hz30 hz31 hz32 rfl (by omega) (.slice va gl vc) gl (natVals grp) (by rfl) ((RG.out.alloc _).drew) ⟨wq.heap.size, 0, none⟩ 1 1 [.int .i64 i] (by rfl) (by rfl) (World.news_of_block (cs := #[.int .i64 i]) (t := 3) (fr := (0, 0)) (heap_alloc_new wq _)) (by intro u hu; simp at hu; subst hu; rfl) (by omega) (by unfold maxLen; omega) (by omega) (by simp; omega) (wq.heap.size + 1) (by simp) ?_; intro gg cc w11 hown11 hgrow11 hat11 hlt11; obtain ⟨hbm, hgw, hN12⟩ := NewAt.member (N.out.alloc (.cells #[.int .i64 i] 3)).drew hvl.out Hv'.out hmi.out (v' := .slice (some ⟨gg, 0, none⟩) (gl + 1) cc) (x := i) (by rw [Hgl.out, nat_snoc]; exact hown11) hgrow11 (fun b' hb' => by simp only [Value.ownBlock, Option.some.injEq] at hb'; subst hb'; rcases hat11 with h | h; exact .inl h; right; simp only [World.heap_drew', World.size_alloc]; omega); have x1 : w11.cell? ⟨bM, 3, none⟩ = some (.slice (some ⟨gW, 0, none⟩) nW cW) := (World.cell?_of_block (a := ⟨bM, 3, none⟩) (hbm.trans (Below.heap_alloc wq _ bM hbMq))).trans c3; have x2 : w11.cell? ⟨gW, wi * 4, none⟩ = some (.slice va gl vc) := (World.cell?_of_block (a := ⟨gW, wi * 4, none⟩) (hgw.trans (Below.heap_alloc wq _ gW hgWq))).trans cv; have x3 : w11.frozen? ⟨gW, wi * 4, none⟩ = false := (World.frozen?_of_block (a := ⟨gW, wi * 4, none⟩) (hgw.trans (Below.heap_alloc wq _ gW hgWq))).trans fv))
            all_goals
              have hblw2 : Below w6.heap.size wq w11 := (((Below.refl _ _).alloc hszq _).drew).grown hgrow11 (by show w6.heap.size ≤ (wq.alloc _).heap.size; rw [World.size_alloc]; omega) (fun x hx => (RG.out.lt x hx).1)
              have hgWB := (NW.out.lt gW rfl).1
              have FZ := hyd ((FQ.out.low hblw2).low ((Below.refl _ _).setCell (p := ⟨gW, wi * 4, none⟩) hgWB (.slice (some ⟨gg, 0, none⟩) (gl + 1) cc)))
              have hgz : Hid ((gsMid i).set wi (grp ++ [i]) = gsOf (i + 1)) := by unfold Hid; rw [← Hgrp.out, ← Hwi.out]; exact mid_set i
              have NZ := hyd hN12
              rw [hgz.out, HT'.out] at NZ
              clear hN12 hbm hgw hown11 hgrow11 hat11 hlt11 x1 x2 x3 hblw2
              go_wp2
              go_roundw
              case rel => exact ⟨i + 1, _, _, _, by omega, by go_num, NZ.out, FZ.out⟩
              case measure => simp [intOf] <;> omega
      · have hin' : i = tn := by omega
        subst hin'
        have htl : ((List.range i).map (thrOf fn)).length = i := by simp
        have hvsl : vs.length = (i + 3) / 4 := by rw [← N1.out.lenG, gsOf_len]
        obtain ⟨gT, cT, hvT, hgT1, hgT2⟩ := N1.out.rT.form (by omega)
        obtain ⟨gW, cW, hvW, hgW1, hgW2⟩ := N1.out.rW.form (by omega)
        subst hvT
        subst hvW
        have hgK6 : gK ∉ [bM] := by simp; omega
        have hgJ6 : gJ ∉ [bM] := by simp; omega
        have hgM6 : gM ∉ [bM] := by simp; omega
        have hgMlt : gM < w6.heap.size := by rw [hs6.out]; exact hgM2
        have OKz := F1.out.owns OK6.out (fun x hx => by simp only [Value.ownBlock, Option.some.injEq] at hx; subst hx; exact hgK6) (by decide)
        have OJz := F1.out.owns OJ6.out (fun x hx => by simp only [Value.ownBlock, Option.some.injEq] at hx; subst hx; exact hgJ6) (by decide)
        have OMz := F1.out.owns OM6.out (fun x hx => by simp only [Value.ownBlock, Option.some.injEq] at hx; subst hx; exact hgM6) (by decide)
        have hcore : Core wr ⟨bM, gK, cK, gJ, cJ, gT, cT, gM, cM⟩ k J (.slice (some ⟨gW, 0, none⟩) vs.length cW) ((List.range i).map (thrOf fn)) mem 0 := by
          refine ⟨N1.out.blk, ?_, ?_, owns_down N1.out.rT (Nat.zero_le _), ?_, hgJM.out⟩
          · rw [Hkn.out]; exact owns_down OKz (Nat.zero_le _)
          · rw [Hkn.out]; exact owns_down OJz (Nat.zero_le _)
          · rw [Hmn.out]; exact owns_down OMz (Nat.zero_le _)
        have hmach : MachAt wr ⟨bM, gK, cK, gJ, cJ, gT, cT, gM, cM⟩ gW cW vs (newP k J i fn mem) := by
          have hwl : (newP k J i fn mem).ws.length = vs.length := by rw [hvsl]; simp [newP]
          refine ⟨?_, ?_, hwl.symm, fun a v hv => ?_⟩
          · rw [hwl]; exact hcore
          · rw [hwl]
            have ez : vs.zip (newP k J i fn mem).ws = zipW vs := by
              have e1 : (newP k J i fn mem).ws = List.replicate vs.length wrpB := by rw [hvsl]; rfl
              rw [e1]
              exact zip_rep vs wrpB
            rw [ez]
            exact owns_down N1.out.rW (Nat.zero_le _)
          · have ha := (List.getElem?_eq_some_iff.1 hv).1
            have hr := N1.out.rG a v (warpG i a) hv (gsOf_at (by omega))
            have hl2 : (newP k J i fn mem).ts.length = i := by simp [newP]
            rw [hl2]
            refine GAt.of_owned hr fun x hx hm => ?_
            have hx1 := (hr.lt x hx).1
            simp only [List.mem_cons, List.not_mem_nil, or_false] at hm
            rcases hm with rfl | rfl | rfl | rfl
            · omega
            · rcases rows_apart hr N1.out.rT (by decide) with e | e
              · rw [e] at hx; simp at hx
              · exact e (by rw [hx]; rfl)
            · rcases rows_apart hr N1.out.rW (by decide) with e | e
              · rw [e] at hx; simp at hx
              · exact e (by rw [hx]; rfl)
            · omega
        have hbelow : Below w.heap.size w wr := ⟨F1.out.os.trans F6.out.os, F1.out.tape.trans F6.out.tape, F1.out.output.trans F6.out.output, Nat.le_trans F6.out.size F1.out.size, fun x hx => (F1.out.block x (Nat.lt_of_lt_of_le hx F6.out.size) (by simp; omega) (.inl (Nat.lt_of_lt_of_le hx F6.out.size))).trans (F6.out.block x hx)⟩
        have hY : ∀ x ∈ RM.Y ⟨bM, gK, cK, gJ, cJ, gT, cT, gM, cM⟩ gW, w.heap.size ≤ x := fun x hx => by
          have h6 := F6.out.size
          simp only [RM.Y, List.mem_cons, List.not_mem_nil, or_false] at hx
          rcases hx with rfl | rfl | rfl | rfl <;> omega
        have hK : w.heap.size ≤ gK ∧ w.heap.size ≤ gJ ∧ ∀ v ∈ vs, ∀ b, v.ownBlock = some b → w.heap.size ≤ b := by
          refine ⟨by have := (OK6.out.lt gK rfl).1; omega, by have := (OJ6.out.lt gJ rfl).1; omega, fun v hv b hb => ?_⟩
          obtain ⟨a, ha, rfl⟩ := List.getElem_of_mem hv
          have hr := N1.out.rG a _ (warpG i a) (List.getElem?_eq_getElem ha) (gsOf_at (by omega))
          have h1 := (hr.lt b hb).1
          have h6 := F6.out.size
          omega
        have KZ := hyd (And.intro hmach (And.intro hbelow (And.intro hY hK)))
        clear hmach hbelow hY hK hcore OKz OJz OMz c2 c3 f2 f3
        go_wp2
        go_ret3
        refine ⟨J, by rw [Hk.out]; exact HJ.out, ⟨bM, gK, cK, gJ, cJ, gT, cT, gM, cM⟩, gW, cW, vs, rfl, ?_, KZ.out.2.2.1, KZ.out.2.2.2, KZ.out.2.1⟩
        rw [Hk.out]
        exact KZ.out.1

end Go.Proofs.YtbhbacphiinpeaaGreat

