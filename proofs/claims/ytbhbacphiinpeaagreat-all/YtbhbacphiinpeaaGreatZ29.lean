/- Rb4 Rb3 Jo: joined. -/
import Derived.Test.YtbhbacphiinpeaaGreatZ28
import Derived.Test.YtbhbacphiinpeaaGreatZ10
import Derived.Test.YtbhbacphiinpeaaGreatZ08

/- What the document's 'issued' does. -/
namespace Go.Proofs.YtbhbacphiinpeaaGreat
open Go.RowKit

theorem bits_take {g : List Nat} {i t : Nat} (h : g[i]? = some t) : bits (g.take (i + 1)) = bits (g.take i) + 2 ^ (t % 4) := by
  unfold bits
  rw [List.take_add_one, h]
  simp

theorem bits_le (g : List Nat) : bits g ≤ 8 * g.length := by
  unfold bits
  induction g with
  | nil => simp
  | cons t g ih =>
    simp only [List.map_cons, List.sum_cons, List.length_cons]
    have : 2 ^ (t % 4) ≤ 8 := by
      have : t % 4 = 0 ∨ t % 4 = 1 ∨ t % 4 = 2 ∨ t % 4 = 3 := by omega
      rcases this with h | h | h | h <;> rw [h] <;> decide
    omega

theorem Fr.grownLog {B : Nat} {X : List Nat} {w w1 w2 : World} {v : Value} {n : Nat} {xs : List Value} (h : Fr B X w w1) (ho : w1.ownsRow B 94 2 v n xs) (hg : w1.grownBy w2 v.ownBlock) : Fr B X w w2 := by
  refine h.trans ⟨hg.os, hg.tape, hg.output, hg.size, fun b hb _ ht => hg.block b hb fun e => ?_⟩
  rcases ho.2 with ⟨h0, -⟩ | ⟨g', cap, cur, hv, hB, hh, -⟩
  · rw [h0] at e; simp [Value.ownBlock] at e
  · rw [hv] at e
    simp only [Value.ownBlock, Option.some.injEq] at e
    subst e
    rcases ht with ht | ht
    · omega
    · exact ht cur (0, 0) hh

theorem Tryz.infoR94 : (Tryz.prog.info? 94).map (fun i => (i.zero, i.size, i.bytes)) = some (some (.agg #[.int .i64 0, .int .i64 0]), 2, 16) := by kernel_rfl

set_option maxHeartbeats 1000000 in
set_option maxRecDepth 100000 in
theorem issued_any {w : World} {L : RM} {bP B : Nat} {k : List Ins} {J : List Int} {vW : Value} {bud : Nat} {warp : Int} {vL : Value} {p : Pl} (h : PlayAt w L bP B k J vW bud warp vL p) {vg : Value} {g : List Nat} (hg : GAt w (L.X bP) vg g) (hlen : g.length ≤ 16) (hst : p.steps ≤ 2000) (hll : p.log.length ≤ 2000) (hlt : ∀ t ∈ g, t < 16) (pc : Int) :
    Calls Tryz.prog 80 #[.pointer (some ⟨bP, 0, none⟩), vg, .int .i64 pc] w fun e w' => e = .returned (.tuple #[]) ∧ (∃ vL', PlayAt w' L bP B k J vW bud warp vL' (issuedP p g pc)) ∧ Fr B (L.X bP) w w' := by
  have H := hyd h
  have HG := hyd hg
  have HLt := hyd hlt
  obtain ⟨ao, cap, rfl⟩ := hg.slice
  clear h hg hlt
  obtain ⟨n, Hn⟩ : ∃ n, Hid (g.length = n) := ⟨_, rfl⟩
  rw [Hn.out] at hlen ⊢
  have hn2 : (n : Int) ≤ 16 := by omega
  go_enter Tryz.func80, Tryz.ntmps80
  go_wp2_with fail
  go_loopw [6, 7] (fun mv iv wr => ∃ (i m : Nat), i ≤ n ∧ iv = .int .i64 i ∧ mv = .int .i64 m ∧ m = bits (g.take i) ∧ Below w.heap.size w wr) (fun _ iv _ => n - (intOf iv).toNat)
  case atStart => exact ⟨0, 0, Nat.zero_le _, rfl, rfl, by simp [bits], Below.refl _ _⟩
  case round =>
    obtain ⟨i, m, hin, rfl, rfl, hm, hb⟩ := hrel
    have hm8 : m ≤ 128 := by rw [hm]; have := bits_le (g.take i); have h2 := List.length_take_le i g; omega
    have HM := hyd hm
    clear hm
    by_cases hil : i < n
    · obtain ⟨t, ht⟩ : ∃ t, g[i]? = some t := ⟨_, List.getElem?_eq_getElem (by rw [Hn.out]; exact hil)⟩
      have ht16 := HLt.out t (List.mem_of_getElem? ht)
      obtain ⟨bg, hao, hbg, hcg⟩ := HG.out.cell (by rw [Hn.out]; omega)
      subst hao
      have cg := (hb.cell (p := ⟨bg, i, none⟩) hbg).trans (hcg i t ht)
      have HE := hyd (bits_take ht)
      clear hcg ht
      have i1 : (0 : Int) ≤ (i : Int) := by omega
      have i2 : (i : Int) < (n : Int) := by omega
      have hpw : (2 : Nat) ^ (t % 4) ≤ 8 := by
        have : t % 4 = 0 ∨ t % 4 = 1 ∨ t % 4 = 2 ∨ t % 4 = 3 := by omega
        rcases this with h | h | h | h <;> rw [h] <;> decide
      have Hw : Hid (wrap64 ((m : Int) + wrap64 (2 ^ (t % 4))) = ((m + 2 ^ (t % 4) : Nat) : Int)) := by
        have e : ((2 : Int) ^ (t % 4)) = (((2 : Nat) ^ (t % 4) : Nat) : Int) := by simp
        unfold Hid
        rw [e]
        generalize (2 : Nat) ^ (t % 4) = z at hpw
        rw [IntWalk.wrap64_in (z : Int) (by omega), IntWalk.wrap64_in _ (by omega)]
        omega
      clear hpw
      go_wp2
      go_roundw
      case rel => exact ⟨i + 1, m + 2 ^ (t % 4), by omega, by go_num, by rw [Hw.out], by rw [HE.out, HM.out], hb⟩
      case measure => simp [intOf] <;> omega
    · have hin' : i = g.length := by rw [Hn.out]; omega
      have HMm : Hid (m = bits g) := by have := HM.out; rw [hin', take_all] at this; exact this
      have P0 := hyd (H.out.up hb)
      obtain ⟨-, c2, -⟩ := P0.out.cells
      have f2 := P0.out.frozen 2
      have hne := P0.out.ne
      have HLn := hyd hne.2.2.2.2.2
      clear hne
      have P1 := hyd (P0.out.set (i := 2) (v := .int .i64 ((p.steps : Int) + 1)) (p' := { p with steps := p.steps + 1 }) (vL' := vL) (by simp) P0.out.log (fun g hg => (HLn.out g hg).1) rfl rfl rfl)
      obtain ⟨-, -, -, -, -, -, e7, -⟩ := P1.out.cells
      have hfb := hyd ((Fr.of_below hb : Fr B (L.X bP) w wr).set (a := ⟨bP, 2, none⟩) (by simp [RM.X]) (.int .i64 ((p.steps : Int) + 1)))
      have hsz : bP < wr.heap.size := blk_lt P0.out.blk
      have hBP := P0.out.hB
      obtain ⟨j0, hj, hy0, hy1, hy2⟩ := info_parts Tryz.infoR94
      obtain ⟨ll, Hll⟩ : ∃ ll, Hid (p.log.length = ll) := ⟨_, rfl⟩
      have HO : Hid ((wr.setCell ⟨bP, 2, none⟩ (.int .i64 ((p.steps : Int) + 1))).ownsRow B 94 2 vL ll (flatL p.log)) := by have := P1.out.log; dsimp only at this; rw [Hll.out] at this; exact this
      rw [Hll.out] at hll
      go_wp2_with (at_builtin; go_must (refine wpList_append_lies _ rfl (.tmp 36) (.tmp 40) 50 rfl B 94 j0 (.agg #[.int .i64 0, .int .i64 0]) 2 16 Tryz.underlying50 hj hy0 hy1 hy2 rfl (by decide) vL ll (flatL p.log) rfl ?a0 ⟨wr.heap.size, 0, none⟩ 1 1 [.int .i64 pc, .int .i64 m] rfl rfl ?a1 ?a2 (by omega) ?a3 ?a4 ?a5 (wr.heap.size + 1) ?a6 ?_))
      case a0 => exact HO.out.alloc _
      case a1 =>
        have h := World.news_of_block (heap_alloc_new (wr.setCell ⟨bP, 2, none⟩ (.int .i64 ((p.steps : Int) + 1))) (.cells #[.int .i64 pc, .int .i64 m] 94))
        rw [set_size] at h
        exact h
      case a2 => intro u hu; simp at hu; rcases hu with rfl | rfl <;> rfl
      case a3 => unfold maxLen; omega
      case a4 => omega
      case a5 => simp only [World.size_alloc, set_size]; omega
      case a6 => simp only [World.size_alloc, set_size]
      · intro g2 c2' w2 hown2 hgrow2 hat2 _
        rw [← flatL_snoc] at hown2
        have P1a := P1.out.alloc (.cells #[.int .i64 pc, .int .i64 m] 94)
        have hl1 := (P1.out.lt)
        have keepB : ∀ b, b < (wr.setCell ⟨bP, 2, none⟩ (.int .i64 ((p.steps : Int) + 1))).heap.size → some b ≠ vL.ownBlock → w2.heap[b]? = ((wr.setCell ⟨bP, 2, none⟩ (.int .i64 ((p.steps : Int) + 1))).alloc (.cells #[.int .i64 pc, .int .i64 m] 94)).heap[b]? := fun b hb hne => hgrow2.block b (by rw [World.size_alloc]; omega) hne
        have hblk2 := (keepB bP (by rw [set_size]; exact hsz) (fun e => (HLn.out bP e.symm).1 rfl)).trans P1a.blk
        have hcore2 : Core w2 L k J vW p.ts p.mem p.st := P1a.core.keep fun g hg => keepB g (P1.out.core.lt hg) (fun e => by
          have := HLn.out g e.symm
          rcases hg with rfl | rfl | rfl | rfl | rfl <;> simp_all)
        have hbP2 : g2 ≠ bP := fun e => owns_not hown2 hblk2 (by decide) (by rw [e]; rfl)
        have F2 : Fr B (L.X bP) w w2 := (hfb.out.alloc (.cells #[.int .i64 pc, .int .i64 m] 94)).grownLog (HO.out.alloc _) hgrow2
        have d7 : w2.cell? ⟨bP, 7, none⟩ = some vL := by rw [cell_of_row w2 bP _ _ 123 _ hblk2]; rfl
        have f7 : w2.frozen? ⟨bP, 7, none⟩ = false := frozen_of_row w2 bP 7 _ 123 hblk2
        have K := hyd (And.intro hown2 (And.intro hblk2 (And.intro hcore2 F2)))
        clear hown2 hgrow2 hat2 hblk2 hcore2 F2 keepB hl1 P1a c2 f2 e7
        go_wp2
        go_end0
        obtain ⟨hown2, hblk2, hcore2, F2⟩ := K.out
        refine ⟨rfl, ⟨.slice (some ⟨g2, 0, none⟩) (ll + 1) c2', ?_, ?_, ?_, hBP⟩, F2.set (by simp [RM.X]) _⟩
        · rw [heap_setCell_same w2 bP 7 _ 123 _ hblk2]
          rfl
        · have e : (issuedP p g pc).log.length = ll + 1 := by simp [issuedP, Hll.out]
          rw [e]
          have e2 : flatL (issuedP p g pc).log = flatL (p.log ++ [(pc, (m : Int))]) := by unfold issuedP; rw [HMm.out]
          rw [e2]
          exact owns_set1 hown2 hbP2 _
        · exact hcore2.keep fun b hb => Below.heap_setCell _ _ _ _ (by
            obtain ⟨n1, n2, n3, n4, n5, -⟩ := P0.out.ne
            rcases hb with rfl | rfl | rfl | rfl | rfl <;> assumption)

end Go.Proofs.YtbhbacphiinpeaaGreat

/- What the document's 'fault' does. -/
namespace Go.Proofs.YtbhbacphiinpeaaGreat
open Go.RowKit

set_option maxHeartbeats 1000000 in
set_option maxRecDepth 100000 in
theorem fault_any {w : World} {L : RM} {bP B : Nat} {k : List Ins} {J : List Int} {vW : Value} {bud : Nat} {warp : Int} {vL : Value} {p : Pl} (h : PlayAt w L bP B k J vW bud warp vL p) (what pc t : Int) :
    Calls Tryz.prog 100 #[.pointer (some ⟨bP, 0, none⟩), .int .i64 what, .int .i64 pc, .int .i64 t] w fun e w' => e = .returned (.tuple #[]) ∧ PlayAt w' L bP B k J vW bud warp vL (faultP p what pc t) ∧ Fr B (L.X bP) w w' := by
  have H := hyd h
  obtain ⟨c0, -, -, c4, c5, c6, -, -, -, c10, -⟩ := h.cells
  obtain ⟨-, -, -, -, -, m5⟩ := h.core.cells
  have f4 := h.frozen 4
  have f5 := h.frozen 5
  have f6 := h.frozen 6
  have f10 := h.frozen 10
  have fm : w.frozen? ⟨L.bM, 5, none⟩ = false := frozen_of_row w L.bM 5 _ 85 h.core.blk
  have hne := h.ne.1
  have hne' : bP ≠ L.bM := fun e => hne e.symm
  have hln : Hid (∀ g, vL.ownBlock = some g → g ≠ bP ∧ g ≠ L.bM) := fun g hg => ⟨(h.ne.2.2.2.2.2 g hg).1, (h.ne.2.2.2.2.2 g hg).2.1⟩
  clear h
  go_enter Tryz.func100, Tryz.ntmps100
  go_wp2
  go_end0
  have P1 := H.out.set (i := 4) (v := .int .i64 what) (p' := { p with fault := what }) (vL' := vL) rfl H.out.log (fun g hg => (hln.out g hg).1) rfl rfl rfl
  have P2 := P1.set (i := 5) (v := .int .i64 pc) (p' := { p with fault := what, fpc := pc }) (vL' := vL) rfl P1.log (fun g hg => (hln.out g hg).1) rfl rfl rfl
  have P3 := P2.set (i := 6) (v := .int .i64 t) (p' := { p with fault := what, fpc := pc, fth := t }) (vL' := vL) rfl P2.log (fun g hg => (hln.out g hg).1) rfl rfl rfl
  have P4 := P3.into (P3.core.setS 2) (Below.heap_setCell _ _ _ _ hne') (fun g hg => Below.heap_setCell _ _ _ _ (hln.out g hg).2)
  have P5 := P4.set (i := 10) (v := .bool true) (p' := faultP p what pc t) (vL' := vL) rfl P4.log (fun g hg => (hln.out g hg).1) rfl rfl rfl
  exact ⟨rfl, P5, ((((((Fr.refl _ _ _).set (by simp [RM.X]) _).set (by simp [RM.X]) _).set (by simp [RM.X]) _).set (by simp [RM.X]) _).set (by simp [RM.X]) _)⟩

end Go.Proofs.YtbhbacphiinpeaaGreat

/- The contract of the program's Joins (JoinsOk); the document's own Joins keeps it. -/
namespace Go.Proofs.YtbhbacphiinpeaaGreat
open Go.RowKit

/-- What a Joins of the text s answers: a list of the caller's own, the error, the place. -/
def JoinsAns (s : ByteArray) (w : World) (e : Ending) (w' : World) : Prop :=
  ∃ v J, e = .returned (.tuple #[v, .int .i64 (dchk s).1, .int .i64 (dchk s).2]) ∧ Below w.heap.size w w' ∧ w'.ownsRow w.heap.size 3 1 v J.length (zVals J) ∧ ((dchk s).1 = 0 → JoinsAre (decL s) J) ∧ ((dchk s).1 ≠ 0 → J = [] ∧ v = .slice none 0 0)

def JoinsOk : Prop := ∀ (s : ByteArray), s.size ≤ 140737488355328 → ∀ w : World, Calls Tryz.prog 29 #[.string s] w (JoinsAns s w)

theorem dchk_zero {s : ByteArray} (h : (dchk s).1 = 0) : dchk s = (0, 0) := by
  have g := (dec_good h).1
  have e : dchk s = chk (decL s) := by
    unfold decL
    rw [if_pos h]
    unfold dchk at h ⊢
    split
    · next h2 => rw [if_pos h2] at h; simp at h
    · rfl
  rw [e, g]

theorem rjoins_any (s : ByteArray) (hm : s.size ≤ 140737488355328) (w : World) : Calls Tryz.prog 30 #[.string s] w (JoinsAns s w) := by
  by_cases h0 : (dchk s).1 = 0
  · refine (rjoins_yes s hm h0 w).mono ?_
    rintro e w' ⟨v, J, rfl, hJ, hown, hb⟩
    refine ⟨v, J, ?_, hb, hown, fun _ => hJ, fun h => absurd h0 h⟩
    rw [dchk_zero h0]
  · refine (rjoins_no s hm h0 w).mono ?_
    rintro e w' ⟨rfl, hb⟩
    exact ⟨_, [], rfl, hb, World.ownsRow_nil _ _ _ _, fun h => absurd h h0, fun _ => ⟨rfl, rfl⟩⟩

theorem slice_ofN {w : World} {base : Nat} {t : TypeId} {sz n : Nat} {v : Value} {xs : List Value} (h : w.ownsRow base t sz v n xs) : ∃ ao cap, v = .slice ao n cap := by
  rcases h.2 with ⟨rfl, h0⟩ | ⟨g, cap, cur, rfl, -⟩
  · exact ⟨none, 0, by rw [h0]⟩
  · exact ⟨_, cap, rfl⟩

theorem joins_len {s : ByteArray} {J : List Int} (h1 : (dchk s).1 = 0 → JoinsAre (decL s) J) (h2 : (dchk s).1 ≠ 0 → J = [] ∧ True) : J.length ≤ 40 := by
  by_cases h : (dchk s).1 = 0
  · rw [(h1 h).1]; exact (dec_good h).2.2
  · rw [(h2 h).1]; simp

end Go.Proofs.YtbhbacphiinpeaaGreat

