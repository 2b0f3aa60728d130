/- Mj Mk1 Mm: joined. -/
import Derived.Test.YtbhbacphiinpeaaGreatZ16
import Derived.Handy

/- What 'Do' of package cells does. -/
namespace Go.Proofs.YtbhbacphiinpeaaGreat
open Go.RowKit

structure DoInv (w wr : World) (L : XM) (k : List Ins) (J : List Int) (x xl : QM) (ins : Ins) (b m l : Nat) (s : List Int) (ts : List Thr) (mem : List Int) (n : Nat) (F : List Thr × List Int × List Int × Option (Int × Nat)) : Prop where
  mx : MX wr L k J xl
  at0 : CellsAt ts mem xl
  only : Only x xl
  fr : ∀ B, Fr B [L.bX] w wr
  box : wr.heap[w.heap.size]? = some (.cells #[.int .i64 ins.o, .int .i64 ins.a, .int .i64 ins.b, .int .i64 ins.c] 92)
  out : wr.heap[w.heap.size + 1]? = some (.cells #[.int .i64 0, .int .i64 0, .int .i64 0] 135)
  sum : F = eachSum s (eachL ins (gFrom b m l) ts mem)
  seg : Seg8 s
  len : ts.length = n

def faultOf (o : Option (Int × Nat)) : Int × Int := match o with | none => (0, 0) | some (f, t) => (f, (t : Int))

def DoAns (w : World) (L : XM) (k : List Ins) (J : List Int) (x : QM) (F : List Thr × List Int × List Int × Option (Int × Nat)) (e : Ending) (w' : World) : Prop :=
  e = .returned (.agg #[.int .i64 (segC [] F.2.2.1), .int .i64 (faultOf F.2.2.2).1, .int .i64 (faultOf F.2.2.2).2]) ∧ ∃ x', MX w' L k J x' ∧ CellsAt F.1 F.2.1 x' ∧ Only x x' ∧ ∀ B, Fr B [L.bX] w w'

theorem fr_block {w w' : World} {X : List Nat} (h : ∀ B, Fr B X w w') {g : Nat} {o : Obj} (hg : w.heap[g]? = some o) (hX : g ∉ X) : w'.heap[g]? = some o :=
  ((h (g + 1)).block g (blk_lt hg) hX (.inl (Nat.lt_succ_self g))).trans hg
theorem seg_ok {s : List Int} (h : Seg8 s) {ad : Int} {n : Nat} (hn : n ≤ 32) (ha : ad = -1 ∨ (0 ≤ ad ∧ ad < n)) : Seg8 (s ++ segL ad) := by
  intro z hz
  rw [List.mem_append] at hz
  rcases hz with hz | hz
  · exact h z hz
  · unfold segL at hz
    split at hz
    · rw [List.mem_singleton] at hz; omega
    · cases hz
theorem segBit_nat (ad : Int) : segBit ad = (((segBit ad).toNat : Nat) : Int) := by
  unfold segBit
  split
  · rw [Int.toNat_natCast]
  · rfl
theorem seg_or {s : List Int} (h : Seg8 s) {ad : Int} {n : Nat} (hn : n ≤ 32) (ha : ad = -1 ∨ (0 ≤ ad ∧ ad < n)) : _root_.Go.bits .or .i64 (segMask s : Int) (segBit ad) = ((segMask (s ++ segL ad) : Nat) : Int) := by
  have h1 := segMask_lt h
  have h2 := segBit_nat ad
  have h3 : (segBit ad).toNat < 4294967296 := by
    unfold segBit
    split
    · have : ad.toNat / 4 < 8 := by omega
      rw [Int.toNat_natCast]
      exact Nat.lt_of_lt_of_le (Nat.pow_lt_pow_right (by omega) this) (by decide)
    · decide
  rw [segMask_or, h2, bor_big (by omega) h3]
  rw [← h2]

theorem box3_set {w : World} {B : Nat} {x y z : Value} {t : TypeId} (h : w.heap[B]? = some (.cells #[x, y, z] t)) (a b c : Value) : (((w.setCell ⟨B, 0, none⟩ a).setCell ⟨B, 1, none⟩ b).setCell ⟨B, 2, none⟩ c).heap[B]? = some (.cells #[a, b, c] t) := by
  have h1 := heap_setCell_same w B 0 _ t a h
  have h2 := heap_setCell_same _ B 1 _ t b h1
  have h3 := heap_setCell_same _ B 2 _ t c h2
  rw [h3]; rfl
theorem MX.setOther {w : World} {L : XM} {k : List Ins} {J : List Int} {x : QM} (h : MX w L k J x) {B : Nat} (hB : B ≠ L.bX ∧ B ≠ L.gK ∧ B ≠ L.gJ) (i : Nat) (v : Value) : MX (w.setCell ⟨B, i, none⟩ v) L k J x :=
  h.keep fun g hg => Below.heap_setCell _ _ _ _ (fun e => by dsimp only at e; omega)
theorem Fr.setNew {B : Nat} {X : List Nat} {w w' : World} (h : Fr B X w w') {g : Nat} (hg : w.heap.size ≤ g) (i : Nat) (v : Value) : Fr B X w (w'.setCell ⟨g, i, none⟩ v) :=
  ⟨h.os, h.tape, h.output, by simp only [World.setCell, Array.size_modify]; exact h.size, fun b hb hX ht => (Below.heap_setCell _ _ _ _ (fun e => by dsimp only at e; omega)).trans (h.block b hb hX ht)⟩
theorem box3 {w : World} {B : Nat} {a b c : Value} {t : TypeId} (h : w.heap[B]? = some (.cells #[a, b, c] t)) : w.cell? ⟨B, 0, none⟩ = some a ∧ w.cell? ⟨B, 1, none⟩ = some b ∧ w.cell? ⟨B, 2, none⟩ = some c ∧ w.frozen? ⟨B, 0, none⟩ = false ∧ w.frozen? ⟨B, 1, none⟩ = false ∧ w.frozen? ⟨B, 2, none⟩ = false := by
  refine ⟨?_, ?_, ?_, frozen_of_row w B 0 _ t h, frozen_of_row w B 1 _ t h, frozen_of_row w B 2 _ t h⟩ <;> (rw [cell_of_row w B _ _ t _ h]; rfl)

set_option maxHeartbeats 1000000 in
set_option maxRecDepth 100000 in
theorem do_any {w : World} {L : XM} {k : List Ins} {J : List Int} {x : QM} (h : MX w L k J x) {ts : List Thr} {mem : List Int} (hc : CellsAt ts mem x) (o : Int) (a b c : Nat) (ha : a < 4) (hb : o ≠ 1 → b < 4) (hcc : 2 ≤ o ∧ o ≤ 7 → c < 4) (ho : 1 ≤ o ∧ o ≤ 11)
    (bs m : Nat) (hbs : bs ≤ 12) (hm : m < 16) (hg : ∀ l, l < 4 → m.testBit l = true → bs + l < ts.length) :
    Calls Tryz.prog 97 #[pC L, .agg #[.int .i64 o, .int .i64 a, .int .i64 b, .int .i64 c], .int .i64 bs, .int .i64 m] w (DoAns w L k J x (eachL ⟨o, a, b, c⟩ (gOf bs m) ts mem)) := by
  have H := hyd h
  have HC := hyd hc
  obtain ⟨n, Hn⟩ : ∃ n, Hid (ts.length = n) := ⟨_, rfl⟩
  rw [Hn.out] at hg
  have HG := hyd hg
  have HO := hyd ho
  have HB := hyd hb
  have HCC := hyd hcc
  clear h hc hg ho hb hcc
  obtain ⟨F, HFe⟩ : ∃ F, Hid (F = eachL ⟨o, a, b, c⟩ (gOf bs m) ts mem) := ⟨_, rfl⟩
  rw [← HFe.out]
  have HF : Hid (∀ B o, Fr B [L.bX] w (w.alloc o)) := fun B o => (Fr.refl _ _ _).alloc o
  unfold pC
  go_enter Tryz.func97, Tryz.ntmps97
  go_wp2_with fail
  have X1 := hyd (heap_alloc_new w (.cells #[.int .i64 o, .int .i64 a, .int .i64 b, .int .i64 c] 92))
  have X2 := hyd (heap_alloc_new (w.alloc (.cells #[.int .i64 o, .int .i64 a, .int .i64 b, .int .i64 c] 92)) (.cells #[.int .i64 0, .int .i64 0, .int .i64 0] 135))
  rw [World.size_alloc] at X2
  have D0 : Hid (DoInv w ((w.alloc (.cells #[.int .i64 o, .int .i64 a, .int .i64 b, .int .i64 c] 92)).alloc (.cells #[.int .i64 0, .int .i64 0, .int .i64 0] 135)) L k J x x ⟨o, a, b, c⟩ bs m 0 [] ts mem n F) :=
    ⟨(H.out.alloc _).alloc _, HC.out, Only.refl _, fun B => (HF.out B _).alloc _, (Below.heap_alloc _ _ _ (blk_lt X1.out)).trans X1.out, X2.out, by rw [gFrom_zero, HFe.out]; rfl, (fun s hs => by cases hs), Hn.out⟩
  generalize (w.alloc (.cells #[.int .i64 o, .int .i64 a, .int .i64 b, .int .i64 c] 92)).alloc (.cells #[.int .i64 0, .int .i64 0, .int .i64 0] 135) = w1 at X2 D0 ⊢
  clear X1 X2
  have hsz : Hid (L.bX < w.heap.size) := H.out.lt (.inl rfl)
  have hnb : Hid (w.heap.size + 1 ≠ L.bX ∧ w.heap.size + 1 ≠ L.gK ∧ w.heap.size + 1 ≠ L.gJ) := by
    have h1 := H.out.lt (g := L.bX) (.inl rfl)
    have h2 := H.out.lt (g := L.gK) (.inr (.inl rfl))
    have h3 := H.out.lt (g := L.gJ) (.inr (.inr rfl))
    unfold Hid; omega
  go_loopw [9, 10] (fun tv lv wr => ∃ (l : Nat) (xl : QM) (s : List Int) (tl : List Thr) (ml : List Int), l ≤ 4 ∧ lv = .int .i64 l ∧ tv = .int .i64 (segMask s) ∧ Hid (DoInv w wr L k J x xl ⟨o, a, b, c⟩ bs m l s tl ml n F)) (fun _ lv _ => 4 - (intOf lv).toNat)
  case atStart => exact ⟨0, x, [], ts, mem, by omega, rfl, rfl, D0⟩
  case round =>
    obtain ⟨l, xl, s, tl, ml, hl4, rfl, rfl, D⟩ := hrel
    by_cases hl : l < 4
    · have l1 : (0 : Int) ≤ (l : Int) := by omega
      have l2 : (l : Int) < 4 := by omega
      cases hbit : m.testBit l
      · have hbt := bit_no hm hl hbit
        go_wp2_with fail
        refine ⟨⟨l + 1, xl, s, tl, ml, by omega, rfl, rfl, ?_⟩, ?_⟩
        · exact ⟨D.out.mx, D.out.at0, D.out.only, D.out.fr, D.out.box, D.out.out, by rw [← gFrom_out hl hbit]; exact D.out.sum, D.out.seg, D.out.len⟩
        · simp only [intOf]; omega
      · have hbt := bit_yes hm hl hbit
        obtain ⟨x0, x1, x2, x3⟩ := box4 D.out.box
        dsimp only at x0 x1 x2 x3
        have hT : bs + l < tl.length := by rw [D.out.len]; exact HG.out l hl hbit
        have hq := hyd (oper_any D.out.mx D.out.at0.c32 (bs + l) (by omega) o a b c ha HB.out HCC.out HO.out)
        rw [Int.natCast_add] at hq
        have hq2 := hyd (oper_one D.out.at0 hT ha HB.out HCC.out HO.out)
        have Had := hyd (one_addr (x := ⟨o, a, b, c⟩) (t := tl.getD (bs + l) thr0) (mem := ml))
        have Hst := hyd (each_step (x := ⟨o, a, b, c⟩) hl hbit D.out.sum)
        have Hsp := hyd (each_stop (x := ⟨o, a, b, c⟩) hl hbit D.out.sum)
        have Hk := hyd (one_keeps ⟨o, a, b, c⟩ ml (reg4_at D.out.at0.reg4 hT))
        obtain ⟨f, ad, th', ml', HR⟩ : ∃ f ad th' ml', Hid (oneP ⟨o, a, b, c⟩ (tl.getD (bs + l) thr0) ml = (f, ad, th', ml')) := ⟨_, _, _, _, rfl⟩
        rw [HR.out] at hq2 Had Hst Hsp Hk
        obtain ⟨sg, ft, x2', HQ⟩ : ∃ sg ft x2', Hid (operQ xl (bs + l) o a b c = (sg, ft, x2')) := ⟨_, _, _, rfl⟩
        rw [HQ.out] at hq hq2
        dsimp only at hq2 Had Hst Hsp Hk
        obtain ⟨k1, k2, k3, k4⟩ := hq2.out
        subst k1 k2
        have K3 := hyd k3
        have K4 := hyd k4
        have hm32 : Hid (ml.length ≤ 32) := by have h1 := D.out.at0.cnt; have h2 := D.out.at0.c32; unfold Hid; omega
        have hor := seg_or D.out.seg hm32.out Had.out
        clear hq2 k3 k4
        go_wp2_with fail
        refine hq.out.mono ?_
        rintro e w4 ⟨rfl, hM, hFr⟩
        have M4 := hyd hM
        have F4 := hyd hFr
        have B4 : Hid (w4.heap[w.heap.size]? = some (.cells #[.int .i64 o, .int .i64 a, .int .i64 b, .int .i64 c] 92)) := fr_block hFr D.out.box (fun hm => by have := List.mem_singleton.1 hm; have := hsz.out; omega)
        have O4 : Hid (w4.heap[w.heap.size + 1]? = some (.cells #[.int .i64 0, .int .i64 0, .int .i64 0] 135)) := fr_block hFr D.out.out (fun hm => by have := List.mem_singleton.1 hm; have := hsz.out; omega)
        clear hM hFr x0 x1 x2 x3
        by_cases hf : ft = 0
        · subst hf
          go_wp2_with fail
          refine ⟨⟨l + 1, x2', s ++ segL ad, tl.set (bs + l) th', ml', by omega, rfl, rfl, ?_⟩, ?_⟩
          · exact ⟨M4.out, K3.out, D.out.only.trans K4.out, fun B => (D.out.fr B).trans (F4.out B), B4.out, O4.out, Hst.out (by trivial), seg_ok D.out.seg hm32.out Had.out, by rw [List.length_set]; exact D.out.len⟩
          · simp only [intOf]; omega
        · have hfb : (ft == 0) = false := by simpa using hf
          have Hs := hyd (Hsp.out hf)
          have hne := hyd (one_fault (x := ⟨o, a, b, c⟩) (t := tl.getD (bs + l) thr0) (mem := ml) (by rw [HR.out]; exact hf))
          rw [HR.out] at hne
          go_wp2_with fail
          refine (sizeOf_any (segMask s) (segMask_lt D.out.seg) w4).mono ?_
          rintro e w5 ⟨rfl, hbl⟩
          have O5 : Hid (w5.heap[w.heap.size + 1]? = some (.cells #[.int .i64 0, .int .i64 0, .int .i64 0] 135)) := (hbl.block _ (blk_lt O4.out)).trans O4.out
          have M5 : Hid (MX w5 L k J x2') := M4.out.up hbl
          have F5 : Hid (∀ B, Fr B [L.bX] w w5) := fun B => ((D.out.fr B).trans (F4.out B)).trans (Fr.of_below hbl)
          obtain ⟨z0, z1, z2, z3, z4, z5⟩ := box3 O5.out
          clear hbl
          go_wp2_with fail
          have O6 := hyd (box3_set O5.out (.int .i64 (popB (segMask s))) (.int .i64 ft) (.int .i64 ((bs : Int) + (l : Int))))
          have M6 := hyd (((M5.out.setOther (B := w.heap.size + 1) hnb.out 0 (.int .i64 (popB (segMask s)))).setOther hnb.out 1 (.int .i64 ft)).setOther hnb.out 2 (.int .i64 ((bs : Int) + (l : Int))))
          have F6 : Hid (∀ B, Fr B [L.bX] w (((w5.setCell ⟨w.heap.size + 1, 0, none⟩ (.int .i64 (popB (segMask s)))).setCell ⟨w.heap.size + 1, 1, none⟩ (.int .i64 ft)).setCell ⟨w.heap.size + 1, 2, none⟩ (.int .i64 ((bs : Int) + (l : Int))))) := fun B => (((F5.out B).setNew (Nat.le_succ _) _ _).setNew (Nat.le_succ _) _ _).setNew (Nat.le_succ _) _ _
          generalize (((w5.setCell ⟨w.heap.size + 1, 0, none⟩ (.int .i64 (popB (segMask s)))).setCell ⟨w.heap.size + 1, 1, none⟩ (.int .i64 ft)).setCell ⟨w.heap.size + 1, 2, none⟩ (.int .i64 ((bs : Int) + (l : Int)))) = w6 at O6 M6 F6 ⊢
          obtain ⟨y0, y1, y2, -, -, -⟩ := box3 O6.out
          (try simp only [Exit.inBlock, Exit.then])
          refine bodyPost_ret (by simp [results, Tryz.results97, go_sem, y0, y1, y2]; try rfl) rfl ?_
          rw [Hs.out]
          refine ⟨?_, x2', M6.out, ?_, D.out.only.trans K4.out, F6.out⟩
          · dsimp only; rw [segC_all D.out.seg]; rfl
          · have hk3 := K3.out
            have e1 := congrArg Prod.fst hne.out
            have e2 := congrArg Prod.snd hne.out
            dsimp only at e1 e2
            rw [e1, e2, set_self hT] at hk3
            exact hk3
    · have : l = 4 := by omega
      subst this
      have hsum := D.out.sum
      rw [gFrom_end] at hsum
      have Hs := hyd hsum
      clear hsum
      go_wp2_with fail
      refine (sizeOf_any (segMask s) (segMask_lt D.out.seg) wr).mono ?_
      rintro e w5 ⟨rfl, hbl⟩
      have O5 : Hid (w5.heap[w.heap.size + 1]? = some (.cells #[.int .i64 0, .int .i64 0, .int .i64 0] 135)) := (hbl.block _ (blk_lt D.out.out)).trans D.out.out
      have M5 : Hid (MX w5 L k J xl) := D.out.mx.up hbl
      have F5 : Hid (∀ B, Fr B [L.bX] w w5) := fun B => (D.out.fr B).trans (Fr.of_below hbl)
      obtain ⟨z0, z1, z2, z3, z4, z5⟩ := box3 O5.out
      clear hbl
      go_wp2_with fail
      have O6 := hyd (box3_set O5.out (.int .i64 (popB (segMask s))) (.int .i64 0) (.int .i64 0))
      have M6 := hyd (((M5.out.setOther (B := w.heap.size + 1) hnb.out 0 (.int .i64 (popB (segMask s)))).setOther hnb.out 1 (.int .i64 0)).setOther hnb.out 2 (.int .i64 0))
      have F6 : Hid (∀ B, Fr B [L.bX] w (((w5.setCell ⟨w.heap.size + 1, 0, none⟩ (.int .i64 (popB (segMask s)))).setCell ⟨w.heap.size + 1, 1, none⟩ (.int .i64 0)).setCell ⟨w.heap.size + 1, 2, none⟩ (.int .i64 0))) := fun B => (((F5.out B).setNew (Nat.le_succ _) _ _).setNew (Nat.le_succ _) _ _).setNew (Nat.le_succ _) _ _
      generalize (((w5.setCell ⟨w.heap.size + 1, 0, none⟩ (.int .i64 (popB (segMask s)))).setCell ⟨w.heap.size + 1, 1, none⟩ (.int .i64 0)).setCell ⟨w.heap.size + 1, 2, none⟩ (.int .i64 0)) = w6 at O6 M6 F6 ⊢
      obtain ⟨y0, y1, y2, -, -, -⟩ := box3 O6.out
      (try simp only [Exit.inBlock, Exit.then])
      refine bodyPost_ret (by simp [results, Tryz.results97, go_sem, y0, y1, y2]; try rfl) rfl ?_
      rw [Hs.out]
      refine ⟨?_, xl, M6.out, D.out.at0, D.out.only, F6.out⟩
      simp only [eachSum, eachL, List.append_nil]
      rw [segC_all D.out.seg]; rfl

end Go.Proofs.YtbhbacphiinpeaaGreat

/- What 'Zeros' of package cells answers. -/
namespace Go.Proofs.YtbhbacphiinpeaaGreat
open Go.RowKit

def zQ (x : QM) (bs r m : Nat) : Nat := maskOf fun l => m.testBit l && rgA x (bs + l) r == 0
def zTo (x : QM) (bs r l : Nat) : Nat := maskOf fun j => decide (j < l) && rgA x (bs + j) r == 0

theorem pow_lane {l : Nat} (h : l < 4) : wrap64 ((2 : Int) ^ l) = ((2 ^ l : Nat) : Int) := by
  have := pow_seg (q := 4 * l) (by omega)
  rw [show 4 * l / 4 = l by omega] at this
  exact this
theorem or_lane {z l : Nat} (hz : z < 16) (h : l < 4) : _root_.Go.bits .or .i64 (z : Int) (wrap64 ((2 : Int) ^ l)) = ((z ||| 2 ^ l : Nat) : Int) := by
  rw [pow_lane h]
  exact bor hz (Nat.pow_lt_pow_right (a := 2) (m := l) (n := 4) (by omega) h)

theorem zTo_zero (x : QM) (bs r : Nat) : zTo x bs r 0 = 0 := by
  refine mask_ext (maskOf_lt _) (by omega) fun l hl => ?_
  unfold zTo
  rw [maskOf_bit _ hl]; simp
theorem zTo_yes {x : QM} {bs r l : Nat} (hl : l < 4) (h : rgA x (bs + l) r = 0) : zTo x bs r l ||| 2 ^ l = zTo x bs r (l + 1) := by
  refine mask_ext (or_lt16 (maskOf_lt _) (Nat.pow_lt_pow_right (a := 2) (m := l) (n := 4) (by omega) hl)) (maskOf_lt _) fun j hj => ?_
  unfold zTo
  rw [Nat.testBit_or, maskOf_bit _ hj, maskOf_bit _ hj, Nat.testBit_two_pow]
  by_cases e : l = j
  · subst e; simp [h]
  · have e1 : decide (j < l + 1) = decide (j < l) := by simp; omega
    rw [e1]; simp [e]
theorem zTo_no {x : QM} {bs r l : Nat} (h : rgA x (bs + l) r ≠ 0) : zTo x bs r l = zTo x bs r (l + 1) := by
  unfold zTo
  refine mask_ext (maskOf_lt _) (maskOf_lt _) fun j hj => ?_
  rw [maskOf_bit _ hj, maskOf_bit _ hj]
  by_cases e : l = j
  · subst e; simp [h]
  · have e1 : decide (j < l + 1) = decide (j < l) := by simp; omega
    rw [e1]
theorem zTo_all {x : QM} {bs r m : Nat} : zTo x bs r 4 &&& m = zQ x bs r m := by
  refine mask_ext (and_lt16 _ (maskOf_lt _)) (maskOf_lt _) fun j hj => ?_
  unfold zTo zQ
  rw [Nat.testBit_and, maskOf_bit _ hj, maskOf_bit _ hj]
  simp [hj, Bool.and_comm]

set_option maxHeartbeats 1000000 in
set_option maxRecDepth 100000 in
theorem zeros_any {w : World} {L : XM} {k : List Ins} {J : List Int} {x : QM} (h : MX w L k J x) (r bs m : Nat) (hr : r < 4) (hbs : bs ≤ 12) (hm : m < 16) :
    Calls Tryz.prog 91 #[pC L, .int .i64 r, .int .i64 bs, .int .i64 m] w fun e w' => e = .returned (.int .i64 (zQ x bs r m)) ∧ Below w.heap.size w w' := by
  have H := hyd h
  clear h
  unfold pC
  go_enter Tryz.func91, Tryz.ntmps91
  go_wp2_with fail
  go_loopw [9, 10] (fun zv lv wr => ∃ (l : Nat), l ≤ 4 ∧ lv = .int .i64 l ∧ zv = .int .i64 (zTo x bs r l) ∧ Hid (Below w.heap.size w wr)) (fun _ lv _ => 4 - (intOf lv).toNat)
  case atStart => exact ⟨0, by omega, rfl, by rw [zTo_zero]; rfl, Below.refl _ _⟩
  case round =>
    obtain ⟨l, hl4, rfl, rfl, B⟩ := hrel
    have hz16 : Hid (zTo x bs r l < 16) := maskOf_lt _
    by_cases hl : l < 4
    · have l1 : (0 : Int) ≤ (l : Int) := by omega
      have l2 : (l : Int) < 4 := by omega
      have hq := hyd (get_any (H.out.up B.out) (bs + l) r (by omega) hr)
      rw [Int.natCast_add] at hq
      obtain ⟨v, Hv⟩ : ∃ v, Hid (rgA x (bs + l) r = v) := ⟨_, rfl⟩
      rw [Hv.out] at hq
      go_wp2_with fail
      refine hq.out.mono ?_
      rintro e w4 ⟨rfl, rfl⟩
      by_cases hv : v = 0
      · subst hv
        go_wp2_with fail
        refine ⟨⟨l + 1, by omega, rfl, ?_, B⟩, ?_⟩
        · rw [or_lane hz16.out hl, zTo_yes hl Hv.out]
        · simp only [intOf]; omega
      · have hvb : (v == 0) = false := by simpa using hv
        go_wp2_with fail
        refine ⟨⟨l + 1, by omega, rfl, ?_, B⟩, ?_⟩
        · rw [zTo_no (by rw [Hv.out]; exact hv)]
        · simp only [intOf]; omega
    · have : l = 4 := by omega
      subst this
      have hb := band hz16.out hm
      rw [zTo_all] at hb
      go_wp2_with fail
      go_ret
      exact ⟨rfl, B.out⟩

end Go.Proofs.YtbhbacphiinpeaaGreat

/- What the looks of package flow answer: Group, Pc, Done, Ready, InSplit, ended; the cells of a warp. -/
namespace Go.Proofs.YtbhbacphiinpeaaGreat
open Go.RowKit

def oW (i : Nat) : Nat := 102 + i * 21
def pW (L : XM) (i : Nat) : Value := .pointer (some ⟨L.bX, oW i, none⟩)

/-- The first six cells of a warp. -/
theorem MX.w6 {w : World} {L : XM} {k : List Ins} {J : List Int} {x : QM} (h : MX w L k J x) {i : Nat} {q : Wq} (hq : x.qs[i]? = some q) :
    w.cell? ⟨L.bX, oW i, none⟩ = some (.int .i64 q.group) ∧ w.cell? ⟨L.bX, oW i + 1, none⟩ = some (.int .i64 q.pc) ∧ w.cell? ⟨L.bX, oW i + 2, none⟩ = some (.int .i64 q.to) ∧
    w.cell? ⟨L.bX, oW i + 3, none⟩ = some (.int .i64 q.done) ∧ w.cell? ⟨L.bX, oW i + 4, none⟩ = some (.bool q.waits) ∧ w.cell? ⟨L.bX, oW i + 5, none⟩ = some (.int .i64 q.opn) := by
  refine ⟨?_, ?_, ?_, ?_, ?_, ?_⟩
  · exact h.warp hq (j := 0) (by omega)
  · exact h.warp hq (j := 1) (by omega)
  · exact h.warp hq (j := 2) (by omega)
  · exact h.warp hq (j := 3) (by omega)
  · exact h.warp hq (j := 4) (by omega)
  · exact h.warp hq (j := 5) (by omega)

theorem split_at {q : Wq} {s : Nat} {p : Spl} (hp : q.sp[s]? = some p) {f : Nat} (hf : f < 5) : q.vals[6 + s * 5 + f]? = p.vals[f]? := by
  unfold Wq.vals
  rw [List.getElem?_append_right (by simp; omega), show 6 + s * 5 + f - [Value.int .i64 q.group, .int .i64 q.pc, .int .i64 q.to, .int .i64 q.done, .bool q.waits, .int .i64 q.opn].length = s * 5 + f by simp; omega]
  exact flatMap_at (fun x _ => spl_len x) hp hf

/-- The five cells of a split. -/
theorem MX.s5 {w : World} {L : XM} {k : List Ins} {J : List Int} {x : QM} (h : MX w L k J x) {i : Nat} {q : Wq} (hq : x.qs[i]? = some q) {s : Nat} {p : Spl} (hp : q.sp[s]? = some p) (hs : s < 3) :
    w.cell? ⟨L.bX, oW i + 6 + s * 5, none⟩ = some (.int .i64 p.group) ∧ w.cell? ⟨L.bX, oW i + 6 + s * 5 + 1, none⟩ = some (.int .i64 p.to) ∧ w.cell? ⟨L.bX, oW i + 6 + s * 5 + 2, none⟩ = some (.int .i64 p.later) ∧
    w.cell? ⟨L.bX, oW i + 6 + s * 5 + 3, none⟩ = some (.int .i64 p.next) ∧ w.cell? ⟨L.bX, oW i + 6 + s * 5 + 4, none⟩ = some (.int .i64 p.join) := by
  have gen : ∀ f, f < 5 → w.cell? ⟨L.bX, oW i + 6 + s * 5 + f, none⟩ = p.vals[f]? := fun f hf => by
    have := h.warp hq (j := 6 + s * 5 + f) (by omega)
    rw [split_at hp hf] at this
    rw [← this]
    unfold oW
    congr 2
    omega
  exact ⟨gen 0 (by omega), gen 1 (by omega), gen 2 (by omega), gen 3 (by omega), gen 4 (by omega)⟩

set_option maxHeartbeats 400000 in
theorem group_any {w : World} {L : XM} {k : List Ins} {J : List Int} {x : QM} (h : MX w L k J x) {i : Nat} {q : Wq} (hq : x.qs[i]? = some q) :
    Calls Tryz.prog 75 #[pW L i] w fun e w' => e = .returned (.int .i64 q.group) ∧ w' = w := by
  obtain ⟨c0, c1, c2, c3, c4, c5⟩ := h.w6 hq
  clear h hq
  unfold pW
  go_enter Tryz.func75, Tryz.ntmps75
  go_wp2
  go_ret
  exact ⟨rfl, rfl⟩

set_option maxHeartbeats 400000 in
theorem pc_any {w : World} {L : XM} {k : List Ins} {J : List Int} {x : QM} (h : MX w L k J x) {i : Nat} {q : Wq} (hq : x.qs[i]? = some q) :
    Calls Tryz.prog 74 #[pW L i] w fun e w' => e = .returned (.int .i64 q.pc) ∧ w' = w := by
  obtain ⟨c0, c1, c2, c3, c4, c5⟩ := h.w6 hq
  clear h hq
  unfold pW
  go_enter Tryz.func74, Tryz.ntmps74
  go_wp2
  go_ret
  exact ⟨rfl, rfl⟩

set_option maxHeartbeats 400000 in
theorem wdone_any {w : World} {L : XM} {k : List Ins} {J : List Int} {x : QM} (h : MX w L k J x) {i : Nat} {q : Wq} (hq : x.qs[i]? = some q) :
    Calls Tryz.prog 98 #[pW L i] w fun e w' => e = .returned (.bool (decide (q.group = 0))) ∧ w' = w := by
  obtain ⟨c0, c1, c2, c3, c4, c5⟩ := h.w6 hq
  clear h hq
  unfold pW
  by_cases h0 : q.group = 0
  · rw [h0] at c0 ⊢
    go_enter Tryz.func98, Tryz.ntmps98
    go_wp2
    go_ret
    exact ⟨rfl, rfl⟩
  · have hb : ((q.group : Int) == 0) = false := by simp; omega
    have hd : decide (q.group = 0) = false := by simpa using h0
    rw [hd]
    generalize (q.group : Int) = g at hb c0
    go_enter Tryz.func98, Tryz.ntmps98
    go_wp2
    go_ret
    exact ⟨rfl, rfl⟩

set_option maxHeartbeats 400000 in
theorem wready_any {w : World} {L : XM} {k : List Ins} {J : List Int} {x : QM} (h : MX w L k J x) {i : Nat} {q : Wq} (hq : x.qs[i]? = some q) :
    Calls Tryz.prog 73 #[pW L i] w fun e w' => e = .returned (.bool (rdyQ q)) ∧ w' = w := by
  obtain ⟨c0, c1, c2, c3, c4, c5⟩ := h.w6 hq
  clear h hq
  unfold pW
  by_cases h0 : q.group = 0
  · have hr : rdyQ q = false := by simp [rdyQ, h0]
    rw [hr]
    rw [h0] at c0
    go_enter Tryz.func73, Tryz.ntmps73
    go_wp2
    go_ret
    exact ⟨rfl, rfl⟩
  · have hb : ((q.group : Int) == 0) = false := by simp; omega
    have hb' : ((q.group : Int) != 0) = true := by simp; omega
    have hr : rdyQ q = !q.waits := by simp [rdyQ, h0]
    rw [hr]
    clear hb
    generalize (q.group : Int) = g at hb' c0
    go_enter Tryz.func73, Tryz.ntmps73
    go_wp2
    go_ret
    exact ⟨rfl, rfl⟩

set_option maxHeartbeats 400000 in
theorem inSplit_any {w : World} {L : XM} {k : List Ins} {J : List Int} {x : QM} (h : MX w L k J x) {i : Nat} {q : Wq} (hq : x.qs[i]? = some q) :
    Calls Tryz.prog 94 #[pW L i] w fun e w' => e = .returned (.bool (decide (0 < q.opn))) ∧ w' = w := by
  obtain ⟨c0, c1, c2, c3, c4, c5⟩ := h.w6 hq
  clear h hq
  unfold pW
  go_enter Tryz.func94, Tryz.ntmps94
  go_wp2
  go_ret
  exact ⟨by simp, rfl⟩

set_option maxHeartbeats 400000 in
theorem ended_any {w : World} {L : XM} {k : List Ins} {J : List Int} {x : QM} (h : MX w L k J x) {i : Nat} {q : Wq} (hq : x.qs[i]? = some q) :
    Calls Tryz.prog 109 #[pW L i] w fun e w' => e = .returned (.bool (decide (endQ q))) ∧ Below w.heap.size w w' := by
  obtain ⟨c0, c1, c2, c3, c4, c5⟩ := h.w6 hq
  clear h hq
  unfold pW
  by_cases h0 : q.group = 0
  · have hr : decide (endQ q) = true := by simp [endQ, h0]
    rw [hr]
    rw [h0] at c0
    go_enter Tryz.func109, Tryz.ntmps109
    go_wp2_with fail
    go_quiet (fail)
    generalize hw : World.drewN w _ = w3
    have hB : Below w.heap.size w w3 := by rw [← hw]; exact ⟨rfl, rfl, rfl, Nat.le_refl _, fun _ _ => rfl⟩
    clear hw
    go_wp2
    go_ret
    exact ⟨rfl, hB⟩
  · have hb : ((q.group : Int) == 0) = false := by simp; omega
    have hr : decide (endQ q) = (q.pc == q.to) := by
      by_cases e : q.pc = q.to <;> simp [endQ, h0, e]
    rw [hr]
    generalize (q.group : Int) = g at hb c0
    go_enter Tryz.func109, Tryz.ntmps109
    go_wp2_with fail
    go_quiet (fail)
    generalize hw : World.drewN w _ = w3
    have hB : Below w.heap.size w w3 := by rw [← hw]; exact ⟨rfl, rfl, rfl, Nat.le_refl _, fun _ _ => rfl⟩
    clear hw
    go_wp2
    go_ret
    exact ⟨rfl, hB⟩

end Go.Proofs.YtbhbacphiinpeaaGreat

