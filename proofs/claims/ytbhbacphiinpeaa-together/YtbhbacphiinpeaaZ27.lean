/- Sa Px: joined. -/
import Derived.Test.YtbhbacphiinpeaaZ05
import Derived.Test.YtbhbacphiinpeaaZ26
import Derived.Test.YtbhbacphiinpeaaZ09

/- What loomkeep's at, crew, words and begun answer. -/
namespace Go.Proofs.Ytbhbacphiinpeaa
open Go.RowKit

theorem SeesI.up {w w' : World} {v : Value} {l : List Int} (h : SeesI w v l) (hb : Below w.heap.size w w') : SeesI w' v l := by
  refine ⟨h.1, h.2.1, ?_⟩
  rcases h.2.2 with h0 | ⟨b, off, cap, rfl, hlt, hc⟩
  · exact .inl h0
  · exact .inr ⟨b, off, cap, rfl, Nat.lt_of_lt_of_le hlt hb.size, fun i x hx => (hb.cell hlt).trans (hc i x hx)⟩

theorem getD_none {l : List Int} {i : Nat} (h : l.length ≤ i) : l.getD i 0 = 0 := by
  rw [List.getD_eq_getElem?_getD, List.getElem?_eq_none h]; rfl
theorem getD_some {l : List Int} {i : Nat} {x : Int} (h : l[i]? = some x) : l.getD i 0 = x := by
  rw [List.getD_eq_getElem?_getD, h]; rfl

set_option maxHeartbeats 400000 in
theorem atl_any {w : World} {v : Value} {l : List Int} (h : SeesI w v l) (i : Nat) (hi : i ≤ 4000) :
    Calls Try.prog 36 #[v, .int .i64 i] w fun e w' => e = .returned (.int .i64 (l.getD i 0)) ∧ w' = w := by
  obtain ⟨hm, -, h⟩ := h
  have hi2 : (i : Int) ≤ 4000 := by omega
  have hi0 : (0 : Int) ≤ (i : Int) := by omega
  rcases h with ⟨rfl, ao, cap, rfl⟩ | ⟨b, off, cap, rfl, hlt, hc⟩
  · go_enter Try.func36, Try.ntmps36
    go_wp2
    go_ret
    exact ⟨rfl, rfl⟩
  · obtain ⟨n, Hn⟩ : ∃ n, Hid (l.length = n) := ⟨_, rfl⟩
    rw [Hn.out] at hm ⊢
    have hn2 : (n : Int) ≤ 9223372036854775807 := by omega
    by_cases hin : i < n
    · obtain ⟨y, hy⟩ : ∃ y, l[i]? = some y := ⟨_, List.getElem?_eq_getElem (by rw [Hn.out]; exact hin)⟩
      have d0 := hc i y hy
      rw [getD_some hy]
      clear hc hy
      have i2 : (i : Int) < (n : Int) := by omega
      go_enter Try.func36, Try.ntmps36
      go_wp2
      go_ret
      exact ⟨rfl, rfl⟩
    · clear hc
      rw [getD_none (by rw [Hn.out]; omega)]
      go_enter Try.func36, Try.ntmps36
      go_wp2
      go_ret
      exact ⟨rfl, rfl⟩

/-- As many words as a memory may have. -/
def wordsP (l : List Int) : List Int := (List.range 32).map fun i => l.getD i 0
theorem words_len (l : List Int) : (wordsP l).length = 32 := by simp [wordsP]

set_option maxHeartbeats 1000000 in
set_option maxRecDepth 100000 in
theorem words_any {w : World} {v : Value} {l : List Int} (h : SeesI w v l) :
    Calls Try.prog 18 #[v] w fun e w' => ∃ v', e = .returned v' ∧ w'.ownsRow w.heap.size 3 1 v' 32 (zVals (wordsP l)) ∧ Below w.heap.size w w' := by
  have H := hyd h
  clear h
  obtain ⟨i0, hi, hz0, hz1, hz2⟩ := info_parts Try.infoI3
  go_enter Try.func18, Try.ntmps18
  go_wp2_with fail
  go_loopw [3, 4] (fun lv iv wr => ∃ (i : Nat), i ≤ 32 ∧ iv = .int .i64 i ∧ Hid (wr.ownsRow w.heap.size 3 1 lv i (zVals ((List.range i).map fun i => l.getD i 0))) ∧ Hid (Below w.heap.size w wr)) (fun _ iv _ => 32 - (intOf iv).toNat)
  case atStart => exact ⟨0, by omega, rfl, World.ownsRow_nil _ _ _ _, Below.refl _ _⟩
  case round =>
    obtain ⟨i, hi32, rfl, HO, HB⟩ := hrel
    obtain ⟨va, vc, hv⟩ := slice_ofM HO.out
    subst hv
    by_cases hi3 : i < 32
    · have i1 : (0 : Int) ≤ (i : Int) := by omega
      have i2 : (i : Int) < 32 := by omega
      have hsz := HB.out.size
      go_wp2_with fail
      refine (atl_any (H.out.up HB.out) i (by omega)).mono ?_
      rintro e w1 ⟨rfl, rfl⟩
      go_wp2_with (at_builtin; go_must (refine wpList_append_own _ rfl (.tmp 9) (.tmp 13) 22 rfl w.heap.size 3 i0 (.int .i64 0) 1 8 Try.underlying22 hi hz0 hz1 hz2 rfl (by decide) (.slice va i vc) i (zVals ((List.range i).map fun i => l.getD i 0)) rfl ?a0 ⟨w1.heap.size, 0, none⟩ 1 1 [.int .i64 (l.getD i 0)] rfl rfl ?a1 ?a2 ?a3 ?a4 ?a5 ?_))
      case a0 => exact HO.out.alloc _
      case a1 => exact World.news_of_block (heap_alloc_new w1 _)
      case a2 => intro u hu; simp at hu; subst hu; rfl
      case a3 => unfold maxLen; omega
      case a4 => omega
      case a5 => simp; omega
      · intro v3 w3 hown3 hgrow3 _
        have HB3 : Hid (Below w.heap.size w w3) := (HB.out.alloc hsz _).grown hgrow3 (by simp; omega) (fun y hy => (HO.out.lt y hy).1)
        have HO3 : Hid (w3.ownsRow w.heap.size 3 1 v3 (i + 1) (zVals ((List.range (i + 1)).map fun i => l.getD i 0))) := by
          unfold Hid; rw [List.range_succ, List.map_append, zVals_append]; exact hown3
        clear hown3 hgrow3
        go_wp2_with fail
        refine ⟨⟨i + 1, by omega, rfl, HO3, HB3⟩, ?_⟩
        simp only [intOf]; omega
    · have : i = 32 := by omega
      subst this
      go_wp2_with fail
      go_ret
      exact ⟨_, rfl, HO.out, HB.out⟩

set_option maxHeartbeats 1000000 in
theorem crew_any (t f : Int) (ht : -9223372036854775808 ≤ t ∧ t ≤ 9223372036854775807) (hf : -9223372036854775808 ≤ f ∧ f ≤ 9223372036854775807) (w : World) :
    Calls Try.prog 17 #[.int .i64 t, .int .i64 f] w fun e w' => e = .returned (.tuple #[.int .i64 ((1 + pickN t 16 : Nat) : Int), .int .i64 ((pickN f 16 : Nat) : Int)]) ∧ w' = w := by
  have Ht := hyd ht
  have Hf := hyd hf
  clear ht hf
  have b1 := pickN_lt t 16 (by omega)
  have b2 := pickN_lt f 16 (by omega)
  have Hp := hyd (pick_any t 16 16 rfl Ht.out (by omega) (by omega))
  have Hq := hyd (pick_any f 16 16 rfl Hf.out (by omega) (by omega))
  generalize pickN t 16 = a at *
  generalize pickN f 16 = b at *
  have c1 : (a : Int) < 16 := by omega
  have c2 : (0 : Int) ≤ (a : Int) := by omega
  go_enter Try.func17, Try.ntmps17
  go_wp2_with fail
  refine (Hp.out _).mono ?_
  rintro e w1 ⟨rfl, rfl⟩
  go_wp2_with fail
  refine (Hq.out _).mono ?_
  rintro e w2 ⟨rfl, rfl⟩
  go_wp2_with fail
  go_ret2
  refine ⟨?_, rfl⟩
  simp

/-- A machine has begun. -/
def BegAns (w : World) (m : PM) (e : Ending) (w' : World) : Prop :=
  ∃ L x, e = .returned (.pointer (some ⟨L.bX, 0, none⟩)) ∧ XAt w' L m x ∧ (w.heap.size ≤ L.bX ∧ w.heap.size ≤ L.gK ∧ w.heap.size ≤ L.gJ) ∧ Below w.heap.size w w'

theorem begun_any {w : World} {v vm : Value} {k : List Ins} {mem : List Int} (hs : Sees w v k) (hk : chk k = (0, 0)) (hm : SeesZ w vm mem) (t f : Nat) (h1 : 1 ≤ t) (h2 : t ≤ 16) (h3 : f ≤ 1000) (h4 : 1 ≤ mem.length) (h5 : mem.length ≤ 32) :
    Calls Try.prog 19 #[v, .int .i64 t, .int .i64 f, vm] w fun e w' => ∃ J, JoinsAre k J ∧ PMok (newP k J t f mem) ∧ BegAns w (newP k J t f mem) e w' := by
  have HS := hyd hs
  have HM := hyd hm
  have e1 : encR k = strOfNums (nums k) := by unfold encR; rw [if_pos (by rw [hk])]
  obtain ⟨d1, d2⟩ := dchk_back hk
  have hE : newErr (t : Int) (f : Int) mem.length = 0 := by unfold newErr; rw [if_neg (by omega), if_neg (by omega)]
  have hN : newE (encR k) t f mem.length = (0, 0) := by unfold newE; rw [e1, d1, if_neg (by simp), hE]
  have hsz : (encR k).size ≤ 140737488355328 := by
    have := (chk_zero (by rw [hk] : (chk k).1 = 0)).2.2.1
    rw [e1, back_size]; omega
  have hNew := hyd (fun w0 (h0 : SeesZ w0 vm mem) => mnew_any (encR k) hsz (t : Int) (f : Int) w0 h0)
  rw [hN, e1, d2] at hNew
  have hEn := hyd (fun w0 (h0 : Sees w0 v k) => Encode_any h0)
  rw [hk, e1] at hEn
  have hbb := hyd (fun b off cap n (h : v = .slice (some ⟨b, off, none⟩) n cap) (_ : 0 < n) => (by
    rcases hs.2 with ⟨-, ao, cap', hv⟩ | ⟨b', off', cap', hv, hlt, -⟩
    · rw [hv] at h; cases h; omega
    · rw [hv] at h; cases h; exact hlt : b < w.heap.size))
  clear hs hm hk hE hN d1 d2 h1 h2 h3 h4 h5 hsz
  generalize strOfNums (nums k) = S at *
  clear e1
  go_enter Try.func19, Try.ntmps19
  go_wp2_with (go_at_call 10; refine (hEn.out _ HS.out).mono ?_; rintro e w1 ⟨rfl, hb1⟩)
  have HM1 := hyd (HM.out.up (Nat.le_refl _) hb1)
  have HB1 := hyd hb1
  clear hb1
  go_wp2_with (go_at_call 37; refine (hNew.out _ HM1.out).mono ?_; rintro e w2 ⟨-, hx⟩; obtain ⟨J, hJ, hok, L, x, rfl, hX, hY, hZ⟩ := hx (by first | trivial | rfl); rw [Int.toNat_natCast, Int.toNat_natCast] at hok hX; have HA := hyd (And.intro hJ (And.intro hok (And.intro hX (And.intro hY hZ)))); clear hx hJ hok hX hY hZ)
  go_ret
  obtain ⟨hJ, hok, hX, hY, hZ⟩ := HA.out
  have := HB1.out.size
  exact ⟨J, hJ, hok, L, x, rfl, hX, ⟨by omega, by omega, by omega⟩, HB1.out.trans (hZ.mono this)⟩

/-- Nothing that was there has turned but the blocks X. -/
structure Chg (X : List Nat) (w w' : World) : Prop where
  os : w'.os = w.os
  tape : w'.tape = w.tape
  output : w'.output = w.output
  size : w.heap.size ≤ w'.heap.size
  block : ∀ b, b < w.heap.size → b ∉ X → w'.heap[b]? = w.heap[b]?

theorem Chg.of_below {X : List Nat} {w w' : World} (h : Below w.heap.size w w') : Chg X w w' := ⟨h.os, h.tape, h.output, h.size, fun b hb _ => h.block b hb⟩
theorem Chg.of_fr {X : List Nat} {w w' : World} {B : Nat} (h : Fr B X w w') (hB : w.heap.size ≤ B) : Chg X w w' := ⟨h.os, h.tape, h.output, h.size, fun b hb hX => h.block b hb hX (.inl (by omega))⟩
theorem Chg.trans {X : List Nat} {a b c : World} (h : Chg X a b) (k : Chg X b c) : Chg X a c :=
  ⟨k.os.trans h.os, k.tape.trans h.tape, k.output.trans h.output, Nat.le_trans h.size k.size, fun i hi hX => (k.block i (Nat.lt_of_lt_of_le hi h.size) hX).trans (h.block i hi hX)⟩
theorem Chg.below {X : List Nat} {w w' : World} {B : Nat} (h : Chg X w w') (hX : ∀ x ∈ X, B ≤ x) (hB : B ≤ w.heap.size) : Below B w w' :=
  ⟨h.os, h.tape, h.output, h.size, fun b hb => h.block b (by omega) fun hx => by have := hX b hx; omega⟩

theorem turnx_any {w : World} {L : XM} {m : PM} {x : QM} (h : XAt w L m x) (hok : PMok m) (pick bud : Int) {m' : PM} {T : Trn} {E : Int} (hT : turnP m pick bud = (m', T, E)) :
    Calls Try.prog 39 #[.pointer (some ⟨L.bX, 0, none⟩), .int .i64 pick, .int .i64 bud] w fun e w' => ∃ va vc, e = .returned (.tuple #[.agg #[.int .i64 T.warp, .int .i64 T.steps, .int .i64 T.segs, .int .i64 T.fault, .int .i64 T.fpc, .int .i64 T.fth, .slice va T.log.length vc], .int .i64 E]) ∧
      w'.ownsRow w.heap.size 64 2 (.slice va T.log.length vc) T.log.length (flatL T.log) ∧ (∃ x', XAt w' L m' x') ∧ Chg [L.bX] w w' ∧ T.log.length ≤ 2000 := by
  refine (mturn_any h hok pick bud).mono ?_
  rintro e w' ⟨⟨v, h1, h2, -, -⟩, h4, h5, h6⟩
  rw [hT] at h1 h2 h4 h5
  obtain ⟨va, vc, hv⟩ := slice_ofM h2
  subst hv
  exact ⟨va, vc, h1, h2, h5, Chg.of_fr (h6 w.heap.size) (Nat.le_refl _), h4⟩

end Go.Proofs.Ytbhbacphiinpeaa

/- Of the plain machine: a smaller budget makes the beginning of the same steps. -/
namespace Go.Proofs.Ytbhbacphiinpeaa
open Go.RowKit

/-- The log only grows. -/
def Ext (p q : Pl) : Prop := ∃ e, q.log = p.log ++ e
theorem Ext.refl (p : Pl) : Ext p p := ⟨[], by simp⟩
theorem Ext.trans {a b c : Pl} (h : Ext a b) (k : Ext b c) : Ext a c := by
  obtain ⟨e, he⟩ := h
  obtain ⟨e', he'⟩ := k
  exact ⟨e ++ e', by rw [he', he, List.append_assoc]⟩
theorem Ext.same {p q : Pl} (h : q.log = p.log) : Ext p q := ⟨[], by simp [h]⟩

theorem ext_does (k : List Ins) (J : List Int) (rn : Pl → List Nat → Int → Int → Pl) (hrn : ∀ p g a b, Ext p (rn p g a b)) (p : Pl) (g : List Nat) (pc : Int) : Ext p (doesP k J rn p g pc).1 := by
  unfold doesP
  split
  · exact Ext.refl _
  · split
    · exact Ext.same rfl
    split
    · exact Ext.refl _
    split
    · unfold partsP
      split
      · exact Ext.refl _
      split
      · exact Ext.refl _
      · refine Ext.trans ?_ (Ext.same (p := rn (rn { p with opn := p.opn + 1 } _ _ _) _ _ _) rfl)
        exact ((Ext.same (p := p) (q := { p with opn := p.opn + 1 }) rfl).trans (hrn _ _ _ _)).trans (hrn _ _ _ _)
    split
    · split
      · exact Ext.same rfl
      · exact Ext.same rfl
    · exact Ext.same (segs_each _ _ _ _).2.2.1

theorem ext_run (k : List Ins) (J : List Int) (bud : Nat) : ∀ (f : Nat) (p : Pl) (g : List Nat) (pc to : Int), Ext p (runP k J bud f p g pc to)
  | 0, p, g, pc, to => by
    unfold runP
    split
    · exact Ext.refl _
    split
    · exact Ext.refl _
    split
    · exact Ext.same rfl
    · exact Ext.same rfl
  | f + 1, p, g, pc, to => by
    unfold runP
    split
    · exact Ext.refl _
    split
    · exact Ext.refl _
    split
    · exact Ext.same rfl
    · exact ((show Ext p (issuedP p (liveL p.ts g) pc) from ⟨_, rfl⟩).trans (ext_does k J _ (fun p g a b => ext_run k J bud f p g a b) (issuedP p (liveL p.ts g) pc) _ pc)).trans (ext_run k J bud f _ _ _ _)

/-- r is spent behind c steps, and R has gone on beyond that. -/
def Cut (c : Nat) (R r : Pl) : Prop := r.ends = true ∧ r.st = 3 ∧ r.steps = c ∧ c < R.steps ∧ R.log.length = R.steps ∧ r.log = R.log.take c

theorem Cut.more {c : Nat} {R R' r : Pl} (h : Cut c R r) (he : Ext R R') (hs : R.steps ≤ R'.steps) (hl : R'.log.length = R'.steps) : Cut c R' r := by
  obtain ⟨h1, h2, h3, h4, h5, h6⟩ := h
  obtain ⟨e, he⟩ := he
  refine ⟨h1, h2, h3, by omega, hl, ?_⟩
  rw [h6, he, List.take_append_of_le_length (by omega)]

theorem Cut.opn {c : Nat} {R r : Pl} (h : Cut c R r) (n m : Nat) : Cut c { R with opn := n } { r with opn := m } := h

theorem cnt_mono {c B : Nat} {p : Pl} (h : Cnt c p) (hc : c ≤ B) : Cnt B p := ⟨Nat.le_trans h.steps hc, h.log, h.segs, h.opn⟩

theorem cut_run {k : List Ins} {J : List Int} {c B : Nat} (hcB : c ≤ B) : ∀ (f : Nat) (p : Pl) (g : List Nat) (pc to : Int), Reg4 p.ts → g.length ≤ 4 → Cnt c p → B ≤ p.steps + f →
    (runP k J c f p g pc to = runP k J B f p g pc to ∧ Cnt c (runP k J B f p g pc to)) ∨ Cut c (runP k J B f p g pc to) (runP k J c f p g pc to)
  | 0, p, g, pc, to, hr, hg, hc, hf => by
    have hs := hc.steps
    have e : c = B := by omega
    subst e
    exact .inl ⟨rfl, (cnt_run k J c 0 p g pc to hg hc).1⟩
  | f + 1, p, g, pc, to, hr, hg, hc, hf => by
    by_cases e : c = B
    · subst e
      exact .inl ⟨rfl, (cnt_run k J c (f + 1) p g pc to hg hc).1⟩
    have hcB' : c < B := by omega
    have hsc := hc.steps
    rw [runP, runP]
    split
    · exact .inl ⟨rfl, hc⟩
    split
    · exact .inl ⟨rfl, hc⟩
    rename_i h0 h1
    rw [if_neg (show ¬ p.steps = B by omega)]
    have hl4 : (liveL p.ts g).length ≤ 4 := Nat.le_trans (List.length_filter_le _ _) hg
    have hBc := cnt_mono hc hcB
    have kB := keep_does k J (runP k J B f) (fun p g a b => keep_run k J B f p g a b) (issuedP p (liveL p.ts g) pc) (liveL p.ts g) pc hr
    have xB := ext_does k J (runP k J B f) (fun p g a b => ext_run k J B f p g a b) (issuedP p (liveL p.ts g) pc) (liveL p.ts g) pc
    have cB := cnt_does' (k := k) (J := J) (F := f) (pc := pc) hBc (show p.steps ≠ B by omega) hg
    have hstB : p.steps + 1 ≤ (doesP k J (runP k J B f) (issuedP p (liveL p.ts g) pc) (liveL p.ts g) pc).1.steps := by have := kB.2.2.2.2; simpa [issuedP] using this
    split
    · rename_i hs
      right
      have kR := keep_run k J B f (doesP k J (runP k J B f) (issuedP p (liveL p.ts g) pc) (liveL p.ts g) pc).1 (liveL p.ts g) (doesP k J (runP k J B f) (issuedP p (liveL p.ts g) pc) (liveL p.ts g) pc).2 to kB.1
      have cR := (cnt_run k J B f (doesP k J (runP k J B f) (issuedP p (liveL p.ts g) pc) (liveL p.ts g) pc).1 (liveL p.ts g) (doesP k J (runP k J B f) (issuedP p (liveL p.ts g) pc) (liveL p.ts g) pc).2 to hl4 cB).1
      have xR := ext_run k J B f (doesP k J (runP k J B f) (issuedP p (liveL p.ts g) pc) (liveL p.ts g) pc).1 (liveL p.ts g) (doesP k J (runP k J B f) (issuedP p (liveL p.ts g) pc) (liveL p.ts g) pc).2 to
      obtain ⟨e, he⟩ := ((show Ext p (issuedP p (liveL p.ts g) pc) from ⟨_, rfl⟩).trans xB).trans xR
      refine ⟨rfl, rfl, hs, ?_, cR.log, ?_⟩
      · have := kR.2.2.2.2; dsimp only; omega
      · dsimp only
        rw [he, List.take_append_of_le_length (by rw [hc.log]; omega), List.take_of_length_le (by rw [hc.log]; omega)]
    · rename_i hs
      have hic : Cnt c { issuedP p (liveL p.ts g) pc with opn := (issuedP p (liveL p.ts g) pc).opn + 1 } := ⟨by simp only [issuedP]; omega, by simp [issuedP, hc.log], by have := hc.segs; simp only [issuedP]; omega, by have := hc.opn; simp only [issuedP]; omega⟩
      have hd : (doesP k J (runP k J c f) (issuedP p (liveL p.ts g) pc) (liveL p.ts g) pc = doesP k J (runP k J B f) (issuedP p (liveL p.ts g) pc) (liveL p.ts g) pc ∧ Cnt c (doesP k J (runP k J B f) (issuedP p (liveL p.ts g) pc) (liveL p.ts g) pc).1) ∨
          Cut c (doesP k J (runP k J B f) (issuedP p (liveL p.ts g) pc) (liveL p.ts g) pc).1 (doesP k J (runP k J c f) (issuedP p (liveL p.ts g) pc) (liveL p.ts g) pc).1 := by
        have hr' : Reg4 (issuedP p (liveL p.ts g) pc).ts := hr
        have hfq : B ≤ (issuedP p (liveL p.ts g) pc).steps + f := by simp only [issuedP]; omega
        have hseg : (issuedP p (liveL p.ts g) pc).segs + 4 ≤ 4 * (issuedP p (liveL p.ts g) pc).steps := by have := hc.segs; simp only [issuedP]; omega
        clear kB xB cB hstB
        generalize issuedP p (liveL p.ts g) pc = q at hic hr' hfq hseg ⊢
        generalize liveL p.ts g = l at hl4 ⊢
        have hq : Cnt c q := ⟨hic.steps, hic.log, hic.segs, by have := hic.opn; dsimp only at this; omega⟩
        cases hx : k[pc.toNat]? with
        | none => left; unfold doesP; rw [hx]; exact ⟨rfl, hq⟩
        | some x =>
        rw [does_some J _ q l hx, does_some J _ q l hx]
        split
        · exact .inl ⟨rfl, ⟨hq.steps, hq.log, hq.segs, hq.opn⟩⟩
        split
        · exact .inl ⟨rfl, hq⟩
        split
        · unfold partsP
          split
          · exact .inl ⟨rfl, hq⟩
          split
          · exact .inl ⟨rfl, hq⟩
          · have hz : ∀ (P : Nat → Bool), (l.filter P).length ≤ 4 := fun P => Nat.le_trans (List.length_filter_le _ _) hl4
            dsimp only
            have s1 := cut_run (k := k) (J := J) hcB f { q with opn := q.opn + 1 } (l.filter (isZ q.ts x.a)) x.b (J.getD pc.toNat (-1)) hr' (hz _) hic hfq
            have k1 := keep_run k J B f { q with opn := q.opn + 1 } (l.filter (isZ q.ts x.a)) x.b (J.getD pc.toNat (-1)) hr'
            have c1 := (cnt_run k J B f { q with opn := q.opn + 1 } (l.filter (isZ q.ts x.a)) x.b (J.getD pc.toNat (-1)) (hz _) (cnt_mono hic hcB))
            dsimp only at k1
            generalize runP k J B f { q with opn := q.opn + 1 } (l.filter (isZ q.ts x.a)) x.b (J.getD pc.toNat (-1)) = R1 at s1 k1 c1 ⊢
            have k2 := keep_run k J B f R1 (l.filter (fun t => !isZ q.ts x.a t)) (pc + 1) (J.getD pc.toNat (-1)) k1.1
            have c2 := (cnt_run k J B f R1 (l.filter (fun t => !isZ q.ts x.a t)) (pc + 1) (J.getD pc.toNat (-1)) (hz _) c1.1)
            have x2 := ext_run k J B f R1 (l.filter (fun t => !isZ q.ts x.a t)) (pc + 1) (J.getD pc.toNat (-1))
            rcases s1 with ⟨e1, d1⟩ | hcut
            · rw [e1]
              have s2 := cut_run (k := k) (J := J) hcB f R1 (l.filter (fun t => !isZ q.ts x.a t)) (pc + 1) (J.getD pc.toNat (-1)) k1.1 (hz _) d1 (by have := k1.2.2.2.2; omega)
              rcases s2 with ⟨e2, d2⟩ | hcut
              · left
                rw [e2]
                refine ⟨rfl, d2.steps, d2.log, d2.segs, ?_⟩
                have := d2.opn
                dsimp only
                omega
              · right
                exact hcut.opn _ _
            · right
              rw [run_stop (.inl hcut.1)]
              exact (hcut.more x2 k2.2.2.2.2 c2.1.log).opn _ _
        split
        · split
          · exact .inl ⟨rfl, ⟨hq.steps, hq.log, hq.segs, hq.opn⟩⟩
          · exact .inl ⟨rfl, ⟨hq.steps, hq.log, hq.segs, hq.opn⟩⟩
        · obtain ⟨s1, s2, s3, s4⟩ := segs_each q l pc x
          exact .inl ⟨rfl, ⟨by rw [s2]; exact hq.steps, by rw [s2, s3]; exact hq.log, by show (eachP q l pc x).segs ≤ 4 * (eachP q l pc x).steps; rw [s2]; omega, by rw [s2, s4]; exact hq.opn⟩⟩
      rcases hd with ⟨e1, e2⟩ | hcut
      · dsimp only
        rw [e1]
        exact cut_run hcB f _ _ _ _ kB.1 hl4 e2 (by omega)
      · right
        dsimp only
        rw [run_stop (.inl hcut.1)]
        have kR := keep_run k J B f (doesP k J (runP k J B f) (issuedP p (liveL p.ts g) pc) (liveL p.ts g) pc).1 (liveL p.ts g) (doesP k J (runP k J B f) (issuedP p (liveL p.ts g) pc) (liveL p.ts g) pc).2 to kB.1
        have cR := (cnt_run k J B f (doesP k J (runP k J B f) (issuedP p (liveL p.ts g) pc) (liveL p.ts g) pc).1 (liveL p.ts g) (doesP k J (runP k J B f) (issuedP p (liveL p.ts g) pc) (liveL p.ts g) pc).2 to hl4 cB).1
        exact hcut.more (ext_run _ _ _ _ _ _ _ _) kR.2.2.2.2 cR.log

end Go.Proofs.Ytbhbacphiinpeaa

