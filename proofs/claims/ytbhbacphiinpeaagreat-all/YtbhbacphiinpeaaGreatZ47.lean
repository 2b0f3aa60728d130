/- Nd Nf Ne: joined. -/
import Derived.Test.YtbhbacphiinpeaaGreatZ44
import Derived.Test.YtbhbacphiinpeaaGreatZ46
import Derived.Test.YtbhbacphiinpeaaGreatZ11
import Derived.Test.YtbhbacphiinpeaaGreatZ02

/- A machine of the program's at its beginning: in memory, and beside the plain one. -/
namespace Go.Proofs.YtbhbacphiinpeaaGreat
open Go.RowKit

/-- Cells written over, from place o on. -/
def ovr : List Value → Nat → List Value → List Value
  | cs, _, [] => cs
  | cs, o, v :: r => ovr (cs.set o v) (o + 1) r

theorem ovr_mid : ∀ (B' A B C : List Value), B.length = B'.length → ovr (A ++ (B ++ C)) A.length B' = A ++ (B' ++ C)
  | [], A, [], C, _ => rfl
  | [], _, _ :: _, _, h => by simp at h
  | _ :: _, _, [], _, h => by simp at h
  | v :: r, A, b :: B, C, h => by
    have e1 : (A ++ (b :: B ++ C)).set A.length v = (A ++ [v]) ++ (B ++ C) := by
      rw [List.set_append_right _ _ (Nat.le_refl _), Nat.sub_self]; simp
    have := ovr_mid r (A ++ [v]) B C (by simpa using h)
    rw [List.length_append] at this
    simp only [List.length_cons, List.length_nil] at this
    unfold ovr
    rw [e1, this]
    simp

theorem setCells_block {b : Nat} {t : TypeId} : ∀ (vs : List Value) (o : Nat) (w : World) (cs : List Value), w.heap[b]? = some (.cells cs.toArray t) → (w.setCells b o vs).heap[b]? = some (.cells (ovr cs o vs).toArray t)
  | [], _, _, _, h => h
  | v :: r, o, w, cs, h => by
    rw [World.setCells, ovr]
    refine setCells_block r (o + 1) _ _ ?_
    rw [heap_setCell_same w b o _ t v h, List.setIfInBounds_toArray]
theorem setCells_other {b g : Nat} (hg : g ≠ b) : ∀ (vs : List Value) (o : Nat) (w : World), (w.setCells b o vs).heap[g]? = w.heap[g]?
  | [], _, _ => rfl
  | v :: r, o, w => by
    rw [World.setCells, setCells_other hg r]
    exact Below.heap_setCell _ _ _ _ hg
theorem setCells_below {b B : Nat} (hB : B ≤ b) : ∀ (vs : List Value) (o : Nat) {w w1 : World}, Below B w w1 → Below B w (w1.setCells b o vs)
  | [], _, _, _, h => h
  | v :: r, o, w, w1, h => by
    rw [World.setCells]
    exact setCells_below hB r (o + 1) (h.setCell (p := ⟨b, o, none⟩) hB v)

theorem flat_cells {vL vJ : Value} {x : QM} {f : Int} {rg wd : List Int} {c : Nat} (h1 : x.rg.length = 64) (h2 : x.wd.length = 32) (h3 : rg.length = 64) (h4 : wd.length = 32) :
    ovr (flatQ vL vJ x) 4 (celV f rg c wd) = flatQ vL vJ { x with first := f, rg := rg, cnt := c, wd := wd } := by
  have e : flatQ vL vJ x = [vL, vJ, .int .i64 x.n, .int .i64 x.st] ++ (celV x.first x.rg x.cnt x.wd ++ x.qs.flatMap Wq.vals) := by
    unfold flatQ headV celV; simp
  rw [e]
  have := ovr_mid (celV f rg c wd) [vL, vJ, .int .i64 x.n, .int .i64 x.st] (celV x.first x.rg x.cnt x.wd) (x.qs.flatMap Wq.vals) (by rw [celV_len h1 h2, celV_len h3 h4])
  rw [show [vL, vJ, Value.int .i64 x.n, Value.int .i64 x.st].length = 4 from rfl] at this
  rw [this]
  unfold flatQ headV celV
  simp

theorem flat_warp {vL vJ : Value} {x : QM} (h : Shp x) {i : Nat} (hi : i < 4) (q : Wq) (hq : q.sp.length = 3) : ovr (flatQ vL vJ x) (102 + i * 21) q.vals = flatQ vL vJ (qPut x i q) := by
  obtain ⟨n, st, first, rg, cnt, wd, qs⟩ := x
  have hrl := h.rl; have hwl := h.wl; have hql := h.ql; have hsl := h.sl
  dsimp only at hrl hwl hql hsl
  match qs, hql with
  | [q0, q1, q2, q3], _ =>
    have l0 := wq_len (hsl q0 (by simp))
    have l1 := wq_len (hsl q1 (by simp))
    have l2 := wq_len (hsl q2 (by simp))
    have l3 := wq_len (hsl q3 (by simp))
    have lq := wq_len hq
    have hA : (headV vL vJ ⟨n, st, first, rg, cnt, wd, [q0, q1, q2, q3]⟩ ++ (zVals rg ++ (.int .i64 cnt :: zVals wd))).length = 102 := by simp [headV, zl, hrl, hwl]
    have e : flatQ vL vJ ⟨n, st, first, rg, cnt, wd, [q0, q1, q2, q3]⟩ = (headV vL vJ ⟨n, st, first, rg, cnt, wd, [q0, q1, q2, q3]⟩ ++ (zVals rg ++ (.int .i64 cnt :: zVals wd))) ++ (q0.vals ++ (q1.vals ++ (q2.vals ++ q3.vals))) := by
      unfold flatQ; simp
    rw [e]
    generalize hH : headV vL vJ ⟨n, st, first, rg, cnt, wd, [q0, q1, q2, q3]⟩ ++ (zVals rg ++ (.int .i64 cnt :: zVals wd)) = A at hA
    have fin : ∀ r0 r1 r2 r3 : Wq, A ++ (r0.vals ++ (r1.vals ++ (r2.vals ++ r3.vals))) = flatQ vL vJ ⟨n, st, first, rg, cnt, wd, [r0, r1, r2, r3]⟩ := fun r0 r1 r2 r3 => by
      rw [← hH]; unfold flatQ headV; simp
    rcases (by omega : i = 0 ∨ i = 1 ∨ i = 2 ∨ i = 3) with rfl | rfl | rfl | rfl
    · have := ovr_mid q.vals A q0.vals (q1.vals ++ (q2.vals ++ q3.vals)) (by omega)
      rw [hA] at this
      rw [this]; exact fin _ _ _ _
    · have := ovr_mid q.vals (A ++ q0.vals) q1.vals (q2.vals ++ q3.vals) (by omega)
      rw [List.length_append, hA, l0] at this
      rw [show 102 + 1 * 21 = 102 + 21 by omega, show A ++ (q0.vals ++ (q1.vals ++ (q2.vals ++ q3.vals))) = A ++ q0.vals ++ (q1.vals ++ (q2.vals ++ q3.vals)) by simp, this, List.append_assoc]; exact fin _ _ _ _
    · have := ovr_mid q.vals (A ++ q0.vals ++ q1.vals) q2.vals q3.vals (by omega)
      rw [List.length_append, List.length_append, hA, l0, l1] at this
      rw [show 102 + 2 * 21 = 102 + 21 + 21 by omega, show A ++ (q0.vals ++ (q1.vals ++ (q2.vals ++ q3.vals))) = A ++ q0.vals ++ q1.vals ++ (q2.vals ++ q3.vals) by simp, this, List.append_assoc, List.append_assoc]; exact fin _ _ _ _
    · have := ovr_mid q.vals (A ++ q0.vals ++ q1.vals ++ q2.vals) q3.vals [] (by omega)
      rw [List.length_append, List.length_append, List.length_append, hA, l0, l1, l2, List.append_nil, List.append_nil] at this
      rw [show 102 + 3 * 21 = 102 + 21 + 21 + 21 by omega, show A ++ (q0.vals ++ (q1.vals ++ (q2.vals ++ q3.vals))) = A ++ q0.vals ++ q1.vals ++ q2.vals ++ q3.vals by simp, this, List.append_assoc, List.append_assoc, List.append_assoc]; exact fin _ _ _ _

def wqB : Wq := ⟨0, 0, 0, 0, false, 0, [splB, splB, splB]⟩
/-- The machine as 'New' lays it first. -/
def x00 (t : Nat) : QM := ⟨t, 0, 0, z64, 0, List.replicate 32 0, [wqB, wqB, wqB, wqB]⟩
theorem Tryz.builtM (a : Option Addr) (l c : Nat) (t : Nat) : Tryz.prog.built 112 [(0, .slice a l c), (2, .int .i64 t), (3, .int .i64 0)] = some (flatQ (.slice a l c) (.slice none 0 0) (x00 t)).toArray := by kernel_rfl

theorem begM_lt (c : Int) (l : Nat) : begM c l < 16 := maskOf_lt _
theorem beg_bit {n i l : Nat} (hl : l < 4) : (begM ((n : Int) - 4 * (i : Int)) 4).testBit l = decide (4 * i + l < n) := by
  unfold begM
  rw [maskOf_bit _ hl]
  simp only [hl, decide_true, Bool.true_and, decide_eq_decide]
  omega

/-- The machine that 'New' makes. -/
def xNew (tn : Nat) (fn : Int) (mem : List Int) : QM := ⟨tn, 0, fn, z64, mem.length, memW mem mem.length, [begQ ((tn : Int) - 4 * (0 : Nat)), begQ ((tn : Int) - 4 * (1 : Nat)), begQ ((tn : Int) - 4 * (2 : Nat)), begQ ((tn : Int) - 4 * (3 : Nat))]⟩

theorem xNew_q {tn : Nat} {fn : Int} {mem : List Int} {i : Nat} (hi : i < 4) : (xNew tn fn mem).qs.getD i wq0 = begQ ((tn : Int) - 4 * (i : Int)) := by
  rcases (by omega : i = 0 ∨ i = 1 ∨ i = 2 ∨ i = 3) with rfl | rfl | rfl | rfl <;> rfl

theorem xNew_wok {tn : Nat} {fn : Int} {mem : List Int} : ∀ q ∈ (xNew tn fn mem).qs, WOk q := by
  have h : ∀ c, WOk (begQ c) := fun c => ⟨rfl, by simp [begQ], by simp [begQ], begM_lt _ _, fun p hp => by simp [begQ, splB] at hp; subst hp; decide, fun p hp => by simp [begQ, splB] at hp; subst hp; decide⟩
  intro q hq
  simp only [xNew, List.mem_cons, List.not_mem_nil, or_false] at hq
  rcases hq with rfl | rfl | rfl | rfl <;> exact h _

theorem rel_new {k : List Ins} {J : List Int} {tn fn : Nat} {mem : List Int} (h1 : 1 ≤ tn) (h2 : tn ≤ 16) (h3 : fn ≤ 1000) (h5 : mem.length ≤ 32) : Rel (newP k J tn fn mem) (xNew tn fn mem) := by
  have hl : (newP k J tn fn mem).ts.length = tn := by simp [newP]
  have hat : ∀ t, t < tn → (newP k J tn fn mem).ts.getD t thr0 = ⟨(fn : Int) + (t : Int), [0, 0, 0, 0], false⟩ := fun t ht => by
    unfold newP
    simp only
    rw [List.getD_eq_getElem?_getD, List.getElem?_map, List.getElem?_range ht]; rfl
  have hnd : ∀ t, isDone (newP k J tn fn mem).ts t = false := fun t => by
    unfold isDone
    by_cases ht : t < tn
    · rw [hat t ht]
    · rw [List.getD_eq_getElem?_getD, List.getElem?_eq_none (by rw [hl]; omega)]; rfl
  have hwl : (newP k J tn fn mem).ws.length = (tn + 3) / 4 := by simp [newP]
  have hwd : ∀ i, (newP k J tn fn mem).ws.getD i wrp0 = ⟨0, false, false⟩ := fun i => by
    unfold newP
    simp only
    rw [List.getD_eq_getElem?_getD, List.getElem?_replicate]
    split <;> rfl
  refine ⟨⟨hl.symm, h2, ⟨by simp [xNew], by simp [xNew]; omega⟩, fun t ht => ?_, rfl, fun t ht r hr => ?_, ?_, rfl, h5, memW_len (Nat.le_refl _) h5, ?_⟩, rfl, ⟨rfl, fun i hi l hl' => ?_⟩, fun i hi => ?_, fun _ i hi => ?_⟩
  · rw [hl] at ht; rw [hat t ht]; rfl
  · rw [hl] at ht
    rw [hat t ht]
    simp only [xNew, z64]
    rw [List.getElem?_replicate, if_pos (by omega)]
    rcases (by omega : r = 0 ∨ r = 1 ∨ r = 2 ∨ r = 3) with rfl | rfl | rfl | rfl <;> rfl
  · intro t ht
    unfold newP at ht
    simp only [List.mem_map] at ht
    obtain ⟨i, -, rfl⟩ := ht
    rfl
  · show (memW mem mem.length).take mem.length = mem
    unfold memW
    simp
  · rw [hnd, xNew_q hi]; simp [begQ]
  · rw [xNew_q hi]; simp [begQ]
  · rw [xNew_q hi]
    refine ⟨rfl, begM_lt _ _, by simp [begQ], fun l hl' => ?_, rfl, rfl, fun hg => ⟨?_, ?_, ?_⟩, fun hiw => ?_⟩
    · rw [hnd, hl]
      show (begM _ 4).testBit l = _
      rw [beg_bit hl']; simp
    · rw [hwl]
      by_cases e : i < (tn + 3) / 4
      · exact e
      · exfalso
        apply hg
        show begM _ 4 = 0
        rw [zero_iff (begM_lt _ _)]
        intro l hl'
        rw [beg_bit (n := tn) (i := i) hl']; simp; omega
    · rw [hwd]; rfl
    · rw [hwd]; rfl
    · rw [hwd]
      rw [hwl] at hiw
      show false = decide (begM _ 4 = 0)
      symm
      simp only [decide_eq_false_iff_not]
      intro e
      have := beg_bit (n := tn) (i := i) (l := 0) (by omega)
      rw [e] at this
      simp at this
      omega

end Go.Proofs.YtbhbacphiinpeaaGreat

/- The error of a New; plain. -/
namespace Go.Proofs.YtbhbacphiinpeaaGreat
open Go.RowKit

/-- The error of a New, and its place. -/
def newE (s : ByteArray) (t f : Int) (n : Nat) : Int × Int := if (dchk s).1 ≠ 0 then dchk s else (newErr t f n, 0)

theorem newErr_zero {t f : Int} {n : Nat} (h : newErr t f n = 0) : ∃ tn fn : Nat, t = (tn : Int) ∧ f = (fn : Int) ∧ 1 ≤ tn ∧ tn ≤ 16 ∧ fn ≤ 1000 ∧ 1 ≤ n ∧ n ≤ 32 := by
  unfold newErr at h
  split at h
  · simp at h
  · rename_i h1
    split at h
    · simp at h
    · rename_i h2
      exact ⟨t.toNat, f.toNat, by omega, by omega, by omega, by omega, by omega, by omega, by omega⟩

end Go.Proofs.YtbhbacphiinpeaaGreat

/- What 'New' of package loom answers where it makes a machine. -/
namespace Go.Proofs.YtbhbacphiinpeaaGreat
open Go.RowKit

/-- What a New that is not refused answers: a machine at its beginning, in blocks of its own. -/
def MNewAns (w : World) (m : PM) (e : Ending) (w' : World) : Prop :=
  ∃ L x, e = .returned (.tuple #[.pointer (some ⟨L.bX, 0, none⟩), .int .i64 0, .int .i64 0]) ∧ XAt w' L m x ∧ (w.heap.size ≤ L.bX ∧ w.heap.size ≤ L.gK ∧ w.heap.size ≤ L.gJ) ∧ Below w.heap.size w w'

/-- The machine behind the first i warps. -/
def xMid (tn : Nat) (fn : Int) (mem : List Int) (i : Nat) : QM := ⟨tn, 0, fn, z64, mem.length, memW mem mem.length, ((List.range 4).map fun j => if j < i then begQ ((tn : Int) - 4 * (j : Int)) else wqB)⟩
theorem xMid_zero (tn : Nat) (fn : Int) (mem : List Int) : xMid tn fn mem 0 = { x00 tn with first := fn, rg := z64, cnt := mem.length, wd := memW mem mem.length } := rfl
theorem xMid_four (tn : Nat) (fn : Int) (mem : List Int) : xMid tn fn mem 4 = xNew tn fn mem := rfl
theorem xMid_put {tn : Nat} {fn : Int} {mem : List Int} {i : Nat} (hi : i < 4) : qPut (xMid tn fn mem i) i (begQ ((tn : Int) - 4 * (i : Int))) = xMid tn fn mem (i + 1) := by
  rcases (by omega : i = 0 ∨ i = 1 ∨ i = 2 ∨ i = 3) with rfl | rfl | rfl | rfl <;> rfl
theorem xMid_shp {tn : Nat} {fn : Int} {mem : List Int} {i : Nat} (hm : mem.length ≤ 32) : Shp (xMid tn fn mem i) := by
  refine ⟨rfl, memW_len (Nat.le_refl _) hm, rfl, fun q hq => ?_⟩
  simp only [xMid, List.mem_map, List.mem_range] at hq
  obtain ⟨j, -, rfl⟩ := hq
  split <;> rfl

theorem flatQ_len {vL vJ : Value} {x : QM} (h : Shp x) : (flatQ vL vJ x).length = 186 := by
  unfold flatQ
  rw [List.length_append, List.length_append, List.length_cons, List.length_append, zl, zl, h.rl, h.wl, flatMap_len (c := 21) (qs_len h), h.ql]
  rfl
theorem wqv_one (q : Wq) : ∀ v ∈ q.vals, v.oneCell' = true := by
  intro v hv
  unfold Wq.vals at hv
  rw [List.mem_append] at hv
  rcases hv with hv | hv
  · simp only [List.mem_cons, List.not_mem_nil, or_false] at hv
    rcases hv with rfl | rfl | rfl | rfl | rfl | rfl <;> rfl
  · rw [List.mem_flatMap] at hv
    obtain ⟨s, -, hs⟩ := hv
    simp only [Spl.vals, List.mem_cons, List.not_mem_nil, or_false] at hs
    rcases hs with rfl | rfl | rfl | rfl | rfl <;> rfl

theorem there_of {w : World} {b o n : Nat} {cs : List Value} {t : TypeId} (h : w.heap[b]? = some (.cells cs.toArray t)) (hn : o + n ≤ cs.length) : w.there b o n := fun j hj => by
  refine ⟨?_, frozen_of_row w b (o + j) _ t h⟩
  rw [cell_of_row w b (o + j) _ t _ h, List.getElem?_toArray, List.getElem?_eq_getElem (by omega)]; rfl

theorem Tryz.infoS104 : (Tryz.prog.info? 104).map (·.size) = some 98 := by kernel_rfl
theorem Tryz.infoS109 : (Tryz.prog.info? 109).map (·.size) = some 21 := by kernel_rfl

set_option maxHeartbeats 2000000 in
set_option maxRecDepth 100000 in
theorem mnew_yes (s : ByteArray) (hm : s.size ≤ 140737488355328) (h0 : (dchk s).1 = 0) (tn fn : Nat) (ht1 : 1 ≤ tn) (ht2 : tn ≤ 16) (hf : fn ≤ 1000) (b off cap : Nat) (mem : List Int) (w : World) (hb : b < w.heap.size) (hm1 : 1 ≤ mem.length) (hm2 : mem.length ≤ 32)
    (hc : ∀ (i : Nat) x, mem[i]? = some x → w.cell? ⟨b, off + i, none⟩ = some (.int .i64 x)) :
    Calls Tryz.prog 34 #[.string s, .int .i64 tn, .int .i64 fn, .slice (some ⟨b, off, none⟩) mem.length cap] w fun e w' => ∃ J, JoinsAre (decL s) J ∧ MNewAns w (newP (decL s) J tn fn mem) e w' := by
  have g0 : ((dchk s).1 != 0) = false := by simpa using h0
  obtain ⟨hk, hk1, hk2⟩ := dec_good h0
  have Hc := hyd hc
  obtain ⟨k, Hk⟩ : ∃ k, Hid (decL s = k) := ⟨_, rfl⟩
  rw [Hk.out] at hk hk1 hk2
  have HK := hyd hk
  obtain ⟨kn, Hkn⟩ : ∃ kn, Hid (k.length = kn) := ⟨_, rfl⟩
  obtain ⟨mn, Hmn⟩ : ∃ mn, Hid (mem.length = mn) := ⟨_, rfl⟩
  rw [Hkn.out] at hk1 hk2
  rw [Hmn.out] at hm1 hm2 ⊢
  have g1 : decide ((tn : Int) < 1) = false := by simp; omega
  have g2 : decide (16 < (tn : Int)) = false := by simp; omega
  have g3 : decide ((fn : Int) < 0) = false := by simp
  have g4 : decide (1000 < (fn : Int)) = false := by simp; omega
  have g5 : decide ((mn : Int) < 1) = false := by simp; omega
  have g6 : decide (32 < (mn : Int)) = false := by simp; omega
  have hdec := hyd (decode_any s hm w)
  rw [Hk.out] at hdec
  rw [Hkn.out] at hdec
  rw [h0] at hdec g0
  clear h0 hk hc
  go_enter Tryz.func34, Tryz.ntmps34
  go_wp2_with fail
  refine hdec.out.mono ?_
  rintro e w1 ⟨v, rfl, hb1, hown1, -⟩
  obtain ⟨gK, cK, hv, hgK1, hgK2⟩ := hown1.form (by omega)
  subst hv
  have O1 := hyd hown1
  have B1 := hyd hb1
  have hsz1 := hb1.size
  clear hb1 hown1 hdec
  have HBt := hyd (Tryz.builtM (some ⟨gK, 0, none⟩) kn cK tn)
  obtain ⟨V, HV⟩ : ∃ V : Array Value, Hid (V = (flatQ (.slice (some ⟨gK, 0, none⟩) kn cK) (.slice none 0 0) (x00 tn)).toArray) := ⟨_, rfl⟩
  rw [← HV.out] at HBt
  go_upto_region 8 with fail
  go_wp2_with (first | (refine wpList_build_to rfl 112 _ rfl V (by first | exact HBt.out | (simp [go_sem]; exact HBt.out)) ?_))
  have hX2 := heap_alloc_last w1 (.cells V 112)
  rw [HV.out] at hX2
  have X2 := hyd hX2
  have O2 := hyd (O1.out.alloc (.cells V 112))
  have B2 : Hid (Below w.heap.size w (w1.alloc (.cells V 112))) := B1.out.alloc hsz1 _
  have hq := hyd (ways_any cK (kAt_owned HK.out Hkn.out O2.out))
  rw [← HV.out] at X2
  generalize w1.alloc (.cells V 112) = w2 at X2 O2 B2 hq ⊢
  have hbx1 : Hid (w.heap.size ≤ w1.heap.size) := hsz1
  have hlt2 : Hid (w1.heap.size < w2.heap.size) := blk_lt X2.out
  generalize w1.heap.size = bX at X2 hbx1 hlt2 ⊢
  clear O1 B1 hsz1
  refine hq.out.mono ?_
  rintro e w3 ⟨vj, J, rfl, hJ, hown3, hb3⟩
  have hJl : Hid (J.length = kn) := by unfold Hid; rw [hJ.1, Hkn.out]
  rw [hJl.out] at hown3
  obtain ⟨gJ, cJ, hvj, hgJ1, hgJ2⟩ := hown3.form (by omega)
  subst hvj
  have HJ := hyd hJ
  have X3 : Hid (w3.heap[bX]? = _) := (hb3.block bX hlt2.out).trans X2.out
  have O3 := hyd (O2.out.keptB hb3)
  have OJ3 := hyd hown3
  have B6b : Hid (w.heap.size ≤ w2.heap.size) := B2.out.size
  have B3 : Hid (Below w.heap.size w w3) := B2.out.trans (hb3.mono B2.out.size)
  have hlt3 : Hid (bX < w3.heap.size) := blk_lt X3.out
  have hgJ : Hid (w.heap.size ≤ gJ ∧ gJ ≠ bX) := by have h1 := B2.out.size; have h2 := hlt2.out; unfold Hid; omega
  have hgK : Hid (gK ≠ bX) := fun e => owns_not O3.out X3.out (by decide) (by rw [e]; rfl)
  clear hJ hown3 hb3 hq X2 O2 B2 hgJ1 hgJ2
  obtain ⟨c1v, c1⟩ : ∃ u, w3.cell? ⟨bX, 1, none⟩ = some u := ⟨_, by rw [cell_of_row w3 bX 1 _ 112 _ X3.out, HV.out, List.getElem?_toArray]; rfl⟩
  have f1 := frozen_of_row w3 bX 1 _ 112 X3.out
  go_upto_region 10 with fail
  have X4 := hyd (heap_setCell_same w3 bX 1 _ 112 (.slice (some ⟨gJ, 0, none⟩) kn cJ) X3.out)
  rw [HV.out, List.setIfInBounds_toArray, show (flatQ (.slice (some ⟨gK, 0, none⟩) kn cK) (.slice none 0 0) (x00 tn)).set 1 (.slice (some ⟨gJ, 0, none⟩) kn cJ) = flatQ (.slice (some ⟨gK, 0, none⟩) kn cK) (.slice (some ⟨gJ, 0, none⟩) kn cJ) (x00 tn) from rfl] at X4
  have O4 := hyd (owns_set1 O3.out (a := ⟨bX, 1, none⟩) hgK.out (.slice (some ⟨gJ, 0, none⟩) kn cJ))
  have OJ4 := hyd (owns_set1 OJ3.out (a := ⟨bX, 1, none⟩) hgJ.out.2 (.slice (some ⟨gJ, 0, none⟩) kn cJ))
  have B4 : Hid (Below w.heap.size w (w3.setCell ⟨bX, 1, none⟩ (.slice (some ⟨gJ, 0, none⟩) kn cJ))) := B3.out.setCell (p := ⟨bX, 1, none⟩) hbx1.out _
  have hlt4 : Hid (bX < (w3.setCell ⟨bX, 1, none⟩ (.slice (some ⟨gJ, 0, none⟩) kn cJ)).heap.size) := blk_lt X4.out
  generalize w3.setCell ⟨bX, 1, none⟩ (.slice (some ⟨gJ, 0, none⟩) kn cJ) = w4 at X4 O4 OJ4 B4 hlt4 ⊢
  clear X3 O3 OJ3 B3 hlt3 c1 f1 HBt HV
  have hcn := hyd (cnew_any (fn : Int) b off cap mn mem Hmn.out hm2 w4 (Nat.lt_of_lt_of_le hb B4.out.size) (fun i x hx => (B4.out.cell hb).trans (Hc.out i x hx)))
  go_wp2_with fail
  refine hcn.out.mono ?_
  rintro e w5 ⟨rfl, hb5⟩
  have X5 : Hid (w5.heap[bX]? = _) := (hb5.block bX hlt4.out).trans X4.out
  have O5 := hyd (O4.out.keptB hb5)
  have OJ5 := hyd (OJ4.out.keptB hb5)
  have B5 : Hid (Below w.heap.size w w5) := B4.out.trans (hb5.mono B4.out.size)
  clear hb5 hcn X4 O4 OJ4 B4 hlt4
  have hcl : Hid ((celV (fn : Int) z64 mn (memW mem mn)).length = 98) := celV_len rfl (memW_len (by rw [Hmn.out]; omega) (by rw [Hmn.out]; exact hm2))
  have hth : Hid (w5.there bX 4 98) := there_of X5.out (by
    rw [flatQ_len ⟨rfl, rfl, rfl, fun q hq => by simp [x00] at hq; subst hq; rfl⟩]; omega)
  obtain ⟨A, HA⟩ : ∃ A : Array Value, Hid (A = (celV (fn : Int) z64 mn (memW mem mn)).toArray) := ⟨_, rfl⟩
  rw [← HA.out]
  have HAs : Hid (A.size = 98) := by unfold Hid; rw [HA.out, List.size_toArray]; exact hcl.out
  have HA1 : Hid (A.all (·.oneCell') = true) := by unfold Hid; rw [HA.out]; exact all_oneCell_toArray (celV_one _ _ _ _)
  go_wp2_with (first | (refine wpList_store_mid rfl 104 (.tmp 62) (.tmp 60) rfl bX 4 A rfl rfl (by rw [HAs.out]; exact hth.out) (by rw [HAs.out]; exact Tryz.infoS104) HA1.out ?_))
  have X6 := hyd (setCells_block (celV (fn : Int) z64 mn (memW mem mn)) 4 w5 _ X5.out)
  rw [flat_cells rfl rfl rfl (memW_len (by rw [Hmn.out]; omega) (by rw [Hmn.out]; exact hm2))] at X6
  have X6' : Hid ((w5.setCells bX 4 A.toList).heap[bX]? = some (.cells (flatQ (.slice (some ⟨gK, 0, none⟩) kn cK) (.slice (some ⟨gJ, 0, none⟩) kn cJ) (xMid tn fn mem 0)).toArray 112)) := by
    unfold Hid; rw [HA.out, xMid_zero, Hmn.out]; exact X6.out
  have B6 : Hid (Below w.heap.size w (w5.setCells bX 4 A.toList)) := setCells_below hbx1.out _ _ B5.out
  have O6 := hyd (owns_same O5.out (w' := w5.setCells bX 4 A.toList) fun g hg => setCells_other (fun e => by
    simp only [Value.ownBlock, Option.some.injEq] at hg; rw [← hg] at e; exact hgK.out e) _ _ _)
  have OJ6 := hyd (owns_same OJ5.out (w' := w5.setCells bX 4 A.toList) fun g hg => setCells_other (fun e => by
    simp only [Value.ownBlock, Option.some.injEq] at hg; rw [← hg] at e; exact hgJ.out.2 e) _ _ _)
  generalize w5.setCells bX 4 A.toList = w6 at X6' B6 O6 OJ6 ⊢
  clear X6 X5 O5 OJ5 B5 hth HA HAs HA1 hcl
  go_loopw [63] (fun iv wr => ∃ i : Nat, i ≤ 4 ∧ iv = .int .i64 i ∧ Hid (wr.heap[bX]? = some (.cells (flatQ (.slice (some ⟨gK, 0, none⟩) kn cK) (.slice (some ⟨gJ, 0, none⟩) kn cJ) (xMid tn fn mem i)).toArray 112)) ∧ Hid (wr.ownsRow w.heap.size 92 4 (.slice (some ⟨gK, 0, none⟩) kn cK) kn (flat k)) ∧ Hid (∃ bb, w.heap.size ≤ bb ∧ wr.ownsRow bb 3 1 (.slice (some ⟨gJ, 0, none⟩) kn cJ) kn (zVals J)) ∧ Hid (Below w.heap.size w wr)) (fun iv _ => 4 - (intOf iv).toNat)
  case atStart => exact ⟨0, by omega, rfl, X6', O6, ⟨_, B6b.out, OJ6.out⟩, B6⟩
  case round =>
    clear X6' O6 OJ6 B6
    obtain ⟨i, hi4, rfl, X, O, OJ, B⟩ := hrel
    by_cases hi : i < 4
    · have i1 : (0 : Int) ≤ (i : Int) := by omega
      have i2 : (i : Int) < 4 := by omega
      have hbg := hyd (begin_any ((tn : Int) - 4 * (i : Int)))
      obtain ⟨A, HA⟩ : ∃ A : Array Value, Hid (A = (begQ ((tn : Int) - 4 * (i : Int))).vals.toArray) := ⟨_, rfl⟩
      rw [← HA.out] at hbg
      have Hw : Hid (IntKind.i64.wrap ((tn : Int) - IntKind.i64.wrap ((i : Int) * 4)) = (tn : Int) - 4 * (i : Int)) := by unfold Hid; rw [IntWalk.i64_in ((i : Int) * 4) (by omega), IntWalk.i64_in _ (by omega)]; omega
      have HAs : Hid (A.size = 21) := by unfold Hid; rw [HA.out]; rfl
      have HA1 : Hid (A.all (·.oneCell') = true) := by unfold Hid; rw [HA.out]; exact all_oneCell_toArray (wqv_one _)
      have hth : Hid (∀ wx : World, wx.heap[bX]? = wr.heap[bX]? → wx.there bX (102 + i * 21) 21) := fun wx hx => there_of (hx.trans X.out) (by rw [flatQ_len (xMid_shp (by rw [Hmn.out]; exact hm2))]; omega)
      have hsc : Hid (∀ wx : World, wx.heap[bX]? = wr.heap[bX]? → (storeCells ⟨bX, 102 + i * 21, none⟩ A.toList).run Tryz.prog wx = .ok () (wx.setCells bX (102 + i * 21) A.toList)) := fun wx hx => by
        have ht := hth.out wx hx
        have := run_storeCells_cells (P := Tryz.prog) bX (102 + i * 21) A.toList 0 wx (fun j hj => by simpa using (ht j (by rw [← HAs.out]; simpa using hj)).1) (fun j hj => by simpa using (ht j (by rw [← HAs.out]; simpa using hj)).2) (fun v hv => (Array.all_eq_true_iff_forall_mem.1 HA1.out) v (by simpa using hv))
        simpa using this
      have hAs := HAs.out
      have hbx : bX < wr.heap.size := blk_lt X.out
      go_wp2_with fail
      go_region_with (first | (go_at_call 53; rw [Hw.out]; refine (hbg.out _).mono ?_; rintro e w9 ⟨rfl, hb9⟩; have hx9 : w9.heap[bX]? = wr.heap[bX]? := hb9.block bX hbx; have hs9 := hsc.out w9 hx9))
      have X10 := hyd (setCells_block (begQ ((tn : Int) - 4 * (i : Int))).vals (102 + i * 21) w9 _ (hx9.trans X.out))
      rw [flat_warp (xMid_shp (by rw [Hmn.out]; exact hm2)) hi _ rfl, xMid_put hi] at X10
      have X11 : Hid ((w9.setCells bX (102 + i * 21) A.toList).heap[bX]? = some (.cells (flatQ (.slice (some ⟨gK, 0, none⟩) kn cK) (.slice (some ⟨gJ, 0, none⟩) kn cJ) (xMid tn fn mem (i + 1))).toArray 112)) := by
        unfold Hid; rw [HA.out]; exact X10.out
      have hbd : Below wr.heap.size wr w9 := (Below.refl _ wr).drew.trans hb9
      have B11 : Hid (Below w.heap.size w (w9.setCells bX (102 + i * 21) A.toList)) := setCells_below hbx1.out _ _ (B.out.trans (hbd.mono B.out.size))
      have O11 := hyd (owns_same (O.out.keptB hbd) (w' := w9.setCells bX (102 + i * 21) A.toList) fun g hg => setCells_other (fun e => by
        simp only [Value.ownBlock, Option.some.injEq] at hg; rw [← hg] at e; exact hgK.out e) _ _ _)
      have OJ11 : Hid (∃ bb, w.heap.size ≤ bb ∧ (w9.setCells bX (102 + i * 21) A.toList).ownsRow bb 3 1 (.slice (some ⟨gJ, 0, none⟩) kn cJ) kn (zVals J)) := by
        obtain ⟨bb, h1, h2⟩ := OJ.out
        exact ⟨bb, h1, owns_same (h2.keptB hbd) fun g hg => setCells_other (fun e => by
          simp only [Value.ownBlock, Option.some.injEq] at hg; rw [← hg] at e; exact hgJ.out.2 e) _ _ _⟩
      generalize w9.setCells bX (102 + i * 21) A.toList = w10 at X11 B11 O11 OJ11 ⊢
      clear X10 hbd hb9 hx9 hs9 hAs X O OJ B
      go_wp2_with fail
      refine ⟨⟨i + 1, by omega, rfl, X11, O11, OJ11, B11⟩, ?_⟩
      simp only [intOf]; omega
    · have : i = 4 := by omega
      subst this
      go_wp2_with fail
      go_ret3
      obtain ⟨bb, hbb, hoj⟩ := OJ.out
      have eP : (newP (decL s) J tn fn mem).k = k ∧ (newP (decL s) J tn fn mem).J = J := ⟨Hk.out, rfl⟩
      refine ⟨J, by rw [Hk.out]; exact HJ.out, ⟨bX, gK, cK, gJ, cJ, kn⟩, xNew tn fn mem, rfl, ⟨?_, rel_new ht1 ht2 hf (by rw [Hmn.out]; exact hm2), xNew_wok⟩, ⟨hbx1.out, hgK1, hgJ.out.1⟩, B.out⟩
      rw [eP.1, eP.2]
      exact ⟨X.out, owns_down O.out (Nat.zero_le _), owns_down hoj (Nat.zero_le _), Hkn.out.symm, xMid_shp (i := 4) (by rw [Hmn.out]; exact hm2)⟩

theorem mnew_any (s : ByteArray) (hm : s.size ≤ 140737488355328) (t f : Int) {v : Value} {mem : List Int} (w : World) (hv : SeesZ w v mem) :
    Calls Tryz.prog 34 #[.string s, .int .i64 t, .int .i64 f, v] w fun e w' => ((newE s t f mem.length).1 ≠ 0 → e = .returned (.tuple #[.pointer none, .int .i64 (newE s t f mem.length).1, .int .i64 (newE s t f mem.length).2]) ∧ Below w.heap.size w w') ∧
      ((newE s t f mem.length).1 = 0 → ∃ J, JoinsAre (decL s) J ∧ PMok (newP (decL s) J t.toNat f.toNat mem) ∧ MNewAns w (newP (decL s) J t.toNat f.toNat mem) e w') := by
  obtain ⟨ao, cap, hvs⟩ : ∃ ao cap, v = .slice ao mem.length cap := by
    rcases hv.2 with ⟨h0, ao, cap, h⟩ | ⟨b, off, cap, h, -⟩
    · exact ⟨ao, cap, by rw [h, h0]; rfl⟩
    · exact ⟨_, cap, h⟩
  by_cases h0 : (dchk s).1 = 0
  · have e1 : newE s t f mem.length = (newErr t f mem.length, 0) := by unfold newE; rw [if_neg (by omega)]
    by_cases he : newErr t f mem.length = 0
    · obtain ⟨tn, fn, rfl, rfl, a1, a2, a3, a4, a5⟩ := newErr_zero he
      rcases hv.2 with ⟨h00, -⟩ | ⟨b, off, cap', h, hb, hc⟩
      · rw [h00] at a4; simp at a4
      · subst h
        refine (mnew_yes s hm h0 tn fn a1 a2 a3 b off cap' mem w hb a4 a5 hc).mono ?_
        rintro e w' ⟨J, hJ, hN⟩
        rw [e1]
        refine ⟨fun hx => absurd he hx, fun _ => ⟨J, hJ, ?_, ?_⟩⟩
        · rw [Int.toNat_natCast, Int.toNat_natCast]
          exact new_ok (dec_good h0).1 hJ a1 a2 a4 a5
        · rw [Int.toNat_natCast, Int.toNat_natCast]
          exact hN
    · subst hvs
      refine (mnew_bad s hm h0 t f ao mem.length cap hv.1 w he).mono ?_
      rintro e w' ⟨rfl, hb⟩
      rw [e1]
      exact ⟨fun _ => ⟨rfl, hb⟩, fun hx => absurd hx he⟩
  · have e1 : newE s t f mem.length = dchk s := by unfold newE; rw [if_pos h0]
    subst hvs
    refine (mnew_no s hm h0 t f ao mem.length cap w).mono ?_
    rintro e w' ⟨rfl, hb⟩
    rw [e1]
    exact ⟨fun _ => ⟨rfl, hb⟩, fun hx => absurd hx h0⟩

end Go.Proofs.YtbhbacphiinpeaaGreat

