/- A made kernel run to its end, by whatever picks: all that comes of it hangs on no pick. Plain lists; nothing of the program is in this text. -/
import Derived.Test.YtbhbacphiinpeaaTm
namespace Go.Proofs.Ytbhbacphiinpeaa
open Go.RowKit

def lens (l : List (List (Int × Int))) : Nat := (l.map List.length).sum
theorem lens_set : ∀ {l : List (List (Int × Int))} {i : Nat} (x : List (Int × Int)), i < l.length → lens (l.set i (l.getD i [] ++ x)) = lens l + x.length
  | [], i, x, h => by simp at h
  | y :: l, 0, x, _ => by simp [lens]; omega
  | y :: l, i + 1, x, h => by
    have ih := lens_set (l := l) (i := i) x (by simpa using h)
    simp only [lens, List.set_cons_succ, List.getD_cons_succ, List.map_cons, List.sum_cons] at ih ⊢
    omega
theorem lens_rep (c : Nat) : lens (List.replicate c []) = 0 := by
  induction c with
  | zero => rfl
  | succ c ih => simp only [lens, List.replicate_succ, List.map_cons, List.sum_cons] at ih ⊢; rw [ih]; rfl

structure GInv (k : List Ins) (first n c : Nat) (mem0 : List Int) (V : Nat → Nat → VS) (Rw : Nat → Nat → List (Int × Int)) (p : Nat) (S : Nat → Bool) (ts : List Thr) (mem : List Int) (r : Rn) : Prop where
  tl : ts.length = n
  ml : mem.length = 32
  ll : r.logs.length = c
  st : r.steps = (lens r.logs : Int)
  loc : ∀ t, t < n → ts.getD t thr0 = (V (t / 4) (if S (t / 4) then p + 1 else p) t).1 ∧ mem.getD (first + t) 0 = (V (t / 4) (if S (t / 4) then p + 1 else p) t).2
  mo : ∀ a, (∀ t, t < n → a ≠ first + t) → mem.getD a 0 = mem0.getD a 0
  logs : ∀ i, i < c → r.logs.getD i [] = (List.range (if S i then p + 1 else p)).flatMap (Rw i)

theorem g_phased {k : List Ins} {J : List Int} {ls le first n c : Nat} {mem0 : List Int} {V : Nat → Nat → VS} {Rw : Nat → Nat → List (Int × Int)} (hc : c = (n + 3) / 4) (hf : first + n ≤ 32)
    (H : ∀ i, i < c → ∀ p, p < (wl k).length + 1 → PhS k J ls le first (warpG n i) p (V i p) (V i (p + 1)) (Rw i p)) : Phased k J c (wl k).length (fun p => ((aW k p : Nat) : Int)) (GInv k first n c mem0 V Rw) := by
  refine ⟨fun p S ts mem r h => h.ll, fun p S ts mem r i hp hi hS h => ?_, fun p S ts mem r hp hall h => ?_⟩
  · have hh := H i hi p (by omega)
    have hpre : PreD first (⟨ts, mem, 0, 0, 0, 0, 0, 0, [], 0, false, false, 0⟩ : Pl) (warpG n i) (V i p) 0 0 := by
      refine ⟨rfl, rfl, fun t ht => ?_, ?_, ?_, fun t ht => ?_, rfl, rfl⟩
      · show t < ts.length
        rw [h.tl]; exact (warp_mem.1 ht).1
      · show first + ts.length ≤ mem.length
        rw [h.tl, h.ml]; exact hf
      · show mem.length ≤ 32
        rw [h.ml]; exact Nat.le_refl _
      · obtain ⟨h1, h2⟩ := warp_mem.1 ht
        have := h.loc t h1
        rw [h2, hS] at this
        exact this
    obtain ⟨d1, d2, d3⟩ := hh.dyn _ hpre
    obtain ⟨q, hq⟩ : ∃ q, runP k J 2000 2000 ⟨ts, mem, 0, 0, 0, 0, 0, 0, [], 0, false, false, 0⟩ (warpG n i) ((aW k p : Nat) : Int) (-1) = q := ⟨_, rfl⟩
    rw [hq] at d1 d2 d3
    have hlog : q.log = Rw i p := by have := d1.log; simpa using this
    have hst : q.steps = (Rw i p).length := by have := d1.steps; simpa using this
    have hpz : decide (p < (wl k).length) = decide (p ≠ (wl k).length) := by
      by_cases e : p < (wl k).length
      · simp [e]; omega
      · simp [e]; omega
    refine ⟨q, by rw [h.tl]; exact hq, d1.ends, d1.st, by rw [d2, hpz], fun hne => d3 (by omega), by rw [hst, hlog], by rw [hlog]; exact List.length_pos_iff.2 hh.some, ?_⟩
    have hadd : r.add (turnOf i q) = ⟨r.logs.set i (r.logs.getD i [] ++ Rw i p), r.steps + ((Rw i p).length : Int), turnOf i q⟩ := by
      unfold Rn.add
      simp only [turnOf, Int.toNat_natCast, hlog, hst]
    rw [hadd]
    refine ⟨by rw [d1.tl]; exact h.tl, by rw [d1.ml]; exact h.ml, by simp [h.ll], ?_, fun t ht => ?_, fun a ha => ?_, fun j hj => ?_⟩
    · show r.steps + _ = _
      rw [lens_set _ (by rw [h.ll]; exact hi), h.st]
      omega
    · by_cases e : t / 4 = i
      · have hm : t ∈ warpG n i := warp_mem.2 ⟨ht, e⟩
        have := d1.loc t hm
        rw [e]
        simp only [put1, if_true]
        exact this
      · have hm : t ∉ warpG n i := fun hm => e (warp_mem.1 hm).2
        have e2 : put1 S i (t / 4) = S (t / 4) := by simp [put1, e]
        rw [e2, d1.oth t hm, d1.mo (first + t) (fun u hu e3 => hm (by rw [show t = u by omega]; exact hu))]
        exact h.loc t ht
    · rw [d1.mo a (fun t ht => ha t (warp_mem.1 ht).1)]
      exact h.mo a ha
    · by_cases e : j = i
      · subst e
        simp only [put1, if_true]
        have h1 := h.logs j hj
        rw [hS] at h1
        simp only [Bool.false_eq_true, if_false] at h1
        rw [List.getD_eq_getElem?_getD, List.getElem?_set_self (by rw [h.ll]; exact hj)]
        show r.logs.getD j [] ++ Rw j p = _
        rw [h1, List.range_succ, List.flatMap_append]
        simp
      · have e2 : put1 S i j = S j := by simp [put1, e]
        rw [e2, List.getD_eq_getElem?_getD, List.getElem?_set_ne (fun e3 => e e3.symm), ← List.getD_eq_getElem?_getD]
        exact h.logs j hj
  · refine ⟨h.tl, h.ml, h.ll, h.st, fun t ht => ?_, h.mo, fun j hj => ?_⟩
    · have := h.loc t ht
      rw [hall (t / 4) (by omega)] at this
      simpa using this
    · have := h.logs j hj
      rw [hall j hj] at this
      simpa using this

/-- What comes of a made kernel: F: each thread at its end, and its word; LG: each warp's log. -/
structure Came (k : List Ins) (n first : Nat) (mem0 : List Int) (F : Nat → Thr × Int) (LG : Nat → List (Int × Int)) : Prop where
  path : ∀ t, t < n → Pth k (wayT t (LG (t / 4))) ⟨0, ⟨((first : Nat) : Int) + (t : Int), [0, 0, 0, 0], false⟩, mem0.getD (first + t) 0⟩ ⟨k.length, (F t).1, (F t).2⟩
  done : ∀ t, t < n → (F t).1.done = true
  regs : ∀ t, t < n → (F t).1.regs.length = 4 ∧ (F t).1.get 2 = ((first + t : Nat) : Int) ∧ (F t).2 = (F t).1.get 0
  rows : ∀ i, i < (n + 3) / 4 → (LG i).length ≤ 40000 ∧ ∀ r ∈ LG i, 0 ≤ r.2 ∧ r.2 < 16

theorem kern_store (l : List Int) (al : Bool) : (kern l al)[(kern l al).length - 2]? = some ⟨10, 0, 2, 0⟩ := by
  have hk : kern l al = (kern2 l al).k ++ [⟨10, 0, 2, 0⟩, ⟨0, 0, 0, 0⟩] := by simp [kern, St.put]
  rw [hk]
  simp

/-- Its own word holds what register 0 does, at the end; register 2 its name. -/
theorem Pth.ended {l : List Int} {al : Bool} {ls le : Nat} (hk : KK (kern l al) al ls le) {tr : List Int} {s s' : SS} (h : Pth (kern l al) tr s s') (hs : SInv (kern l al) al ls le s) (h0 : s.pc + 1 = (kern l al).length → s.w = s.t.get 0) (hd' : s'.t.done = true) :
    s'.t.regs.length = 4 ∧ s'.t.get 2 = nv al s'.t ∧ s'.w = s'.t.get 0 := by
  induction h using Pth.ind with
  | refl s => rw [hs.done] at hd'; simp at hd'
  | step hx hx0 _ ih =>
    rename_i s0 s1 x tr0 hP
    refine ih (sinv_step hk hs hx hx0).1 (fun he => ?_) hd'
    have hl := hk.len
    obtain ⟨y, hy, -, hc⟩ := nxt_cases (sstep_nxt hx hx0)
    rcases hc with ⟨hj, hm⟩ | ⟨-, hm⟩
    · have := (hk.jmp hy hj).2.1
      have := (hk.jmp hy hj).1
      omega
    · have e2 : s0.pc = (kern l al).length - 2 := by omega
      have hst := kern_store l al
      rw [← e2, hx] at hst
      have ex := Option.some.inj hst
      subst ex
      rw [sstep_own hx (.inl (.inr (.inr (.inr (.inr (.inr (.inr (.inl rfl))))))))]
      rfl
  | exit hx hx0 =>
    rename_i s0 x
    have he := (hk.exit _ _ hx).1 hx0
    rw [sstep_exit hx hx0]
    exact ⟨hs.regs, hs.r2 (by have := hk.len; omega), h0 he⟩

theorem bits_lt {g : List Nat} (hl : (g.map (· % 4)).Nodup) {rows : List (Int × Int)} (h : Rowed g rows) : ∀ r ∈ rows, 0 ≤ r.2 ∧ r.2 < 16 := fun r hr => by
  obtain ⟨g', h1, -, h3⟩ := h r hr
  have := (bits_test (lanes_sub hl h1)).1
  rw [h3]
  omega

theorem len_flat {k : List Ins} {J : List Int} {ls le first : Nat} (hk : KK k false ls le) {g : List Nat} (hl : (g.map (· % 4)).Nodup) {V : Nat → VS} {Rw : Nat → List (Int × Int)} : ∀ P, (∀ p, p < P → PhS k J ls le first g p (V p) (V (p + 1)) (Rw p)) → ((List.range P).flatMap Rw).length ≤ 2000 * P
  | 0, _ => by simp
  | P + 1, H => by
    have ih := len_flat hk hl P fun p hp => H p (by omega)
    have hh := H P (by omega)
    have h2 := rows_le hl hh.sta.rb
    have h3 := sumP_mono (g := g) (f := fun t => (wayT t (Rw P)).length) (h := fun t => sphi k false ls le (sv (V P) (aW k P) t)) fun t ht => (hh.sta.path t ht).len hk (hh.inv t ht).1
    have h4 := hh.sum
    unfold sums at h4
    rw [List.range_succ, List.flatMap_append, List.length_append]
    have e : [P].flatMap Rw = Rw P := by simp
    rw [e]
    omega

theorem kern_go {l : List Int} {J : List Int} (hJ : JoinsAre (kern l false) J) {n first : Nat} {mem0 : List Int} (hm : mem0.length = 32) (hf : first + n ≤ 31) (h1 : 1 ≤ n) (hn : n ≤ 16) :
    ∃ F LG, Came (kern l false) n first mem0 F LG ∧ ∀ picks, ∃ m' R, goP picks 200 0 (newP (kern l false) J n first mem0) (rn0 ((n + 3) / 4)) = some (m', R) ∧ m'.st = 1 ∧ m'.ts.length = n ∧ m'.mem.length = 32 ∧
      R.logs = (List.range ((n + 3) / 4)).map LG ∧ R.steps = (lens ((List.range ((n + 3) / 4)).map LG) : Int) ∧ (∀ t, t < n → m'.ts.getD t thr0 = (F t).1 ∧ m'.mem.getD (first + t) 0 = (F t).2) ∧ (∀ a, (∀ t, t < n → a ≠ first + t) → m'.mem.getD a 0 = mem0.getD a 0) := by
  obtain ⟨ls, le, hk⟩ := kk l false
  have hjd := kern_joined l false hJ
  obtain ⟨c, hc⟩ : ∃ c, c = (n + 3) / 4 := ⟨_, rfl⟩
  rw [← hc]
  have hwz : (wl (kern l false)).length ≤ 19 := by
    have h1 : (wl (kern l false)).length ≤ (List.range (kern l false).length).length := List.length_filter_le _ _
    rw [List.length_range] at h1
    have := hk.len
    omega
  have hG : ∀ i, ∃ VR : (Nat → VS) × (Nat → List (Int × Int)), i < c → VR.1 0 = vs0 first mem0 ∧ ∀ p, p < (wl (kern l false)).length + 1 → PhS (kern l false) J ls le first (warpG n i) p (VR.1 p) (VR.1 (p + 1)) (VR.2 p) := fun i => by
    by_cases hi : i < c
    · have hg : warpG n i ≠ [] := by
        have : 4 * i ∈ warpG n i := warp_mem.2 ⟨by omega, by omega⟩
        intro e; rw [e] at this; simp at this
      obtain ⟨V, Rw, g1, g2⟩ := phases (first := first) hk hjd hg (warp_lanes n i) (v0 := vs0 first mem0) (fun t ht => by
        have := (warp_mem.1 ht).1
        exact ⟨sinv0 hk (by omega), by simp [vs0]⟩) (sum_warp hk hf) ((wl (kern l false)).length + 1) (Nat.le_refl _)
      exact ⟨⟨V, Rw⟩, fun _ => ⟨g1, g2⟩⟩
    · exact ⟨⟨fun _ => vs0 first mem0, fun _ => []⟩, fun h => absurd h hi⟩
  obtain ⟨VR, hVR⟩ := Classical.axiomOfChoice hG
  have hph := g_phased (k := kern l false) (J := J) (ls := ls) (le := le) (first := first) (n := n) (c := c) (mem0 := mem0) (V := fun i => (VR i).1) (Rw := fun i => (VR i).2) hc (by omega) fun i hi p hp => (hVR i hi).2 p hp
  refine ⟨fun t => (VR (t / 4)).1 ((wl (kern l false)).length + 1) t, fun i => (List.range ((wl (kern l false)).length + 1)).flatMap (VR i).2, ⟨fun t ht => ?_, fun t ht => ?_, fun t ht => ?_, fun i hi => ⟨?_, ?_⟩⟩, fun picks => ?_⟩
  · have hi : t / 4 < c := by omega
    have := (phases_end (fun p hp => (hVR (t / 4) hi).2 p hp)).path t (warp_mem.2 ⟨ht, rfl⟩)
    rw [(hVR (t / 4) hi).1] at this
    exact this
  · have hi : t / 4 < c := by omega
    exact ((hVR (t / 4) hi).2 (wl (kern l false)).length (by omega)).done (by omega) t (warp_mem.2 ⟨ht, rfl⟩)
  · have hi : t / 4 < c := by omega
    have hm2 := warp_mem.2 (show t < n ∧ t / 4 = t / 4 from ⟨ht, rfl⟩)
    have hp := (phases_end (fun p hp => (hVR (t / 4) hi).2 p hp)).path t hm2
    rw [(hVR (t / 4) hi).1] at hp
    have hdn := ((hVR (t / 4) hi).2 (wl (kern l false)).length (by omega)).done (by omega) t hm2
    have hlk := hk.len
    obtain ⟨e1, e2, e3⟩ := hp.ended hk (sinv0 hk (by omega)) (fun e => by simp only [sv] at e; omega) hdn
    refine ⟨e1, ?_, e3⟩
    have hnm := hp.name (sstep_name (kern l false))
    unfold nv at e2
    simp only [Bool.false_eq_true, if_false] at e2
    rw [hnm] at e2
    have e4 : (sv (vs0 first mem0) 0 t).t.name = ((first + t : Nat) : Int) := by simp [sv, vs0]
    rw [e4] at e2
    exact e2
  · have := len_flat hk (warp_lanes n i) ((wl (kern l false)).length + 1) (hVR i (by omega)).2
    have h20 : 2000 * ((wl (kern l false)).length + 1) ≤ 2000 * 20 := Nat.mul_le_mul_left _ (by omega)
    omega
  · exact bits_lt (warp_lanes n i) (phases_end (fun p hp => (hVR i (by omega)).2 p hp)).rb
  · have h0 : newP (kern l false) J n first mem0 = ⟨kern l false, J, (newP (kern l false) J n first mem0).ts, wsOf c (wl (kern l false)).length 0 (fun p => ((aW (kern l false) p : Nat) : Int)) (fun _ => false), mem0, 0⟩ := by
      unfold newP
      rw [← hc]
      congr 1
      apply List.ext_getElem?
      intro j
      by_cases hj : j < c
      · rw [wsOf_get hj, List.getElem?_replicate, if_pos hj]; rfl
      · rw [List.getElem?_eq_none (by simp; omega), List.getElem?_eq_none (by rw [wsOf_len]; omega)]
    rw [h0]
    have hinv : GInv (kern l false) first n c mem0 (fun i => (VR i).1) (fun i => (VR i).2) 0 (fun _ => false) (newP (kern l false) J n first mem0).ts mem0 (rn0 c) := by
      refine ⟨by simp [newP], hm, by simp [rn0], by simp [rn0, lens_rep], fun t ht => ?_, fun _ _ => rfl, fun i hi => ?_⟩
      · have hi : t / 4 < c := by omega
        simp only [Bool.false_eq_true, if_false]
        rw [(hVR (t / 4) hi).1]
        refine ⟨?_, rfl⟩
        rw [List.getD_eq_getElem?_getD]
        simp [newP, vs0, ht]
      · simp [rn0, List.getD_eq_getElem?_getD, hi]
    obtain ⟨S', ts', mem', r', ws', e1, e2, e3⟩ := phased_go hph (by omega) picks 200 0 0 (fun _ => false) _ _ _ (Nat.zero_le _) (by rw [left_none]; omega) (by
      rw [left_none]
      have : ((wl (kern l false)).length - 0) * c ≤ 19 * 4 := Nat.mul_le_mul (by omega) (by omega)
      omega) hinv
    refine ⟨_, _, e1, rfl, e3.tl, e3.ml, ?_, ?_, fun t ht => ?_, e3.mo⟩
    · apply List.ext_getElem?
      intro j
      by_cases hj : j < c
      · have := e3.logs j hj
        rw [e2 j hj] at this
        simp only [if_true] at this
        rw [List.getElem?_map, List.getElem?_range hj, Option.map_some]
        rw [List.getD_eq_getElem?_getD, List.getElem?_eq_getElem (by rw [e3.ll]; exact hj)] at this
        rw [List.getElem?_eq_getElem (by rw [e3.ll]; exact hj)]
        exact congrArg some this
      · rw [List.getElem?_eq_none (by rw [e3.ll]; omega), List.getElem?_eq_none (by simp; omega)]
    · have hl : r'.logs = (List.range c).map fun i => (List.range ((wl (kern l false)).length + 1)).flatMap (VR i).2 := by
        apply List.ext_getElem?
        intro j
        by_cases hj : j < c
        · have := e3.logs j hj
          rw [e2 j hj] at this
          simp only [if_true] at this
          rw [List.getElem?_map, List.getElem?_range hj, Option.map_some]
          rw [List.getD_eq_getElem?_getD, List.getElem?_eq_getElem (by rw [e3.ll]; exact hj)] at this
          rw [List.getElem?_eq_getElem (by rw [e3.ll]; exact hj)]
          exact congrArg some this
        · rw [List.getElem?_eq_none (by rw [e3.ll]; omega), List.getElem?_eq_none (by simp; omega)]
      rw [← hl]
      exact e3.st
    · have := e3.loc t ht
      rw [e2 (t / 4) (by omega)] at this
      simpa using this

end Go.Proofs.Ytbhbacphiinpeaa
