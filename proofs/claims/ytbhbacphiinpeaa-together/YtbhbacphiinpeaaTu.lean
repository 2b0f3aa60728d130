/- A made kernel in which nothing hangs on a thread's name, run to its end by whatever picks. Plain lists; nothing of the program is in this text. -/
import Derived.Test.YtbhbacphiinpeaaTt
namespace Go.Proofs.Ytbhbacphiinpeaa
open Go.RowKit

/-- A way from instruction a to instruction b. -/
def Chn (k : List Ins) : List Int → Nat → Nat → Prop
  | [], a, b => a = b
  | v :: tr, a, b => v = (a : Int) ∧ ∃ x m, k[a]? = some x ∧ x.o ≠ 0 ∧ m ∈ nxt k a ∧ Chn k tr m b

theorem Chn.append {k : List Ins} : ∀ {u v : List Int} {a b c : Nat}, Chn k u a b → Chn k v b c → Chn k (u ++ v) a c
  | [], v, a, b, c, h, h' => by
    have : a = b := h
    rw [this]
    exact h'
  | y :: u, v, a, b, c, h, h' => by
    obtain ⟨h1, x, m, h2, h3, h4, h5⟩ := h
    exact ⟨h1, x, m, h2, h3, h4, h5.append h'⟩

theorem Pth.chn {k : List Ins} {tr : List Int} {s s' : SS} (h : Pth k tr s s') (hd : s'.t.done = false) : Chn k tr s.pc s'.pc := by
  induction h using Pth.ind with
  | refl s => rfl
  | step hx h0 _ ih => exact ⟨rfl, _, _, hx, h0, sstep_nxt hx h0, ih hd⟩
  | exit hx h0 => rw [sstep_exit hx h0] at hd; simp at hd

theorem Pth.chnEnd {k : List Ins} {tr : List Int} {s s' : SS} (h : Pth k tr s s') (hs : s.t.done = false) (hd : s'.t.done = true) (hk : ∀ (n : Nat) x, k[n]? = some x → (x.o = 0 ↔ n + 1 = k.length)) : ∃ u, tr = u ++ [((k.length - 1 : Nat) : Int)] ∧ Chn k u s.pc (k.length - 1) := by
  induction h using Pth.ind with
  | refl s => rw [hs] at hd; simp at hd
  | step hx h0 hP ih =>
    rename_i s0 s1 x tr0
    obtain ⟨u, hu, hc⟩ := ih (by rw [sstep_done hx h0]; exact hs) hd
    exact ⟨(s0.pc : Int) :: u, by rw [hu]; rfl, rfl, x, _, hx, h0, sstep_nxt hx h0, hc⟩
  | exit hx h0 =>
    rename_i s0 x
    have := (hk _ _ hx).1 h0
    exact ⟨[], by simp; omega, by show s0.pc = _; omega⟩

theorem Chn.steps {k : List Ins} {al : Bool} {ls le : Nat} (hk : KK k al ls le) : ∀ {u : List Int} {a b : Nat}, Chn k u a b → ∀ (i : Nat) y z, (u ++ [(b : Int)])[i]? = some y → (u ++ [(b : Int)])[i + 1]? = some z → ∃ (n : Nat) (x : Ins), y = (n : Int) ∧ k[n]? = some x ∧ x.o ≠ 0 ∧ ((x.o = 12 ∧ z = x.b) ∨ (x.o ≠ 12 ∧ z = (n : Int) + 1) ∨ (x.o = 13 ∧ z = x.b))
  | [], a, b, h, i, y, z, hy, hz => by simp at hz
  | v :: u, a, b, h, 0, y, z, hy, hz => by
    obtain ⟨h1, x, m, h2, h3, h4, h5⟩ := h
    simp at hy
    have hz' : (u ++ [(b : Int)])[0]? = some z := by simpa using hz
    have em : z = (m : Int) := by
      cases u with
      | nil =>
        have : m = b := h5
        simp at hz'
        rw [← hz', this]
      | cons v' u' =>
        simp at hz'
        rw [← hz', h5.1]
    obtain ⟨x', hx', -, hc⟩ := nxt_cases h4
    have ex : x' = x := Option.some.inj (hx'.symm.trans h2)
    subst ex
    refine ⟨a, x', by rw [← hy, h1], h2, h3, ?_⟩
    rcases hc with ⟨hj, hm⟩ | ⟨h12, hm⟩
    · have := (hk.jmp h2 hj).1
      rcases hj with hj | hj
      · exact .inl ⟨hj, by rw [em, hm]; omega⟩
      · exact .inr (.inr ⟨hj, by rw [em, hm]; omega⟩)
    · exact .inr (.inl ⟨h12, by rw [em, hm]; omega⟩)
  | v :: u, a, b, h, i + 1, y, z, hy, hz => by
    obtain ⟨-, x, m, -, -, -, h5⟩ := h
    exact h5.steps hk i y z (by simpa using hy) (by simpa using hz)

theorem Chn.wayOk {k : List Ins} {al : Bool} {ls le : Nat} (hk : KK k al ls le) {u : List Int} (h : Chn k u 0 (k.length - 1)) : WayOk k (u ++ [((k.length - 1 : Nat) : Int)]) := by
  have hl := hk.len
  refine ⟨?_, ?_, h.steps hk⟩
  · cases u with
    | nil =>
      have : 0 = k.length - 1 := h
      omega
    | cons v u => simp; exact h.1
  · simp
    omega

theorem Pth.doneRegs {k : List Ins} {al : Bool} {ls le : Nat} (hk : KK k al ls le) {tr : List Int} {s s' : SS} (h : Pth k tr s s') (hs : SInv k al ls le s) (hd' : s'.t.done = true) : s'.t.regs.length = 4 ∧ s'.t.get 2 = nv al s'.t := by
  induction h using Pth.ind with
  | refl s => rw [hs.done] at hd'; simp at hd'
  | step hx hx0 _ ih => exact ih (sinv_step hk hs hx hx0).1 hd'
  | exit hx hx0 =>
    have he := (hk.exit _ _ hx).1 hx0
    rw [sstep_exit hx hx0]
    exact ⟨hs.regs, hs.r2 (by have := hk.len; omega)⟩

theorem sphi_79 {k : List Ins} {ls le : Nat} (hk : KK k true ls le) {s : SS} (hs : SInv k true ls le s) : sphi k true ls le s ≤ 79 := by
  have hl := hk.len
  have hn : (nv true s.t).toNat = 3 := by simp [nv]
  unfold sphi
  rw [hn]
  by_cases h : 0 < ls
  · obtain ⟨h1, -⟩ := hk.lps h
    obtain ⟨h2, h3, h4, -⟩ := hk.lpc h1
    have hD : le - ls ≤ 15 := by omega
    split
    · have : (le - ls) * 3 ≤ 15 * 3 := Nat.mul_le_mul_right _ hD
      omega
    · split
      · rename_i c1 c2
        obtain ⟨b1, b2, -⟩ := hs.r3 h (by omega) c2
        have b3 : nv true s.t = 3 := by simp [nv]
        have : (le - ls) * ((s.t.get 3).toNat + (if s.pc + 1 = le then 1 else 0)) ≤ 15 * 4 := Nat.mul_le_mul hD (by split <;> omega)
        omega
      · omega
  · have e := hk.lpz (by omega)
    rw [if_neg (by omega), if_neg (by omega)]
    omega

/-- A turn from Wait to Wait of threads that are alike. -/
theorem phase_uni {k : List Ins} {J : List Int} {ls le : Nat} (hk : KK k true ls le) {g : List Nat} (hne : g ≠ []) (hnd : g.Nodup) {p : Nat} (hp : p ≤ (wl k).length) {s : SS} (hpc : s.pc = aW k p) (hs : SInv k true ls le s) {pl : Pl} (hpl : UPre pl g s) (h0 : pl.steps = 0) :
    ∃ tr s', Pth k tr s s' ∧ tr ≠ [] ∧ tr.length ≤ 79 ∧ UDyn pl (runP k J 2000 2000 pl g ((aW k p : Nat) : Int) (-1)) g s' tr ∧ (runP k J 2000 2000 pl g ((aW k p : Nat) : Int) (-1)).waits = decide (p < (wl k).length) ∧ (p < (wl k).length → (runP k J 2000 2000 pl g ((aW k p : Nat) : Int) (-1)).at0 = ((aW k (p + 1) : Nat) : Int) ∧ s'.pc = aW k (p + 1) ∧ s'.t.done = false) ∧ (¬ p < (wl k).length → s'.t.done = true) := by
  have h79 := sphi_79 hk hs
  obtain ⟨tr, s', wt, h1, h2, h3, h4, h5⟩ := run_uni (J := J) (bud := 2000) hk hne hnd 2000 pl s hpl hs (by omega) (by omega)
  rw [hpc] at h3 h4 h5
  have hlen := h1.len hk hs
  refine ⟨tr, s', h1, ?_⟩
  rcases h2 with ⟨rfl, ha, w, tr0, hw1, hw, rfl, hn⟩ | ⟨rfl, hd, hn, hr⟩
  · have hge : aW k p ≤ w := by
      by_cases c : p = 0
      · subst c; simp [aW]
      · have hq := wl_get hk (p := p - 1) (by omega)
        have ea : aW k p = (wl k).getD (p - 1) 0 + 1 := by unfold aW; rw [if_neg c]
        have := h1.right hk hq (by rw [hpc]; omega) (w : Int) (by simp)
        omega
    obtain ⟨hpz, hle⟩ := wl_first hk hp hw hge
    have hge2 : w ≤ (wl k).getD p 0 := by
      have hq := wl_get hk hpz
      have := h1.left hk hq (by rw [hpc]; exact aW_le hpz) tr0 (w : Int) [] rfl (fun r hr e => by
        refine hn r hr ?_
        rw [e, Int.toNat_natCast]
        exact hq)
      omega
    have e : w + 1 = aW k (p + 1) := by rw [aW_next]; omega
    exact ⟨by simp, by omega, h3, by rw [h4]; simpa using hpz, fun _ => ⟨by rw [h5 rfl, hw1, e], by rw [hw1, e], ha⟩, fun h => absurd hpz h⟩
  · have hpz : ¬ p < (wl k).length := fun hpz => by
      have hq := wl_get hk hpz
      obtain ⟨u, hu⟩ := h1.last hs.done hd hk.exit fun s x hx h0 => sstep_done hx h0
      have hql := (List.getElem?_eq_some_iff.1 hq).1
      have hne2 := hk.exit _ _ hq
      have := h1.left hk hq (by rw [hpc]; exact aW_le hpz) u _ [] hu (fun r hr e => by
        refine hn r (by rw [hu]; simp [hr]) ?_
        rw [e, Int.toNat_natCast]
        exact hq)
      have h14 : ¬ ((wl k).getD p 0 + 1 = k.length) := fun e => absurd (hne2.2 e) (by decide)
      omega
    exact ⟨hr, by omega, h3, by rw [h4]; simpa using hpz, fun h => absurd h hpz, fun _ => hd⟩

/-- A warp at the beginning of phase P. -/
def WarpU (k : List Ins) (ls le n i P : Nat) (ts : List Thr) (lg : List (Int × Int)) : Prop :=
  ∃ (ρ tr : List Int), (∀ t ∈ warpG n i, (ts.getD t thr0).regs = ρ ∧ (ts.getD t thr0).done = decide ((wl k).length < P)) ∧ lg = tr.map (fun v => (v, ((bits (warpG n i) : Nat) : Int))) ∧ tr.length ≤ 79 * P ∧
    (P ≤ (wl k).length → SInv k true ls le ⟨aW k P, ⟨0, ρ, false⟩, 0⟩ ∧ Chn k tr 0 (aW k P)) ∧ ((wl k).length < P → ρ.length = 4 ∧ ρ.getD 2 0 = 3 ∧ WayOk k tr)

structure UInv (k : List Ins) (ls le n c : Nat) (p : Nat) (S : Nat → Bool) (ts : List Thr) (mem : List Int) (r : Rn) : Prop where
  tl : ts.length = n
  ml : mem.length = 32
  ll : r.logs.length = c
  warp : ∀ i, i < c → WarpU k ls le n i (if S i then p + 1 else p) ts (r.logs.getD i [])

theorem sinv_w {k : List Ins} {al : Bool} {ls le pc : Nat} {t t' : Thr} {w w' : Int} (h : SInv k al ls le ⟨pc, t, w⟩) (hal : al = true) (hr : t'.regs = t.regs) (hd : t'.done = t.done) (hn : 0 ≤ t'.name ∧ t'.name ≤ 1100) : SInv k al ls le ⟨pc, t', w'⟩ := by
  subst hal
  have g : ∀ a, t'.get a = t.get a := fun a => by unfold Thr.get; rw [hr]
  refine ⟨h.pc, hd.trans h.done, by rw [show (⟨pc, t', w'⟩ : SS).t.regs = t.regs from hr]; exact h.regs, hn, fun hp => ?_, fun h1 h2 h3 => ?_⟩
  · show t'.get 2 = _
    rw [g]; exact h.r2 hp
  · show 0 ≤ t'.get 3 ∧ t'.get 3 ≤ _ ∧ (_ → _ → 1 ≤ t'.get 3) ∧ (_ → t'.get 1 = 1)
    rw [g, g]; exact h.r3 h1 h2 h3

theorem u_phased {k : List Ins} {J : List Int} {ls le n c : Nat} (hk : KK k true ls le) (hc : c = (n + 3) / 4) : Phased k J c (wl k).length (fun p => ((aW k p : Nat) : Int)) (UInv k ls le n c) := by
  refine ⟨fun p S ts mem r h => h.ll, fun p S ts mem r i hp hi hS h => ?_, fun p S ts mem r hp hall h => ?_⟩
  · have hg : warpG n i ≠ [] := by
      have : 4 * i ∈ warpG n i := warp_mem.2 ⟨by omega, by omega⟩
      intro e; rw [e] at this; simp at this
    have hnd : (warpG n i).Nodup := (List.pairwise_map.1 (warp_lanes n i)).imp fun h e => h (congrArg (· % 4) e)
    obtain ⟨ρ, tr0, w1, w2, w3, w4, -⟩ := h.warp i hi
    rw [hS] at w1 w3 w4
    simp only [Bool.false_eq_true, if_false] at w1 w3 w4
    obtain ⟨w5, w6⟩ := w4 hp
    have hsi : SInv k true ls le ⟨aW k p, ⟨0, ρ, false⟩, mem.getD 3 0⟩ := sinv_w w5 rfl rfl rfl ⟨by simp, by simp⟩
    have hpre : UPre (⟨ts, mem, 0, 0, 0, 0, 0, 0, [], 0, false, false, 0⟩ : Pl) (warpG n i) ⟨aW k p, ⟨0, ρ, false⟩, mem.getD 3 0⟩ := by
      refine ⟨rfl, rfl, rfl, fun t ht => ?_, ?_, ?_, fun t ht => ?_, rfl⟩
      · show t < ts.length
        rw [h.tl]; exact (warp_mem.1 ht).1
      · show 3 < mem.length
        rw [h.ml]; omega
      · show mem.length ≤ 32
        rw [h.ml]; exact Nat.le_refl _
      · obtain ⟨a1, a2⟩ := w1 t ht
        exact ⟨a1, by show (ts.getD t thr0).done = false; rw [a2]; simpa using hp⟩
    obtain ⟨tr, s', b1, b2, b3, b4, b5, b6, b7⟩ := phase_uni (J := J) hk hg hnd hp rfl hsi hpre rfl
    obtain ⟨q, hq⟩ : ∃ q, runP k J 2000 2000 ⟨ts, mem, 0, 0, 0, 0, 0, 0, [], 0, false, false, 0⟩ (warpG n i) ((aW k p : Nat) : Int) (-1) = q := ⟨_, rfl⟩
    rw [hq] at b4 b5 b6
    have hlog : q.log = tr.map (fun v => (v, ((bits (warpG n i) : Nat) : Int))) := by have := b4.log; simpa using this
    have hst : q.steps = tr.length := by have := b4.steps; simpa using this
    have hpz : decide (p < (wl k).length) = decide (p ≠ (wl k).length) := by
      by_cases e : p < (wl k).length
      · simp [e]; omega
      · simp [e]; omega
    refine ⟨q, by rw [h.tl]; exact hq, b4.ends, b4.st, by rw [b5, hpz], fun hne => (b6 (by omega)).1, by rw [hst, hlog, List.length_map], by rw [hlog, List.length_map]; exact List.length_pos_iff.2 b2, ?_⟩
    have hadd : r.add (turnOf i q) = ⟨r.logs.set i (r.logs.getD i [] ++ q.log), r.steps + (q.steps : Int), turnOf i q⟩ := by
      unfold Rn.add
      simp only [turnOf, Int.toNat_natCast]
    rw [hadd]
    refine ⟨by rw [b4.tl]; exact h.tl, by rw [b4.ml]; exact h.ml, by simp [h.ll], fun j hj => ?_⟩
    by_cases e : j = i
    · subst e
      simp only [put1, if_true]
      rw [List.getD_eq_getElem?_getD, List.getElem?_set_self (by rw [h.ll]; exact hj)]
      show WarpU k ls le n j (p + 1) q.ts (r.logs.getD j [] ++ q.log)
      refine ⟨s'.t.regs, tr0 ++ tr, fun t ht => ?_, by rw [w2, hlog, List.map_append], by rw [List.length_append]; omega, fun hle => ?_, fun hgt => ?_⟩
      · obtain ⟨a1, a2⟩ := b4.loc t ht
        refine ⟨a1, ?_⟩
        rw [a2]
        by_cases c1 : p < (wl k).length
        · rw [(b6 c1).2.2]; simp; omega
        · rw [b7 c1]; simp; omega
      · obtain ⟨-, c2, c3⟩ := b6 (by omega)
        obtain ⟨d1, -⟩ := b1.inv hk hsi c3
        refine ⟨?_, ?_⟩
        · have e2 : s' = ⟨s'.pc, s'.t, s'.w⟩ := rfl
          rw [e2, c2] at d1
          exact sinv_w d1 rfl rfl c3.symm ⟨by simp, by simp⟩
        · have := b1.chn c3
          rw [c2] at this
          exact w6.append this
      · have c1 : ¬ p < (wl k).length := by omega
        obtain ⟨d1, d2⟩ := b1.doneRegs hk hsi (b7 c1)
        obtain ⟨u, hu, hcn⟩ := b1.chnEnd hsi.done (b7 c1) hk.exit
        refine ⟨d1, ?_, ?_⟩
        · have e2 : s'.t.get 2 = 3 := by rw [d2]; simp [nv]
          exact e2
        · rw [hu, ← List.append_assoc]
          exact (w6.append hcn).wayOk hk
    · have e2 : put1 S i j = S j := by simp [put1, e]
      rw [e2, List.getD_eq_getElem?_getD, List.getElem?_set_ne (fun e3 => e e3.symm), ← List.getD_eq_getElem?_getD]
      obtain ⟨ρ', tr', v1, v2, v3, v4, v5⟩ := h.warp j hj
      refine ⟨ρ', tr', fun t ht => ?_, v2, v3, v4, v5⟩
      have hm : t ∉ warpG n i := fun hm => e (by rw [← (warp_mem.1 ht).2, (warp_mem.1 hm).2])
      rw [b4.oth t hm]
      exact v1 t ht
  · refine ⟨h.tl, h.ml, h.ll, fun j hj => ?_⟩
    have := h.warp j hj
    rw [hall j hj] at this
    simpa using this

/-- What comes of a kernel in which all are alike. -/
theorem kern_uni {l : List Int} {J : List Int} {n : Nat} {mem0 : List Int} (hm : mem0.length = 32) (h1 : 1 ≤ n) (hn : n ≤ 16) (picks : List Int) :
    ∃ m' R, goP picks 200 0 (newP (kern l true) J n 0 mem0) (rn0 ((n + 3) / 4)) = some (m', R) ∧ m'.st = 1 ∧ m'.ts.length = n ∧ R.logs.length = (n + 3) / 4 ∧
      ∀ i, i < (n + 3) / 4 → ∃ (ρ tr : List Int), (∀ t, t < n → t / 4 = i → (m'.ts.getD t thr0).regs = ρ) ∧ ρ.length = 4 ∧ ρ.getD 2 0 = 3 ∧ R.logs[i]? = some (tr.map (fun v => (v, ((bits (warpG n i) : Nat) : Int)))) ∧ WayOk (kern l true) tr ∧ tr.length ≤ 40000 := by
  obtain ⟨ls, le, hk⟩ := kk l true
  obtain ⟨c, hc⟩ : ∃ c, c = (n + 3) / 4 := ⟨_, rfl⟩
  rw [← hc]
  have hwz : (wl (kern l true)).length ≤ 19 := by
    have h1 : (wl (kern l true)).length ≤ (List.range (kern l true).length).length := List.length_filter_le _ _
    rw [List.length_range] at h1
    have := hk.len
    omega
  have hph := u_phased (J := J) (n := n) (c := c) hk hc
  have h0 : newP (kern l true) J n 0 mem0 = ⟨kern l true, J, (newP (kern l true) J n 0 mem0).ts, wsOf c (wl (kern l true)).length 0 (fun p => ((aW (kern l true) p : Nat) : Int)) (fun _ => false), mem0, 0⟩ := by
    unfold newP
    rw [← hc]
    congr 1
    apply List.ext_getElem?
    intro j
    by_cases hj : j < c
    · rw [wsOf_get hj, List.getElem?_replicate, if_pos hj]; rfl
    · rw [List.getElem?_eq_none (by simp; omega), List.getElem?_eq_none (by rw [wsOf_len]; omega)]
  rw [h0]
  have hinv : UInv (kern l true) ls le n c 0 (fun _ => false) (newP (kern l true) J n 0 mem0).ts mem0 (rn0 c) := by
    refine ⟨by simp [newP], hm, by simp [rn0], fun i hi => ⟨[0, 0, 0, 0], [], fun t ht => ?_, ?_, by simp, fun _ => ⟨?_, rfl⟩, fun h => by simp at h⟩⟩
    · have := (warp_mem.1 ht).1
      rw [List.getD_eq_getElem?_getD]
      simp [newP, this]
    · simp [rn0, List.getD_eq_getElem?_getD, hi]
    · have := sinv0 (first := 0) (mem := []) hk (t := 0) (by omega)
      simpa [sv, vs0, aW] using this
  obtain ⟨S', ts', mem', r', ws', e1, e2, e3⟩ := phased_go hph (by omega) picks 200 0 0 (fun _ => false) _ _ _ (Nat.zero_le _) (by rw [left_none]; omega) (by
    rw [left_none]
    have : ((wl (kern l true)).length - 0) * c ≤ 19 * 4 := Nat.mul_le_mul (by omega) (by omega)
    omega) hinv
  refine ⟨_, _, e1, rfl, e3.tl, e3.ll, fun i hi => ?_⟩
  obtain ⟨ρ, tr, v1, v2, v3, -, v5⟩ := e3.warp i hi
  rw [e2 i hi] at v1 v3 v5
  simp only [if_true] at v1 v3 v5
  obtain ⟨v6, v7, v8⟩ := v5 (by omega)
  refine ⟨ρ, tr, fun t ht hti => (v1 t (warp_mem.2 ⟨ht, hti⟩)).1, v6, v7, ?_, v8, by
    have : 79 * ((wl (kern l true)).length + 1) ≤ 79 * 20 := Nat.mul_le_mul_left _ (by omega)
    omega⟩
  rw [← v2, List.getD_eq_getElem?_getD, List.getElem?_eq_getElem (by rw [e3.ll]; exact hi)]
  rfl

end Go.Proofs.Ytbhbacphiinpeaa
