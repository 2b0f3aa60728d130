/- The first turn of a made kernel, and a turn with a smaller budget. Plain lists; nothing of the program is in this text. -/
import Derived.Test.YtbhbacphiinpeaaTh
namespace Go.Proofs.Ytbhbacphiinpeaa
open Go.RowKit

/-- A turn that was spent made no fault. -/
def FJ (p : Pl) : Prop := p.fault = 0 ∨ (p.ends = true ∧ p.st = 2)

theorem fj_each {p : Pl} (h : FJ p) (g : List Nat) (pc : Int) (x : Ins) : FJ (eachP p g pc x) := by
  unfold eachP
  split
  · exact h
  · exact .inr ⟨rfl, rfl⟩

theorem fj_does {k : List Ins} {J : List Int} {rn : Pl → List Nat → Int → Int → Pl} (hrn : ∀ p g a b, FJ p → FJ (rn p g a b)) {p : Pl} (h : FJ p) (g : List Nat) (pc : Int) : FJ (doesP k J rn p g pc).1 := by
  unfold doesP
  split
  · exact h
  · split
    · exact h
    split
    · exact h
    split
    · unfold partsP
      split
      · exact h
      split
      · exact h
      · exact hrn _ _ _ _ (hrn _ _ _ _ h)
    split
    · split
      · exact .inr ⟨rfl, rfl⟩
      · exact h
    · exact fj_each h _ _ _

theorem fj_run (k : List Ins) (J : List Int) (bud : Nat) : ∀ (f : Nat) (p : Pl) (g : List Nat) (pc to : Int), FJ p → FJ (runP k J bud f p g pc to)
  | 0, p, g, pc, to, h => by
    unfold runP
    split
    · exact h
    rename_i he
    have h0 : p.fault = 0 := by
      rcases h with h | ⟨h, -⟩
      · exact h
      · simp [h] at he
    split
    · exact .inl h0
    split
    · exact .inl h0
    · exact .inl h0
  | f + 1, p, g, pc, to, h => by
    unfold runP
    split
    · exact h
    rename_i he
    have h0 : p.fault = 0 := by
      rcases h with h | ⟨h, -⟩
      · exact h
      · simp [h] at he
    split
    · exact .inl h0
    split
    · exact .inl h0
    · exact fj_run k J bud f _ _ _ _ (fj_does (p := issuedP p (liveL p.ts g) pc) (fun p g a b hp => fj_run k J bud f p g a b hp) (.inl h0) _ _)

def vs0 (first : Nat) (mem : List Int) : VS := fun t => (⟨((first : Nat) : Int) + (t : Int), [0, 0, 0, 0], false⟩, mem.getD (first + t) 0)

theorem sinv0 {k : List Ins} {al : Bool} {ls le first : Nat} {mem : List Int} (hk : KK k al ls le) {t : Nat} (h : first + t ≤ 1000) : SInv k al ls le (sv (vs0 first mem) 0 t) := by
  have := hk.len
  refine ⟨by show 0 < k.length; omega, rfl, rfl, ⟨?_, ?_⟩, fun h => absurd h (by simp [sv]), fun h1 h2 => ?_⟩
  · simp only [sv, vs0]; omega
  · simp only [sv, vs0]; omega
  · simp only [sv] at h2; omega

theorem sphi0 {k : List Ins} {ls le first : Nat} {mem : List Int} (hk : KK k false ls le) (t : Nat) : sphi k false ls le (sv (vs0 first mem) 0 t) ≤ 15 * (first + t) + 19 := by
  have hl := hk.len
  have hn : (nv false (sv (vs0 first mem) 0 t).t).toNat = first + t := by simp only [nv, sv, vs0, Bool.false_eq_true, if_false]; omega
  unfold sphi
  rw [hn]
  by_cases h : 0 < ls
  · obtain ⟨h1, -⟩ := hk.lps h
    obtain ⟨h2, h3, h4, -⟩ := hk.lpc h1
    rw [if_pos (by show 0 < ls; exact h)]
    have : (le - ls) * (first + t) ≤ 15 * (first + t) := Nat.mul_le_mul_right _ (by omega)
    show _ + (k.length - 0) ≤ _
    omega
  · have e := hk.lpz (by omega)
    rw [if_neg (by show ¬ 0 < ls; exact h), if_neg (by show ¬ 0 < le; omega)]
    show k.length - 0 ≤ _
    omega

theorem warp_lanes (n i : Nat) : ((warpG n i).map (· % 4)).Nodup := by
  unfold warpG
  obtain ⟨len, hl⟩ : ∃ len, min 4 (n - 4 * i) = len := ⟨_, rfl⟩
  rw [hl]
  have h4 : len ≤ 4 := by omega
  refine List.pairwise_map.2 ?_
  rw [List.pairwise_iff_getElem]
  intro a b ha hb hab
  simp only [List.length_range'] at ha hb
  simp only [List.getElem_range']
  omega

theorem warp_mem {n i t : Nat} : t ∈ warpG n i ↔ t < n ∧ t / 4 = i := by
  unfold warpG
  rw [List.mem_range'_1]
  omega

theorem sum_range' (f : Nat → Nat) (B : Nat) : ∀ (len s : Nat), (∀ t, s ≤ t → t < s + len → f t ≤ B) → sumP f (List.range' s len) ≤ len * B
  | 0, s, _ => by simp [sumP]
  | len + 1, s, h => by
    have ih := sum_range' f B len (s + 1) fun t h1 h2 => h t (by omega) (by omega)
    have h0 := h s (by omega) (by omega)
    simp only [sumP, List.range'_succ, List.map_cons, List.sum_cons] at ih ⊢
    rw [Nat.succ_mul]
    omega

theorem sum_warp {k : List Ins} {ls le first n i : Nat} {mem : List Int} (hk : KK k false ls le) (hf : first + n ≤ 31) : sums k ls le (vs0 first mem) 0 (warpG n i) < 2000 := by
  have h1 : sums k ls le (vs0 first mem) 0 (warpG n i) ≤ min 4 (n - 4 * i) * 469 := sum_range' _ 469 _ _ fun t h1 h2 => by
    have := sphi0 (first := first) (mem := mem) hk t
    omega
  have h2 : min 4 (n - 4 * i) * 469 ≤ 4 * 469 := Nat.mul_le_mul_right _ (by omega)
  omega

theorem new_pre {k : List Ins} {J : List Int} {n first : Nat} {mem : List Int} (hm : mem.length = 32) (hf : first ≤ 15) (hn : n ≤ 16) (i : Nat) : PreD first (⟨(newP k J n first mem).ts, mem, 0, 0, 0, 0, 0, 0, [], 0, false, false, 0⟩ : Pl) (warpG n i) (vs0 first mem) 0 0 := by
  have hl : (newP k J n first mem).ts.length = n := by simp [newP]
  refine ⟨rfl, rfl, fun t ht => ?_, ?_, ?_, fun t ht => ⟨?_, rfl⟩, rfl, rfl⟩
  · show t < (newP k J n first mem).ts.length
    rw [hl]; exact (warp_mem.1 ht).1
  · show first + (newP k J n first mem).ts.length ≤ mem.length
    rw [hl]; omega
  · show mem.length ≤ 32
    omega
  · have := (warp_mem.1 ht).1
    show (newP k J n first mem).ts.getD t thr0 = _
    rw [List.getD_eq_getElem?_getD]
    simp [newP, vs0, this]

/-- The first turn of a made kernel, with whatever budget is enough. -/
theorem first_turn {l : List Int} {J : List Int} (hJ : JoinsAre (kern l false) J) {n first : Nat} {mem : List Int} (hm : mem.length = 32) (hf : first ≤ 15) (h1 : 1 ≤ n) (hn : n ≤ 16) {R : Pl} (hR : playP (newP (kern l false) J n first mem) 0 2000 = R) :
    R.ends = false ∧ R.st = 0 ∧ R.fault = 0 ∧ R.steps = R.log.length ∧ R.log.length < 2000 ∧ ∃ b0 b1 rest, R.log = (0, b0) :: (1, b1) :: rest := by
  obtain ⟨ls, le, hk⟩ := kk l false
  have hjd := kern_joined l false hJ
  have hg : warpG n 0 ≠ [] := by
    have : 0 ∈ warpG n 0 := warp_mem.2 ⟨by omega, rfl⟩
    intro e; rw [e] at this; simp at this
  have hw : ((newP (kern l false) J n first mem).ws.getD 0 wrp0).at0 = 0 := by
    have : (newP (kern l false) J n first mem).ws[0]? = some ⟨0, false, false⟩ := by
      show (List.replicate ((n + 3) / 4) (⟨0, false, false⟩ : Wrp))[0]? = _
      rw [List.getElem?_replicate, if_pos (by omega)]
    rw [List.getD_eq_getElem?_getD, this]; rfl
  have hlen : (newP (kern l false) J n first mem).ts.length = n := by simp [newP]
  have hplay : playP (newP (kern l false) J n first mem) 0 2000 = runP (kern l false) J 2000 2000 ⟨(newP (kern l false) J n first mem).ts, mem, 0, 0, 0, 0, 0, 0, [], 0, false, false, 0⟩ (warpG n 0) ((0 : Nat) : Int) (-1) := by
    unfold playP
    rw [hw, hlen]; rfl
  rw [hplay] at hR
  have hsum := sum_warp (n := n) (first := first) (mem := mem) (i := 0) hk (by omega)
  have hinv : ∀ t ∈ warpG n 0, SInv (kern l false) false ls le (sv (vs0 first mem) 0 t) ∧ (vs0 first mem t).1.name = ((first + t : Nat) : Int) := fun t ht => by
    have := (warp_mem.1 ht).1
    exact ⟨sinv0 hk (by omega), by simp [vs0]⟩
  obtain ⟨rows, pc', vs', wt, hs, he, hd⟩ := run_loc (bud := 2000) (first := first) hk hjd 2000 (warpG n 0) (vs0 first mem) 0 0 0 (-1) hg (warp_lanes n 0) hinv (.inl ⟨rfl, rfl⟩) (by omega) (by omega)
  have hpre := new_pre (k := kern l false) (J := J) hm hf hn 0
  obtain ⟨hd1, hd2, -⟩ := hd _ hpre
  rw [hR] at hd1 hd2
  have hlog : R.log = rows := by have := hd1.log; simpa using this
  have hst : R.steps = rows.length := by have := hd1.steps; simpa using this
  have hbound : rows.length < 2000 := by
    have h2 := rows_le (warp_lanes n 0) hs.rb
    have h3 := sumP_mono (g := warpG n 0) (f := fun t => (wayT t rows).length) (h := fun t => sphi (kern l false) false ls le (sv (vs0 first mem) 0 t)) fun t ht => (hs.path t ht).len hk (hinv t ht).1
    unfold sums at hsum
    omega
  refine ⟨hd1.ends, hd1.st, hd1.fault, by rw [hst, hlog], by rw [hlog]; exact hbound, ?_⟩
  -- the first two steps
  have hx0 : (kern l false)[0]? = some ⟨8, 2, 0, 0⟩ := by
    have hlk := hk.len
    obtain ⟨x, hx⟩ : ∃ x, (kern l false)[0]? = some x := ⟨_, List.getElem?_eq_getElem (by omega)⟩
    rcases hk.ins 0 x hx (by omega) with ⟨-, rfl⟩ | ⟨h, -⟩
    · exact hx
    · omega
  have hlv : ∀ p, PreD first p (warpG n 0) (vs0 first mem) 0 0 → Goes 2000 p (warpG n 0) ((0 : Nat) : Int) (-1) := fun p hp => by
    refine ⟨hp.ends, hp.waits, ?_, hg, by omega, by rw [hp.steps]; omega⟩
    unfold liveL
    rw [List.filter_eq_self]
    intro t ht
    unfold isDone
    rw [(hp.loc t ht).1]; rfl
  have hnd : (warpG n 0).Nodup := (List.pairwise_map.1 (warp_lanes n 0)).imp fun h e => h (congrArg (· % 4) e)
  obtain ⟨dO, wO⟩ := Dyn.own (pc := 0) (x := ⟨8, 2, 0, 0⟩) hpre hnd (.inr (.inl rfl)) fun t ht e => by simp at e
  have e1 := step_own (J := J) (F := 1999) (hlv _ hpre) hx0 ⟨by decide, by decide⟩
  rw [e1] at hR
  generalize hq : eachP (issuedP (⟨(newP (kern l false) J n first mem).ts, mem, 0, 0, 0, 0, 0, 0, [], 0, false, false, 0⟩ : Pl) (warpG n 0) ((0 : Nat) : Int)) (warpG n 0) ((0 : Nat) : Int) ⟨8, 2, 0, 0⟩ = q at hR dO wO
  have hG1 : Goes 2000 q (warpG n 0) (((0 : Nat) : Int) + 1) (-1) := by
    refine ⟨dO.ends, wO, ?_, hg, by omega, by rw [dO.steps]; simp⟩
    unfold liveL
    rw [List.filter_eq_self]
    intro t ht
    unfold isDone
    rw [(dO.loc t ht).1]; rfl
  rw [goes_run (F := 1998) hG1] at hR
  have x1 := ext_does (kern l false) J (runP (kern l false) J 2000 1998) (fun p g a b => ext_run _ _ _ _ p g a b) (issuedP q (warpG n 0) (((0 : Nat) : Int) + 1)) (warpG n 0) (((0 : Nat) : Int) + 1)
  have x2 := x1.trans (ext_run (kern l false) J 2000 1998 _ (warpG n 0) (doesP (kern l false) J (runP (kern l false) J 2000 1998) (issuedP q (warpG n 0) (((0 : Nat) : Int) + 1)) (warpG n 0) (((0 : Nat) : Int) + 1)).2 (-1))
  rw [hR] at x2
  obtain ⟨ex, hex⟩ := x2
  have hl0 := dO.log
  refine ⟨((bits (warpG n 0) : Nat) : Int), ((bits (warpG n 0) : Nat) : Int), ex, ?_⟩
  rw [hex]
  simp only [issuedP]
  rw [hl0]
  rfl

/-- The same turn with a smaller budget. -/
theorem less_turn {l : List Int} {J : List Int} (hJ : JoinsAre (kern l false) J) {n first : Nat} {mem : List Int} (hm : mem.length = 32) (hf : first ≤ 15) (h1 : 1 ≤ n) (hn : n ≤ 16) {R r : Pl} (hR : playP (newP (kern l false) J n first mem) 0 2000 = R) {c : Nat} (hc : c ≤ R.log.length + 1) (hr : playP (newP (kern l false) J n first mem) 0 c = r) :
    (R.log.length ≤ c ∧ r = R) ∨ (c < R.log.length ∧ r.ends = true ∧ r.st = 3 ∧ r.steps = c ∧ r.fault = 0 ∧ r.log = R.log.take c) := by
  obtain ⟨a1, a2, a3, a4, a5, -⟩ := first_turn hJ hm hf h1 hn hR
  have hreg : Reg4 (newP (kern l false) J n first mem).ts := fun t ht => by
    simp only [newP, List.mem_map] at ht
    obtain ⟨i, -, rfl⟩ := ht
    rfl
  have hcnt : ∀ b, Cnt b (⟨(newP (kern l false) J n first mem).ts, (newP (kern l false) J n first mem).mem, (newP (kern l false) J n first mem).st, 0, 0, 0, 0, 0, [], 0, false, false, 0⟩ : Pl) := fun b => begin_cnt _ b
  unfold playP at hR hr
  rw [run_fuel c 2000 _ _ _ _ hreg (warp_len _ _) (hcnt c) (by simp) (by show c ≤ 0 + 2000; omega)] at hr
  have hcut := cut_run (k := (newP (kern l false) J n first mem).k) (J := (newP (kern l false) J n first mem).J) (show c ≤ 2000 by omega) 2000 (⟨(newP (kern l false) J n first mem).ts, (newP (kern l false) J n first mem).mem, (newP (kern l false) J n first mem).st, 0, 0, 0, 0, 0, [], 0, false, false, 0⟩ : Pl) (warpG (newP (kern l false) J n first mem).ts.length 0) ((newP (kern l false) J n first mem).ws.getD 0 wrp0).at0 (-1) hreg (warp_len _ _) (hcnt c) (by simp)
  have hfj := fj_run (newP (kern l false) J n first mem).k (newP (kern l false) J n first mem).J c 2000 (⟨(newP (kern l false) J n first mem).ts, (newP (kern l false) J n first mem).mem, (newP (kern l false) J n first mem).st, 0, 0, 0, 0, 0, [], 0, false, false, 0⟩ : Pl) (warpG (newP (kern l false) J n first mem).ts.length 0) ((newP (kern l false) J n first mem).ws.getD 0 wrp0).at0 (-1) (.inl rfl)
  rw [hR, hr] at hcut
  rw [hr] at hfj
  rcases hcut with ⟨e, hcn⟩ | ⟨c1, c2, c3, c4, c5, c6⟩
  · exact .inl ⟨by have := hcn.steps; omega, e⟩
  · refine .inr ⟨by omega, c1, c2, c3, ?_, c6⟩
    rcases hfj with h | ⟨-, h⟩
    · exact h
    · omega

end Go.Proofs.Ytbhbacphiinpeaa
