/- Threads of a made kernel, each by itself and in its group: plain lists; nothing of the program is in this text. -/
import Derived.Test.YtbhbacphiinpeaaTc
namespace Go.Proofs.Ytbhbacphiinpeaa
open Go.RowKit

/-- A thread goes from s to s', and tr is its way; behind an Exit there is nothing. -/
def Pth (k : List Ins) : List Int → SS → SS → Prop
  | [], s, s' => s = s'
  | v :: tr, s, s' => v = (s.pc : Int) ∧ ∃ x, k[s.pc]? = some x ∧ ((x.o ≠ 0 ∧ Pth k tr (sstep k s) s') ∨ (x.o = 0 ∧ tr = [] ∧ s' = sstep k s))
theorem Pth.refl {k : List Ins} (s : SS) : Pth k [] s s := rfl
theorem Pth.step {k : List Ins} {s s' : SS} {x : Ins} {tr : List Int} (hx : k[s.pc]? = some x) (h0 : x.o ≠ 0) (h : Pth k tr (sstep k s) s') : Pth k ((s.pc : Int) :: tr) s s' := ⟨rfl, x, hx, .inl ⟨h0, h⟩⟩
theorem Pth.exit {k : List Ins} {s : SS} {x : Ins} (hx : k[s.pc]? = some x) (h0 : x.o = 0) : Pth k [(s.pc : Int)] s (sstep k s) := ⟨rfl, x, hx, .inr ⟨h0, rfl, rfl⟩⟩
theorem Pth.ind {k : List Ins} {motive : (tr : List Int) → (s s' : SS) → Pth k tr s s' → Prop} (refl : ∀ s, motive [] s s (Pth.refl s))
    (step : ∀ {s s' : SS} {x : Ins} {tr : List Int} (hx : k[s.pc]? = some x) (h0 : x.o ≠ 0) (h : Pth k tr (sstep k s) s'), motive tr (sstep k s) s' h → motive ((s.pc : Int) :: tr) s s' (Pth.step hx h0 h))
    (exit : ∀ {s : SS} {x : Ins} (hx : k[s.pc]? = some x) (h0 : x.o = 0), motive [(s.pc : Int)] s (sstep k s) (Pth.exit hx h0)) {tr : List Int} {s s' : SS} (h : Pth k tr s s') : motive tr s s' h := by
  induction tr generalizing s with
  | nil =>
    have e : s = s' := h
    subst e
    exact refl s
  | cons v tr ih =>
    obtain ⟨rfl, x, hx, ⟨h0, h⟩ | ⟨h0, rfl, rfl⟩⟩ := h
    · exact step hx h0 h (ih h)
    · exact exit hx h0
theorem Pth.parts {k : List Ins} {tr : List Int} {s s' : SS} (h : Pth k tr s s') : (tr = [] ∧ s = s') ∨ (∃ x tr', tr = (s.pc : Int) :: tr' ∧ k[s.pc]? = some x ∧ x.o ≠ 0 ∧ Pth k tr' (sstep k s) s') ∨ (∃ x, tr = [(s.pc : Int)] ∧ k[s.pc]? = some x ∧ x.o = 0 ∧ s' = sstep k s) := by
  cases tr with
  | nil => exact .inl ⟨rfl, h⟩
  | cons v tr =>
    obtain ⟨rfl, x, hx, ⟨h0, h⟩ | ⟨h0, rfl, rfl⟩⟩ := h
    · exact .inr (.inl ⟨x, tr, rfl, hx, h0, h⟩)
    · exact .inr (.inr ⟨x, rfl, hx, h0, rfl⟩)

theorem sstep_exit {k : List Ins} {s : SS} {x : Ins} (hx : k[s.pc]? = some x) (h0 : x.o = 0) : sstep k s = ⟨s.pc + 1, { s.t with done := true }, s.w⟩ := by
  unfold sstep; rw [hx]; dsimp only; rw [if_pos h0]

theorem Pth.one {k : List Ins} {s : SS} {x : Ins} (hx : k[s.pc]? = some x) : Pth k [(s.pc : Int)] s (sstep k s) := by
  by_cases h0 : x.o = 0
  · exact .exit hx h0
  · exact .step hx h0 (.refl _)

theorem Pth.trans {k : List Ins} {tr tr' : List Int} {s s' s'' : SS} (h : Pth k tr s s') (hd : s'.t.done = false) (h' : Pth k tr' s' s'') : Pth k (tr ++ tr') s s'' := by
  induction h using Pth.ind with
  | refl s => exact h'
  | step hx h0 _ ih => exact .step hx h0 (ih hd h')
  | exit hx h0 => rw [sstep_exit hx h0] at hd; simp at hd

theorem Pth.inv {k : List Ins} {al : Bool} {ls le : Nat} (hk : KK k al ls le) {tr : List Int} {s s' : SS} (h : Pth k tr s s') (hs : SInv k al ls le s) (hd : s'.t.done = false) : SInv k al ls le s' ∧ sphi k al ls le s' + tr.length ≤ sphi k al ls le s := by
  induction h using Pth.ind with
  | refl s => exact ⟨hs, by simp⟩
  | step hx h0 _ ih =>
    obtain ⟨h1, h2⟩ := sinv_step hk hs hx h0
    obtain ⟨h3, h4⟩ := ih h1 hd
    exact ⟨h3, by rw [List.length_cons]; omega⟩
  | exit hx h0 => rw [sstep_exit hx h0] at hd; simp at hd

theorem sphi_pos {k : List Ins} {al : Bool} {ls le : Nat} {s : SS} (h : s.pc < k.length) : 1 ≤ sphi k al ls le s := by
  unfold sphi; split
  · omega
  · split <;> omega

theorem Pth.len {k : List Ins} {al : Bool} {ls le : Nat} (hk : KK k al ls le) {tr : List Int} {s s' : SS} (h : Pth k tr s s') (hs : SInv k al ls le s) : tr.length ≤ sphi k al ls le s := by
  induction h using Pth.ind with
  | refl s => simp
  | step hx h0 _ ih =>
    obtain ⟨h1, h2⟩ := sinv_step hk hs hx h0
    have := ih h1
    rw [List.length_cons]; omega
  | exit hx h0 => exact sphi_pos hs.pc

/-- There is one way to the end. -/
theorem Pth.det {k : List Ins} {tr tr' : List Int} {s a b : SS} (h : Pth k tr s a) (h' : Pth k tr' s b) (hs : s.t.done = false) (ha : a.t.done = true) (hb : b.t.done = true)
    (hd : ∀ s : SS, ∀ x, k[s.pc]? = some x → x.o ≠ 0 → (sstep k s).t.done = s.t.done) : tr = tr' ∧ a = b := by
  induction h using Pth.ind generalizing tr' with
  | refl s => rw [hs] at ha; simp at ha
  | step hx h0 _ ih =>
    rcases h'.parts with ⟨-, rfl⟩ | ⟨y, tr2, rfl, hx', h0', h''⟩ | ⟨y, rfl, hx', h0', -⟩
    · rw [hs] at hb; simp at hb
    · obtain ⟨e1, e2⟩ := ih h'' (by rw [hd _ _ hx h0]; exact hs) ha
      exact ⟨by rw [e1], e2⟩
    · rw [hx] at hx'; cases hx'; exact absurd h0' h0
  | exit hx h0 =>
    rcases h'.parts with ⟨-, rfl⟩ | ⟨y, tr2, rfl, hx', h0', h''⟩ | ⟨y, rfl, hx', h0', rfl⟩
    · rw [hs] at hb; simp at hb
    · rw [hx] at hx'; cases hx'; exact absurd h0 h0'
    · exact ⟨rfl, rfl⟩

/-- Instructions that a thread of a made kernel does by itself. -/
def OwnK (x : Ins) : Prop := Pln x ∨ x = ⟨8, 2, 0, 0⟩ ∨ x = ⟨8, 3, 0, 0⟩ ∨ x = ⟨3, 3, 3, 1⟩

theorem ownK_o {x : Ins} (h : OwnK x) : isOwnP x.o := by
  rcases h with h | rfl | rfl | rfl
  · have := (pln_o h).2.2.2; exact ⟨this.1, this.2⟩
  · exact ⟨by decide, by decide⟩
  · exact ⟨by decide, by decide⟩
  · exact ⟨by decide, by decide⟩

theorem set_getD (mem : List Int) (a : Nat) : mem.set a (mem.getD a 0) = mem := by
  apply List.ext_getElem?
  intro i
  rw [List.getElem?_set]
  split
  · rename_i e
    subst e
    split
    · rename_i h; simp [List.getD_eq_getElem?_getD, List.getElem?_eq_getElem h]
    · rename_i h; rw [List.getElem?_eq_none (by omega)]
  · rfl

theorem one_own {x : Ins} (hx : OwnK x) {t : Thr} {mem : List Int} {a : Nat} (ha : a < mem.length) (hm : mem.length ≤ 32) (h2 : x.o = 9 ∨ x.o = 10 → t.get 2 = (a : Int)) :
    (oneP x t mem).1 = 0 ∧ (oneP x t mem).2.2.1 = (ownS x t (mem.getD a 0)).1 ∧ (oneP x t mem).2.2.2 = mem.set a (ownS x t (mem.getD a 0)).2 := by
  have hw : W64 ((a : Int) + 0) = (a : Int) := by unfold W64 wrap64; omega
  have hs := set_getD mem a
  obtain ⟨w, ew⟩ : ∃ w, mem.getD a 0 = w := ⟨_, rfl⟩
  rw [ew] at hs ⊢
  rcases hx with (rfl | rfl | rfl | rfl | rfl | ⟨v, rfl⟩ | rfl | rfl | rfl) | rfl | rfl | rfl
  · simp only [oneP, ownS]; simp [hs]
  · simp only [oneP, ownS]; simp [hs]
  · simp only [oneP, ownS]; simp [hs]
  · simp only [oneP, ownS]; simp [hs]
  · simp only [oneP, ownS]; simp [hs]
  · simp only [oneP, ownS]; simp [hs]
  · have e : t.get 2 = (a : Int) := h2 (.inr rfl)
    have hn : ¬ (W64 (t.get 2 + 0) < 0 ∨ (mem.length : Int) ≤ W64 (t.get 2 + 0)) := by rw [e, hw]; omega
    have e1 : oneP ⟨10, 0, 2, 0⟩ t mem = (0, W64 (t.get 2 + 0), t, mem.set (W64 (t.get 2 + 0)).toNat (t.get 0)) := by
      simp only [oneP, memP]
      rw [if_neg hn]
      simp
    rw [e1, e, hw]
    simp [ownS]
  · have e : t.get 2 = (a : Int) := h2 (.inl rfl)
    have hn : ¬ (W64 (t.get 2 + 0) < 0 ∨ (mem.length : Int) ≤ W64 (t.get 2 + 0)) := by rw [e, hw]; omega
    have e1 : oneP ⟨9, 1, 2, 0⟩ t mem = (0, W64 (t.get 2 + 0), t.put 1 (mem.getD (W64 (t.get 2 + 0)).toNat 0), mem) := by
      simp only [oneP, memP]
      rw [if_neg hn]
      simp
    rw [e1, e, hw, Int.toNat_natCast, ew]
    simp [ownS, hs]
  · simp only [oneP, ownS]; simp [hs]
  · simp only [oneP, ownS]; simp [hs]
  · simp only [oneP, ownS]; simp [hs]
  · simp only [oneP, ownS]; simp [hs]

theorem getD_setM (l : List Int) (i j : Nat) (x : Int) : (l.set i x).getD j 0 = if i = j ∧ i < l.length then x else l.getD j 0 := by
  simp only [List.getD_eq_getElem?_getD, List.getElem?_set]
  by_cases e : i = j
  · subst e
    by_cases h : i < l.length
    · simp [h]
    · simp [h]
  · simp [e]

/-- The threads of a group, each with its own word. -/
theorem each_own {x : Ins} (hx : OwnK x) (first : Nat) : ∀ (g : List Nat) (ts : List Thr) (mem : List Int), g.Nodup → (∀ t ∈ g, t < ts.length ∧ (x.o = 9 ∨ x.o = 10 → (ts.getD t thr0).get 2 = ((first + t : Nat) : Int))) → first + ts.length ≤ mem.length → mem.length ≤ 32 →
    (eachL x g ts mem).2.2.2 = none ∧ (eachL x g ts mem).1.length = ts.length ∧ (eachL x g ts mem).2.1.length = mem.length ∧
    (∀ t ∈ g, (eachL x g ts mem).1.getD t thr0 = (ownS x (ts.getD t thr0) (mem.getD (first + t) 0)).1 ∧ (eachL x g ts mem).2.1.getD (first + t) 0 = (ownS x (ts.getD t thr0) (mem.getD (first + t) 0)).2) ∧
    (∀ t, t ∉ g → (eachL x g ts mem).1.getD t thr0 = ts.getD t thr0) ∧ (∀ a, (∀ t ∈ g, a ≠ first + t) → (eachL x g ts mem).2.1.getD a 0 = mem.getD a 0)
  | [], ts, mem, _, _, _, _ => by simp [eachL]
  | t :: g, ts, mem, hn, hg, hm, h32 => by
    obtain ⟨hn1, hn2⟩ := List.nodup_cons.1 hn
    obtain ⟨ht, hr2⟩ := hg t (by simp)
    obtain ⟨o1, o2, o3⟩ := one_own hx (t := ts.getD t thr0) (mem := mem) (a := first + t) (by omega) h32 hr2
    unfold eachL
    rw [if_neg (by rw [o1]; simp), o2, o3]
    dsimp only
    have ih := each_own hx first g (ts.set t (ownS x (ts.getD t thr0) (mem.getD (first + t) 0)).1) (mem.set (first + t) (ownS x (ts.getD t thr0) (mem.getD (first + t) 0)).2) hn2 (fun u hu => by
      have hne : t ≠ u := fun e => hn1 (e ▸ hu)
      rw [List.length_set, getD_set, if_neg (by simp [hne])]
      exact hg u (by simp [hu])) (by simpa using hm) (by simpa using h32)
    obtain ⟨i1, i2, i3, i4, i5, i6⟩ := ih
    refine ⟨i1, by rw [i2, List.length_set], by rw [i3, List.length_set], fun u hu => ?_, fun u hu => ?_, fun a ha => ?_⟩
    · by_cases e : u ∈ g
      · obtain ⟨j1, j2⟩ := i4 u e
        have hne : t ≠ u := fun e2 => hn1 (e2 ▸ e)
        rw [j1, j2, getD_set, if_neg (by simp [hne]), getD_setM, if_neg (by omega)]
        exact ⟨rfl, rfl⟩
      · have eu : u = t := by simpa [e] using hu
        subst eu
        rw [i5 u e, i6 (first + u) (fun v hv e2 => e (by rw [show u = v by omega]; exact hv)), getD_set, if_pos ⟨rfl, ht⟩, getD_setM, if_pos ⟨rfl, by omega⟩]
        exact ⟨rfl, rfl⟩
    · rw [List.mem_cons, not_or] at hu
      rw [i5 u hu.2, getD_set, if_neg (by intro e; exact hu.1 e.1.symm)]
    · rw [i6 a (fun u hu => ha u (by simp [hu])), getD_setM, if_neg (by intro e; exact ha t (by simp) e.1.symm)]

end Go.Proofs.Ytbhbacphiinpeaa
