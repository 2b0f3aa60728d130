/- Groups of threads of a made kernel: what a run does to each thread; the words of it. Plain lists; nothing of the program is in this text. -/
import Derived.Test.YtbhbacphiinpeaaTd
namespace Go.Proofs.Ytbhbacphiinpeaa
open Go.RowKit

/-- Threads and their own words; a thread at a place. -/
abbrev VS := Nat → Thr × Int
def sv (vs : VS) (pc t : Nat) : SS := ⟨pc, (vs t).1, (vs t).2⟩
/-- The instructions that a log has for a thread. -/
def wayT (t : Nat) (rows : List (Int × Int)) : List Int := (rows.filter fun r => r.2.toNat.testBit (t % 4)).map (·.1)
theorem wayT_append (t : Nat) (a b : List (Int × Int)) : wayT t (a ++ b) = wayT t a ++ wayT t b := by simp [wayT]
theorem wayT_cons (t : Nat) (r : Int × Int) (b : List (Int × Int)) : wayT t (r :: b) = (if r.2.toNat.testBit (t % 4) then [r.1] else []) ++ wayT t b := by
  unfold wayT
  rw [List.filter_cons]
  split <;> simp

theorem bits_step : ∀ i < 4, ∀ x < 16, x.testBit i = false → (2 ^ i + x < 16 ∧ ∀ j < 4, (2 ^ i + x).testBit j = (decide (j = i) || x.testBit j)) := by decide

theorem bits_test : ∀ {g : List Nat}, (g.map (· % 4)).Nodup → bits g < 16 ∧ ∀ j, j < 4 → (bits g).testBit j = decide (∃ u ∈ g, u % 4 = j)
  | [], _ => ⟨by simp [bits], fun j _ => by simp [bits]⟩
  | u :: g, h => by
    rw [List.map_cons] at h
    obtain ⟨h1, h2⟩ := List.nodup_cons.1 h
    obtain ⟨i1, i2⟩ := bits_test h2
    have hu : u % 4 < 4 := Nat.mod_lt _ (by decide)
    have hb : (bits g).testBit (u % 4) = false := by
      rw [i2 _ hu, decide_eq_false_iff_not]
      rintro ⟨v, hv, e⟩
      exact h1 (List.mem_map.2 ⟨v, hv, e⟩)
    have e : bits (u :: g) = 2 ^ (u % 4) + bits g := by simp [bits]
    obtain ⟨s1, s2⟩ := bits_step _ hu _ i1 hb
    rw [e]
    refine ⟨s1, fun j hj => ?_⟩
    rw [s2 j hj, i2 j hj]
    by_cases e2 : j = u % 4
    · subst e2
      simp
    · have : ¬ u % 4 = j := fun h => e2 h.symm
      simp [e2, this]

def sumP (f : Nat → Nat) (g : List Nat) : Nat := (g.map f).sum
theorem sumP_mono {f h : Nat → Nat} : ∀ {g : List Nat}, (∀ t ∈ g, f t ≤ h t) → sumP f g ≤ sumP h g
  | [], _ => by simp [sumP]
  | t :: g, H => by
    have := sumP_mono (g := g) fun u hu => H u (by simp [hu])
    have := H t (by simp)
    simp only [sumP, List.map_cons, List.sum_cons] at *
    omega
theorem sumP_add (f h : Nat → Nat) : ∀ g : List Nat, sumP (fun t => f t + h t) g = sumP f g + sumP h g
  | [] => by simp [sumP]
  | t :: g => by
    have := sumP_add f h g
    simp only [sumP, List.map_cons, List.sum_cons] at *
    omega
theorem sumP_one (g : List Nat) : sumP (fun _ => 1) g = g.length := by
  induction g with
  | nil => rfl
  | cons t g ih => simp only [sumP, List.map_cons, List.sum_cons, List.length_cons] at *; omega
theorem sumP_lt {f h : Nat → Nat} {g : List Nat} (H : ∀ t ∈ g, f t + 1 ≤ h t) : sumP f g + g.length ≤ sumP h g := by
  rw [← sumP_one g, ← sumP_add]
  exact sumP_mono H
theorem sumP_filter (f : Nat → Nat) (P : Nat → Bool) : ∀ g : List Nat, sumP f (g.filter P) + sumP f (g.filter fun t => !P t) = sumP f g
  | [] => by simp [sumP]
  | t :: g => by
    have := sumP_filter f P g
    rw [List.filter_cons, List.filter_cons]
    cases hp : P t <;> simp only [sumP, List.map_cons, List.sum_cons, Bool.not_false, Bool.not_true, if_true, Bool.false_eq_true, if_false] at * <;> omega
theorem sumP_mem {f : Nat → Nat} {g : List Nat} {t : Nat} (h : t ∈ g) : f t ≤ sumP f g := by
  induction g with
  | nil => simp at h
  | cons u g ih =>
    simp only [sumP, List.map_cons, List.sum_cons] at *
    rcases List.mem_cons.1 h with rfl | h
    · omega
    · have := ih h; omega

def Rowed (g : List Nat) (rows : List (Int × Int)) : Prop := ∀ r ∈ rows, ∃ g', List.Sublist g' g ∧ g' ≠ [] ∧ r.2 = ((bits g' : Nat) : Int)

theorem lanes_sub {g g' : List Nat} (h : (g.map (· % 4)).Nodup) (hs : List.Sublist g' g) : (g'.map (· % 4)).Nodup := List.Sublist.nodup (hs.map _) h

theorem rows_le {g : List Nat} (hl : (g.map (· % 4)).Nodup) : ∀ {rows : List (Int × Int)}, Rowed g rows → rows.length ≤ sumP (fun t => (wayT t rows).length) g
  | [], _ => by simp
  | r :: rows, H => by
    have ih := rows_le hl (rows := rows) fun r hr => H r (by simp [hr])
    obtain ⟨g', h1, h2, h3⟩ := H r (by simp)
    have e : (fun t => (wayT t (r :: rows)).length) = fun t => (if r.2.toNat.testBit (t % 4) then 1 else 0) + (wayT t rows).length := by
      funext t
      rw [wayT_cons, List.length_append]
      split <;> rfl
    rw [e, sumP_add, List.length_cons]
    obtain ⟨u, hu⟩ : ∃ u, u ∈ g' := by
      cases g' with
      | nil => exact absurd rfl h2
      | cons u l => exact ⟨u, by simp⟩
    have := sumP_mem (f := fun t => if r.2.toNat.testBit (t % 4) then 1 else 0) (h1.subset hu)
    have hb : r.2.toNat.testBit (u % 4) = true := by
      rw [h3]
      have := (bits_test (lanes_sub hl h1)).2 (u % 4) (Nat.mod_lt _ (by decide))
      rw [Int.toNat_natCast, this, decide_eq_true_iff]
      exact ⟨u, hu, rfl⟩
    simp only [hb, if_true] at this
    omega

theorem lane_inj {g : List Nat} (h : (g.map (· % 4)).Nodup) {t u : Nat} (ht : t ∈ g) (hu : u ∈ g) (e : t % 4 = u % 4) : t = u := by
  induction g with
  | nil => simp at ht
  | cons v g ih =>
    rw [List.map_cons] at h
    obtain ⟨h1, h2⟩ := List.nodup_cons.1 h
    have key : ∀ {a b : Nat}, a % 4 = b % 4 → a ∈ g → ¬ b % 4 ∈ List.map (· % 4) g → False := fun {a b} e ha hb => hb (List.mem_map.2 ⟨a, ha, e⟩)
    by_cases e1 : t = v
    · by_cases e2 : u = v
      · rw [e1, e2]
      · have hu' : u ∈ g := by simpa [e2] using hu
        rw [e1] at e
        exact (key e.symm hu' h1).elim
    · have ht' : t ∈ g := by simpa [e1] using ht
      by_cases e2 : u = v
      · rw [e2] at e
        exact (key e ht' h1).elim
      · have hu' : u ∈ g := by simpa [e2] using hu
        exact ih h2 ht' hu'

theorem wayT_none {g : List Nat} (hl : (g.map (· % 4)).Nodup) {t : Nat} (ht : ∀ u ∈ g, u % 4 ≠ t % 4) : ∀ {rows : List (Int × Int)}, Rowed g rows → wayT t rows = []
  | [], _ => rfl
  | r :: rows, H => by
    obtain ⟨g', h1, h2, h3⟩ := H r (by simp)
    rw [wayT_cons, wayT_none hl ht (rows := rows) fun r hr => H r (by simp [hr]), h3, Int.toNat_natCast, (bits_test (lanes_sub hl h1)).2 (t % 4) (Nat.mod_lt _ (by decide)), if_neg]
    · rfl
    · rw [decide_eq_true_iff]
      rintro ⟨u, hu, e⟩
      exact ht u (h1.subset hu) e

theorem wayT_all {g : List Nat} (hl : (g.map (· % 4)).Nodup) {t : Nat} (ht : t ∈ g) (pc : Int) : wayT t [(pc, ((bits g : Nat) : Int))] = [pc] := by
  rw [wayT_cons, Int.toNat_natCast, (bits_test hl).2 (t % 4) (Nat.mod_lt _ (by decide)), if_pos (by rw [decide_eq_true_iff]; exact ⟨t, ht, rfl⟩)]
  rfl

/-- What a run does, as the threads of its group have it. -/
structure Sta (k : List Ins) (g : List Nat) (vs vs' : VS) (pc pc' : Nat) (rows : List (Int × Int)) : Prop where
  rb : Rowed g rows
  path : ∀ t ∈ g, Pth k (wayT t rows) (sv vs pc t) (sv vs' pc' t)

/-- What a run does to all the rest. -/
structure Dyn (first : Nat) (p q : Pl) (g : List Nat) (vs' : VS) (rows : List (Int × Int)) : Prop where
  tl : q.ts.length = p.ts.length
  ml : q.mem.length = p.mem.length
  oth : ∀ t, t ∉ g → q.ts.getD t thr0 = p.ts.getD t thr0
  mo : ∀ a, (∀ t ∈ g, a ≠ first + t) → q.mem.getD a 0 = p.mem.getD a 0
  st : q.st = p.st
  fault : q.fault = p.fault
  opn : q.opn = p.opn
  ends : q.ends = p.ends
  log : q.log = p.log ++ rows
  steps : q.steps = p.steps + rows.length
  loc : ∀ t ∈ g, q.ts.getD t thr0 = (vs' t).1 ∧ q.mem.getD (first + t) 0 = (vs' t).2

structure PreD (first : Nat) (p : Pl) (g : List Nat) (vs : VS) (n0 opn : Nat) : Prop where
  ends : p.ends = false
  waits : p.waits = false
  lt : ∀ t ∈ g, t < p.ts.length
  ml : first + p.ts.length ≤ p.mem.length
  m32 : p.mem.length ≤ 32
  loc : ∀ t ∈ g, p.ts.getD t thr0 = (vs t).1 ∧ p.mem.getD (first + t) 0 = (vs t).2
  steps : p.steps = n0
  opn : p.opn = opn

theorem Dyn.refl {first : Nat} {p : Pl} {g : List Nat} {vs : VS} {n0 opn : Nat} (h : PreD first p g vs n0 opn) : Dyn first p p g vs [] :=
  ⟨rfl, rfl, fun _ _ => rfl, fun _ _ => rfl, rfl, rfl, rfl, rfl, by simp, rfl, h.loc⟩

theorem Dyn.trans {first : Nat} {p q r : Pl} {g : List Nat} {vs' vs'' : VS} {a b : List (Int × Int)} (h : Dyn first p q g vs' a) (h' : Dyn first q r g vs'' b) : Dyn first p r g vs'' (a ++ b) where
  tl := h'.tl.trans h.tl
  ml := h'.ml.trans h.ml
  oth := fun t ht => (h'.oth t ht).trans (h.oth t ht)
  mo := fun x hx => (h'.mo x hx).trans (h.mo x hx)
  st := h'.st.trans h.st
  fault := h'.fault.trans h.fault
  opn := h'.opn.trans h.opn
  ends := h'.ends.trans h.ends
  log := by rw [h'.log, h.log, List.append_assoc]
  steps := by rw [h'.steps, h.steps, List.length_append]; omega
  loc := h'.loc

theorem Dyn.pre {first : Nat} {p q : Pl} {g : List Nat} {vs vs' : VS} {n0 opn : Nat} {rows : List (Int × Int)} (h : Dyn first p q g vs' rows) (hp : PreD first p g vs n0 opn) (hw : q.waits = false) : PreD first q g vs' (n0 + rows.length) opn :=
  ⟨h.ends.trans hp.ends, hw, fun t ht => by rw [h.tl]; exact hp.lt t ht, by rw [h.tl, h.ml]; exact hp.ml, by rw [h.ml]; exact hp.m32, h.loc, by rw [h.steps, hp.steps], by rw [h.opn, hp.opn]⟩

theorem Rowed.append {g : List Nat} {a b : List (Int × Int)} (h : Rowed g a) (h' : Rowed g b) : Rowed g (a ++ b) := fun r hr => by
  rcases List.mem_append.1 hr with hr | hr
  · exact h r hr
  · exact h' r hr

theorem Sta.refl (k : List Ins) (g : List Nat) (vs : VS) (pc : Nat) : Sta k g vs vs pc pc [] := ⟨fun r hr => by simp at hr, fun t _ => .refl _⟩

theorem Sta.trans {k : List Ins} {g : List Nat} {vs vs' vs'' : VS} {pc pc' pc'' : Nat} {a b : List (Int × Int)} (h : Sta k g vs vs' pc pc' a) (hd : ∀ t ∈ g, (vs' t).1.done = false) (h' : Sta k g vs' vs'' pc' pc'' b) : Sta k g vs vs'' pc pc'' (a ++ b) :=
  ⟨h.rb.append h'.rb, fun t ht => by rw [wayT_append]; exact (h.path t ht).trans (hd t ht) (h'.path t ht)⟩

def sums (k : List Ins) (ls le : Nat) (vs : VS) (pc : Nat) (g : List Nat) : Nat := sumP (fun t => sphi k false ls le (sv vs pc t)) g

theorem Sta.pre {k : List Ins} {ls le : Nat} (hk : KK k false ls le) {g : List Nat} {vs vs' : VS} {pc pc' : Nat} {rows : List (Int × Int)} (h : Sta k g vs vs' pc pc' rows) (hl : (g.map (· % 4)).Nodup) (hi : ∀ t ∈ g, SInv k false ls le (sv vs pc t)) (hd : ∀ t ∈ g, (vs' t).1.done = false) :
    (∀ t ∈ g, SInv k false ls le (sv vs' pc' t)) ∧ rows.length + sums k ls le vs' pc' g ≤ sums k ls le vs pc g := by
  have key := fun t (ht : t ∈ g) => (h.path t ht).inv hk (hi t ht) (hd t ht)
  refine ⟨fun t ht => (key t ht).1, ?_⟩
  have h1 := rows_le hl h.rb
  have h2 := sumP_mono (g := g) (f := fun t => sphi k false ls le (sv vs' pc' t) + (wayT t rows).length) (h := fun t => sphi k false ls le (sv vs pc t)) fun t ht => (key t ht).2
  rw [sumP_add] at h2
  unfold sums
  omega

/-- A step that all threads of a group make. -/
theorem Sta.one {k : List Ins} {g : List Nat} {vs vs' : VS} {pc m : Nat} {x : Ins} (hx : k[pc]? = some x) (hl : (g.map (· % 4)).Nodup) (hne : g ≠ []) (h1 : ∀ t ∈ g, sstep k (sv vs pc t) = sv vs' m t) : Sta k g vs vs' pc m [((pc : Int), ((bits g : Nat) : Int))] where
  rb := fun r hr => ⟨g, List.Sublist.refl g, hne, by simp at hr; rw [hr]⟩
  path := fun t ht => by
    rw [wayT_all hl ht, ← h1 t ht]
    exact Pth.one (s := sv vs pc t) hx

theorem Pth.name {k : List Ins} {tr : List Int} {s s' : SS} (h : Pth k tr s s') (hn : ∀ s : SS, (sstep k s).t.name = s.t.name) : s'.t.name = s.t.name := by
  induction h using Pth.ind with
  | refl s => rfl
  | step hx h0 _ ih => rw [ih, hn]
  | exit hx h0 => exact hn _

end Go.Proofs.Ytbhbacphiinpeaa
