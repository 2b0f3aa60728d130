/- What the program works out of the ways in a kernel: plain lists; nothing of the program is in this text. -/
import Derived.Test.YtbhbacphiinpeaaGreatG3
namespace Go.Proofs.YtbhbacphiinpeaaGreat
open Go.RowKit

/-- Is there an instruction m, and is it marked? -/
def mkd (E : List Bool) (m : Int) : Bool := if 0 ≤ m then E.getD m.toNat false else false

theorem mkd_nat (E : List Bool) (n : Nat) : mkd E (n : Int) = true ↔ E[n]? = some true := by
  unfold mkd
  rw [if_pos (by omega)]
  simp only [Int.toNat_natCast, List.getD_eq_getElem?_getD]
  cases h : E[n]? with
  | none => simp
  | some b => simp

theorem mkd_int {E : List Bool} {m : Int} (h : 0 ≤ m) : mkd E m = true ↔ E[m.toNat]? = some true := by
  have := mkd_nat E m.toNat
  rwa [Int.toNat_of_nonneg h] at this

/-- Is the instruction an Exit, or is one marked that comes next? -/
def bhd (E : List Bool) (x : Ins) (n : Nat) : Bool := if x.o = 0 then true else if x.o = 12 then mkd E x.b else if x.o = 13 then (mkd E x.b || mkd E ((n : Int) + 1)) else mkd E ((n : Int) + 1)

def Sound (k : List Ins) (av : Int) (E : List Bool) : Prop := E.length = k.length ∧ ∀ i : Nat, E[i]? = some true → (i : Int) ≠ av ∧ Rch k av i
def Whole (k : List Ins) (av : Int) (E : List Bool) : Prop := ∀ (i : Nat) x, k[i]? = some x → (i : Int) ≠ av → bhd E x i = true → E[i]? = some true
def Ends (k : List Ins) (av : Int) (E : List Bool) : Prop := E.length = k.length ∧ ∀ i : Nat, E[i]? = some true ↔ ((i : Int) ≠ av ∧ Rch k av i)

theorem bhd_iff {k : List Ins} {E : List Bool} {n : Nat} {x : Ins} (hx : k[n]? = some x) (hb : 0 ≤ x.b) : bhd E x n = true ↔ isEnd k n ∨ ∃ m ∈ nxt k n, E[m]? = some true := by
  have hn : nxt k n = if x.o = 0 then [] else if x.o = 12 then [x.b.toNat] else if x.o = 13 then [x.b.toNat, n + 1] else [n + 1] := by unfold nxt; rw [hx]
  have he : isEnd k n ↔ x.o = 0 := ⟨fun ⟨y, h1, h2⟩ => by rw [hx] at h1; cases h1; exact h2, fun h => ⟨x, hx, h⟩⟩
  have h1 : mkd E ((n : Int) + 1) = true ↔ E[n + 1]? = some true := by
    have := mkd_nat E (n + 1)
    rwa [show ((n + 1 : Nat) : Int) = (n : Int) + 1 by omega] at this
  have h2 := mkd_int (E := E) hb
  rw [he, hn]
  unfold bhd
  by_cases h0 : x.o = 0
  · simp [h0]
  rw [if_neg h0, if_neg h0]
  by_cases h12 : x.o = 12
  · rw [if_pos h12, if_pos h12, h2]; simp [h12]
  rw [if_neg h12, if_neg h12]
  by_cases h13 : x.o = 13
  · rw [if_pos h13, if_pos h13, Bool.or_eq_true, h1, h2]; simp [h13]
  rw [if_neg h13, if_neg h13, h1]
  simp [h0]

theorem bhd_sound {k : List Ins} {av : Int} {E : List Bool} {n : Nat} {x : Ins} (hs : Sound k av E) (hx : k[n]? = some x) (hb : 0 ≤ x.b) (h : bhd E x n = true) : Rch k av n := by
  rcases (bhd_iff hx hb).1 h with he | ⟨m, hm, hE⟩
  · exact ⟨[], he⟩
  · obtain ⟨h1, p, hp⟩ := hs.2 m hE
    exact ⟨m :: p, hm, h1, hp⟩

theorem way_in {k : List Ins} {wo : Int} {n : Nat} {p : List Nat} (h : IsWay k wo n p) : ∃ x, k[n]? = some x := by
  cases p with
  | nil => obtain ⟨x, hx, -⟩ := h; exact ⟨x, hx⟩
  | cons m p =>
    obtain ⟨h1, -⟩ := h
    cases hx : k[n]? with
    | none => unfold nxt at h1; rw [hx] at h1; simp at h1
    | some x => exact ⟨x, rfl⟩

theorem whole_all {k : List Ins} {av : Int} {E : List Bool} (hb : ∀ (i : Nat) x, k[i]? = some x → 0 ≤ x.b) (hw : Whole k av E) : ∀ (p : List Nat) (n : Nat), (n : Int) ≠ av → IsWay k av n p → E[n]? = some true
  | [], n, hn, h => by
    obtain ⟨x, hx⟩ := way_in h
    exact hw n x hx hn ((bhd_iff hx (hb n x hx)).2 (.inl h))
  | m :: p, n, hn, h => by
    obtain ⟨x, hx⟩ := way_in h
    obtain ⟨h1, h2, h3⟩ := h
    exact hw n x hx hn ((bhd_iff hx (hb n x hx)).2 (.inr ⟨m, h1, whole_all hb hw p m h2 h3⟩))

theorem ends_of {k : List Ins} {av : Int} {E : List Bool} (hb : ∀ (i : Nat) x, k[i]? = some x → 0 ≤ x.b) (hs : Sound k av E) (hw : Whole k av E) : Ends k av E :=
  ⟨hs.1, fun i => ⟨hs.2 i, fun ⟨h1, p, hp⟩ => whole_all hb hw p i h1 hp⟩⟩

theorem sound_none (k : List Ins) (av : Int) : Sound k av (List.replicate k.length false) := by
  refine ⟨by simp, fun i h => ?_⟩
  rw [List.getElem?_replicate] at h
  split at h <;> simp at h

theorem sound_set {k : List Ins} {av : Int} {E : List Bool} {n : Nat} {x : Ins} (hs : Sound k av E) (hx : k[n]? = some x) (hb : 0 ≤ x.b) (hn : (n : Int) ≠ av) (h : bhd E x n = true) : Sound k av (E.set n true) := by
  refine ⟨by simp [hs.1], fun i hi => ?_⟩
  rw [List.getElem?_set] at hi
  by_cases e : n = i
  · subst e
    exact ⟨hn, bhd_sound hs hx hb h⟩
  · rw [if_neg e] at hi
    exact hs.2 i hi

theorem count_set : ∀ {E : List Bool} {n : Nat}, E[n]? = some false → (E.set n true).count true = E.count true + 1
  | [], n, h => by simp at h
  | b :: E, 0, h => by simp at h; subst h; simp
  | b :: E, n + 1, h => by
    simp only [List.getElem?_cons_succ] at h
    have := count_set h
    simp only [List.set_cons_succ, List.count_cons, this]
    omega

theorem all_of_count {E : List Bool} (h : E.length ≤ E.count true) : ∀ b ∈ E, b = true := by
  have h1 := List.count_le_length (a := true) (l := E)
  have h2 := List.count_eq_length.1 (Nat.le_antisymm h1 h)
  exact fun b hb => (h2 b hb).symm

theorem whole_of_count {k : List Ins} {av : Int} {E : List Bool} (hl : E.length = k.length) (h : k.length ≤ E.count true) : Whole k av E := by
  intro i x hx _ _
  have hi : i < E.length := by rw [hl]; exact (List.getElem?_eq_some_iff.1 hx).1
  rw [List.getElem?_eq_getElem hi]
  rw [all_of_count (by omega) _ (List.getElem_mem hi)]

/-- The row of d: by which instructions does each way come by d? -/
def OnRow (k : List Ins) (d : Nat) (R : List Bool) : Prop := R.length = k.length ∧ ∀ n : Nat, R[n]? = some true ↔ (Rch k (-1) n ∧ Psd k n d)
def On (k : List Ins) (M : List (List Bool)) : Prop := M.length = k.length ∧ ∀ (d : Nat) R, M[d]? = some R → OnRow k d R

/-- What stands at n in the row of d. -/
def onB (E W : List Bool) (d n : Nat) : Bool := decide (n ≠ d) && (mkd E n && !mkd W n)

theorem onB_iff {k : List Ins} {E W : List Bool} {d n : Nat} (hE : Ends k (-1) E) (hW : Ends k (d : Int) W) : onB E W d n = true ↔ (Rch k (-1) n ∧ Psd k n d) := by
  unfold onB Psd
  rw [Bool.and_eq_true, Bool.and_eq_true, decide_eq_true_iff, mkd_nat, hE.2, Bool.not_eq_true', ← Bool.not_eq_true, mkd_nat, hW.2]
  have h1 : ((n : Int) ≠ -1) := by omega
  constructor
  · rintro ⟨a, ⟨-, b⟩, c⟩
    exact ⟨b, a, fun h => c ⟨by omega, h⟩⟩
  · rintro ⟨b, a, c⟩
    exact ⟨a, ⟨h1, b⟩, fun h => c h.2⟩

theorem onRow_of {k : List Ins} {E W R : List Bool} {d : Nat} (hE : Ends k (-1) E) (hW : Ends k (d : Int) W) (hl : R.length = k.length) (h : ∀ (n : Nat) b, R[n]? = some b → b = onB E W d n) : OnRow k d R := by
  refine ⟨hl, fun n => ?_⟩
  rw [← onB_iff hE hW]
  constructor
  · intro hn; exact (h n true hn).symm
  · intro hn
    by_cases hlt : n < R.length
    · have e : R[n]? = some R[n] := List.getElem?_eq_getElem hlt
      rw [e, h n _ e, hn]
    · obtain ⟨⟨p, hp⟩, -⟩ := (onB_iff hE hW).1 hn
      obtain ⟨x, hx⟩ := way_in hp
      have := (List.getElem?_eq_some_iff.1 hx).1
      omega

end Go.Proofs.YtbhbacphiinpeaaGreat
