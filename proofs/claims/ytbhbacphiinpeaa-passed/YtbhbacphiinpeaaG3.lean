/- What the document's 'passed' and 'Join' answer. -/
import Derived.Test.YtbhbacphiinpeaaG2
import Derived.Deep.RegionHeld3
namespace Go.Proofs.Ytbhbacphiinpeaa
open Go.RowKit

/-- Each way from n to an Exit comes by d, another instruction. -/
def Psd (k : List Ins) (n d : Nat) : Prop := n ≠ d ∧ ¬ Rch k (d : Int) n

/-- d is the first of the instructions that stand on each way from n to an Exit. -/
def IsFirst (k : List Ins) (n d : Nat) : Prop := d < k.length ∧ Psd k n d ∧ ∀ x, x < k.length → Psd k n x → x ≠ d → Psd k d x

/-- The join of n, as the document's answer has it. -/
def JoinIs (k : List Ins) (n : Nat) (j : Int) : Prop :=
  (¬ Rch k (-1) n ∧ j = -1) ∨ (Rch k (-1) n ∧ ((∃ d : Nat, IsFirst k n d ∧ j = (d : Int)) ∨ ((¬ ∃ d, IsFirst k n d) ∧ j = -1)))

/-- A kernel in memory whose ways stay within it. -/
def KAt (w : World) (b off n : Nat) (k : List Ins) : Prop := k.length = n ∧ 1 ≤ n ∧ n ≤ 40 ∧ Closed k ∧ b < w.heap.size ∧ (∀ (i : Nat) x, k[i]? = some x → 0 ≤ x.b) ∧
  ∀ (i : Nat) x, k[i]? = some x → w.cell? ⟨b, off + i * 4, none⟩ = some (.int .i64 x.o) ∧ w.cell? ⟨b, off + i * 4 + 1, none⟩ = some (.int .i64 x.a) ∧ w.cell? ⟨b, off + i * 4 + 2, none⟩ = some (.int .i64 x.b) ∧ w.cell? ⟨b, off + i * 4 + 3, none⟩ = some (.int .i64 x.c)

theorem KAt.up {w w' : World} {b off n : Nat} {k : List Ins} {B : Nat} (h : KAt w b off n k) (hB : w.heap.size ≤ B) (hb : Below B w w') : KAt w' b off n k := by
  obtain ⟨h1, h2, h3, h4, h5, h6, h7⟩ := h
  have hbB : b < B := Nat.lt_of_lt_of_le h5 hB
  refine ⟨h1, h2, h3, h4, Nat.lt_of_lt_of_le h5 hb.size, h6, fun i x hx => ?_⟩
  obtain ⟨c0, c1, c2, c3⟩ := h7 i x hx
  exact ⟨(hb.cell hbB).trans c0, (hb.cell hbB).trans c1, (hb.cell hbB).trans c2, (hb.cell hbB).trans c3⟩

/-- The instructions below d by which each way from n comes. -/
def AllTo (k : List Ins) (n d : Nat) (A : List Nat) : Prop := A.Nodup ∧ ∀ x, x ∈ A ↔ x < d ∧ Psd k n x

theorem AllTo.begin (k : List Ins) (n : Nat) : AllTo k n 0 [] := ⟨by simp, fun x => by simp⟩
theorem AllTo.yes {k : List Ins} {n d : Nat} {A : List Nat} (h : AllTo k n d A) (hp : Psd k n d) : AllTo k n (d + 1) (A ++ [d]) := by
  refine ⟨?_, fun x => ?_⟩
  · rw [List.nodup_append]
    refine ⟨h.1, by simp, fun a ha b hb => ?_⟩
    simp at hb
    subst hb
    intro e
    subst e
    have := ((h.2 a).1 ha).1
    omega
  · rw [List.mem_append, h.2 x]
    simp only [List.mem_singleton]
    constructor
    · rintro (⟨h1, h2⟩ | rfl)
      · exact ⟨by omega, h2⟩
      · exact ⟨by omega, hp⟩
    · rintro ⟨h1, h2⟩
      by_cases e : x = d
      · exact .inr e
      · exact .inl ⟨by omega, h2⟩
theorem AllTo.no {k : List Ins} {n d : Nat} {A : List Nat} (h : AllTo k n d A) (hp : ¬ Psd k n d) : AllTo k n (d + 1) A := by
  refine ⟨h.1, fun x => ?_⟩
  rw [h.2 x]
  constructor
  · rintro ⟨h1, h2⟩; exact ⟨by omega, h2⟩
  · rintro ⟨h1, h2⟩
    refine ⟨?_, h2⟩
    by_cases e : x = d
    · subst e; exact absurd h2 hp
    · omega
theorem AllTo.len {k : List Ins} {n d : Nat} {A : List Nat} (h : AllTo k n d A) : A.length ≤ d := nodup_len h.1 fun x hx => ((h.2 x).1 hx).1

/-- The i-th of them is the first. -/
theorem AllTo.first {k : List Ins} {n : Nat} {A : List Nat} {i x : Nat} (h : AllTo k n k.length A) (hx : A[i]? = some x) : IsFirst k n x ↔ ∀ t y, A[t]? = some y → t ≠ i → Psd k x y := by
  have hxA := (h.2 x).1 (List.mem_of_getElem? hx)
  have hinj : ∀ t y, A[t]? = some y → t ≠ i → y ≠ x := fun t y ht hne e => by
    subst e
    obtain ⟨h1, e1⟩ := List.getElem?_eq_some_iff.1 ht
    obtain ⟨h2, e2⟩ := List.getElem?_eq_some_iff.1 hx
    have hp := List.pairwise_iff_getElem.1 h.1
    by_cases hti : t < i
    · exact hp t i h1 h2 hti (e1.trans e2.symm)
    · exact hp i t h2 h1 (by omega) (e2.trans e1.symm)
  constructor
  · rintro ⟨h1, h2, h3⟩ t y ht hne
    have hy := (h.2 y).1 (List.mem_of_getElem? ht)
    exact h3 y hy.1 hy.2 (hinj t y ht hne)
  · intro hall
    refine ⟨hxA.1, hxA.2, fun y hy1 hy2 hne => ?_⟩
    obtain ⟨t, ht⟩ := List.mem_iff_getElem?.1 ((h.2 y).2 ⟨hy1, hy2⟩)
    refine hall t y ht (fun e => hne ?_)
    subst e
    rw [hx] at ht
    exact (Option.some.inj ht).symm

end Go.Proofs.Ytbhbacphiinpeaa
