/- The kernel that a list of numbers makes is a right one: plain lists; nothing of the program is in this text. -/
import Derived.Test.YtbhbacphiinpeaaPure
namespace Go.Proofs.Ytbhbacphiinpeaa
open Go.RowKit

def kern0 (al : Bool) : St := (⟨[], [], false, al⟩ : St).names 2
def kern1 (l : List Int) (al : Bool) : St := (kern0 al).lines (l.take 12)
def kern2 (l : List Int) (al : Bool) : St := (kern1 l al).closes (kern1 l al).op.length
def kern (l : List Int) (al : Bool) : List Ins := (((kern2 l al).put ⟨10, 0, 2, 0⟩).put ⟨0, 0, 0, 0⟩).k

theorem lines_snoc (s : St) (l : List Int) (c : Int) : s.lines (l ++ [c]) = (s.lines l).line (pickN c 1099511627776) := by
  induction l generalizing s with
  | nil => rfl
  | cons d l ih => exact ih _

theorem closes_done {s : St} (h : s.op.length = 0) (n : Nat) : s.closes n = s := by
  cases n with
  | zero => rfl
  | succ n => unfold St.closes; rw [if_pos h]

theorem closes_more {s : St} (h : s.op.length ≠ 0) (n : Nat) : s.closes (n + 1) = (s.close false).closes n := by
  rw [St.closes, if_neg h]

theorem fine0 (al : Bool) : Fine (kern0 al) ∧ (kern0 al).phi = 5 ∧ (kern0 al).op.length = 0 := by
  have h : Fine (⟨[], [], false, al⟩ : St) := ⟨fun x hx => by simp at hx, fun b hb => by simp at hb⟩
  exact ⟨h.names 2 (by omega) (by omega), by unfold kern0; rw [names_phi]; rfl, rfl⟩

theorem fineAt (l : List Int) (al : Bool) (k : Nat) (hk : k ≤ 12) : Fine ((kern0 al).lines (l.take k)) ∧ ((kern0 al).lines (l.take k)).phi ≤ 17 ∧ ((kern0 al).lines (l.take k)).op.length ≤ 12 := by
  obtain ⟨h1, h2, h3⟩ := fine0 al
  obtain ⟨h4, h5, h6⟩ := h1.lines (l.take k)
  have := List.length_take_le k l
  exact ⟨h4, by omega, by omega⟩

theorem fine2 (l : List Int) (al : Bool) : Fine (kern2 l al) ∧ (kern2 l al).phi ≤ 17 := by
  obtain ⟨h1, h2, h3⟩ := fineAt l al 12 (Nat.le_refl _)
  obtain ⟨h4, h5, -⟩ := h1.closes _ (Nat.le_refl _)
  exact ⟨h4, Nat.le_trans h5 h2⟩

theorem phi_len (s : St) : s.k.length ≤ s.phi := by unfold St.phi; omega

theorem kern_len (l : List Int) (al : Bool) : (kern l al).length = (kern2 l al).k.length + 2 ∧ (kern2 l al).k.length ≤ 17 := by
  have := phi_len (kern2 l al)
  have := (fine2 l al).2
  exact ⟨by simp [kern, St.put], by omega⟩

theorem kern_ok (l : List Int) (al : Bool) : ∀ x ∈ kern l al, okB (kern l al).length x = true := by
  obtain ⟨h1, -⟩ := fine2 l al
  have h2 := h1.put (x := ⟨10, 0, 2, 0⟩) (by simp [okB, bel])
  have hk : kern l al = ((kern2 l al).put ⟨10, 0, 2, 0⟩).k ++ [⟨0, 0, 0, 0⟩] := rfl
  have hl := (kern_len l al).1
  intro x hx
  rw [hl]
  rw [hk] at hx
  simp only [List.mem_append, List.mem_singleton] at hx
  rcases hx with hx | rfl
  · have := h2.ok x hx
    rw [put_len] at this
    exact okB_mono (by omega) this
  · simp [okB]

theorem kern_last (l : List Int) (al : Bool) : (kern l al)[(kern l al).length - 1]? = some ⟨0, 0, 0, 0⟩ := by
  have hk : kern l al = ((kern2 l al).put ⟨10, 0, 2, 0⟩).k ++ [⟨0, 0, 0, 0⟩] := rfl
  rw [hk]
  simp

theorem kern_chk (l : List Int) (al : Bool) : chk (kern l al) = (0, 0) := by
  have := kern_len l al
  exact chk_ok (by omega) (by omega) (fun j y hy => kern_ok l al y (List.mem_of_getElem? hy)) (kern_last l al) (.inl rfl)

/-- The slice v, as the world w has it, reads as the numbers l. -/
def SeesI (w : World) (v : Value) (l : List Int) : Prop :=
  l.length ≤ 9223372036854775807 ∧ (∀ (i : Nat) x, l[i]? = some x → -9223372036854775808 ≤ x ∧ x ≤ 9223372036854775807) ∧ ((l = [] ∧ ∃ ao cap, v = .slice ao 0 cap) ∨
    ∃ b off cap, v = .slice (some ⟨b, off, none⟩) l.length cap ∧ b < w.heap.size ∧ ∀ (i : Nat) x, l[i]? = some x → w.cell? ⟨b, off + i, none⟩ = some (.int .i64 x))

end Go.Proofs.Ytbhbacphiinpeaa
