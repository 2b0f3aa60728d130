/- The bytes of a kernel: plain facts; nothing of the program is in this text. -/
import Derived.Test.YtbhbacphiinpeaaView
namespace Go.Proofs.Ytbhbacphiinpeaa
open Go.RowKit

def Ins.nums (x : Ins) : List Int := [x.o, x.a, x.b, x.c]
def nums (l : List Ins) : List Int := l.flatMap Ins.nums
def encR (l : List Ins) : ByteArray := if (chk l).1 = 0 then strOfNums (nums l) else ⟨#[]⟩

theorem nums_length (l : List Ins) : (nums l).length = 4 * l.length := by
  induction l with
  | nil => rfl
  | cons x l ih => simp only [nums, List.flatMap_cons, List.length_append, List.length_cons] at ih ⊢; rw [ih]; simp [Ins.nums]; omega

theorem nums_snoc {l : List Ins} {k : Nat} {x : Ins} (h : l[k]? = some x) : nums (l.take (k + 1)) = nums (l.take k) ++ x.nums := by
  have hk : k < l.length := (List.getElem?_eq_some_iff.1 h).1
  have e : l[k] = x := by rw [List.getElem?_eq_getElem hk] at h; exact Option.some.inj h
  rw [List.take_succ_eq_append_getElem hk, e]
  simp [nums]

theorem bel_bd {n m : Int} (h : bel n m = true) : 0 ≤ n ∧ n < m := by simpa [bel] using h

theorem okB_bd {n : Int} {x : Ins} (hn : n ≤ 40) (h : okB n x = true) : (0 ≤ x.o ∧ x.o ≤ 255) ∧ (0 ≤ x.a ∧ x.a ≤ 255) ∧ (0 ≤ x.b ∧ x.b ≤ 255) ∧ (0 ≤ x.c ∧ x.c ≤ 255) := by
  unfold okB at h
  split at h
  · simp only [Bool.and_eq_true, beq_iff_eq] at h; omega
  split at h
  · simp only [Bool.and_eq_true, beq_iff_eq] at h
    have := bel_bd h.1.1; have := bel_bd h.1.2; omega
  split at h
  · simp only [Bool.and_eq_true] at h
    have := bel_bd h.1.1; have := bel_bd h.1.2; have := bel_bd h.2; omega
  split at h
  · simp only [Bool.and_eq_true, beq_iff_eq] at h
    have := bel_bd h.1.1; omega
  split at h
  · simp only [Bool.and_eq_true] at h
    have := bel_bd h.1.1; have := bel_bd h.1.2; have := bel_bd h.2; omega
  split at h
  · simp only [Bool.and_eq_true, beq_iff_eq] at h
    have := bel_bd h.1.2; omega
  split at h
  · simp only [Bool.and_eq_true, beq_iff_eq] at h
    have := bel_bd h.1.1; have := bel_bd h.1.2; omega
  · cases h

/-- What a right kernel is. -/
theorem chk_zero {l : List Ins} (h : (chk l).1 = 0) : chk l = (0, 0) ∧ 1 ≤ l.length ∧ l.length ≤ 40 ∧ ∀ (j : Nat) y, l[j]? = some y → okB l.length y = true := by
  unfold chk at h ⊢
  by_cases hs : l.length < 1 ∨ 40 < l.length
  · rw [if_pos hs] at h; simp at h
  · rw [if_neg hs] at h ⊢
    cases hb : badAt l.length l with
    | some i => rw [hb] at h; simp at h
    | none =>
      rw [hb] at h
      refine ⟨?_, by omega, by omega, ?_⟩
      · dsimp only at h ⊢
        by_cases hf : lastOp l ≠ 0 ∧ lastOp l ≠ 12
        · rw [if_pos hf] at h; simp at h
        · rw [if_neg hf]
      · intro j y hy
        unfold badAt at hb
        rw [List.findIdx?_eq_none_iff] at hb
        have := hb y (List.mem_of_getElem? hy)
        simpa using this

/-- What an image is refused with, and the kernel that it is the image of. -/
def dchk (s : ByteArray) : Int × Int := if s.size % 4 ≠ 0 ∨ 160 < s.size then (1, 0) else chk (unp s (s.size / 4))
def decL (s : ByteArray) : List Ins := if (dchk s).1 = 0 then unp s (s.size / 4) else []

end Go.Proofs.Ytbhbacphiinpeaa
