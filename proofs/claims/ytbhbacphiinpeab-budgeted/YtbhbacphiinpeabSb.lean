/- The plain run of Spread's kernel, for each of its 288 inputs. -/
import Derived.Test.YtbhbacphiinpeabBs
namespace Go.Proofs.Ytbhbacphiinpeab
open Go.RowKit

theorem does_noJ {k : List Ins} (h : ∀ x ∈ k, x.o ≠ 13) (J J' : List Int) (rn rn' : Pl → List Nat → Int → Int → Pl) (p : Pl) (g : List Nat) (pc : Int) : doesP k J rn p g pc = doesP k J' rn' p g pc := by
  unfold doesP
  cases hx : k[pc.toNat]? with
  | none => rfl
  | some x =>
    have := h x (List.mem_of_getElem? hx)
    simp only [if_neg this]

/-- A kernel without a Zero runs as it does whatever its joins. -/
theorem run_noJ {k : List Ins} (h : ∀ x ∈ k, x.o ≠ 13) (J J' : List Int) (bud : Nat) : ∀ (f : Nat) (p : Pl) (g : List Nat) (pc to : Int), runP k J bud f p g pc to = runP k J' bud f p g pc to
  | 0, _, _, _, _ => rfl
  | f + 1, p, g, pc, to => by
    unfold runP
    rw [does_noJ h J J' (runP k J bud f) (runP k J' bud f)]
    simp only [run_noJ h J J' bud f]

def kSp (d c : Int) : List Ins := [⟨8, 0, 0, 0⟩, ⟨1, 1, d, 0⟩, ⟨4, 0, 0, 1⟩, ⟨10, 1, 0, c⟩, ⟨0, 0, 0, 0⟩]
def freshP (d c i : Nat) : Nat → Bool
  | 0 => true
  | j + 1 => freshP d c i j && ((i * d + c) / 4 != (j * d + c) / 4)
def wantP (d c : Nat) : Nat → Nat
  | 0 => 0
  | i + 1 => wantP d c i + (if freshP d c i i then 1 else 0)
def spB (n d c : Nat) : Bool :=
  let p := playP (newP (kSp d c) [] (n + 1) 0 (List.replicate 32 0)) 0 2000
  (p.fault == 0) && (p.steps == 5) && (p.segs == wantP d c (n + 1)) && !p.ends

theorem sp_all : ∀ n < 4, ∀ d < 9, ∀ c < 8, spB n d c = true := by decide +kernel
theorem sp_chk : ∀ d < 9, ∀ c < 8, chk (kSp (d : Nat) (c : Nat)) = (0, 0) := by decide +kernel

end Go.Proofs.Ytbhbacphiinpeab
