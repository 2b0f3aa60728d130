/- The plain functions of instructions, kernels and images by which the contracts of this seat are said; nothing of Go is in this text. -/
import Derived.WalkKit
import Derived.WalkSpells
import Derived.WalkLawsBesides
namespace Go.Proofs.YtbhbacphiinpeaaGreat
open Go.RowKit

structure Ins where
  o : Int
  a : Int
  b : Int
  c : Int

def bel (n m : Int) : Bool := decide (0 ≤ n) && decide (n < m)

def okB (n : Int) (x : Ins) : Bool :=
  if x.o = 0 ∨ x.o = 14 then x.a == 0 && x.b == 0 && x.c == 0
  else if x.o = 1 then bel x.a 4 && bel x.b 256 && x.c == 0
  else if 2 ≤ x.o ∧ x.o ≤ 7 then bel x.a 4 && bel x.b 4 && bel x.c 4
  else if x.o = 8 then bel x.a 4 && x.b == 0 && x.c == 0
  else if 9 ≤ x.o ∧ x.o ≤ 11 then bel x.a 4 && bel x.b 4 && bel x.c 32
  else if x.o = 12 then x.a == 0 && bel x.b n && x.c == 0
  else if x.o = 13 then bel x.a 4 && bel x.b n && x.c == 0
  else false

end Go.Proofs.YtbhbacphiinpeaaGreat
