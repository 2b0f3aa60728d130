/- What the document's 'Decode' answers. -/
import Derived.Test.YtbhbacphiinpeaaRB
import Derived.Test.YtbhbacphiinpeaaAp
import Derived.Test.YtbhbacphiinpeaaC
import Derived.Test.YtbhbacphiinpeaaEnc
import Derived.Deep.RegionHeld3
namespace Go.Proofs.Ytbhbacphiinpeaa
open Go.RowKit

theorem byt_get (s : ByteArray) (j : Nat) (h : j < s.size) : byt s j = (((s[j]'h).toNat : Nat) : Int) := by
  unfold byt
  have h' : j < s.data.toList.length := by simpa using h
  rw [List.getD_eq_getElem?_getD, List.getElem?_eq_getElem h']
  rfl

theorem byt_bd (s : ByteArray) (j : Nat) : 0 ≤ byt s j ∧ byt s j ≤ 255 := by
  unfold byt
  have := (s.data.toList.getD j 0).toNat_lt
  omega

theorem index_byt (s : ByteArray) (i : Int) (j : Nat) (hj : i = (j : Int)) (h : j < s.size) (w : World) : (Instr.index 9 (.string s) (.int .i64 i)).run Try.prog w = .ok (.int .u8 (byt s j)) w := by
  subst hj
  rw [run_index_string (P := Try.prog) w 9 s .i64 j Try.underlying9, dif_pos ⟨by omega, by omega⟩, byt_get s j h]
  rfl

end Go.Proofs.Ytbhbacphiinpeaa
