/- What 'sameInts', 'wide' and 'still' do with lists of numbers, and 'sameLog' with logs. -/
import Derived.Test.YtbhbacphiinpeaaRows
import Derived.Test.YtbhbacphiinpeaaView
import Derived.Test.YtbhbacphiinpeaaAp
import Derived.Deep.QuietTactic
import Derived.BigQuiet
import Derived.WalkSmall
import Derived.Laws.AppendOwnNone
namespace Go.Proofs.Ytbhbacphiinpeaa
open Go.RowKit

theorem Try.infoQ3 : (Try.prog.info? 3).map (fun i => (i.zero, i.size, i.bytes)) = some (some (.int .i64 0), 1, 8) := by kernel_rfl

def zVals (l : List Int) : List Value := l.map fun m => Value.int .i64 m
theorem zVals_at {l : List Int} {i : Nat} {x : Int} (h : l[i]? = some x) : (zVals l)[i]? = some (.int .i64 x) := by simp [zVals, List.getElem?_map, h]
theorem zVals_append (l m : List Int) : zVals (l ++ m) = zVals l ++ zVals m := by simp [zVals]
theorem zVals_length (l : List Int) : (zVals l).length = l.length := by simp [zVals]
theorem oneCell_z (l : List Int) : ∀ u ∈ zVals l, u.oneCell' = true := by
  intro u hu
  obtain ⟨x, -, rfl⟩ := List.mem_map.1 hu
  rfl

/-- The slice v, as the world w has it, reads as the numbers l. -/
def SeesZ (w : World) (v : Value) (l : List Int) : Prop :=
  l.length ≤ 17592186044416 ∧ ((l = [] ∧ ∃ ao cap, v = .slice ao 0 cap) ∨
    ∃ b off cap, v = .slice (some ⟨b, off, none⟩) l.length cap ∧ b < w.heap.size ∧ ∀ (i : Nat) x, l[i]? = some x → w.cell? ⟨b, off + i, none⟩ = some (.int .i64 x))

theorem SeesZ.up {w w' : World} {v : Value} {l : List Int} {B : Nat} (h : SeesZ w v l) (hB : w.heap.size ≤ B) (hb : Below B w w') : SeesZ w' v l := by
  refine ⟨h.1, ?_⟩
  rcases h.2 with h0 | ⟨b, off, cap, rfl, hlt, hc⟩
  · exact .inl h0
  · exact .inr ⟨b, off, cap, rfl, Nat.lt_of_lt_of_le hlt hb.size, fun i x hx => (hb.cell (Nat.lt_of_lt_of_le hlt hB)).trans (hc i x hx)⟩

theorem ownsRow_seesZ {w : World} {base : Nat} {v : Value} {l : List Int} (hm : l.length ≤ 17592186044416) (h : w.ownsRow base 3 1 v l.length (zVals l)) : SeesZ w v l := by
  refine ⟨hm, ?_⟩
  rcases h.2 with ⟨rfl, h0⟩ | ⟨g, cap, cur, rfl, hb, hg, hr⟩
  · exact .inl ⟨List.eq_nil_of_length_eq_zero h0, none, 0, rfl⟩
  · refine .inr ⟨g, 0, cap, rfl, (Array.getElem?_eq_some_iff.1 hg).1, fun i x hx => ?_⟩
    have hi : i < l.length := (List.getElem?_eq_some_iff.1 hx).1
    rw [Nat.zero_add]
    exact (h.cellAt i (by omega)).trans (zVals_at hx)

theorem seesZ_cells {w : World} {b off : Nat} {l : List Int} (hc : ∀ (i : Nat) x, l[i]? = some x → w.cell? ⟨b, off + i, none⟩ = some (.int .i64 x)) : ∀ j u, (zVals l)[j]? = some u → w.cell? ((⟨b, off, none⟩ : Addr).add j) = some u := by
  intro j u hu
  have e1 : (⟨b, off, none⟩ : Addr).add j = ⟨b, off + j, none⟩ := by unfold Addr.add; split <;> simp_all
  unfold zVals at hu
  rw [List.getElem?_map, Option.map_eq_some_iff] at hu
  obtain ⟨x, hx, rfl⟩ := hu
  rw [e1]
  exact hc j x hx

end Go.Proofs.Ytbhbacphiinpeaa
