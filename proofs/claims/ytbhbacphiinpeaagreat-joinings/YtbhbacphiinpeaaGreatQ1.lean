/- What 'sameInts', 'wide' and 'still' do with lists of numbers, and 'sameLog' with logs. -/
import Derived.Test.YtbhbacphiinpeaaGreatRows
import Derived.Test.YtbhbacphiinpeaaGreatView
import Derived.Test.YtbhbacphiinpeaaGreatAp
import Derived.Deep.QuietTactic
import Derived.BigQuiet
import Derived.WalkSmall
import Derived.Laws.AppendOwnNone
namespace Go.Proofs.YtbhbacphiinpeaaGreat
open Go.RowKit

theorem Tryz.infoQ3 : (Tryz.prog.info? 3).map (fun i => (i.zero, i.size, i.bytes)) = some (some (.int .i64 0), 1, 8) := by kernel_rfl

def zVals (l : List Int) : List Value := l.map fun m => Value.int .i64 m
theorem zVals_at {l : List Int} {i : Nat} {x : Int} (h : l[i]? = some x) : (zVals l)[i]? = some (.int .i64 x) := by simp [zVals, List.getElem?_map, h]
theorem zVals_append (l m : List Int) : zVals (l ++ m) = zVals l ++ zVals m := by simp [zVals]
theorem zVals_length (l : List Int) : (zVals l).length = l.length := by simp [zVals]
theorem oneCell_z (l : List Int) : ∀ u ∈ zVals l, u.oneCell' = true := by
  intro u hu
  obtain ⟨x, -, rfl⟩ := List.mem_map.1 hu
  rfl

/-- The slice v, as the world w has it, reads as the numbers l. -/
def SeesZ (w : World) (v : Value) (l : List Int) : Prop :=
  l.length ≤ 17592186044416 ∧ ((l = [] ∧ ∃ ao cap, v = .slice ao 0 cap) ∨
    ∃ b off cap, v = .slice (some ⟨b, off, none⟩) l.length cap ∧ b < w.heap.size ∧ ∀ (i : Nat) x, l[i]? = some x → w.cell? ⟨b, off + i, none⟩ = some (.int .i64 x))

theorem SeesZ.up {w w' : World} {v : Value} {l : List Int} {B : Nat} (h : SeesZ w v l) (hB : w.heap.size ≤ B) (hb : Below B w w') : SeesZ w' v l := by
  refine ⟨h.1, ?_⟩
  rcases h.2 with h0 | ⟨b, off, cap, rfl, hlt, hc⟩
  · exact .inl h0
  · exact .inr ⟨b, off, cap, rfl, Nat.lt_of_lt_of_le hlt hb.size, fun i x hx => (hb.cell (Nat.lt_of_lt_of_le hlt hB)).trans (hc i x hx)⟩

theorem ownsRow_seesZ {w : World} {base : Nat} {v : Value} {l : List Int} (hm : l.length ≤ 17592186044416) (h : w.ownsRow base 3 1 v l.length (zVals l)) : SeesZ w v l := by
  refine ⟨hm, ?_⟩
  rcases h.2 with ⟨rfl, h0⟩ | ⟨g, cap, cur, rfl, hb, hg, hr⟩
  · exact .inl ⟨List.eq_nil_of_length_eq_zero h0, none, 0, rfl⟩
  · refine .inr ⟨g, 0, cap, rfl, (Array.getElem?_eq_some_iff.1 hg).1, fun i x hx => ?_⟩
    have hi : i < l.length := (List.getElem?_eq_some_iff.1 hx).1
    rw [Nat.zero_add]
    exact (h.cellAt i (by omega)).trans (zVals_at hx)

set_option maxHeartbeats 400000 in
theorem sameI_none (a0 a1 : Option Addr) (c0 c1 : Nat) (w : World) :
    Calls Tryz.prog 31 #[.slice a0 0 c0, .slice a1 0 c1] w fun e w' => e = .returned (.bool true) ∧ Below w.heap.size w w' := by
  go_enter Tryz.func31, Tryz.ntmps31
  go_wp2_with fail
  go_loop [5] (fun i => i = .int .i64 0) (fun _ => 0)
  case atStart => rfl
  case round =>
    subst hrel
    go_wp2
    go_ret
    exact ⟨rfl, Below.refl _ _⟩

set_option maxHeartbeats 1000000 in
set_option maxRecDepth 100000 in
theorem sameI_some (b0 o0 b1 o1 c0 c1 n : Nat) (l : List Int) (hl : l.length = n) (hn : n ≤ 17592186044416) (w : World) (hb0 : b0 < w.heap.size) (hb1 : b1 < w.heap.size)
    (hc0 : ∀ (i : Nat) x, l[i]? = some x → w.cell? ⟨b0, o0 + i, none⟩ = some (.int .i64 x)) (hc1 : ∀ (i : Nat) x, l[i]? = some x → w.cell? ⟨b1, o1 + i, none⟩ = some (.int .i64 x)) :
    Calls Tryz.prog 31 #[.slice (some ⟨b0, o0, none⟩) n c0, .slice (some ⟨b1, o1, none⟩) n c1] w fun e w' => e = .returned (.bool true) ∧ Below w.heap.size w w' := by
  have Hl := hyd hl
  have H0 := hyd hc0
  have H1 := hyd hc1
  clear hl hc0 hc1
  have hn2 : (n : Int) ≤ 17592186044416 := by omega
  go_enter Tryz.func31, Tryz.ntmps31
  go_wp2_with fail
  go_loopw [5] (fun i wr => ∃ k : Nat, k ≤ n ∧ i = .int .i64 k ∧ Below w.heap.size w wr) (fun i _ => n - (intOf i).toNat)
  case atStart => exact ⟨0, Nat.zero_le _, rfl, Below.refl _ _⟩
  case round =>
    obtain ⟨k, hk, rfl, hb⟩ := hrel
    by_cases hkn : k < n
    · obtain ⟨x, hx⟩ : ∃ x, l[k]? = some x := ⟨_, List.getElem?_eq_getElem (by rw [Hl.out]; exact hkn)⟩
      have d0 := (hb.cell (p := ⟨b0, o0 + k, none⟩) hb0).trans (H0.out k x hx)
      have d4 := (hb.cell (p := ⟨b1, o1 + k, none⟩) hb1).trans (H1.out k x hx)
      clear hx
      have i1 : (0 : Int) ≤ (k : Int) := by omega
      have i2 : (k : Int) < (n : Int) := by omega
      go_wp2_with fail
      go_quiet (fail)
      go_wp2
      go_roundw
      case rel => exact ⟨k + 1, by omega, by go_num, below_drewN hb _⟩
      case measure => simp [intOf]; omega
    · go_wp2
      go_ret
      exact ⟨rfl, hb⟩

theorem sameI {w : World} {v0 v1 : Value} {l : List Int} (h0 : SeesZ w v0 l) (h1 : SeesZ w v1 l) :
    Calls Tryz.prog 31 #[v0, v1] w fun e w' => e = .returned (.bool true) ∧ Below w.heap.size w w' := by
  by_cases hl : l = []
  · have kk : ∀ {v : Value}, SeesZ w v l → ∃ ao cap, v = .slice ao 0 cap := fun h => by
      rcases h.2 with ⟨-, h⟩ | ⟨b, off, cap, rfl, -⟩
      · exact h
      · exact ⟨some ⟨b, off, none⟩, cap, by rw [hl]; rfl⟩
    obtain ⟨a0, c0, rfl⟩ := kk h0
    obtain ⟨a1, c1, rfl⟩ := kk h1
    exact sameI_none a0 a1 c0 c1 w
  · rcases h0.2 with ⟨h, -⟩ | ⟨b0, o0, c0, rfl, hb0, hc0⟩
    · exact absurd h hl
    · rcases h1.2 with ⟨h, -⟩ | ⟨b1, o1, c1, rfl, hb1, hc1⟩
      · exact absurd h hl
      · exact sameI_some b0 o0 b1 o1 c0 c1 l.length l rfl h0.1 w hb0 hb1 hc0 hc1

theorem seesZ_cells {w : World} {b off : Nat} {l : List Int} (hc : ∀ (i : Nat) x, l[i]? = some x → w.cell? ⟨b, off + i, none⟩ = some (.int .i64 x)) : ∀ j u, (zVals l)[j]? = some u → w.cell? ((⟨b, off, none⟩ : Addr).add j) = some u := by
  intro j u hu
  have e1 : (⟨b, off, none⟩ : Addr).add j = ⟨b, off + j, none⟩ := by unfold Addr.add; split <;> simp_all
  unfold zVals at hu
  rw [List.getElem?_map, Option.map_eq_some_iff] at hu
  obtain ⟨x, hx, rfl⟩ := hu
  rw [e1]
  exact hc j x hx

set_option maxHeartbeats 1000000 in
set_option maxRecDepth 100000 in
theorem wideI_some (b off n cap : Nat) (l : List Int) (hl : l.length = n) (hn0 : 1 ≤ n) (hn : n ≤ 17592186044415) (w : World) (hc : ∀ (i : Nat) x, l[i]? = some x → w.cell? ⟨b, off + i, none⟩ = some (.int .i64 x)) :
    Calls Tryz.prog 33 #[.slice (some ⟨b, off, none⟩) n cap] w fun e w' => ∃ g c, e = .returned (.slice (some ⟨g, 0, none⟩) n c) ∧ w'.ownsRow w.heap.size 3 1 (.slice (some ⟨g, 0, none⟩) (n + 1) c) (n + 1) (zVals (l ++ [-1000])) ∧ Below w.heap.size w w' := by
  have Hl := hyd hl
  have Hc := hyd (seesZ_cells hc)
  clear hl hc
  have hn2 : (n : Int) ≤ 17592186044415 := by omega
  obtain ⟨i0, hi, hz0, hz1, hz2⟩ := info_parts Tryz.infoQ3
  go_enter Tryz.func33, Tryz.ntmps33
  go_wp2_with (at_builtin; go_must (refine wpList_append_lies _ rfl (.tmp 4) (.tmp 5) 24 rfl w.heap.size 3 i0 (.int .i64 0) 1 8 Tryz.underlying24 hi hz0 hz1 hz2 rfl (by decide) (.slice none 0 0) 0 [] rfl ?c0 ⟨b, off, none⟩ n cap (zVals l) rfl ?c1 ?c2 ?c3 (by omega) ?c4 ?c5 ?c6 w.heap.size ?c7 ?_))
  case c0 => exact World.ownsRow_nil _ _ _ _
  case c1 => rw [zVals_length, Hl.out, Nat.mul_one]
  case c2 => exact Hc.out
  case c3 => exact oneCell_z l
  case c4 => unfold maxLen; omega
  case c5 => omega
  case c6 => omega
  case c7 => rfl
  · intro g c w1 hown1 hgrow1 _ _
    have hb1 : Below w.heap.size w w1 := (Below.refl _ w).grown hgrow1 (Nat.le_refl _) (fun k hk => by simp [Value.ownBlock] at hk)
    have hown1' : w1.ownsRow w.heap.size 3 1 (.slice (some ⟨g, 0, none⟩) n c) n (zVals l) := by simpa using hown1
    have Hown1 := hyd hown1'
    have HB1 := hyd hb1
    clear hown1 hown1' hgrow1 hb1
    go_wp2_with (at_builtin; go_must (refine wpList_append_lies _ rfl (.tmp 7) (.tmp 8) 24 rfl w.heap.size 3 i0 (.int .i64 0) 1 8 Tryz.underlying24 hi hz0 hz1 hz2 rfl (by decide) (.slice (some ⟨g, 0, none⟩) n c) n (zVals l) rfl ?d0 ⟨w1.heap.size, 0, none⟩ 1 1 (zVals [-1000]) rfl rfl ?d1 ?d2 (by omega) ?d3 ?d4 ?d5 (w1.heap.size + 1) ?d6 ?_))
    case d0 => exact Hown1.out.alloc _
    case d1 => exact World.news_of_block (heap_alloc_new w1 _)
    case d2 => exact oneCell_z _
    case d3 => unfold maxLen; omega
    case d4 => omega
    case d5 => have := HB1.out.size; simp; omega
    case d6 => simp
    · intro g2 c2 w2 hown2 hgrow2 _ _
      have hb2 : Below w.heap.size w w2 := (HB1.out.alloc HB1.out.size _).grown hgrow2 (by have := HB1.out.size; simp; omega) (fun k hk => (Hown1.out.lt k hk).1)
      rw [← zVals_append] at hown2
      have hcap : n + 1 ≤ c2 := by
        rcases hown2.2 with ⟨h0, -⟩ | ⟨g', cap', cur, hv, -, -, hc, -⟩
        · cases h0
        · cases hv; exact hc
      have hcap2 : (n : Int) ≤ (c2 : Int) := by omega
      have Hown2 := hyd hown2
      have HB2 := hyd hb2
      clear hown2 hgrow2 hb2
      go_wp2
      go_ret
      exact ⟨g2, c2, rfl, Hown2.out, HB2.out⟩

end Go.Proofs.YtbhbacphiinpeaaGreat
