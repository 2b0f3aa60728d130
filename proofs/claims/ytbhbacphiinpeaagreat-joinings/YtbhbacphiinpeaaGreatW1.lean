/- What 'wideCode' and 'stillCode' do. -/
import Derived.Test.YtbhbacphiinpeaaGreatSC
import Derived.Test.YtbhbacphiinpeaaGreatAp
import Derived.Test.YtbhbacphiinpeaaGreatC
import Derived.Laws.AppendOwnNone
namespace Go.Proofs.YtbhbacphiinpeaaGreat
open Go.RowKit

def far : Ins := ⟨-1000, 0, 0, 0⟩

theorem oneCell_flat' (l : List Ins) : ∀ u ∈ flat l, u.oneCell' = true := by
  intro u hu
  obtain ⟨x, -, hx⟩ := List.mem_flatMap.1 hu
  exact oneCell_vals x u hx

theorem flat_get {l : List Ins} {j : Nat} {u : Value} (h : (flat l)[j]? = some u) : ∃ x, l[j / 4]? = some x ∧ x.vals[j % 4]? = some u := by
  induction l generalizing j with
  | nil => simp [flat] at h
  | cons y l ih =>
    have e : flat (y :: l) = y.vals ++ flat l := by simp [flat]
    rw [e] at h
    have hl : y.vals.length = 4 := rfl
    by_cases hj : j < 4
    · rw [List.getElem?_append_left (by omega)] at h
      exact ⟨y, by rw [show j / 4 = 0 by omega]; rfl, by rw [show j % 4 = j by omega]; exact h⟩
    · rw [List.getElem?_append_right (by omega), hl] at h
      obtain ⟨x, h1, h2⟩ := ih h
      refine ⟨x, ?_, ?_⟩
      · rw [show j / 4 = (j - 4) / 4 + 1 by omega]; simpa using h1
      · rw [show j % 4 = (j - 4) % 4 by omega]; exact h2

/-- The cells of a slice that reads as instructions, in a row. -/
theorem sees_cells {w : World} {b off : Nat} {l : List Ins}
    (hc : ∀ (i : Nat) x, l[i]? = some x → w.cell? ⟨b, off + i * 4, none⟩ = some (.int .i64 x.o) ∧ w.cell? ⟨b, off + i * 4 + 1, none⟩ = some (.int .i64 x.a) ∧ w.cell? ⟨b, off + i * 4 + 2, none⟩ = some (.int .i64 x.b) ∧ w.cell? ⟨b, off + i * 4 + 3, none⟩ = some (.int .i64 x.c)) :
    ∀ j u, (flat l)[j]? = some u → w.cell? ((⟨b, off, none⟩ : Addr).add j) = some u := by
  intro j u hu
  obtain ⟨x, h1, h2⟩ := flat_get hu
  obtain ⟨c0, c1, c2, c3⟩ := hc _ x h1
  have e : (⟨b, off, none⟩ : Addr).add j = ⟨b, off + (j / 4) * 4 + j % 4, none⟩ := by
    have e1 : (⟨b, off, none⟩ : Addr).add j = ⟨b, off + j, none⟩ := by unfold Addr.add; split <;> simp_all
    rw [e1, show off + j = off + (j / 4) * 4 + j % 4 by omega]
  rw [e]
  have h4 : j % 4 < 4 := Nat.mod_lt _ (by omega)
  match h : j % 4, h4 with
  | 0, _ => rw [h] at h2; rw [Nat.add_zero, c0]; simpa [Ins.vals] using h2
  | 1, _ => rw [h] at h2; rw [c1]; simpa [Ins.vals] using h2
  | 2, _ => rw [h] at h2; rw [c2]; simpa [Ins.vals] using h2
  | 3, _ => rw [h] at h2; rw [c3]; simpa [Ins.vals] using h2

set_option maxHeartbeats 1000000 in
set_option maxRecDepth 100000 in
theorem wide_some (b off n cap : Nat) (l : List Ins) (hl : l.length = n) (hn0 : 1 ≤ n) (hn : n ≤ 4398046511103) (w : World) (_hb : b < w.heap.size)
    (hc : ∀ (i : Nat) x, l[i]? = some x → w.cell? ⟨b, off + i * 4, none⟩ = some (.int .i64 x.o) ∧ w.cell? ⟨b, off + i * 4 + 1, none⟩ = some (.int .i64 x.a) ∧ w.cell? ⟨b, off + i * 4 + 2, none⟩ = some (.int .i64 x.b) ∧ w.cell? ⟨b, off + i * 4 + 3, none⟩ = some (.int .i64 x.c)) :
    Calls Tryz.prog 21 #[.slice (some ⟨b, off, none⟩) n cap] w fun e w' => ∃ g c, e = .returned (.slice (some ⟨g, 0, none⟩) n c) ∧ w'.ownsRow w.heap.size 92 4 (.slice (some ⟨g, 0, none⟩) (n + 1) c) (n + 1) (flat (l ++ [far])) ∧ Below w.heap.size w w' := by
  have Hl := hyd hl
  have Hc := hyd (sees_cells hc)
  clear hl hc
  have hn2 : (n : Int) ≤ 4398046511103 := by omega
  obtain ⟨i0, hi, hz0, hz1, hz2⟩ := info_parts Tryz.info92
  go_enter Tryz.func21, Tryz.ntmps21
  go_wp2_with (at_builtin; go_must (refine wpList_append_lies _ rfl (.tmp 4) (.tmp 5) 35 rfl w.heap.size 92 i0 (.agg #[.int .i64 0, .int .i64 0, .int .i64 0, .int .i64 0]) 4 32 Tryz.underlying35 hi hz0 hz1 hz2 rfl (by decide) (.slice none 0 0) 0 [] rfl ?c0 ⟨b, off, none⟩ n cap (flat l) rfl ?c1 ?c2 ?c3 (by omega) ?c4 ?c5 ?c6 w.heap.size ?c7 ?_))
  case c0 => exact World.ownsRow_nil _ _ _ _
  case c1 => rw [flat_length, Hl.out]
  case c2 => exact Hc.out
  case c3 => exact oneCell_flat' l
  case c4 => unfold maxLen; omega
  case c5 => omega
  case c6 => omega
  case c7 => rfl
  · intro g c w1 hown1 hgrow1 _ _
    have hb1 : Below w.heap.size w w1 := (Below.refl _ w).grown hgrow1 (Nat.le_refl _) (fun k hk => by simp [Value.ownBlock] at hk)
    have hown1' : w1.ownsRow w.heap.size 92 4 (.slice (some ⟨g, 0, none⟩) n c) n (flat l) := by simpa using hown1
    have Hown1 := hyd hown1'
    have HB1 := hyd hb1
    clear hown1 hown1' hgrow1 hb1
    go_wp2_with (at_builtin; go_must (refine wpList_append_lies _ rfl (.tmp 7) (.tmp 9) 35 rfl w.heap.size 92 i0 (.agg #[.int .i64 0, .int .i64 0, .int .i64 0, .int .i64 0]) 4 32 Tryz.underlying35 hi hz0 hz1 hz2 rfl (by decide) (.slice (some ⟨g, 0, none⟩) n c) n (flat l) rfl ?d0 ⟨w1.heap.size, 0, none⟩ 1 1 far.vals rfl rfl ?d1 ?d2 (by omega) ?d3 ?d4 ?d5 (w1.heap.size + 1) ?d6 ?_))
    case d0 => exact Hown1.out.alloc _
    case d1 => exact World.news_of_block (heap_alloc_new w1 _)
    case d2 => exact oneCell_vals _
    case d3 => unfold maxLen; omega
    case d4 => omega
    case d5 => have := HB1.out.size; simp; omega
    case d6 => simp
    · intro g2 c2 w2 hown2 hgrow2 _ _
      have hb2 : Below w.heap.size w w2 := (HB1.out.alloc HB1.out.size _).grown hgrow2 (by have := HB1.out.size; simp; omega) (fun k hk => (Hown1.out.lt k hk).1)
      rw [← flat_one, ← flat_append] at hown2
      have hcap : n + 1 ≤ c2 := by
        rcases hown2.2 with ⟨h0, -⟩ | ⟨g', cap', cur, hv, -, -, hc, -⟩
        · cases h0
        · cases hv; exact hc
      have hcap2 : (n : Int) ≤ (c2 : Int) := by omega
      have Hown2 := hyd hown2
      have HB2 := hyd hb2
      clear hown2 hgrow2 hb2
      go_wp2
      go_ret
      exact ⟨g2, c2, rfl, Hown2.out, HB2.out⟩

set_option maxHeartbeats 1000000 in
set_option maxRecDepth 100000 in
theorem wide_none (ao : Option Addr) (cap : Nat) (hp : ao = none → cap = 0) (w : World) :
    Calls Tryz.prog 21 #[.slice ao 0 cap] w fun e w' => ∃ g c, e = .returned (.slice (some ⟨g, 0, none⟩) 0 c) ∧ w'.ownsRow w.heap.size 92 4 (.slice (some ⟨g, 0, none⟩) 1 c) 1 (flat [far]) ∧ Below w.heap.size w w' := by
  obtain ⟨i0, hi, hz0, hz1, hz2⟩ := info_parts Tryz.info92
  cases ao with
  | none =>
    have hp0 := hp rfl
    subst hp0
    clear hp
    go_enter Tryz.func21, Tryz.ntmps21
    go_wp2_with (first | (at_builtin; refine wpList_append_own_none rfl (.tmp 4) (.tmp 5) 35 rfl w.heap.size 92 i0 4 Tryz.underlying35 hi (.slice none 0 0) 0 [] rfl (World.ownsRow_nil _ _ _ _) rfl ?_) | (at_builtin; go_must (refine wpList_append_lies _ rfl (.tmp 7) (.tmp 9) 35 rfl w.heap.size 92 i0 (.agg #[.int .i64 0, .int .i64 0, .int .i64 0, .int .i64 0]) 4 32 Tryz.underlying35 hi hz0 hz1 hz2 rfl (by decide) (.slice none 0 0) 0 [] rfl ?d0 ⟨w.heap.size, 0, none⟩ 1 1 far.vals rfl rfl ?d1 ?d2 (by omega) ?d3 ?d4 ?d5 (w.heap.size + 1) ?d6 ?_)))
    case d0 => exact World.ownsRow_nil _ _ _ _
    case d1 => exact World.news_of_block (heap_alloc_new w _)
    case d2 => exact oneCell_vals _
    case d3 => decide
    case d4 => decide
    case d5 => simp
    case d6 => simp
    · intro g2 c2 w2 hown2 hgrow2 _ _
      have hb2 : Below w.heap.size w w2 := ((Below.refl _ w).alloc (Nat.le_refl _) _).grown hgrow2 (by simp) (fun k hk => by simp [Value.ownBlock] at hk)
      have hown3 : w2.ownsRow w.heap.size 92 4 (.slice (some ⟨g2, 0, none⟩) 1 c2) 1 (flat [far]) := by rw [flat_one]; simpa using hown2
      have Hown2 := hyd hown3
      have HB2 := hyd hb2
      clear hown2 hown3 hgrow2 hb2
      go_wp2
      go_ret
      exact ⟨g2, c2, rfl, Hown2.out, HB2.out⟩
  | some a =>
    clear hp
    go_enter Tryz.func21, Tryz.ntmps21
    go_wp2_with (at_builtin; go_must (refine wpList_append_own _ rfl (.tmp 4) (.tmp 5) 35 rfl w.heap.size 92 i0 (.agg #[.int .i64 0, .int .i64 0, .int .i64 0, .int .i64 0]) 4 32 Tryz.underlying35 hi hz0 hz1 hz2 rfl (by decide) (.slice none 0 0) 0 [] rfl ?c0 a 0 cap [] rfl rfl ?c1 ?c2 ?c3 ?c4 ?c5 ?_))
    case c0 => exact World.ownsRow_nil _ _ _ _
    case c1 => intro j u hu; simp at hu
    case c2 => intro u hu; simp at hu
    case c3 => decide
    case c4 => decide
    case c5 => exact Nat.le_refl _
    · intro v1 w1 hown1 hgrow1 hnil
      have hv1 : v1 = .slice none 0 0 := by simpa using hnil
      have HB1 : Hid (Below w.heap.size w w1) := (Below.refl _ w).grown hgrow1 (Nat.le_refl _) (fun k hk => by simp [Value.ownBlock] at hk)
      subst hv1
      clear hown1 hgrow1 hnil
      go_wp2_with (at_builtin; go_must (refine wpList_append_lies _ rfl (.tmp 7) (.tmp 9) 35 rfl w.heap.size 92 i0 (.agg #[.int .i64 0, .int .i64 0, .int .i64 0, .int .i64 0]) 4 32 Tryz.underlying35 hi hz0 hz1 hz2 rfl (by decide) (.slice none 0 0) 0 [] rfl ?d0 ⟨w1.heap.size, 0, none⟩ 1 1 far.vals rfl rfl ?d1 ?d2 (by omega) ?d3 ?d4 ?d5 (w1.heap.size + 1) ?d6 ?_))
      case d0 => exact World.ownsRow_nil _ _ _ _
      case d1 => exact World.news_of_block (heap_alloc_new w1 _)
      case d2 => exact oneCell_vals _
      case d3 => decide
      case d4 => decide
      case d5 => have := HB1.out.size; simp; omega
      case d6 => simp
      · intro g2 c2 w2 hown2 hgrow2 _ _
        have hb2 : Below w.heap.size w w2 := (HB1.out.alloc HB1.out.size _).grown hgrow2 (by have := HB1.out.size; simp; omega) (fun k hk => by simp [Value.ownBlock] at hk)
        have hown3 : w2.ownsRow w.heap.size 92 4 (.slice (some ⟨g2, 0, none⟩) 1 c2) 1 (flat [far]) := by rw [flat_one]; simpa using hown2
        have Hown2 := hyd hown3
        have HB2 := hyd hb2
        clear hown2 hown3 hgrow2 hb2
        go_wp2
        go_ret
        exact ⟨g2, c2, rfl, Hown2.out, HB2.out⟩

theorem wide_any {w : World} {v : Value} {l : List Ins} (h : Sees w v l) (hp : ∀ n cap, v = .slice none n cap → cap = 0) (hn : l.length ≤ 4398046511103) :
    Calls Tryz.prog 21 #[v] w fun e w' => ∃ g c, e = .returned (.slice (some ⟨g, 0, none⟩) l.length c) ∧ w'.ownsRow w.heap.size 92 4 (.slice (some ⟨g, 0, none⟩) (l.length + 1) c) (l.length + 1) (flat (l ++ [far])) ∧ Below w.heap.size w w' := by
  obtain ⟨-, h⟩ := h
  rcases h with ⟨rfl, ao, cap, rfl⟩ | ⟨b, off, cap, rfl, hlt, hc⟩
  · exact wide_none ao cap (fun e => hp 0 cap (by rw [e])) w
  · by_cases h0 : l.length = 0
    · have e := List.eq_nil_of_length_eq_zero h0
      subst e
      exact wide_none (some ⟨b, off, none⟩) cap (fun e => by cases e) w
    · exact wide_some b off l.length cap l rfl (by omega) hn w hlt hc

end Go.Proofs.YtbhbacphiinpeaaGreat
