/- C W1 W2: joined. -/
import Derived.Test.YtbhbacphiinpeaaGreatZ02
import Derived.BigRegion
import Derived.Deep.AppendLies
import Derived.Test.YtbhbacphiinpeaaGreatZ01
import Derived.Laws.AppendOwnNone

/- What 'unpack' makes. -/
namespace Go.Proofs.YtbhbacphiinpeaaGreat
open Go.RowKit

theorem Tryz.info92 : (Tryz.prog.info? 92).map (fun i => (i.zero, i.size, i.bytes)) = some (some (.agg #[.int .i64 0, .int .i64 0, .int .i64 0, .int .i64 0]), 4, 32) := by kernel_rfl

theorem wrap_byt (s : ByteArray) (j : Nat) (h : j < s.size) : wrap64 (((s[j]'h).toNat : Nat) : Int) = byt s j := by
  have e : byt s j = (((s[j]'h).toNat : Nat) : Int) := by
    unfold byt
    have h' : j < s.data.toList.length := by simpa using h
    rw [List.getD_eq_getElem?_getD, List.getElem?_eq_getElem h']
    rfl
  rw [e]
  have := (s[j]'h).toNat_lt
  exact IntWalk.wrap64_in _ ⟨by omega, by omega⟩

set_option maxHeartbeats 400000 in
set_option maxRecDepth 100000 in
theorem unpack_any (s : ByteArray) (n : Nat) (hs : s.size = 4 * n) (hn : n ≤ 40) (w : World) :
    Calls Tryz.prog 68 #[.string s] w fun e w' => ∃ v, e = .returned v ∧ w'.ownsRow w.heap.size 92 4 v n (flat (unp s n)) ∧ Below w.heap.size w w' := by
  have Hs : Hid (s.size = 4 * n) := hs
  have hs1 : s.size ≤ 4 * n := by omega
  have hs2 : 4 * n ≤ s.size := by omega
  clear hs
  obtain ⟨i0, hi, hz0, hz1, hz2⟩ := info_parts Tryz.info92
  go_enter Tryz.func68, Tryz.ntmps68
  go_wp2
  go_loopw [3, 4] (fun v i wr => ∃ k : Nat, k ≤ n ∧ i = .int .i64 (4 * k : Nat) ∧ wr.ownsRow w.heap.size 92 4 v k (flat (unp s k)) ∧ Below w.heap.size w wr) (fun _ i _ => 4 * n + 4 - (intOf i).toNat)
  case atStart => exact ⟨0, Nat.zero_le _, rfl, World.ownsRow_nil _ _ _ _, Below.refl _ _⟩
  case round =>
    obtain ⟨k, hk, rfl, hown, hb⟩ := hrel
    by_cases hkn : k < n
    · have q0 : (0 : Int) ≤ 4 * (k : Int) ∧ 4 * (k : Int) < (s.size : Int) := by omega
      have q1 : (0 : Int) ≤ 4 * (k : Int) + 1 ∧ 4 * (k : Int) + 1 < (s.size : Int) := by omega
      have q2 : (0 : Int) ≤ 4 * (k : Int) + 2 ∧ 4 * (k : Int) + 2 < (s.size : Int) := by omega
      have q3 : (0 : Int) ≤ 4 * (k : Int) + 3 ∧ 4 * (k : Int) + 3 < (s.size : Int) := by omega
      go_wp2_with fail
      go_region
      simp only [wrap_byt]
      go_wp2_with (first | (at_builtin; go_must (refine wpList_append_own _ rfl _ _ 35 rfl w.heap.size 92 i0 (.agg #[.int .i64 0, .int .i64 0, .int .i64 0, .int .i64 0]) 4 32 Tryz.underlying35 hi hz0 hz1 hz2 rfl (by decide) u3 k (flat (unp s k)) rfl ?c0 ⟨wr.heap.size + 1, 0, none⟩ 1 1 (insAt s k).vals rfl rfl ?c1 ?c2 ?c3 ?c4 ?c5 ?_)) | go_in)
      case c0 => exact (hown.alloc _).alloc _
      case c1 => exact World.news_of_block (heap_alloc2_new wr _ _)
      case c2 => exact oneCell_vals _
      case c3 => unfold maxLen; omega
      case c4 => omega
      case c5 => have := hb.size; simp; omega
      · intro v' w1 hown' hgrow _
        have hb' : Below w.heap.size w w1 := (((hb.alloc hb.size _).alloc (by have := hb.size; simp; omega) _).drew).grown hgrow (by have := hb.size; simp; omega) (fun g hg => (hown.lt g hg).1)
        rw [← flat_one, ← flat_append, ← unp_succ] at hown'
        clear hgrow hown
        go_wp2
        go_roundw
        case rel => exact ⟨k + 1, by omega, by go_num, hown', hb'⟩
        case measure => simp [intOf]; omega
    · have e : k = n := by omega
      subst e
      go_wp2
      go_ret
      exact ⟨_, rfl, hown, hb⟩

end Go.Proofs.YtbhbacphiinpeaaGreat

/- What 'wideCode' and 'stillCode' do. -/
namespace Go.Proofs.YtbhbacphiinpeaaGreat
open Go.RowKit

def far : Ins := ⟨-1000, 0, 0, 0⟩

theorem oneCell_flat' (l : List Ins) : ∀ u ∈ flat l, u.oneCell' = true := by
  intro u hu
  obtain ⟨x, -, hx⟩ := List.mem_flatMap.1 hu
  exact oneCell_vals x u hx

theorem flat_get {l : List Ins} {j : Nat} {u : Value} (h : (flat l)[j]? = some u) : ∃ x, l[j / 4]? = some x ∧ x.vals[j % 4]? = some u := by
  induction l generalizing j with
  | nil => simp [flat] at h
  | cons y l ih =>
    have e : flat (y :: l) = y.vals ++ flat l := by simp [flat]
    rw [e] at h
    have hl : y.vals.length = 4 := rfl
    by_cases hj : j < 4
    · rw [List.getElem?_append_left (by omega)] at h
      exact ⟨y, by rw [show j / 4 = 0 by omega]; rfl, by rw [show j % 4 = j by omega]; exact h⟩
    · rw [List.getElem?_append_right (by omega), hl] at h
      obtain ⟨x, h1, h2⟩ := ih h
      refine ⟨x, ?_, ?_⟩
      · rw [show j / 4 = (j - 4) / 4 + 1 by omega]; simpa using h1
      · rw [show j % 4 = (j - 4) % 4 by omega]; exact h2

/-- The cells of a slice that reads as instructions, in a row. -/
theorem sees_cells {w : World} {b off : Nat} {l : List Ins}
    (hc : ∀ (i : Nat) x, l[i]? = some x → w.cell? ⟨b, off + i * 4, none⟩ = some (.int .i64 x.o) ∧ w.cell? ⟨b, off + i * 4 + 1, none⟩ = some (.int .i64 x.a) ∧ w.cell? ⟨b, off + i * 4 + 2, none⟩ = some (.int .i64 x.b) ∧ w.cell? ⟨b, off + i * 4 + 3, none⟩ = some (.int .i64 x.c)) :
    ∀ j u, (flat l)[j]? = some u → w.cell? ((⟨b, off, none⟩ : Addr).add j) = some u := by
  intro j u hu
  obtain ⟨x, h1, h2⟩ := flat_get hu
  obtain ⟨c0, c1, c2, c3⟩ := hc _ x h1
  have e : (⟨b, off, none⟩ : Addr).add j = ⟨b, off + (j / 4) * 4 + j % 4, none⟩ := by
    have e1 : (⟨b, off, none⟩ : Addr).add j = ⟨b, off + j, none⟩ := by unfold Addr.add; split <;> simp_all
    rw [e1, show off + j = off + (j / 4) * 4 + j % 4 by omega]
  rw [e]
  have h4 : j % 4 < 4 := Nat.mod_lt _ (by omega)
  match h : j % 4, h4 with
  | 0, _ => rw [h] at h2; rw [Nat.add_zero, c0]; simpa [Ins.vals] using h2
  | 1, _ => rw [h] at h2; rw [c1]; simpa [Ins.vals] using h2
  | 2, _ => rw [h] at h2; rw [c2]; simpa [Ins.vals] using h2
  | 3, _ => rw [h] at h2; rw [c3]; simpa [Ins.vals] using h2

set_option maxHeartbeats 1000000 in
set_option maxRecDepth 100000 in
theorem wide_some (b off n cap : Nat) (l : List Ins) (hl : l.length = n) (hn0 : 1 ≤ n) (hn : n ≤ 4398046511103) (w : World) (_hb : b < w.heap.size)
    (hc : ∀ (i : Nat) x, l[i]? = some x → w.cell? ⟨b, off + i * 4, none⟩ = some (.int .i64 x.o) ∧ w.cell? ⟨b, off + i * 4 + 1, none⟩ = some (.int .i64 x.a) ∧ w.cell? ⟨b, off + i * 4 + 2, none⟩ = some (.int .i64 x.b) ∧ w.cell? ⟨b, off + i * 4 + 3, none⟩ = some (.int .i64 x.c)) :
    Calls Tryz.prog 21 #[.slice (some ⟨b, off, none⟩) n cap] w fun e w' => ∃ g c, e = .returned (.slice (some ⟨g, 0, none⟩) n c) ∧ w'.ownsRow w.heap.size 92 4 (.slice (some ⟨g, 0, none⟩) (n + 1) c) (n + 1) (flat (l ++ [far])) ∧ Below w.heap.size w w' := by
  have Hl := hyd hl
  have Hc := hyd (sees_cells hc)
  clear hl hc
  have hn2 : (n : Int) ≤ 4398046511103 := by omega
  obtain ⟨i0, hi, hz0, hz1, hz2⟩ := info_parts Tryz.info92
  go_enter Tryz.func21, Tryz.ntmps21
  go_wp2_with (at_builtin; go_must (refine wpList_append_lies _ rfl (.tmp 4) (.tmp 5) 35 rfl w.heap.size 92 i0 (.agg #[.int .i64 0, .int .i64 0, .int .i64 0, .int .i64 0]) 4 32 Tryz.underlying35 hi hz0 hz1 hz2 rfl (by decide) (.slice none 0 0) 0 [] rfl ?c0 ⟨b, off, none⟩ n cap (flat l) rfl ?c1 ?c2 ?c3 (by omega) ?c4 ?c5 ?c6 w.heap.size ?c7 ?_))
  case c0 => exact World.ownsRow_nil _ _ _ _
  case c1 => rw [flat_length, Hl.out]
  case c2 => exact Hc.out
  case c3 => exact oneCell_flat' l
  case c4 => unfold maxLen; omega
  case c5 => omega
  case c6 => omega
  case c7 => rfl
  · intro g c w1 hown1 hgrow1 _ _
    have hb1 : Below w.heap.size w w1 := (Below.refl _ w).grown hgrow1 (Nat.le_refl _) (fun k hk => by simp [Value.ownBlock] at hk)
    have hown1' : w1.ownsRow w.heap.size 92 4 (.slice (some ⟨g, 0, none⟩) n c) n (flat l) := by simpa using hown1
    have Hown1 := hyd hown1'
    have HB1 := hyd hb1
    clear hown1 hown1' hgrow1 hb1
    go_wp2_with (at_builtin; go_must (refine wpList_append_lies _ rfl (.tmp 7) (.tmp 9) 35 rfl w.heap.size 92 i0 (.agg #[.int .i64 0, .int .i64 0, .int .i64 0, .int .i64 0]) 4 32 Tryz.underlying35 hi hz0 hz1 hz2 rfl (by decide) (.slice (some ⟨g, 0, none⟩) n c) n (flat l) rfl ?d0 ⟨w1.heap.size, 0, none⟩ 1 1 far.vals rfl rfl ?d1 ?d2 (by omega) ?d3 ?d4 ?d5 (w1.heap.size + 1) ?d6 ?_))
    case d0 => exact Hown1.out.alloc _
    case d1 => exact World.news_of_block (heap_alloc_new w1 _)
    case d2 => exact oneCell_vals _
    case d3 => unfold maxLen; omega
    case d4 => omega
    case d5 => have := HB1.out.size; simp; omega
    case d6 => simp
    · intro g2 c2 w2 hown2 hgrow2 _ _
      have hb2 : Below w.heap.size w w2 := (HB1.out.alloc HB1.out.size _).grown hgrow2 (by have := HB1.out.size; simp; omega) (fun k hk => (Hown1.out.lt k hk).1)
      rw [← flat_one, ← flat_append] at hown2
      have hcap : n + 1 ≤ c2 := by
        rcases hown2.2 with ⟨h0, -⟩ | ⟨g', cap', cur, hv, -, -, hc, -⟩
        · cases h0
        · cases hv; exact hc
      have hcap2 : (n : Int) ≤ (c2 : Int) := by omega
      have Hown2 := hyd hown2
      have HB2 := hyd hb2
      clear hown2 hgrow2 hb2
      go_wp2
      go_ret
      exact ⟨g2, c2, rfl, Hown2.out, HB2.out⟩

set_option maxHeartbeats 1000000 in
set_option maxRecDepth 100000 in
theorem wide_none (ao : Option Addr) (cap : Nat) (hp : ao = none → cap = 0) (w : World) :
    Calls Tryz.prog 21 #[.slice ao 0 cap] w fun e w' => ∃ g c, e = .returned (.slice (some ⟨g, 0, none⟩) 0 c) ∧ w'.ownsRow w.heap.size 92 4 (.slice (some ⟨g, 0, none⟩) 1 c) 1 (flat [far]) ∧ Below w.heap.size w w' := by
  obtain ⟨i0, hi, hz0, hz1, hz2⟩ := info_parts Tryz.info92
  cases ao with
  | none =>
    have hp0 := hp rfl
    subst hp0
    clear hp
    go_enter Tryz.func21, Tryz.ntmps21
    go_wp2_with (first | (at_builtin; refine wpList_append_own_none rfl (.tmp 4) (.tmp 5) 35 rfl w.heap.size 92 i0 4 Tryz.underlying35 hi (.slice none 0 0) 0 [] rfl (World.ownsRow_nil _ _ _ _) rfl ?_) | (at_builtin; go_must (refine wpList_append_lies _ rfl (.tmp 7) (.tmp 9) 35 rfl w.heap.size 92 i0 (.agg #[.int .i64 0, .int .i64 0, .int .i64 0, .int .i64 0]) 4 32 Tryz.underlying35 hi hz0 hz1 hz2 rfl (by decide) (.slice none 0 0) 0 [] rfl ?d0 ⟨w.heap.size, 0, none⟩ 1 1 far.vals rfl rfl ?d1 ?d2 (by omega) ?d3 ?d4 ?d5 (w.heap.size + 1) ?d6 ?_)))
    case d0 => exact World.ownsRow_nil _ _ _ _
    case d1 => exact World.news_of_block (heap_alloc_new w _)
    case d2 => exact oneCell_vals _
    case d3 => decide
    case d4 => decide
    case d5 => simp
    case d6 => simp
    · intro g2 c2 w2 hown2 hgrow2 _ _
      have hb2 : Below w.heap.size w w2 := ((Below.refl _ w).alloc (Nat.le_refl _) _).grown hgrow2 (by simp) (fun k hk => by simp [Value.ownBlock] at hk)
      have hown3 : w2.ownsRow w.heap.size 92 4 (.slice (some ⟨g2, 0, none⟩) 1 c2) 1 (flat [far]) := by rw [flat_one]; simpa using hown2
      have Hown2 := hyd hown3
      have HB2 := hyd hb2
      clear hown2 hown3 hgrow2 hb2
      go_wp2
      go_ret
      exact ⟨g2, c2, rfl, Hown2.out, HB2.out⟩
  | some a =>
    clear hp
    go_enter Tryz.func21, Tryz.ntmps21
    go_wp2_with (at_builtin; go_must (refine wpList_append_own _ rfl (.tmp 4) (.tmp 5) 35 rfl w.heap.size 92 i0 (.agg #[.int .i64 0, .int .i64 0, .int .i64 0, .int .i64 0]) 4 32 Tryz.underlying35 hi hz0 hz1 hz2 rfl (by decide) (.slice none 0 0) 0 [] rfl ?c0 a 0 cap [] rfl rfl ?c1 ?c2 ?c3 ?c4 ?c5 ?_))
    case c0 => exact World.ownsRow_nil _ _ _ _
    case c1 => intro j u hu; simp at hu
    case c2 => intro u hu; simp at hu
    case c3 => decide
    case c4 => decide
    case c5 => exact Nat.le_refl _
    · intro v1 w1 hown1 hgrow1 hnil
      have hv1 : v1 = .slice none 0 0 := by simpa using hnil
      have HB1 : Hid (Below w.heap.size w w1) := (Below.refl _ w).grown hgrow1 (Nat.le_refl _) (fun k hk => by simp [Value.ownBlock] at hk)
      subst hv1
      clear hown1 hgrow1 hnil
      go_wp2_with (at_builtin; go_must (refine wpList_append_lies _ rfl (.tmp 7) (.tmp 9) 35 rfl w.heap.size 92 i0 (.agg #[.int .i64 0, .int .i64 0, .int .i64 0, .int .i64 0]) 4 32 Tryz.underlying35 hi hz0 hz1 hz2 rfl (by decide) (.slice none 0 0) 0 [] rfl ?d0 ⟨w1.heap.size, 0, none⟩ 1 1 far.vals rfl rfl ?d1 ?d2 (by omega) ?d3 ?d4 ?d5 (w1.heap.size + 1) ?d6 ?_))
      case d0 => exact World.ownsRow_nil _ _ _ _
      case d1 => exact World.news_of_block (heap_alloc_new w1 _)
      case d2 => exact oneCell_vals _
      case d3 => decide
      case d4 => decide
      case d5 => have := HB1.out.size; simp; omega
      case d6 => simp
      · intro g2 c2 w2 hown2 hgrow2 _ _
        have hb2 : Below w.heap.size w w2 := (HB1.out.alloc HB1.out.size _).grown hgrow2 (by have := HB1.out.size; simp; omega) (fun k hk => by simp [Value.ownBlock] at hk)
        have hown3 : w2.ownsRow w.heap.size 92 4 (.slice (some ⟨g2, 0, none⟩) 1 c2) 1 (flat [far]) := by rw [flat_one]; simpa using hown2
        have Hown2 := hyd hown3
        have HB2 := hyd hb2
        clear hown2 hown3 hgrow2 hb2
        go_wp2
        go_ret
        exact ⟨g2, c2, rfl, Hown2.out, HB2.out⟩

theorem wide_any {w : World} {v : Value} {l : List Ins} (h : Sees w v l) (hp : ∀ n cap, v = .slice none n cap → cap = 0) (hn : l.length ≤ 4398046511103) :
    Calls Tryz.prog 21 #[v] w fun e w' => ∃ g c, e = .returned (.slice (some ⟨g, 0, none⟩) l.length c) ∧ w'.ownsRow w.heap.size 92 4 (.slice (some ⟨g, 0, none⟩) (l.length + 1) c) (l.length + 1) (flat (l ++ [far])) ∧ Below w.heap.size w w' := by
  obtain ⟨-, h⟩ := h
  rcases h with ⟨rfl, ao, cap, rfl⟩ | ⟨b, off, cap, rfl, hlt, hc⟩
  · exact wide_none ao cap (fun e => hp 0 cap (by rw [e])) w
  · by_cases h0 : l.length = 0
    · have e := List.eq_nil_of_length_eq_zero h0
      subst e
      exact wide_none (some ⟨b, off, none⟩) cap (fun e => by cases e) w
    · exact wide_some b off l.length cap l rfl (by omega) hn w hlt hc

end Go.Proofs.YtbhbacphiinpeaaGreat

/- What 'stillCode' does. -/
namespace Go.Proofs.YtbhbacphiinpeaaGreat
open Go.RowKit

/-- Four stores into an instruction of a row. -/
theorem owns_store4 {w : World} {base g n cap k : Nat} {xs : List Value} (h : w.ownsRow base 92 4 (.slice (some ⟨g, 0, none⟩) n cap) n xs) (a b c d : Value) :
    ((((w.setCell ⟨g, k * 4, none⟩ a).setCell ⟨g, k * 4 + 1, none⟩ b).setCell ⟨g, k * 4 + 2, none⟩ c).setCell ⟨g, k * 4 + 3, none⟩ d).ownsRow base 92 4 (.slice (some ⟨g, 0, none⟩) n cap) n ((((xs.set (k * 4) a).set (k * 4 + 1) b).set (k * 4 + 2) c).set (k * 4 + 3) d) :=
  ((((h.stored (k * 4) a).1.stored (k * 4 + 1) b).1.stored (k * 4 + 2) c).1.stored (k * 4 + 3) d).1

theorem below_store4 {w0 w : World} {base g k : Nat} (h : Below base w0 w) (hg : base ≤ g) (a b c d : Value) :
    Below base w0 ((((w.setCell ⟨g, k * 4, none⟩ a).setCell ⟨g, k * 4 + 1, none⟩ b).setCell ⟨g, k * 4 + 2, none⟩ c).setCell ⟨g, k * 4 + 3, none⟩ d) :=
  (((h.setCell (p := ⟨g, k * 4, none⟩) hg a).setCell (p := ⟨g, k * 4 + 1, none⟩) hg b).setCell (p := ⟨g, k * 4 + 2, none⟩) hg c).setCell (p := ⟨g, k * 4 + 3, none⟩) hg d

set_option maxHeartbeats 1000000 in
set_option maxRecDepth 100000 in
theorem still_any {w : World} {v : Value} {l : List Ins} {g n cap base : Nat} (hl : l.length = n) (hn : n ≤ 4398046511103) (hown : w.ownsRow base 92 4 (.slice (some ⟨g, 0, none⟩) (n + 1) cap) (n + 1) (flat (l ++ [far]))) (hs : Sees w v l) (hbase : base ≤ w.heap.size) :
    Calls Tryz.prog 23 #[.slice (some ⟨g, 0, none⟩) n cap, v] w fun e w' => e = .returned (.bool true) ∧ Below base w w' := by
  have hown0 : w.ownsRow base 92 4 (.slice (some ⟨g, 0, none⟩) n cap) n (flat l) := by
    rw [flat_append] at hown
    exact ownsRow_pop (by rw [flat_length, hl]) hown
  have Hs0 : Hid (Sees w (.slice (some ⟨g, 0, none⟩) n cap) l) := ownsRow_sees (by omega) (by rw [hl]; exact hown0)
  have Hs1 := hyd hs
  have Hown := hyd hown
  have hv : ∃ ao c, v = .slice ao n c := by
    rcases hs.2 with ⟨h0, ao, c, rfl⟩ | ⟨b, off, c, rfl, -⟩
    · subst h0; exact ⟨ao, c, by rw [← hl]; rfl⟩
    · exact ⟨_, c, by rw [hl]⟩
  obtain ⟨ao, c, rfl⟩ := hv
  have hcap : n + 1 ≤ cap := by
    rcases hown.2 with ⟨h0, -⟩ | ⟨g', cap', cur, hv, -, -, hc, -⟩
    · cases h0
    · cases hv; exact hc
  have hcap2 : (n : Int) + 1 ≤ (cap : Int) := by omega
  have hn2 : (n : Int) ≤ 4398046511103 := by omega
  obtain ⟨hg1, hg2⟩ := hown.lt g rfl
  have hfar : (l ++ [far])[n]? = some far := by rw [List.getElem?_append_right (by omega), hl]; simp
  obtain ⟨f0, f1, f2, f3⟩ := flat_at hfar
  have Hf := hyd (And.intro f0 (And.intro f1 (And.intro f2 f3)))
  clear hown hown0 hs hl f0 f1 f2 f3 hfar
  go_enter Tryz.func23, Tryz.ntmps23
  go_wp2_with fail
  refine (same_any Hs0.out Hs1.out).mono ?_
  rintro e w1 ⟨rfl, hb1⟩
  have hown1 := Hown.out.keptB hb1
  have c0 := (hown1.cellAt (n * 4) (by omega)).trans Hf.out.1
  have c1 := (hown1.cellAt (n * 4 + 1) (by omega)).trans Hf.out.2.1
  have c2 := (hown1.cellAt (n * 4 + 2) (by omega)).trans Hf.out.2.2.1
  have c3 := (hown1.cellAt (n * 4 + 3) (by omega)).trans Hf.out.2.2.2
  unfold far at c0 c1 c2 c3
  have hgw1 : g < w1.heap.size := (hown1.lt g rfl).2
  have hbw : base ≤ w1.heap.size := Nat.le_trans hbase hb1.size
  have Hown1 := hyd hown1
  have HB1 := hyd hb1
  clear hown1 hb1 Hs0 Hs1
  go_wp2_with fail
  go_loopw [8] (fun i wr => ∃ k : Nat, ∃ xs, k ≤ n + 1 ∧ i = .int .i64 k ∧ wr.ownsRow base 92 4 (.slice (some ⟨g, 0, none⟩) (n + 1) cap) (n + 1) xs ∧ Below base w wr) (fun i _ => n + 1 - (intOf i).toNat)
  case atStart => exact ⟨0, _, Nat.zero_le _, rfl, Hown1.out.alloc _, (HB1.out.mono hbase).alloc hbw _⟩
  case round =>
    obtain ⟨k, xs, hk, rfl, ho, hb⟩ := hrel
    clear c0 c1 c2 c3
    by_cases hkn : k < n + 1
    · have hlen : xs.length = (n + 1) * 4 := ho.1
      have e0 : ∃ u, wr.cell? ⟨g, k * 4, none⟩ = some u := ⟨_, (ho.cellAt (k * 4) (by omega)).trans (List.getElem?_eq_getElem (by omega))⟩
      have e1 : ∃ u, wr.cell? ⟨g, k * 4 + 1, none⟩ = some u := ⟨_, (ho.cellAt (k * 4 + 1) (by omega)).trans (List.getElem?_eq_getElem (by omega))⟩
      have e2 : ∃ u, wr.cell? ⟨g, k * 4 + 2, none⟩ = some u := ⟨_, (ho.cellAt (k * 4 + 2) (by omega)).trans (List.getElem?_eq_getElem (by omega))⟩
      have e3 : ∃ u, wr.cell? ⟨g, k * 4 + 3, none⟩ = some u := ⟨_, (ho.cellAt (k * 4 + 3) (by omega)).trans (List.getElem?_eq_getElem (by omega))⟩
      obtain ⟨u0, e0⟩ := e0
      obtain ⟨u1, e1⟩ := e1
      obtain ⟨u2, e2⟩ := e2
      obtain ⟨u3, e3⟩ := e3
      have z0 := ho.frozenAt (k * 4)
      have z1 := ho.frozenAt (k * 4 + 1)
      have z2 := ho.frozenAt (k * 4 + 2)
      have z3 := ho.frozenAt (k * 4 + 3)
      have Ho := hyd ho
      clear ho hlen
      have i1 : (0 : Int) ≤ (k : Int) := by omega
      have i2 : (k : Int) < (n : Int) + 1 := by omega
      go_wp2
      go_roundw
      case rel => exact ⟨k + 1, _, by omega, by go_num, owns_store4 Ho.out _ _ _ _, below_store4 hb hg1 _ _ _ _⟩
      case measure => simp [intOf]; omega
    · go_wp2
      go_ret
      exact ⟨rfl, hb⟩

end Go.Proofs.YtbhbacphiinpeaaGreat

