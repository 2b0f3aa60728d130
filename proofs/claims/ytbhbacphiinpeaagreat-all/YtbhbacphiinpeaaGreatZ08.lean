/- Q1 Y2 Opm: joined. -/
import Derived.Test.YtbhbacphiinpeaaGreatRows
import Derived.Test.YtbhbacphiinpeaaGreatZ01
import Derived.Deep.QuietTactic
import Derived.BigQuiet
import Derived.WalkSmall
import Derived.Laws.AppendOwnNone
import Derived.Test.YtbhbacphiinpeaaGreatZ06
import Derived.Test.YtbhbacphiinpeaaGreatZ07
import Derived.OpenShut

/- What 'sameInts', 'wide' and 'still' do with lists of numbers, and 'sameLog' with logs. -/
namespace Go.Proofs.YtbhbacphiinpeaaGreat
open Go.RowKit

theorem Tryz.infoQ3 : (Tryz.prog.info? 3).map (fun i => (i.zero, i.size, i.bytes)) = some (some (.int .i64 0), 1, 8) := by kernel_rfl

def zVals (l : List Int) : List Value := l.map fun m => Value.int .i64 m
theorem zVals_at {l : List Int} {i : Nat} {x : Int} (h : l[i]? = some x) : (zVals l)[i]? = some (.int .i64 x) := by simp [zVals, List.getElem?_map, h]
theorem zVals_append (l m : List Int) : zVals (l ++ m) = zVals l ++ zVals m := by simp [zVals]
theorem zVals_length (l : List Int) : (zVals l).length = l.length := by simp [zVals]
theorem oneCell_z (l : List Int) : ∀ u ∈ zVals l, u.oneCell' = true := by
  intro u hu
  obtain ⟨x, -, rfl⟩ := List.mem_map.1 hu
  rfl

/-- The slice v, as the world w has it, reads as the numbers l. -/
def SeesZ (w : World) (v : Value) (l : List Int) : Prop :=
  l.length ≤ 17592186044416 ∧ ((l = [] ∧ ∃ ao cap, v = .slice ao 0 cap) ∨
    ∃ b off cap, v = .slice (some ⟨b, off, none⟩) l.length cap ∧ b < w.heap.size ∧ ∀ (i : Nat) x, l[i]? = some x → w.cell? ⟨b, off + i, none⟩ = some (.int .i64 x))

theorem SeesZ.up {w w' : World} {v : Value} {l : List Int} {B : Nat} (h : SeesZ w v l) (hB : w.heap.size ≤ B) (hb : Below B w w') : SeesZ w' v l := by
  refine ⟨h.1, ?_⟩
  rcases h.2 with h0 | ⟨b, off, cap, rfl, hlt, hc⟩
  · exact .inl h0
  · exact .inr ⟨b, off, cap, rfl, Nat.lt_of_lt_of_le hlt hb.size, fun i x hx => (hb.cell (Nat.lt_of_lt_of_le hlt hB)).trans (hc i x hx)⟩

theorem ownsRow_seesZ {w : World} {base : Nat} {v : Value} {l : List Int} (hm : l.length ≤ 17592186044416) (h : w.ownsRow base 3 1 v l.length (zVals l)) : SeesZ w v l := by
  refine ⟨hm, ?_⟩
  rcases h.2 with ⟨rfl, h0⟩ | ⟨g, cap, cur, rfl, hb, hg, hr⟩
  · exact .inl ⟨List.eq_nil_of_length_eq_zero h0, none, 0, rfl⟩
  · refine .inr ⟨g, 0, cap, rfl, (Array.getElem?_eq_some_iff.1 hg).1, fun i x hx => ?_⟩
    have hi : i < l.length := (List.getElem?_eq_some_iff.1 hx).1
    rw [Nat.zero_add]
    exact (h.cellAt i (by omega)).trans (zVals_at hx)

set_option maxHeartbeats 400000 in
theorem sameI_none (a0 a1 : Option Addr) (c0 c1 : Nat) (w : World) :
    Calls Tryz.prog 31 #[.slice a0 0 c0, .slice a1 0 c1] w fun e w' => e = .returned (.bool true) ∧ Below w.heap.size w w' := by
  go_enter Tryz.func31, Tryz.ntmps31
  go_wp2_with fail
  go_loop [5] (fun i => i = .int .i64 0) (fun _ => 0)
  case atStart => rfl
  case round =>
    subst hrel
    go_wp2
    go_ret
    exact ⟨rfl, Below.refl _ _⟩

set_option maxHeartbeats 1000000 in
set_option maxRecDepth 100000 in
theorem sameI_some (b0 o0 b1 o1 c0 c1 n : Nat) (l : List Int) (hl : l.length = n) (hn : n ≤ 17592186044416) (w : World) (hb0 : b0 < w.heap.size) (hb1 : b1 < w.heap.size)
    (hc0 : ∀ (i : Nat) x, l[i]? = some x → w.cell? ⟨b0, o0 + i, none⟩ = some (.int .i64 x)) (hc1 : ∀ (i : Nat) x, l[i]? = some x → w.cell? ⟨b1, o1 + i, none⟩ = some (.int .i64 x)) :
    Calls Tryz.prog 31 #[.slice (some ⟨b0, o0, none⟩) n c0, .slice (some ⟨b1, o1, none⟩) n c1] w fun e w' => e = .returned (.bool true) ∧ Below w.heap.size w w' := by
  have Hl := hyd hl
  have H0 := hyd hc0
  have H1 := hyd hc1
  clear hl hc0 hc1
  have hn2 : (n : Int) ≤ 17592186044416 := by omega
  go_enter Tryz.func31, Tryz.ntmps31
  go_wp2_with fail
  go_loopw [5] (fun i wr => ∃ k : Nat, k ≤ n ∧ i = .int .i64 k ∧ Below w.heap.size w wr) (fun i _ => n - (intOf i).toNat)
  case atStart => exact ⟨0, Nat.zero_le _, rfl, Below.refl _ _⟩
  case round =>
    obtain ⟨k, hk, rfl, hb⟩ := hrel
    by_cases hkn : k < n
    · obtain ⟨x, hx⟩ : ∃ x, l[k]? = some x := ⟨_, List.getElem?_eq_getElem (by rw [Hl.out]; exact hkn)⟩
      have d0 := (hb.cell (p := ⟨b0, o0 + k, none⟩) hb0).trans (H0.out k x hx)
      have d4 := (hb.cell (p := ⟨b1, o1 + k, none⟩) hb1).trans (H1.out k x hx)
      clear hx
      have i1 : (0 : Int) ≤ (k : Int) := by omega
      have i2 : (k : Int) < (n : Int) := by omega
      go_wp2_with fail
      go_quiet (fail)
      go_wp2
      go_roundw
      case rel => exact ⟨k + 1, by omega, by go_num, below_drewN hb _⟩
      case measure => simp [intOf]; omega
    · go_wp2
      go_ret
      exact ⟨rfl, hb⟩

theorem sameI {w : World} {v0 v1 : Value} {l : List Int} (h0 : SeesZ w v0 l) (h1 : SeesZ w v1 l) :
    Calls Tryz.prog 31 #[v0, v1] w fun e w' => e = .returned (.bool true) ∧ Below w.heap.size w w' := by
  by_cases hl : l = []
  · have kk : ∀ {v : Value}, SeesZ w v l → ∃ ao cap, v = .slice ao 0 cap := fun h => by
      rcases h.2 with ⟨-, h⟩ | ⟨b, off, cap, rfl, -⟩
      · exact h
      · exact ⟨some ⟨b, off, none⟩, cap, by rw [hl]; rfl⟩
    obtain ⟨a0, c0, rfl⟩ := kk h0
    obtain ⟨a1, c1, rfl⟩ := kk h1
    exact sameI_none a0 a1 c0 c1 w
  · rcases h0.2 with ⟨h, -⟩ | ⟨b0, o0, c0, rfl, hb0, hc0⟩
    · exact absurd h hl
    · rcases h1.2 with ⟨h, -⟩ | ⟨b1, o1, c1, rfl, hb1, hc1⟩
      · exact absurd h hl
      · exact sameI_some b0 o0 b1 o1 c0 c1 l.length l rfl h0.1 w hb0 hb1 hc0 hc1

theorem seesZ_cells {w : World} {b off : Nat} {l : List Int} (hc : ∀ (i : Nat) x, l[i]? = some x → w.cell? ⟨b, off + i, none⟩ = some (.int .i64 x)) : ∀ j u, (zVals l)[j]? = some u → w.cell? ((⟨b, off, none⟩ : Addr).add j) = some u := by
  intro j u hu
  have e1 : (⟨b, off, none⟩ : Addr).add j = ⟨b, off + j, none⟩ := by unfold Addr.add; split <;> simp_all
  unfold zVals at hu
  rw [List.getElem?_map, Option.map_eq_some_iff] at hu
  obtain ⟨x, hx, rfl⟩ := hu
  rw [e1]
  exact hc j x hx

set_option maxHeartbeats 1000000 in
set_option maxRecDepth 100000 in
theorem wideI_some (b off n cap : Nat) (l : List Int) (hl : l.length = n) (hn0 : 1 ≤ n) (hn : n ≤ 17592186044415) (w : World) (hc : ∀ (i : Nat) x, l[i]? = some x → w.cell? ⟨b, off + i, none⟩ = some (.int .i64 x)) :
    Calls Tryz.prog 33 #[.slice (some ⟨b, off, none⟩) n cap] w fun e w' => ∃ g c, e = .returned (.slice (some ⟨g, 0, none⟩) n c) ∧ w'.ownsRow w.heap.size 3 1 (.slice (some ⟨g, 0, none⟩) (n + 1) c) (n + 1) (zVals (l ++ [-1000])) ∧ Below w.heap.size w w' := by
  have Hl := hyd hl
  have Hc := hyd (seesZ_cells hc)
  clear hl hc
  have hn2 : (n : Int) ≤ 17592186044415 := by omega
  obtain ⟨i0, hi, hz0, hz1, hz2⟩ := info_parts Tryz.infoQ3
  go_enter Tryz.func33, Tryz.ntmps33
  go_wp2_with (at_builtin; go_must (refine wpList_append_lies _ rfl (.tmp 4) (.tmp 5) 24 rfl w.heap.size 3 i0 (.int .i64 0) 1 8 Tryz.underlying24 hi hz0 hz1 hz2 rfl (by decide) (.slice none 0 0) 0 [] rfl ?c0 ⟨b, off, none⟩ n cap (zVals l) rfl ?c1 ?c2 ?c3 (by omega) ?c4 ?c5 ?c6 w.heap.size ?c7 ?_))
  case c0 => exact World.ownsRow_nil _ _ _ _
  case c1 => rw [zVals_length, Hl.out, Nat.mul_one]
  case c2 => exact Hc.out
  case c3 => exact oneCell_z l
  case c4 => unfold maxLen; omega
  case c5 => omega
  case c6 => omega
  case c7 => rfl
  · intro g c w1 hown1 hgrow1 _ _
    have hb1 : Below w.heap.size w w1 := (Below.refl _ w).grown hgrow1 (Nat.le_refl _) (fun k hk => by simp [Value.ownBlock] at hk)
    have hown1' : w1.ownsRow w.heap.size 3 1 (.slice (some ⟨g, 0, none⟩) n c) n (zVals l) := by simpa using hown1
    have Hown1 := hyd hown1'
    have HB1 := hyd hb1
    clear hown1 hown1' hgrow1 hb1
    go_wp2_with (at_builtin; go_must (refine wpList_append_lies _ rfl (.tmp 7) (.tmp 8) 24 rfl w.heap.size 3 i0 (.int .i64 0) 1 8 Tryz.underlying24 hi hz0 hz1 hz2 rfl (by decide) (.slice (some ⟨g, 0, none⟩) n c) n (zVals l) rfl ?d0 ⟨w1.heap.size, 0, none⟩ 1 1 (zVals [-1000]) rfl rfl ?d1 ?d2 (by omega) ?d3 ?d4 ?d5 (w1.heap.size + 1) ?d6 ?_))
    case d0 => exact Hown1.out.alloc _
    case d1 => exact World.news_of_block (heap_alloc_new w1 _)
    case d2 => exact oneCell_z _
    case d3 => unfold maxLen; omega
    case d4 => omega
    case d5 => have := HB1.out.size; simp; omega
    case d6 => simp
    · intro g2 c2 w2 hown2 hgrow2 _ _
      have hb2 : Below w.heap.size w w2 := (HB1.out.alloc HB1.out.size _).grown hgrow2 (by have := HB1.out.size; simp; omega) (fun k hk => (Hown1.out.lt k hk).1)
      rw [← zVals_append] at hown2
      have hcap : n + 1 ≤ c2 := by
        rcases hown2.2 with ⟨h0, -⟩ | ⟨g', cap', cur, hv, -, -, hc, -⟩
        · cases h0
        · cases hv; exact hc
      have hcap2 : (n : Int) ≤ (c2 : Int) := by omega
      have Hown2 := hyd hown2
      have HB2 := hyd hb2
      clear hown2 hgrow2 hb2
      go_wp2
      go_ret
      exact ⟨g2, c2, rfl, Hown2.out, HB2.out⟩

end Go.Proofs.YtbhbacphiinpeaaGreat

/- What 'plays' answers of whatever kinds, if the steps and the looks keep what is to be kept. -/
namespace Go.Proofs.YtbhbacphiinpeaaGreat
open Go.RowKit

/-- It is one of Go's 64 bit numbers. -/
def I64 (x : Int) : Prop := -9223372036854775808 ≤ x ∧ x ≤ 9223372036854775807

/-- What is known of a step that came in: its text, its kernel, its numbers. -/
def OpOk2 (w : World) (o : Opv) : Prop := (OpOk w o ∧ I64 o.k ∧ I64 o.a ∧ I64 o.b ∧ I64 o.c) ∧ (∀ n cap, Value.slice o.la o.ln o.lc = .slice none n cap → cap = 0) ∧ ∃ z, (z.length ≤ 17592186044415 ∧ ∀ x ∈ z, I64 x) ∧ SeesZ w (.slice o.la o.ln o.lc) z

theorem OpOk2.up {w w' : World} {o : Opv} {B : Nat} (h : OpOk2 w o) (hB : w.heap.size ≤ B) (hb : Below B w w') : OpOk2 w' o := by
  obtain ⟨h1, h2, l, h3, h4⟩ := h
  exact ⟨⟨h1.1.up hB hb, h1.2⟩, h2, l, h3, h4.up hB hb⟩

/-- The cells of the steps l, from (b, off) on. -/
def OpsAt (w : World) (b off : Nat) (l : List Opv) : Prop := ∀ (i : Nat) o, l[i]? = some o →
      w.cell? ⟨b, off + i * 7, none⟩ = some (.int .i64 o.k) ∧ w.cell? ⟨b, off + i * 7 + 1, none⟩ = some (.int .i64 o.a) ∧ w.cell? ⟨b, off + i * 7 + 2, none⟩ = some (.int .i64 o.b) ∧ w.cell? ⟨b, off + i * 7 + 3, none⟩ = some (.int .i64 o.c) ∧
      w.cell? ⟨b, off + i * 7 + 4, none⟩ = some (.string o.s) ∧ w.cell? ⟨b, off + i * 7 + 5, none⟩ = some (.slice o.la o.ln o.lc) ∧ w.cell? ⟨b, off + i * 7 + 6, none⟩ = some (.slice o.ka o.kn o.kc)

/-- The slice v, as the world w has it, reads as the steps l. -/
def SeesO2 (w : World) (v : Value) (l : List Opv) : Prop :=
  l.length ≤ 1466015503700 ∧ (∀ o ∈ l, OpOk2 w o) ∧ ((l = [] ∧ ∃ ao cap, v = .slice ao 0 cap) ∨ ∃ b off cap, v = .slice (some ⟨b, off, none⟩) l.length cap ∧ b < w.heap.size ∧ OpsAt w b off l)

theorem SeesO2.up {w w' : World} {v : Value} {l : List Opv} (h : SeesO2 w v l) (hb : Below w.heap.size w w') : SeesO2 w' v l := by
  obtain ⟨hm, hok, h⟩ := h
  refine ⟨hm, fun o ho => (hok o ho).up (Nat.le_refl _) hb, ?_⟩
  rcases h with h | ⟨b, off, cap, rfl, hlt, hc⟩
  · exact .inl h
  · refine .inr ⟨b, off, cap, rfl, Nat.lt_of_lt_of_le hlt hb.size, fun i o ho => ?_⟩
    obtain ⟨c0, c1, c2, c3, c4, c5, c6⟩ := hc i o ho
    exact ⟨(hb.cell hlt).trans c0, (hb.cell hlt).trans c1, (hb.cell hlt).trans c2, (hb.cell hlt).trans c3, (hb.cell hlt).trans c4, (hb.cell hlt).trans c5, (hb.cell hlt).trans c6⟩

/-- Is a step's kind among the first j of the kinds? -/
def inK (ks : List Int) (k : Int) (j : Nat) : Bool := (ks.take j).any (k == ·)

theorem inK_succ {ks : List Int} {k x : Int} {j : Nat} (h : ks[j]? = some x) : inK ks k (j + 1) = (inK ks k j || k == x) := by
  unfold inK
  rw [List.take_add_one, h]
  simp

theorem inK_all {ks : List Int} {k : Int} {n : Nat} (hn : ks.length = n) : inK ks k n = true ↔ k ∈ ks := by
  unfold inK
  rw [List.take_of_length_le (by omega)]
  simp

/-- What a script keeps from step to step: I w BW k, behind k steps, of the world's object at BW. -/
structure Keeps (ks : List Int) (I : World → Nat → Nat → Prop) : Prop where
  init : ∀ w : World, I (w.alloc (.cells #[.slice none 0 0, .slice none 0 0, .slice none 0 0, .slice none 0 0] 34)) w.heap.size 0
  up : ∀ {w w' : World} {BW k : Nat}, I w BW k → Below w.heap.size w w' → I w' BW k
  more : ∀ {w : World} {BW k : Nat}, I w BW k → I w BW (k + 1)
  step : ∀ {w : World} {BW k : Nat} {o : Opv}, OpOk2 w o → o.k ∈ ks → I w BW k → k ≤ 1466015503700 →
    Calls Tryz.prog 10 #[.pointer (some ⟨BW, 0, none⟩), o.agg] w fun e w' => e = .returned (.bool true) ∧ I w' BW (k + 1) ∧ Below BW w w'
  looks : ∀ {w : World} {BW k : Nat}, I w BW k → k ≤ 1466015503701 → Calls Tryz.prog 11 #[.pointer (some ⟨BW, 1, none⟩)] w fun e w' => e = .returned (.bool true) ∧ Below w.heap.size w w'

set_option maxHeartbeats 2000000 in
set_option maxRecDepth 100000 in
theorem plays_gen_at (ks : List Int) (m : Nat) (I : World → Nat → Nat → Prop) (K : Keeps ks I) (hks : ks.length = m) (hm9 : m ≤ 9) (n : Nat) (l : List Opv) (ao : Option Addr) (cap kb kcap : Nat) (hn : n = l.length) (hm : n ≤ 1466015503700) (w : World) (hok : ∀ o ∈ l, OpOk2 w o) (hkb : kb < w.heap.size)
    (hkk : ∀ (j : Nat) x, ks[j]? = some x → w.cell? ⟨kb, j, none⟩ = some (.int .i64 x))
    (hc : n = 0 ∨ ∃ b off, ao = some ⟨b, off, none⟩ ∧ b < w.heap.size ∧ OpsAt w b off l) :
    Calls Tryz.prog 9 #[.slice ao n cap, .slice (some ⟨kb, 0, none⟩) m kcap] w fun e w' => e = .returned (.bool true) ∧ Below w.heap.size w w' := by
  have Hn := hyd hn
  have Hok := hyd hok
  have Hc := hyd hc
  have HK := hyd K
  have Hks := hyd hks
  have Hkk := hyd hkk
  have HI0 := hyd (K.init w)
  clear hn hok hc K hks hkk
  have hm2 : (n : Int) ≤ 1466015503700 := by omega
  have hm92 : (m : Int) ≤ 9 := by omega
  go_enter Tryz.func9, Tryz.ntmps9
  go_wp2_with fail
  go_loopw [6] (fun i wr => ∃ k : Nat, k ≤ n ∧ i = .int .i64 k ∧ I wr w.heap.size k ∧ Below w.heap.size w wr) (fun i _ => n - (intOf i).toNat)
  case atStart => exact ⟨0, Nat.zero_le _, rfl, HI0.out, (Below.refl _ w).alloc (Nat.le_refl _) _⟩
  case round =>
    obtain ⟨k, hk, rfl, hI, hb⟩ := hrel
    have HI := hyd hI
    clear hI
    by_cases hkn : k < n
    · obtain ⟨o, ho⟩ : ∃ o, l[k]? = some o := ⟨_, List.getElem?_eq_getElem (by rw [← Hn.out]; exact hkn)⟩
      obtain ⟨b, off, hao, hblt, hcell⟩ : ∃ b off, ao = some ⟨b, off, none⟩ ∧ b < w.heap.size ∧ OpsAt w b off l := by
        rcases Hc.out with h0 | h
        · omega
        · exact h
      subst hao
      have HOk := hyd (Hok.out o (List.mem_of_getElem? ho))
      have HC := hyd (hcell k o ho)
      clear hcell ho
      have i1 : (0 : Int) ≤ (k : Int) := by omega
      have i2 : (k : Int) < (n : Int) := by omega
      have hbw : b < wr.heap.size := Nat.lt_of_lt_of_le hblt hb.size
      have hkw : kb < wr.heap.size := Nat.lt_of_lt_of_le hkb hb.size
      go_wp2_with fail
      go_loopw [7, 8] (fun t j wx => ∃ q : Nat, q ≤ m ∧ t = .bool (inK ks o.k q) ∧ j = .int .i64 q ∧ Below wr.heap.size wr wx) (fun _ j _ => m - (intOf j).toNat)
      case atStart => exact ⟨0, by omega, by simp [inK], rfl, Below.refl _ _⟩
      case round =>
        obtain ⟨q, hq, rfl, rfl, hbx⟩ := hrel
        by_cases hqm : q < m
        · obtain ⟨x, hx⟩ : ∃ x, ks[q]? = some x := ⟨_, List.getElem?_eq_getElem (by rw [Hks.out]; exact hqm)⟩
          have c0 := (hbx.cell (p := ⟨b, off + k * 7, none⟩) hbw).trans ((hb.cell (p := ⟨b, off + k * 7, none⟩) hblt).trans HC.out.1)
          have k0 := (hbx.cell (p := ⟨kb, q, none⟩) hkw).trans ((hb.cell (p := ⟨kb, q, none⟩) hkb).trans (Hkk.out q x hx))
          have Hsucc := hyd (inK_succ (k := o.k) hx)
          clear hx
          have q1 : (0 : Int) ≤ (q : Int) := by omega
          have q2 : (q : Int) < (m : Int) := by omega
          rcases Bool.eq_false_or_eq_true (inK ks o.k q) with hin | hin
          · rw [hin] at Hsucc ⊢
            have HT : Hid (inK ks o.k (q + 1) = true) := by rw [Hsucc.out]; rfl
            clear hin Hsucc
            go_wp2_with fail
            go_quiet (fail)
            go_wp2
            go_roundw
            case rel => exact ⟨q + 1, by omega, by rw [HT.out], by go_num, below_drewN hbx _⟩
            case measure => simp [intOf]; omega
          · rw [hin] at Hsucc ⊢
            have HT : Hid (inK ks o.k (q + 1) = (o.k == x)) := by rw [Hsucc.out]; rfl
            clear hin Hsucc
            go_wp2_with fail
            go_quiet (fail)
            go_wp2
            go_roundw
            case rel => exact ⟨q + 1, by omega, by rw [HT.out], by go_num, below_drewN hbx _⟩
            case measure => simp [intOf]; omega
        · have hqe : q = m := by omega
          subst hqe
          rcases Bool.eq_false_or_eq_true (inK ks o.k q) with hin | hin
          · have Hk := hyd ((inK_all Hks.out).1 hin)
            rw [hin]
            clear hin
            have c1 := (hbx.cell (p := ⟨b, off + k * 7 + 1, none⟩) hbw).trans ((hb.cell (p := ⟨b, off + k * 7 + 1, none⟩) hblt).trans HC.out.2.1)
            have c0 := (hbx.cell (p := ⟨b, off + k * 7, none⟩) hbw).trans ((hb.cell (p := ⟨b, off + k * 7, none⟩) hblt).trans HC.out.1)
            have c2 := (hbx.cell (p := ⟨b, off + k * 7 + 2, none⟩) hbw).trans ((hb.cell (p := ⟨b, off + k * 7 + 2, none⟩) hblt).trans HC.out.2.2.1)
            have c3 := (hbx.cell (p := ⟨b, off + k * 7 + 3, none⟩) hbw).trans ((hb.cell (p := ⟨b, off + k * 7 + 3, none⟩) hblt).trans HC.out.2.2.2.1)
            have c4 := (hbx.cell (p := ⟨b, off + k * 7 + 4, none⟩) hbw).trans ((hb.cell (p := ⟨b, off + k * 7 + 4, none⟩) hblt).trans HC.out.2.2.2.2.1)
            have c5 := (hbx.cell (p := ⟨b, off + k * 7 + 5, none⟩) hbw).trans ((hb.cell (p := ⟨b, off + k * 7 + 5, none⟩) hblt).trans HC.out.2.2.2.2.2.1)
            have c6 := (hbx.cell (p := ⟨b, off + k * 7 + 6, none⟩) hbw).trans ((hb.cell (p := ⟨b, off + k * 7 + 6, none⟩) hblt).trans HC.out.2.2.2.2.2.2)
            have HB2 : Hid (Below w.heap.size w wr) := hb.trans (hbx.mono hb.size)
            have HI2 := hyd (HK.out.up HI.out hbx)
            have HO2 := hyd (HOk.out.up (Nat.le_refl _) HB2.out)
            go_wp2_with fail
            refine (HK.out.step (o := o) HO2.out Hk.out HI2.out (by omega)).mono ?_
            rintro e w3 ⟨rfl, hI3, hb3⟩
            have HI3 := hyd hI3
            have HB3 := hyd (HB2.out.trans hb3)
            clear hI3 hb3 c0 c1 c2 c3 c4 c5 c6
            go_wp2_with fail
            refine (HK.out.looks HI3.out (by omega)).mono ?_
            rintro e w4 ⟨rfl, hb4⟩
            have HI4 := hyd (HK.out.up HI3.out hb4)
            have HB4 := hyd (HB3.out.trans (hb4.mono HB3.out.size))
            clear hb4
            go_wp2
            go_roundw
            case rel => exact ⟨k + 1, by omega, by go_num, HI4.out, HB4.out⟩
            case measure => simp [intOf]; omega
          · rw [hin]
            clear hin
            have HB2 : Hid (Below w.heap.size w wr) := hb.trans (hbx.mono hb.size)
            have HI2 := hyd (HK.out.more (HK.out.up HI.out hbx))
            go_wp2
            go_roundw
            case rel => exact ⟨k + 1, by omega, by go_num, HI2.out, HB2.out⟩
            case measure => simp [intOf]; omega
    · go_wp2
      go_ret
      exact ⟨rfl, hb⟩

theorem plays_gen {ks : List Int} {I : World → Nat → Nat → Prop} (K : Keeps ks I) (hm9 : ks.length ≤ 9) {w : World} {v : Value} {l : List Opv} {kb kcap : Nat} (h : SeesO2 w v l) (hkb : kb < w.heap.size) (hkk : ∀ (j : Nat) x, ks[j]? = some x → w.cell? ⟨kb, j, none⟩ = some (.int .i64 x)) :
    Calls Tryz.prog 9 #[v, .slice (some ⟨kb, 0, none⟩) ks.length kcap] w fun e w' => e = .returned (.bool true) ∧ Below w.heap.size w w' := by
  obtain ⟨hm, hok, h⟩ := h
  rcases h with ⟨rfl, ao, cap, rfl⟩ | ⟨b, off, cap, rfl, hlt, hc⟩
  · exact plays_gen_at ks _ I K rfl hm9 0 [] ao cap kb kcap rfl (by omega) w hok hkb hkk (.inl rfl)
  · exact plays_gen_at ks _ I K rfl hm9 l.length l _ cap kb kcap rfl hm w hok hkb hkk (.inr ⟨b, off, rfl, hlt, hc⟩)

end Go.Proofs.YtbhbacphiinpeaaGreat

/- How a script that came in reads, with the numbers of each step too. -/
namespace Go.Proofs.YtbhbacphiinpeaaGreat
open Go.RowKit

theorem Tryz.bytes3 : Tryz.prog.bytesOf 3 = 8 := by kernel_rfl

section
variable {H : Type} {enc : TypeId × Value → H} {w : World} {base : Nat} {spare : Nat → Bool} {held : Bool}

theorem wf_i64 {z : Int} (h : (Lit.int .i64 z).wf = true) : I64 z := bounds_i64 h

/-- A slice of numbers that came in. -/
theorem trod_seesZ {fuel : Nat} {v : Value} {x : DataW H × List MemPlace} (hfull : ∀ b, spare b = true) (h : DataW.trod enc Tryz.prog w base spare held fuel 24 [v] = some x) (hR : ∀ n ∈ x.1.weights Tryz.prog 24, n ≤ reachBytes) :
    ∃ ao kn kc l, v = .slice ao kn kc ∧ (∀ n cap, Value.slice ao kn kc = .slice none n cap → cap = 0) ∧ (l.length ≤ 17592186044415 ∧ ∀ x ∈ l, I64 x) ∧ SeesZ w (.slice ao kn kc) l := by
  rcases Go.Deep.open_slice Tryz.underlying24 h with ⟨h0, -⟩ | ⟨a, len, cap, m, n, D, Pl, h0, -, hl, -, hm, rfl, hel⟩
  · simp only [List.cons.injEq, and_true] at h0
    subst h0
    exact ⟨none, 0, 0, [], rfl, (fun n cap e => by cases e; rfl), ⟨by simp, fun x hx => by simp at hx⟩, by simp, .inl ⟨rfl, none, 0, rfl⟩⟩
  · simp only [List.cons.injEq, and_true] at h0
    subst h0
    rw [hfull] at hm
    simp only [if_true] at hm
    subst hm
    have hw := hR ((len + (m - len)) * 8) (by simp [DataW.weights, Tryz.underlying24, Tryz.bytes3])
    have hlen : len ≤ 17592186044415 := by unfold reachBytes at hw; omega
    rw [Tryz.cells3] at hel
    have hel2 : ∀ i, i < len → ∃ y : Int, w.cell? (a.add i) = some (.int .i64 y) ∧ I64 y := fun i hi => by
      obtain ⟨cs', h1, h2⟩ := hel i (by omega)
      obtain ⟨y, rfl, -, hwf⟩ := DataW.trod_int Tryz.underlying3 h2
      have h3 := (World.cells?_some h1).2.2 0 (by simp)
      refine ⟨y, ?_, wf_i64 hwf⟩
      rw [Nat.mul_one] at h3
      have e0 : (a.add i).add 0 = a.add i := by cases a; simp [Addr.add]
      rw [e0] at h3
      exact h3
    refine ⟨some a, len, m, ?_⟩
    by_cases hz : len = 0
    · subst hz
      exact ⟨[], rfl, (fun n cap e => by cases e), ⟨by simp, fun x hx => by simp at hx⟩, by simp, .inl ⟨rfl, some a, m, rfl⟩⟩
    · obtain ⟨b, off, spot⟩ := a
      have hs : spot = none := by
        obtain ⟨y, hy, -⟩ := hel2 0 (by omega)
        have := World.cell?_spot hy
        simpa [Addr.add] using this
      subst hs
      obtain ⟨f, hf⟩ := Go.Deep.choose_lt hel2
      refine ⟨(List.range len).map f, rfl, (fun n cap e => by cases e), ⟨by simpa using hlen, fun x hx => ?_⟩, by simp; omega, .inr ⟨b, off, m, by simp, ?_, fun i y hy => ?_⟩⟩
      · obtain ⟨i, hi, rfl⟩ := List.mem_map.1 hx
        exact (hf i (List.mem_range.1 hi)).2
      · have := World.block_lt_of_cell? w _ (hf 0 (by omega)).1
        simpa [add_block] using this
      · have hi : i < len := by have := (List.getElem?_eq_some_iff.1 hy).1; simpa using this
        have hy2 : f i = y := by simpa [List.getElem?_map, List.getElem?_range hi] using hy
        subst hy2
        have key := (hf i hi).1
        simp only [add_plain] at key
        exact key

/-- The cells of a step. -/
theorem trod_op2 {fuel : Nat} {cs : List Value} {x : DataW H × List MemPlace} (hfull : ∀ b, spare b = true) (h : DataW.trod enc Tryz.prog w base spare held fuel 37 cs = some x) (hR : ∀ n ∈ x.1.weights Tryz.prog 37, n ≤ reachBytes) :
    ∃ o : Opv, cs = [.int .i64 o.k, .int .i64 o.a, .int .i64 o.b, .int .i64 o.c, .string o.s, .slice o.la o.ln o.lc, .slice o.ka o.kn o.kc] ∧ OpOk2 w o := by
  obtain ⟨xs, n, -, hx, hl, hlen, hf⟩ := DataW.trod_struct Tryz.underlying37 h
  rw [Tryz.cells37] at hl
  have hR2 : ∀ (j : Nat) (y : DataW H × List MemPlace) (t : TypeId), xs[j]? = some y → ([3, 3, 3, 3, 9, 24, 35] : List TypeId)[j]? = some t → ∀ k ∈ y.1.weights Tryz.prog t, k ≤ reachBytes := fun j y t hy ht k hk => by
    refine hR k ?_
    rw [hx]
    simp only [DataW.weights, Tryz.underlying37]
    exact DataW.weights_mem_each (ts := [3, 3, 3, 3, 9, 24, 35]) (j := j) ht (by rw [List.getElem?_map, hy]; rfl) k hk
  obtain ⟨c0, c1, c2, c3, c4, c5, c6, rfl⟩ := list7 hl
  · clear hl
    have f0 : DataW.trod enc Tryz.prog w base spare held n 3 [c0] = xs[0]? := by
      have e : DataW.trod enc Tryz.prog w base spare held n 3 ((([c0, c1, c2, c3, c4, c5, c6] : List Value).drop 0).take (Tryz.prog.cellsOf 3)) = xs[0]? := hf 0 _ rfl
      rw [Tryz.cells3] at e
      exact e
    have f1 : DataW.trod enc Tryz.prog w base spare held n 3 [c1] = xs[1]? := by
      have e : DataW.trod enc Tryz.prog w base spare held n 3 ((([c0, c1, c2, c3, c4, c5, c6] : List Value).drop 1).take (Tryz.prog.cellsOf 3)) = xs[1]? := hf 1 _ rfl
      rw [Tryz.cells3] at e
      exact e
    have f2 : DataW.trod enc Tryz.prog w base spare held n 3 [c2] = xs[2]? := by
      have e : DataW.trod enc Tryz.prog w base spare held n 3 ((([c0, c1, c2, c3, c4, c5, c6] : List Value).drop 2).take (Tryz.prog.cellsOf 3)) = xs[2]? := hf 2 _ rfl
      rw [Tryz.cells3] at e
      exact e
    have f3 : DataW.trod enc Tryz.prog w base spare held n 3 [c3] = xs[3]? := by
      have e : DataW.trod enc Tryz.prog w base spare held n 3 ((([c0, c1, c2, c3, c4, c5, c6] : List Value).drop 3).take (Tryz.prog.cellsOf 3)) = xs[3]? := hf 3 _ rfl
      rw [Tryz.cells3] at e
      exact e
    have f4 : DataW.trod enc Tryz.prog w base spare held n 9 [c4] = xs[4]? := by
      have e : DataW.trod enc Tryz.prog w base spare held n 9 ((([c0, c1, c2, c3, c4, c5, c6] : List Value).drop 4).take (Tryz.prog.cellsOf 9)) = xs[4]? := hf 4 _ rfl
      rw [Tryz.cells9] at e
      exact e
    have f5 : DataW.trod enc Tryz.prog w base spare held n 24 [c5] = xs[5]? := by
      have e : DataW.trod enc Tryz.prog w base spare held n 24 ((([c0, c1, c2, c3, c4, c5, c6] : List Value).drop 5).take (Tryz.prog.cellsOf 24)) = xs[5]? := hf 5 _ rfl
      rw [Tryz.cells24] at e
      exact e
    have f6 : DataW.trod enc Tryz.prog w base spare held n 35 [c6] = xs[6]? := by
      have e : DataW.trod enc Tryz.prog w base spare held n 35 ((([c0, c1, c2, c3, c4, c5, c6] : List Value).drop 6).take (Tryz.prog.cellsOf 35)) = xs[6]? := hf 6 _ rfl
      rw [Tryz.cells35] at e
      exact e
    obtain ⟨y0, e0⟩ := some_at (j := 0) hlen (by simp)
    obtain ⟨y1, e1⟩ := some_at (j := 1) hlen (by simp)
    obtain ⟨y2, e2⟩ := some_at (j := 2) hlen (by simp)
    obtain ⟨y3, e3⟩ := some_at (j := 3) hlen (by simp)
    obtain ⟨y4, e4⟩ := some_at (j := 4) hlen (by simp)
    obtain ⟨y5, e5⟩ := some_at (j := 5) hlen (by simp)
    obtain ⟨y6, e6⟩ := some_at (j := 6) hlen (by simp)
    rw [e0] at f0
    rw [e1] at f1
    rw [e2] at f2
    rw [e3] at f3
    rw [e4] at f4
    rw [e5] at f5
    rw [e6] at f6
    obtain ⟨z0, g0, -, wf0⟩ := DataW.trod_int Tryz.underlying3 f0
    obtain ⟨z1, g1, -, wf1⟩ := DataW.trod_int Tryz.underlying3 f1
    obtain ⟨z2, g2, -, wf2⟩ := DataW.trod_int Tryz.underlying3 f2
    obtain ⟨z3, g3, -, wf3⟩ := DataW.trod_int Tryz.underlying3 f3
    obtain ⟨s, g4, hs, -⟩ := DataW.trod_string Tryz.underlying9 f4
    have hsz : s.size ≤ 140737488355328 := by
      have h1 := hR2 4 y4 9 e4 rfl s.data.toList.length (by rw [hs]; simp [DataW.weights])
      have h2 : s.data.toList.length = s.size := by simp
      unfold reachBytes at h1
      omega
    obtain ⟨ka, kn, kc, l, g6, hp, hl, hsee⟩ := trod_sees hfull f6 (hR2 6 y6 35 e6 rfl)
    obtain ⟨la, ln, lc, z, g5, hp5, hl5, hsee5⟩ := trod_seesZ hfull f5 (hR2 5 y5 24 e5 rfl)
    simp only [List.cons.injEq, and_true] at g0 g1 g2 g3 g4
    exact ⟨⟨z0, z1, z2, z3, s, la, ln, lc, ka, kn, kc⟩, by rw [g0, g1, g2, g3, g4, g5, g6], ⟨⟨hsz, hp, l, hl, hsee⟩, wf_i64 wf0, wf_i64 wf1, wf_i64 wf2, wf_i64 wf3⟩, hp5, z, hl5, hsee5⟩

/-- A script that came in. -/
theorem trod_script2 {fuel : Nat} {v : Value} {x : DataW H × List MemPlace} (hfull : ∀ b, spare b = true) (h : DataW.trod enc Tryz.prog w base spare held fuel 22 [v] = some x) (hR : ∀ n ∈ x.1.weights Tryz.prog 22, n ≤ reachBytes) : ∃ l, SeesO2 w v l := by
  rcases Go.Deep.open_slice Tryz.underlying22 h with ⟨h0, -⟩ | ⟨a, len, cap, m, n, D, Pl, h0, -, hl, -, hm, rfl, hel⟩
  · simp only [List.cons.injEq, and_true] at h0
    subst h0
    exact ⟨[], by simp, fun o ho => by simp at ho, .inl ⟨rfl, none, 0, rfl⟩⟩
  · simp only [List.cons.injEq, and_true] at h0
    subst h0
    rw [hfull] at hm
    simp only [if_true] at hm
    subst hm
    have hw := hR ((len + (m - len)) * 96) (by simp [DataW.weights, Tryz.underlying22, Tryz.bytes37])
    have hlen : len ≤ 1466015503700 := by unfold reachBytes at hw; omega
    rw [Tryz.cells37] at hel
    have hel2 : ∀ i, i < len → ∃ o : Opv, (∀ j, j < 7 → w.cell? ((a.add (i * 7)).add j) = [Value.int .i64 o.k, .int .i64 o.a, .int .i64 o.b, .int .i64 o.c, .string o.s, .slice o.la o.ln o.lc, .slice o.ka o.kn o.kc][j]?) ∧ OpOk2 w o := fun i hi => by
      obtain ⟨cs', h1, h2⟩ := hel i (by omega)
      obtain ⟨o, rfl, ho⟩ := trod_op2 hfull h2 (fun k hk => hR k (by
        simp only [DataW.weights, Tryz.underlying22]
        refine List.mem_cons_of_mem _ (List.mem_append_left _ (weights_all (List.mem_map.2 ⟨i, List.mem_range.2 hi, rfl⟩) k hk))))
      exact ⟨o, (World.cells?_some h1).2.2, ho⟩
    by_cases hz : len = 0
    · subst hz
      exact ⟨[], by simp, fun o ho => by simp at ho, .inl ⟨rfl, some a, m, rfl⟩⟩
    · obtain ⟨b, off, spot⟩ := a
      have hs : spot = none := by
        obtain ⟨o, hy, -⟩ := hel2 0 (by omega)
        have := World.cell?_spot ((hy 0 (by omega)).trans rfl)
        simpa [Addr.add] using this
      subst hs
      haveI : Inhabited Opv := ⟨⟨0, 0, 0, 0, ByteArray.empty, none, 0, 0, none, 0, 0⟩⟩
      obtain ⟨f, hf⟩ := Go.Deep.choose_lt hel2
      refine ⟨(List.range len).map f, by simpa using hlen, fun o ho => ?_, .inr ⟨b, off, m, by simp, ?_, fun i y hy => ?_⟩⟩
      · obtain ⟨i, hi, rfl⟩ := List.mem_map.1 ho
        exact (hf i (List.mem_range.1 hi)).2
      · have h1 := ((hf 0 (by omega)).1 0 (by omega)).trans rfl
        have := World.block_lt_of_cell? w _ h1
        simpa [add_block] using this
      · have hi : i < len := by have := (List.getElem?_eq_some_iff.1 hy).1; simpa using this
        have hy2 : f i = y := by simpa [List.getElem?_map, List.getElem?_range hi] using hy
        subst hy2
        have key := (hf i hi).1
        simp only [add_plain] at key
        exact ⟨key 0 (by omega), key 1 (by omega), key 2 (by omega), key 3 (by omega), key 4 (by omega), key 5 (by omega), key 6 (by omega)⟩

end
end Go.Proofs.YtbhbacphiinpeaaGreat

