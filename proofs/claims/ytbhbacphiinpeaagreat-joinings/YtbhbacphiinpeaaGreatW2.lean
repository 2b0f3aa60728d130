/- What 'stillCode' does. -/
import Derived.Test.YtbhbacphiinpeaaGreatW1
namespace Go.Proofs.YtbhbacphiinpeaaGreat
open Go.RowKit

/-- Four stores into an instruction of a row. -/
theorem owns_store4 {w : World} {base g n cap k : Nat} {xs : List Value} (h : w.ownsRow base 92 4 (.slice (some ⟨g, 0, none⟩) n cap) n xs) (a b c d : Value) :
    ((((w.setCell ⟨g, k * 4, none⟩ a).setCell ⟨g, k * 4 + 1, none⟩ b).setCell ⟨g, k * 4 + 2, none⟩ c).setCell ⟨g, k * 4 + 3, none⟩ d).ownsRow base 92 4 (.slice (some ⟨g, 0, none⟩) n cap) n ((((xs.set (k * 4) a).set (k * 4 + 1) b).set (k * 4 + 2) c).set (k * 4 + 3) d) :=
  ((((h.stored (k * 4) a).1.stored (k * 4 + 1) b).1.stored (k * 4 + 2) c).1.stored (k * 4 + 3) d).1

theorem below_store4 {w0 w : World} {base g k : Nat} (h : Below base w0 w) (hg : base ≤ g) (a b c d : Value) :
    Below base w0 ((((w.setCell ⟨g, k * 4, none⟩ a).setCell ⟨g, k * 4 + 1, none⟩ b).setCell ⟨g, k * 4 + 2, none⟩ c).setCell ⟨g, k * 4 + 3, none⟩ d) :=
  (((h.setCell (p := ⟨g, k * 4, none⟩) hg a).setCell (p := ⟨g, k * 4 + 1, none⟩) hg b).setCell (p := ⟨g, k * 4 + 2, none⟩) hg c).setCell (p := ⟨g, k * 4 + 3, none⟩) hg d

set_option maxHeartbeats 1000000 in
set_option maxRecDepth 100000 in
theorem still_any {w : World} {v : Value} {l : List Ins} {g n cap base : Nat} (hl : l.length = n) (hn : n ≤ 4398046511103) (hown : w.ownsRow base 92 4 (.slice (some ⟨g, 0, none⟩) (n + 1) cap) (n + 1) (flat (l ++ [far]))) (hs : Sees w v l) (hbase : base ≤ w.heap.size) :
    Calls Tryz.prog 23 #[.slice (some ⟨g, 0, none⟩) n cap, v] w fun e w' => e = .returned (.bool true) ∧ Below base w w' := by
  have hown0 : w.ownsRow base 92 4 (.slice (some ⟨g, 0, none⟩) n cap) n (flat l) := by
    rw [flat_append] at hown
    exact ownsRow_pop (by rw [flat_length, hl]) hown
  have Hs0 : Hid (Sees w (.slice (some ⟨g, 0, none⟩) n cap) l) := ownsRow_sees (by omega) (by rw [hl]; exact hown0)
  have Hs1 := hyd hs
  have Hown := hyd hown
  have hv : ∃ ao c, v = .slice ao n c := by
    rcases hs.2 with ⟨h0, ao, c, rfl⟩ | ⟨b, off, c, rfl, -⟩
    · subst h0; exact ⟨ao, c, by rw [← hl]; rfl⟩
    · exact ⟨_, c, by rw [hl]⟩
  obtain ⟨ao, c, rfl⟩ := hv
  have hcap : n + 1 ≤ cap := by
    rcases hown.2 with ⟨h0, -⟩ | ⟨g', cap', cur, hv, -, -, hc, -⟩
    · cases h0
    · cases hv; exact hc
  have hcap2 : (n : Int) + 1 ≤ (cap : Int) := by omega
  have hn2 : (n : Int) ≤ 4398046511103 := by omega
  obtain ⟨hg1, hg2⟩ := hown.lt g rfl
  have hfar : (l ++ [far])[n]? = some far := by rw [List.getElem?_append_right (by omega), hl]; simp
  obtain ⟨f0, f1, f2, f3⟩ := flat_at hfar
  have Hf := hyd (And.intro f0 (And.intro f1 (And.intro f2 f3)))
  clear hown hown0 hs hl f0 f1 f2 f3 hfar
  go_enter Tryz.func23, Tryz.ntmps23
  go_wp2_with fail
  refine (same_any Hs0.out Hs1.out).mono ?_
  rintro e w1 ⟨rfl, hb1⟩
  have hown1 := Hown.out.keptB hb1
  have c0 := (hown1.cellAt (n * 4) (by omega)).trans Hf.out.1
  have c1 := (hown1.cellAt (n * 4 + 1) (by omega)).trans Hf.out.2.1
  have c2 := (hown1.cellAt (n * 4 + 2) (by omega)).trans Hf.out.2.2.1
  have c3 := (hown1.cellAt (n * 4 + 3) (by omega)).trans Hf.out.2.2.2
  unfold far at c0 c1 c2 c3
  have hgw1 : g < w1.heap.size := (hown1.lt g rfl).2
  have hbw : base ≤ w1.heap.size := Nat.le_trans hbase hb1.size
  have Hown1 := hyd hown1
  have HB1 := hyd hb1
  clear hown1 hb1 Hs0 Hs1
  go_wp2_with fail
  go_loopw [8] (fun i wr => ∃ k : Nat, ∃ xs, k ≤ n + 1 ∧ i = .int .i64 k ∧ wr.ownsRow base 92 4 (.slice (some ⟨g, 0, none⟩) (n + 1) cap) (n + 1) xs ∧ Below base w wr) (fun i _ => n + 1 - (intOf i).toNat)
  case atStart => exact ⟨0, _, Nat.zero_le _, rfl, Hown1.out.alloc _, (HB1.out.mono hbase).alloc hbw _⟩
  case round =>
    obtain ⟨k, xs, hk, rfl, ho, hb⟩ := hrel
    clear c0 c1 c2 c3
    by_cases hkn : k < n + 1
    · have hlen : xs.length = (n + 1) * 4 := ho.1
      have e0 : ∃ u, wr.cell? ⟨g, k * 4, none⟩ = some u := ⟨_, (ho.cellAt (k * 4) (by omega)).trans (List.getElem?_eq_getElem (by omega))⟩
      have e1 : ∃ u, wr.cell? ⟨g, k * 4 + 1, none⟩ = some u := ⟨_, (ho.cellAt (k * 4 + 1) (by omega)).trans (List.getElem?_eq_getElem (by omega))⟩
      have e2 : ∃ u, wr.cell? ⟨g, k * 4 + 2, none⟩ = some u := ⟨_, (ho.cellAt (k * 4 + 2) (by omega)).trans (List.getElem?_eq_getElem (by omega))⟩
      have e3 : ∃ u, wr.cell? ⟨g, k * 4 + 3, none⟩ = some u := ⟨_, (ho.cellAt (k * 4 + 3) (by omega)).trans (List.getElem?_eq_getElem (by omega))⟩
      obtain ⟨u0, e0⟩ := e0
      obtain ⟨u1, e1⟩ := e1
      obtain ⟨u2, e2⟩ := e2
      obtain ⟨u3, e3⟩ := e3
      have z0 := ho.frozenAt (k * 4)
      have z1 := ho.frozenAt (k * 4 + 1)
      have z2 := ho.frozenAt (k * 4 + 2)
      have z3 := ho.frozenAt (k * 4 + 3)
      have Ho := hyd ho
      clear ho hlen
      have i1 : (0 : Int) ≤ (k : Int) := by omega
      have i2 : (k : Int) < (n : Int) + 1 := by omega
      go_wp2
      go_roundw
      case rel => exact ⟨k + 1, _, by omega, by go_num, owns_store4 Ho.out _ _ _ _, below_store4 hb hg1 _ _ _ _⟩
      case measure => simp [intOf]; omega
    · go_wp2
      go_ret
      exact ⟨rfl, hb⟩

end Go.Proofs.YtbhbacphiinpeaaGreat
