/- What loomkeep's sameInts does with lists of numbers. -/
import Derived.Test.YtbhbacphiinpeabBs
namespace Go.Proofs.Ytbhbacphiinpeab
open Go.RowKit

set_option maxHeartbeats 400000 in
theorem sameI_none (a0 a1 : Option Addr) (c0 c1 : Nat) (w : World) :
    Calls Try.prog 34 #[.slice a0 0 c0, .slice a1 0 c1] w fun e w' => e = .returned (.bool true) ∧ Below w.heap.size w w' := by
  go_enter Try.func34, Try.ntmps34
  go_wp2_with fail
  go_loop [5] (fun i => i = .int .i64 0) (fun _ => 0)
  case atStart => rfl
  case round =>
    subst hrel
    go_wp2
    go_ret
    exact ⟨rfl, Below.refl _ _⟩

set_option maxHeartbeats 1000000 in
set_option maxRecDepth 100000 in
theorem sameI_some (b0 o0 b1 o1 c0 c1 n : Nat) (l : List Int) (hl : l.length = n) (hn : n ≤ 17592186044416) (w : World) (hb0 : b0 < w.heap.size) (hb1 : b1 < w.heap.size)
    (hc0 : ∀ (i : Nat) x, l[i]? = some x → w.cell? ⟨b0, o0 + i, none⟩ = some (.int .i64 x)) (hc1 : ∀ (i : Nat) x, l[i]? = some x → w.cell? ⟨b1, o1 + i, none⟩ = some (.int .i64 x)) :
    Calls Try.prog 34 #[.slice (some ⟨b0, o0, none⟩) n c0, .slice (some ⟨b1, o1, none⟩) n c1] w fun e w' => e = .returned (.bool true) ∧ Below w.heap.size w w' := by
  have Hl := hyd hl
  have H0 := hyd hc0
  have H1 := hyd hc1
  clear hl hc0 hc1
  have hn2 : (n : Int) ≤ 17592186044416 := by omega
  go_enter Try.func34, Try.ntmps34
  go_wp2_with fail
  go_loopw [5] (fun i wr => ∃ k : Nat, k ≤ n ∧ i = .int .i64 k ∧ Below w.heap.size w wr) (fun i _ => n - (intOf i).toNat)
  case atStart => exact ⟨0, Nat.zero_le _, rfl, Below.refl _ _⟩
  case round =>
    obtain ⟨k, hk, rfl, hb⟩ := hrel
    by_cases hkn : k < n
    · obtain ⟨x, hx⟩ : ∃ x, l[k]? = some x := ⟨_, List.getElem?_eq_getElem (by rw [Hl.out]; exact hkn)⟩
      have d0 := (hb.cell (p := ⟨b0, o0 + k, none⟩) hb0).trans (H0.out k x hx)
      have d4 := (hb.cell (p := ⟨b1, o1 + k, none⟩) hb1).trans (H1.out k x hx)
      clear hx
      have i1 : (0 : Int) ≤ (k : Int) := by omega
      have i2 : (k : Int) < (n : Int) := by omega
      go_wp2_with fail
      go_quiet (fail)
      go_wp2
      go_roundw
      case rel => exact ⟨k + 1, by omega, by go_num, below_drewN hb _⟩
      case measure => simp [intOf]; omega
    · go_wp2
      go_ret
      exact ⟨rfl, hb⟩

theorem sameI {w : World} {v0 v1 : Value} {l : List Int} (h0 : SeesZ w v0 l) (h1 : SeesZ w v1 l) :
    Calls Try.prog 34 #[v0, v1] w fun e w' => e = .returned (.bool true) ∧ Below w.heap.size w w' := by
  by_cases hl : l = []
  · have kk : ∀ {v : Value}, SeesZ w v l → ∃ ao cap, v = .slice ao 0 cap := fun h => by
      rcases h.2 with ⟨-, h⟩ | ⟨b, off, cap, rfl, -⟩
      · exact h
      · exact ⟨some ⟨b, off, none⟩, cap, by rw [hl]; rfl⟩
    obtain ⟨a0, c0, rfl⟩ := kk h0
    obtain ⟨a1, c1, rfl⟩ := kk h1
    exact sameI_none a0 a1 c0 c1 w
  · rcases h0.2 with ⟨h, -⟩ | ⟨b0, o0, c0, rfl, hb0, hc0⟩
    · exact absurd h hl
    · rcases h1.2 with ⟨h, -⟩ | ⟨b1, o1, c1, rfl, hb1, hc1⟩
      · exact absurd h hl
      · exact sameI_some b0 o0 b1 o1 c0 c1 l.length l rfl h0.1 w hb0 hb1 hc0 hc1

set_option maxHeartbeats 1000000 in
set_option maxRecDepth 100000 in
theorem sameMach_any {w : World} {L1 L2 : XM} {m1 m2 : PM} {x1 x2 : QM} (h1 : XAt w L1 m1 x1) (h2 : XAt w L2 m2 x2) (n : Nat) (n16 : n ≤ 16) (hn1 : m1.ts.length = n) (hn2 : m2.ts.length = n) (hr : ∀ t, t < n → (m1.ts.getD t thr0).regs = (m2.ts.getD t thr0).regs) (hr4 : ∀ t, t < n → (m1.ts.getD t thr0).regs.length = 4) (hm : m1.mem = m2.mem) (hml : m1.mem.length ≤ 32) :
    Calls Try.prog 18 #[.pointer (some ⟨L1.bX, 0, none⟩), .pointer (some ⟨L2.bX, 0, none⟩), .int .i64 n] w fun e w' => e = .returned (.bool true) ∧ Below w.heap.size w w' := by
  have H1 := hyd h1
  have H2 := hyd h2
  have HR := hyd (And.intro hr (And.intro hr4 (And.intro hm hml)))
  have HN := hyd (And.intro hn1 hn2)
  clear h1 h2 hr hr4 hm hml hn1 hn2
  have n0 : (0 : Int) ≤ (n : Int) := by omega
  have n2 : (n : Int) ≤ 16 := by omega
  go_enter Try.func18, Try.ntmps18
  go_wp2_with fail
  go_loopw [7] (fun iv wr => ∃ i : Nat, i ≤ n ∧ iv = .int .i64 i ∧ Hid (Below w.heap.size w wr)) (fun iv _ => n + 1 - (intOf iv).toNat)
  case atStart => exact ⟨0, by omega, rfl, Below.refl _ _⟩
  case round =>
    obtain ⟨i, hi2, rfl, HBr⟩ := hrel
    have i0 : (0 : Int) ≤ (i : Int) := by omega
    have i1 : (i : Int) ≤ (n : Int) := by omega
    by_cases hi : i < n
    · have i3 : (i : Int) < (n : Int) := by omega
      go_wp2_with fail
      refine (mregs_yes (H1.out.up HBr.out) i (by rw [HN.out.1]; exact hi)).mono ?_
      rintro e wa ⟨va, rfl, hoa, hba⟩
      have HBa := hyd (HBr.out.trans (hba.mono HBr.out.size))
      have HA := hyd hoa
      clear hoa hba
      go_wp2_with fail
      refine (mregs_yes (H2.out.up HBa.out) i (by rw [HN.out.2]; exact hi)).mono ?_
      rintro e wb ⟨vb, rfl, hob, hbb⟩
      have HBb := hyd (HBa.out.trans (hbb.mono HBa.out.size))
      have e4 := HR.out.2.1 i hi
      have HA2 : Hid (SeesZ wb va (m1.ts.getD i thr0).regs) := ownsRow_seesZ (by omega) (by rw [e4]; exact HA.out.keptB hbb)
      have HB2 : Hid (SeesZ wb vb (m1.ts.getD i thr0).regs) := ownsRow_seesZ (by omega) (by rw [e4, HR.out.1 i hi]; exact hob)
      clear hob hbb HA e4
      go_wp2_with fail
      refine (sameI HA2.out HB2.out).mono ?_
      rintro e wc ⟨rfl, hbc⟩
      have HBc := hyd (HBb.out.trans (hbc.mono HBb.out.size))
      clear hbc
      go_wp2_with fail
      refine ⟨⟨i + 1, by omega, rfl, HBc⟩, ?_⟩
      simp only [intOf]; omega
    · have e : i = n := by omega
      subst e
      have c1 : decide ((i : Int) < (i : Int)) = false := by simp
      go_wp2_with fail
      refine (mmem_any (H1.out.up HBr.out)).mono ?_
      rintro e wa ⟨va, rfl, hoa, hba⟩
      have HBa := hyd (HBr.out.trans (hba.mono HBr.out.size))
      have HA := hyd hoa
      clear hoa hba
      go_wp2_with fail
      refine (mmem_any (H2.out.up HBa.out)).mono ?_
      rintro e wb ⟨vb, rfl, hob, hbb⟩
      have HBb := hyd (HBa.out.trans (hbb.mono HBa.out.size))
      have e4 := HR.out.2.2.2
      have HA2 : Hid (SeesZ wb va m1.mem) := ownsRow_seesZ (by omega) (HA.out.keptB hbb)
      have HB2 : Hid (SeesZ wb vb m1.mem) := ownsRow_seesZ (by omega) (by rw [HR.out.2.2.1]; exact hob)
      clear hob hbb HA e4
      go_wp2_with fail
      refine (sameI HA2.out HB2.out).mono ?_
      rintro e wc ⟨rfl, hbc⟩
      have HBc := hyd (HBb.out.trans (hbc.mono HBb.out.size))
      clear hbc
      go_wp2_with fail
      go_ret
      exact ⟨rfl, HBc.out⟩

end Go.Proofs.Ytbhbacphiinpeab
