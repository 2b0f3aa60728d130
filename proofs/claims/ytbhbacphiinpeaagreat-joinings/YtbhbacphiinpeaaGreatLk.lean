/- What 'allCode' and 'looks' answer. -/
import Derived.Test.YtbhbacphiinpeaaGreatRows
import Derived.Test.YtbhbacphiinpeaaGreatInv
import Derived.WalkSmall
namespace Go.Proofs.YtbhbacphiinpeaaGreat
open Go.RowKit

set_option maxHeartbeats 400000 in
theorem all_none (a0 : Option Addr) (c0 : Nat) (m : Int) (w : World) :
    Calls Tryz.prog 19 #[.slice a0 0 c0, .int .i64 m] w fun e w' => e = .returned (.bool true) ∧ w' = w := by
  go_enter Tryz.func19, Tryz.ntmps19
  go_wp2_with fail
  go_loop [5] (fun i => i = .int .i64 0) (fun _ => 0)
  case atStart => rfl
  case round =>
    subst hrel
    go_wp2
    go_ret
    exact ⟨rfl, rfl⟩

set_option maxHeartbeats 1000000 in
set_option maxRecDepth 100000 in
theorem all_some (b off n c : Nat) (m : Int) (hn : n ≤ 1000) (w : World)
    (hc : ∀ (i : Nat) x, (marks n m)[i]? = some x → w.cell? ⟨b, off + i * 4, none⟩ = some (.int .i64 x.o) ∧ w.cell? ⟨b, off + i * 4 + 1, none⟩ = some (.int .i64 x.a) ∧ w.cell? ⟨b, off + i * 4 + 2, none⟩ = some (.int .i64 x.b) ∧ w.cell? ⟨b, off + i * 4 + 3, none⟩ = some (.int .i64 x.c)) :
    Calls Tryz.prog 19 #[.slice (some ⟨b, off, none⟩) n c, .int .i64 m] w fun e w' => e = .returned (.bool true) ∧ w' = w := by
  have H := hyd hc
  clear hc
  have hn2 : (n : Int) ≤ 1000 := by omega
  go_enter Tryz.func19, Tryz.ntmps19
  go_wp2_with fail
  go_loop [5] (fun i => ∃ k : Nat, k ≤ n ∧ i = .int .i64 k) (fun i => n - (intOf i).toNat)
  case atStart => exact ⟨0, Nat.zero_le _, rfl⟩
  case round =>
    obtain ⟨k, hk, rfl⟩ := hrel
    by_cases hkn : k < n
    · obtain ⟨d0, d1, d2, d3⟩ := H.out k ⟨m, 0, 0, 0⟩ (by unfold marks; rw [List.getElem?_replicate, if_pos hkn])
      dsimp only at d0 d1 d2 d3
      have i2 : (k : Int) < (n : Int) := by omega
      go_wp2
      go_round
      case rel => exact ⟨k + 1, by omega, by go_num⟩
      case measure => simp [intOf]; omega
    · go_wp2
      go_ret
      exact ⟨rfl, rfl⟩

theorem all_any {w : World} {B : Nat} {v : Value} {n : Nat} {m : Int} (hn : n ≤ 1000) (h : Mrk w B v n m) :
    Calls Tryz.prog 19 #[v, .int .i64 m] w fun e w' => e = .returned (.bool true) ∧ w' = w := by
  have hs := h.sees (by omega)
  rcases hs.2 with ⟨-, ao, cap, rfl⟩ | ⟨b, off, cap, rfl, -, hc⟩
  · exact all_none ao cap m w
  · rw [marks_length]
    exact all_some b off n cap m hn w hc

set_option maxHeartbeats 2000000 in
set_option maxRecDepth 100000 in
theorem looks_any {w : World} {B BW : Nat} {es : List Ent} (h : Inv w B BW es) (hes : es.length ≤ 4398046511104) (hB : B ≤ w.heap.size) :
    Calls Tryz.prog 11 #[.pointer (some ⟨BW, 1, none⟩)] w fun e w' => e = .returned (.bool true) ∧ Below w.heap.size w w' := by
  have H := hyd h
  obtain ⟨vc, h1, h2, h3, h4, h5⟩ := h
  have q : w.cell? ⟨BW, 1, none⟩ = some (.slice none 0 0) ∧ w.cell? ⟨BW, 2, none⟩ = some vc ∧ w.cell? ⟨BW, 3, none⟩ = some (.slice none 0 0) :=
    ⟨by rw [cell_of_row w BW 1 _ 34 _ h1]; rfl, by rw [cell_of_row w BW 2 _ 34 _ h1]; rfl, by rw [cell_of_row w BW 3 _ 34 _ h1]; rfl⟩
  obtain ⟨q1, q2, q3⟩ := q
  have hvc : ∃ ao cap, vc = .slice ao es.length cap := by
    rcases h2.2 with ⟨rfl, h0⟩ | ⟨g, cap, cur, rfl, -⟩
    · exact ⟨none, 0, by rw [h0]⟩
    · exact ⟨_, cap, rfl⟩
  obtain ⟨ao, cap, rfl⟩ := hvc
  have hBW : BW < w.heap.size := by omega
  obtain ⟨n, Hn⟩ : ∃ n, Hid (es.length = n) := ⟨_, rfl⟩
  rw [Hn.out] at q2 h2
  have hn : n ≤ 4398046511104 := by rw [← Hn.out]; exact hes
  have hn2 : (n : Int) ≤ 4398046511104 := by omega
  have H2 := hyd h2
  have H5 := hyd h5
  clear h1 h2 h3 h4 h5 hes
  go_enter Tryz.func11, Tryz.ntmps11
  go_wp2_with fail
  go_loop [3] (fun i => i = .int .i64 0) (fun _ => 0)
  case atStart => rfl
  case round =>
    subst hrel
    go_wp2_with fail
    go_loopw [8] (fun i wr => ∃ k : Nat, k ≤ n ∧ i = .int .i64 k ∧ Below w.heap.size w wr) (fun i _ => n - (intOf i).toNat)
    case atStart => exact ⟨0, Nat.zero_le _, rfl, Below.refl _ _⟩
    case round =>
      obtain ⟨k, hk, rfl, hb⟩ := hrel
      have r2 := (hb.cell (p := ⟨BW, 2, none⟩) hBW).trans q2
      have r3 := (hb.cell (p := ⟨BW, 3, none⟩) hBW).trans q3
      by_cases hkn : k < n
      · obtain ⟨x, hx⟩ : ∃ x, es[k]? = some x := ⟨_, List.getElem?_eq_getElem (by rw [Hn.out]; exact hkn)⟩
        obtain ⟨m0, m1, m2, m3⟩ := H5.out x (List.mem_of_getElem? hx)
        have hbk : ∀ g cur, g < B → w.heap[g]? = some (.cells cur 92) → wr.heap[g]? = w.heap[g]? := fun g _ hg _ => hb.block g (by omega)
        have M0 := hyd (m0.keep (Nat.le_refl _) hbk)
        have M1 := hyd (m1.keep (Nat.le_refl _) hbk)
        have M2 := hyd (m2.keep (Nat.le_refl _) hbk)
        obtain ⟨f0, f1, f2, f3⟩ := flatE_at hx
        obtain ⟨g, hg⟩ : ∃ g, ao = some ⟨g, 0, none⟩ := by
          rcases H2.out.2 with ⟨h0, h00⟩ | ⟨g, cap', cur, hv, -⟩
          · omega
          · simp only [Value.slice.injEq] at hv; exact ⟨g, hv.1⟩
        subst hg
        have ho := H2.out.keptB hb
        have c0 := (ho.cellAt (k * 4) (by omega)).trans f0
        have c1 := (ho.cellAt (k * 4 + 1) (by omega)).trans f1
        have c2 := (ho.cellAt (k * 4 + 2) (by omega)).trans f2
        have c3 := (ho.cellAt (k * 4 + 3) (by omega)).trans f3
        obtain ⟨l0, p0, hl0, -⟩ := id m0
        obtain ⟨l1, p1, hl1, -⟩ := id m1
        obtain ⟨l2, p2, hl2, -⟩ := id m2
        rw [hl0] at c0 M0
        rw [hl1] at c1 M1
        rw [hl2] at c2 M2
        have i2 : (k : Int) < (n : Int) := by omega
        have m3' : x.n ≤ 40 := m3
        clear f0 f1 f2 f3 ho hx m0 m1 m2 m3 hbk hl0 hl1 hl2
        go_wp2_with fail
        refine (all_any (by omega) (M0.out.keep (Nat.le_refl _) (fun g' _ hg' _ => Below.heap_alloc wr _ g' (by have := hb.size; omega)))).mono ?_
        rintro e w1 ⟨rfl, rfl⟩
        go_wp2_with fail
        refine (all_any (by omega) (M1.out.keep (Nat.le_refl _) (fun g' _ hg' _ => Below.heap_alloc wr _ g' (by have := hb.size; omega)))).mono ?_
        rintro e w1 ⟨rfl, rfl⟩
        go_wp2_with fail
        refine (all_any (by omega) (M2.out.keep (Nat.le_refl _) (fun g' _ hg' _ => Below.heap_alloc wr _ g' (by have := hb.size; omega)))).mono ?_
        rintro e w1 ⟨rfl, rfl⟩
        go_wp2
        go_roundw
        case rel => exact ⟨k + 1, by omega, by go_num, hb.alloc hb.size _⟩
        case measure => simp [intOf]; omega
      · go_wp2_with fail
        go_loop [13] (fun i => i = .int .i64 0) (fun _ => 0)
        case atStart => rfl
        case round =>
          subst hrel
          go_wp2
          go_ret
          exact ⟨rfl, hb⟩

end Go.Proofs.YtbhbacphiinpeaaGreat
