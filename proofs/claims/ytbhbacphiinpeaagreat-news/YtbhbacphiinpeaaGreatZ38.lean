/- L3: joined. -/
import Derived.Test.YtbhbacphiinpeaaGreatRows
import Derived.Test.YtbhbacphiinpeaaGreatZ14
import Derived.WalkSmall

/- What 'allInts', 'allCode', 'allLog' and 'looks' answer, of lists of all three kinds. -/
namespace Go.Proofs.YtbhbacphiinpeaaGreat
open Go.RowKit

theorem lenI (m : Int) : (famI.mv m).length = famI.sz := rfl
theorem lenC (m : Int) : (famC.mv m).length = famC.sz := rfl
theorem lenG (m : Int) : (famG.mv m).length = famG.sz := rfl

/-- The cells of the k-th mark. -/
theorem reps_at {f : Fam} (hf : ∀ m, (f.mv m).length = f.sz) {n k j : Nat} (m : Int) (hk : k < n) (hj : j < f.sz) : (reps f n m)[k * f.sz + j]? = (f.mv m)[j]? := by
  have e : reps f n m = reps f k m ++ (f.mv m ++ reps f (n - k - 1) m) := by
    rw [← List.append_assoc, ← reps_succ, ← reps_add]
    congr 1; omega
  have h1 := reps_length hf k m
  rw [e, List.getElem?_append_right (by omega), h1, show k * f.sz + j - k * f.sz = j by omega, List.getElem?_append_left (by rw [hf]; exact hj)]

set_option maxHeartbeats 400000 in
theorem allI_none (a0 : Option Addr) (c0 : Nat) (m : Int) (w : World) :
    Calls Tryz.prog 18 #[.slice a0 0 c0, .int .i64 m] w fun e w' => e = .returned (.bool true) ∧ w' = w := by
  go_enter Tryz.func18, Tryz.ntmps18
  go_wp2_with fail
  go_loop [5] (fun i => i = .int .i64 0) (fun _ => 0)
  case atStart => rfl
  case round =>
    subst hrel
    go_wp2
    go_ret
    exact ⟨rfl, rfl⟩

set_option maxHeartbeats 1000000 in
set_option maxRecDepth 100000 in
theorem allI_some (g n c : Nat) (m : Int) (hn : n ≤ 5000) (w : World) (hc : ∀ j, j < n * 1 → w.cell? ⟨g, j, none⟩ = (reps famI n m)[j]?) :
    Calls Tryz.prog 18 #[.slice (some ⟨g, 0, none⟩) n c, .int .i64 m] w fun e w' => e = .returned (.bool true) ∧ w' = w := by
  have H := hyd hc
  clear hc
  have hn2 : (n : Int) ≤ 5000 := by omega
  go_enter Tryz.func18, Tryz.ntmps18
  go_wp2_with fail
  go_loop [5] (fun i => ∃ k : Nat, k ≤ n ∧ i = .int .i64 k) (fun i => n - (intOf i).toNat)
  case atStart => exact ⟨0, Nat.zero_le _, rfl⟩
  case round =>
    obtain ⟨k, hk, rfl⟩ := hrel
    by_cases hkn : k < n
    · have hc := H.out
      have d0 : w.cell? ⟨g, k, none⟩ = some (.int .i64 m) := (hc k (by omega)).trans (by
        have h := reps_at (f := famI) (j := 0) (n := n) (k := k) lenI m hkn (by decide)
        rw [show k * famI.sz + 0 = k from Nat.mul_one k] at h
        exact h)
      clear hc
      have i2 : (k : Int) < (n : Int) := by omega
      go_wp2
      go_round
      case rel => exact ⟨k + 1, by omega, by go_num⟩
      case measure => simp [intOf]; omega
    · go_wp2
      go_ret
      exact ⟨rfl, rfl⟩

theorem allI {w : World} {B : Nat} {v : Value} {n : Nat} {m : Int} (hn : n ≤ 5000) (h : MrkG famI w B v n m) :
    Calls Tryz.prog 18 #[v, .int .i64 m] w fun e w' => e = .returned (.bool true) ∧ w' = w := by
  obtain ⟨ao, cap, rfl, h0⟩ := id h
  by_cases hz : n = 0
  · subst hz
    exact allI_none ao cap m w
  · obtain ⟨g, rfl, -, hc⟩ := h.cell (by omega)
    exact allI_some g n cap m hn w hc

set_option maxHeartbeats 400000 in
theorem allC_none (a0 : Option Addr) (c0 : Nat) (m : Int) (w : World) :
    Calls Tryz.prog 19 #[.slice a0 0 c0, .int .i64 m] w fun e w' => e = .returned (.bool true) ∧ w' = w := by
  go_enter Tryz.func19, Tryz.ntmps19
  go_wp2_with fail
  go_loop [5] (fun i => i = .int .i64 0) (fun _ => 0)
  case atStart => rfl
  case round =>
    subst hrel
    go_wp2
    go_ret
    exact ⟨rfl, rfl⟩

set_option maxHeartbeats 1000000 in
set_option maxRecDepth 100000 in
theorem allC_some (g n c : Nat) (m : Int) (hn : n ≤ 5000) (w : World) (hc : ∀ j, j < n * 4 → w.cell? ⟨g, j, none⟩ = (reps famC n m)[j]?) :
    Calls Tryz.prog 19 #[.slice (some ⟨g, 0, none⟩) n c, .int .i64 m] w fun e w' => e = .returned (.bool true) ∧ w' = w := by
  have H := hyd hc
  clear hc
  have hn2 : (n : Int) ≤ 5000 := by omega
  go_enter Tryz.func19, Tryz.ntmps19
  go_wp2_with fail
  go_loop [5] (fun i => ∃ k : Nat, k ≤ n ∧ i = .int .i64 k) (fun i => n - (intOf i).toNat)
  case atStart => exact ⟨0, Nat.zero_le _, rfl⟩
  case round =>
    obtain ⟨k, hk, rfl⟩ := hrel
    by_cases hkn : k < n
    · have hc := H.out
      have d0 := (hc (k * 4) (by omega)).trans (reps_at (j := 0) lenC m hkn (by decide))
      have d1 := (hc (k * 4 + 1) (by omega)).trans (reps_at (j := 1) lenC m hkn (by decide))
      have d2 := (hc (k * 4 + 2) (by omega)).trans (reps_at (j := 2) lenC m hkn (by decide))
      have d3 := (hc (k * 4 + 3) (by omega)).trans (reps_at (j := 3) lenC m hkn (by decide))
      clear hc
      simp only [List.getElem?_cons_zero, List.getElem?_cons_succ] at d0 d1 d2 d3
      have i2 : (k : Int) < (n : Int) := by omega
      go_wp2
      go_round
      case rel => exact ⟨k + 1, by omega, by go_num⟩
      case measure => simp [intOf]; omega
    · go_wp2
      go_ret
      exact ⟨rfl, rfl⟩

theorem allC {w : World} {B : Nat} {v : Value} {n : Nat} {m : Int} (hn : n ≤ 5000) (h : MrkG famC w B v n m) :
    Calls Tryz.prog 19 #[v, .int .i64 m] w fun e w' => e = .returned (.bool true) ∧ w' = w := by
  obtain ⟨ao, cap, rfl, h0⟩ := id h
  by_cases hz : n = 0
  · subst hz
    exact allC_none ao cap m w
  · obtain ⟨g, rfl, -, hc⟩ := h.cell (by omega)
    exact allC_some g n cap m hn w hc

set_option maxHeartbeats 400000 in
theorem allG_none (a0 : Option Addr) (c0 : Nat) (m : Int) (w : World) :
    Calls Tryz.prog 20 #[.slice a0 0 c0, .int .i64 m] w fun e w' => e = .returned (.bool true) ∧ w' = w := by
  go_enter Tryz.func20, Tryz.ntmps20
  go_wp2_with fail
  go_loop [5] (fun i => i = .int .i64 0) (fun _ => 0)
  case atStart => rfl
  case round =>
    subst hrel
    go_wp2
    go_ret
    exact ⟨rfl, rfl⟩

set_option maxHeartbeats 1000000 in
set_option maxRecDepth 100000 in
theorem allG_some (g n c : Nat) (m : Int) (hn : n ≤ 5000) (w : World) (hc : ∀ j, j < n * 2 → w.cell? ⟨g, j, none⟩ = (reps famG n m)[j]?) :
    Calls Tryz.prog 20 #[.slice (some ⟨g, 0, none⟩) n c, .int .i64 m] w fun e w' => e = .returned (.bool true) ∧ w' = w := by
  have H := hyd hc
  clear hc
  have hn2 : (n : Int) ≤ 5000 := by omega
  go_enter Tryz.func20, Tryz.ntmps20
  go_wp2_with fail
  go_loop [5] (fun i => ∃ k : Nat, k ≤ n ∧ i = .int .i64 k) (fun i => n - (intOf i).toNat)
  case atStart => exact ⟨0, Nat.zero_le _, rfl⟩
  case round =>
    obtain ⟨k, hk, rfl⟩ := hrel
    by_cases hkn : k < n
    · have hc := H.out
      have d0 := (hc (k * 2) (by omega)).trans (reps_at (j := 0) lenG m hkn (by decide))
      have d1 := (hc (k * 2 + 1) (by omega)).trans (reps_at (j := 1) lenG m hkn (by decide))
      clear hc
      simp only [List.getElem?_cons_zero, List.getElem?_cons_succ] at d0 d1
      have i2 : (k : Int) < (n : Int) := by omega
      go_wp2
      go_round
      case rel => exact ⟨k + 1, by omega, by go_num⟩
      case measure => simp [intOf]; omega
    · go_wp2
      go_ret
      exact ⟨rfl, rfl⟩

theorem allG {w : World} {B : Nat} {v : Value} {n : Nat} {m : Int} (hn : n ≤ 5000) (h : MrkG famG w B v n m) :
    Calls Tryz.prog 20 #[v, .int .i64 m] w fun e w' => e = .returned (.bool true) ∧ w' = w := by
  obtain ⟨ao, cap, rfl, h0⟩ := id h
  by_cases hz : n = 0
  · subst hz
    exact allG_none ao cap m w
  · obtain ⟨g, rfl, -, hc⟩ := h.cell (by omega)
    exact allG_some g n cap m hn w hc

theorem slice_of {w : World} {base : Nat} {e : TypeId} {size : Nat} {v : Value} {n : Nat} {xs : List Value} (h : w.ownsRow base e size v n xs) : ∃ ao cap, v = .slice ao n cap := by
  rcases h.2 with ⟨rfl, rfl⟩ | ⟨g, cap, cur, rfl, -⟩
  · exact ⟨none, 0, rfl⟩
  · exact ⟨some ⟨g, 0, none⟩, cap, rfl⟩

set_option maxHeartbeats 4000000 in
set_option maxRecDepth 100000 in
theorem looksG {w : World} {B BW : Nat} {vps : Value} {ei ec eg : List Ent} (h : InvG w B BW vps ei ec eg) (hei : ei.length ≤ 4398046511104) (hec : ec.length ≤ 4398046511104) (heg : eg.length ≤ 4398046511104) (hB : B ≤ w.heap.size) :
    Calls Tryz.prog 11 #[.pointer (some ⟨BW, 1, none⟩)] w fun e w' => e = .returned (.bool true) ∧ Below w.heap.size w w' := by
  obtain ⟨vi, vc, vg, h1, h4, hI, hC, hG⟩ := h
  have q : w.cell? ⟨BW, 1, none⟩ = some vi ∧ w.cell? ⟨BW, 2, none⟩ = some vc ∧ w.cell? ⟨BW, 3, none⟩ = some vg :=
    ⟨by rw [cell_of_row w BW 1 _ 34 _ h1]; rfl, by rw [cell_of_row w BW 2 _ 34 _ h1]; rfl, by rw [cell_of_row w BW 3 _ 34 _ h1]; rfl⟩
  obtain ⟨q1, q2, q3⟩ := q
  obtain ⟨aI, cI, rfl⟩ := slice_of hI.1
  obtain ⟨aC, cC, rfl⟩ := slice_of hC.1
  obtain ⟨aG, cG, rfl⟩ := slice_of hG.1
  have hBW : BW < w.heap.size := by omega
  obtain ⟨ni, HnI⟩ : ∃ n, Hid (ei.length = n) := ⟨_, rfl⟩
  obtain ⟨nc, HnC⟩ : ∃ n, Hid (ec.length = n) := ⟨_, rfl⟩
  obtain ⟨ng, HnG⟩ : ∃ n, Hid (eg.length = n) := ⟨_, rfl⟩
  have hni : ni ≤ 4398046511104 := by rw [← HnI.out]; exact hei
  have hnc : nc ≤ 4398046511104 := by rw [← HnC.out]; exact hec
  have hng : ng ≤ 4398046511104 := by rw [← HnG.out]; exact heg
  have hni2 : (ni : Int) ≤ 4398046511104 := by omega
  have hnc2 : (nc : Int) ≤ 4398046511104 := by omega
  have hng2 : (ng : Int) ≤ 4398046511104 := by omega
  obtain ⟨h2I, -, h5I⟩ := hI
  obtain ⟨h2C, -, h5C⟩ := hC
  obtain ⟨h2G, -, h5G⟩ := hG
  rw [HnI.out] at q1 h2I
  rw [HnC.out] at q2 h2C
  rw [HnG.out] at q3 h2G
  have H2I := hyd h2I
  have H2C := hyd h2C
  have H2G := hyd h2G
  have H5I := hyd h5I
  have H5C := hyd h5C
  have H5G := hyd h5G
  clear h1 h2I h2C h2G h4 h5I h5C h5G hei hec heg
  go_enter Tryz.func11, Tryz.ntmps11
  go_wp2_with fail
  go_loopw [3] (fun i wr => ∃ k : Nat, k ≤ ni ∧ i = .int .i64 k ∧ Below w.heap.size w wr) (fun i _ => ni - (intOf i).toNat)
  case atStart => exact ⟨0, Nat.zero_le _, rfl, Below.refl _ _⟩
  case round =>
    obtain ⟨k, hk, rfl, hb⟩ := hrel
    have r1 := (hb.cell (p := ⟨BW, 1, none⟩) hBW).trans q1
    have r2 := (hb.cell (p := ⟨BW, 2, none⟩) hBW).trans q2
    have r3 := (hb.cell (p := ⟨BW, 3, none⟩) hBW).trans q3
    by_cases hkn : k < ni
    · obtain ⟨x, hx⟩ : ∃ x, ei[k]? = some x := ⟨_, List.getElem?_eq_getElem (by rw [HnI.out]; exact hkn)⟩
      obtain ⟨m0, m1, m2, m3⟩ := H5I.out x (List.mem_of_getElem? hx)
      have hbk : ∀ g cur, g < B → w.heap[g]? = some (.cells cur famI.e) → wr.heap[g]? = w.heap[g]? := fun g _ hg _ => hb.block g (by omega)
      have M0 := hyd (m0.keep (Nat.le_refl _) hbk)
      have M1 := hyd (m1.keep (Nat.le_refl _) hbk)
      have M2 := hyd (m2.keep (Nat.le_refl _) hbk)
      obtain ⟨f0, f1, f2, f3⟩ := flatE_at hx
      obtain ⟨g, hg⟩ : ∃ g, aI = some ⟨g, 0, none⟩ := by
        rcases H2I.out.2 with ⟨h0, h00⟩ | ⟨g, cap', cur, hv, -⟩
        · omega
        · simp only [Value.slice.injEq] at hv; exact ⟨g, hv.1⟩
      subst hg
      have ho := H2I.out.keptB hb
      have c0 := (ho.cellAt (k * 4) (by omega)).trans f0
      have c1 := (ho.cellAt (k * 4 + 1) (by omega)).trans f1
      have c2 := (ho.cellAt (k * 4 + 2) (by omega)).trans f2
      have c3 := (ho.cellAt (k * 4 + 3) (by omega)).trans f3
      obtain ⟨l0, p0, hl0, -⟩ := id m0
      obtain ⟨l1, p1, hl1, -⟩ := id m1
      obtain ⟨l2, p2, hl2, -⟩ := id m2
      rw [hl0] at c0 M0
      rw [hl1] at c1 M1
      rw [hl2] at c2 M2
      have i2 : (k : Int) < (ni : Int) := by omega
      have m3' : x.n ≤ 4000 := m3
      clear f0 f1 f2 f3 ho hx m0 m1 m2 m3 hbk hl0 hl1 hl2
      go_wp2_with fail
      refine (allI (by omega) (M0.out.keep (Nat.le_refl _) (fun g' _ hg' _ => Below.heap_alloc wr _ g' (by have := hb.size; omega)))).mono ?_
      rintro e w1 ⟨rfl, rfl⟩
      go_wp2_with fail
      refine (allI (by omega) (M1.out.keep (Nat.le_refl _) (fun g' _ hg' _ => Below.heap_alloc wr _ g' (by have := hb.size; omega)))).mono ?_
      rintro e w1 ⟨rfl, rfl⟩
      go_wp2_with fail
      refine (allI (by omega) (M2.out.keep (Nat.le_refl _) (fun g' _ hg' _ => Below.heap_alloc wr _ g' (by have := hb.size; omega)))).mono ?_
      rintro e w1 ⟨rfl, rfl⟩
      go_wp2
      go_roundw
      case rel => exact ⟨k + 1, by omega, by go_num, hb.alloc hb.size _⟩
      case measure => simp [intOf]; omega
    · go_wp2_with fail
      go_loopw [8] (fun i wr => ∃ k : Nat, k ≤ nc ∧ i = .int .i64 k ∧ Below w.heap.size w wr) (fun i _ => nc - (intOf i).toNat)
      case atStart => exact ⟨0, Nat.zero_le _, rfl, hb⟩
      case round =>
        obtain ⟨k, hk, rfl, hb⟩ := hrel
        have r1 := (hb.cell (p := ⟨BW, 1, none⟩) hBW).trans q1
        have r2 := (hb.cell (p := ⟨BW, 2, none⟩) hBW).trans q2
        have r3 := (hb.cell (p := ⟨BW, 3, none⟩) hBW).trans q3
        by_cases hkn : k < nc
        · obtain ⟨x, hx⟩ : ∃ x, ec[k]? = some x := ⟨_, List.getElem?_eq_getElem (by rw [HnC.out]; exact hkn)⟩
          obtain ⟨m0, m1, m2, m3⟩ := H5C.out x (List.mem_of_getElem? hx)
          have hbk : ∀ g cur, g < B → w.heap[g]? = some (.cells cur famC.e) → wr.heap[g]? = w.heap[g]? := fun g _ hg _ => hb.block g (by omega)
          have M0 := hyd (m0.keep (Nat.le_refl _) hbk)
          have M1 := hyd (m1.keep (Nat.le_refl _) hbk)
          have M2 := hyd (m2.keep (Nat.le_refl _) hbk)
          obtain ⟨f0, f1, f2, f3⟩ := flatE_at hx
          obtain ⟨g, hg⟩ : ∃ g, aC = some ⟨g, 0, none⟩ := by
            rcases H2C.out.2 with ⟨h0, h00⟩ | ⟨g, cap', cur, hv, -⟩
            · omega
            · simp only [Value.slice.injEq] at hv; exact ⟨g, hv.1⟩
          subst hg
          have ho := H2C.out.keptB hb
          have c0 := (ho.cellAt (k * 4) (by omega)).trans f0
          have c1 := (ho.cellAt (k * 4 + 1) (by omega)).trans f1
          have c2 := (ho.cellAt (k * 4 + 2) (by omega)).trans f2
          have c3 := (ho.cellAt (k * 4 + 3) (by omega)).trans f3
          obtain ⟨l0, p0, hl0, -⟩ := id m0
          obtain ⟨l1, p1, hl1, -⟩ := id m1
          obtain ⟨l2, p2, hl2, -⟩ := id m2
          rw [hl0] at c0 M0
          rw [hl1] at c1 M1
          rw [hl2] at c2 M2
          have i2 : (k : Int) < (nc : Int) := by omega
          have m3' : x.n ≤ 4000 := m3
          clear f0 f1 f2 f3 ho hx m0 m1 m2 m3 hbk hl0 hl1 hl2
          go_wp2_with fail
          refine (allC (by omega) (M0.out.keep (Nat.le_refl _) (fun g' _ hg' _ => Below.heap_alloc wr _ g' (by have := hb.size; omega)))).mono ?_
          rintro e w1 ⟨rfl, rfl⟩
          go_wp2_with fail
          refine (allC (by omega) (M1.out.keep (Nat.le_refl _) (fun g' _ hg' _ => Below.heap_alloc wr _ g' (by have := hb.size; omega)))).mono ?_
          rintro e w1 ⟨rfl, rfl⟩
          go_wp2_with fail
          refine (allC (by omega) (M2.out.keep (Nat.le_refl _) (fun g' _ hg' _ => Below.heap_alloc wr _ g' (by have := hb.size; omega)))).mono ?_
          rintro e w1 ⟨rfl, rfl⟩
          go_wp2
          go_roundw
          case rel => exact ⟨k + 1, by omega, by go_num, hb.alloc hb.size _⟩
          case measure => simp [intOf]; omega
        · go_wp2_with fail
          go_loopw [13] (fun i wr => ∃ k : Nat, k ≤ ng ∧ i = .int .i64 k ∧ Below w.heap.size w wr) (fun i _ => ng - (intOf i).toNat)
          case atStart => exact ⟨0, Nat.zero_le _, rfl, hb⟩
          case round =>
            obtain ⟨k, hk, rfl, hb⟩ := hrel
            have r1 := (hb.cell (p := ⟨BW, 1, none⟩) hBW).trans q1
            have r2 := (hb.cell (p := ⟨BW, 2, none⟩) hBW).trans q2
            have r3 := (hb.cell (p := ⟨BW, 3, none⟩) hBW).trans q3
            by_cases hkn : k < ng
            · obtain ⟨x, hx⟩ : ∃ x, eg[k]? = some x := ⟨_, List.getElem?_eq_getElem (by rw [HnG.out]; exact hkn)⟩
              obtain ⟨m0, m1, m2, m3⟩ := H5G.out x (List.mem_of_getElem? hx)
              have hbk : ∀ g cur, g < B → w.heap[g]? = some (.cells cur famG.e) → wr.heap[g]? = w.heap[g]? := fun g _ hg _ => hb.block g (by omega)
              have M0 := hyd (m0.keep (Nat.le_refl _) hbk)
              have M1 := hyd (m1.keep (Nat.le_refl _) hbk)
              have M2 := hyd (m2.keep (Nat.le_refl _) hbk)
              obtain ⟨f0, f1, f2, f3⟩ := flatE_at hx
              obtain ⟨g, hg⟩ : ∃ g, aG = some ⟨g, 0, none⟩ := by
                rcases H2G.out.2 with ⟨h0, h00⟩ | ⟨g, cap', cur, hv, -⟩
                · omega
                · simp only [Value.slice.injEq] at hv; exact ⟨g, hv.1⟩
              subst hg
              have ho := H2G.out.keptB hb
              have c0 := (ho.cellAt (k * 4) (by omega)).trans f0
              have c1 := (ho.cellAt (k * 4 + 1) (by omega)).trans f1
              have c2 := (ho.cellAt (k * 4 + 2) (by omega)).trans f2
              have c3 := (ho.cellAt (k * 4 + 3) (by omega)).trans f3
              obtain ⟨l0, p0, hl0, -⟩ := id m0
              obtain ⟨l1, p1, hl1, -⟩ := id m1
              obtain ⟨l2, p2, hl2, -⟩ := id m2
              rw [hl0] at c0 M0
              rw [hl1] at c1 M1
              rw [hl2] at c2 M2
              have i2 : (k : Int) < (ng : Int) := by omega
              have m3' : x.n ≤ 4000 := m3
              clear f0 f1 f2 f3 ho hx m0 m1 m2 m3 hbk hl0 hl1 hl2
              go_wp2_with fail
              refine (allG (by omega) (M0.out.keep (Nat.le_refl _) (fun g' _ hg' _ => Below.heap_alloc wr _ g' (by have := hb.size; omega)))).mono ?_
              rintro e w1 ⟨rfl, rfl⟩
              go_wp2_with fail
              refine (allG (by omega) (M1.out.keep (Nat.le_refl _) (fun g' _ hg' _ => Below.heap_alloc wr _ g' (by have := hb.size; omega)))).mono ?_
              rintro e w1 ⟨rfl, rfl⟩
              go_wp2_with fail
              refine (allG (by omega) (M2.out.keep (Nat.le_refl _) (fun g' _ hg' _ => Below.heap_alloc wr _ g' (by have := hb.size; omega)))).mono ?_
              rintro e w1 ⟨rfl, rfl⟩
              go_wp2
              go_roundw
              case rel => exact ⟨k + 1, by omega, by go_num, hb.alloc hb.size _⟩
              case measure => simp [intOf]; omega
            · go_wp2
              go_ret
              exact ⟨rfl, hb⟩

end Go.Proofs.YtbhbacphiinpeaaGreat

