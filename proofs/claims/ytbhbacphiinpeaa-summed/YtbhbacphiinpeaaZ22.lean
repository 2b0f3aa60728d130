/- Mv Nb Nc: joined. -/
import Derived.Test.YtbhbacphiinpeaaZ21
import Derived.Deep.MidRow
import Derived.Deep.WholeRow

/- What State, Memory, Registers and Done of package loom answer. -/
namespace Go.Proofs.Ytbhbacphiinpeaa
open Go.RowKit

theorem Try.infoI3 : (Try.prog.info? 3).map (fun i => (i.zero, i.size, i.bytes)) = some (some (.int .i64 0), 1, 8) := by kernel_rfl

set_option maxHeartbeats 400000 in
theorem mstate_any {w : World} {L : XM} {m : PM} {x : QM} (h : XAt w L m x) :
    Calls Try.prog 38 #[pM L] w fun e w' => e = .returned (.int .i64 m.st) ∧ w' = w := by
  obtain ⟨-, -, -, c3, -⟩ := h.mx.head
  rw [h.rel.st] at c3
  clear h
  unfold pM
  go_enter Try.func38, Try.ntmps38
  go_wp2
  go_ret
  exact ⟨rfl, rfl⟩

theorem Try.infoI102 : (Try.prog.info? 85).map (·.size) = some 32 := by kernel_rfl

theorem range_words {w : World} {L : XM} {k : List Ins} {J : List Int} {x : QM} (h : MX w L k J x) : w.rangeAt L.bX 70 (zVals x.wd) := fun j v hv => by
  have hj : j < 32 := by have := (List.getElem?_eq_some_iff.1 hv).1; rw [zl, h.shp.wl] at this; exact this
  rw [h.word hj, ← hv]
  unfold zVals
  rw [List.getElem?_map, List.getElem?_eq_getElem (by rw [h.shp.wl]; exact hj), List.getD_eq_getElem?_getD, List.getElem?_eq_getElem (by rw [h.shp.wl]; exact hj)]
  rfl

theorem run_index_int {t : TypeId} {n : Nat} (hu : Try.prog.underlying t = some (.array n 3)) (A : Array Value) (i : Nat) (hi : i < n) (v : Int) (h : A[i]? = some (.int .i64 v)) (w : World) : (Instr.index t (.agg A) (.int .i64 (i : Int))).run Try.prog w = .ok (.int .i64 v) w := by
  obtain ⟨i0, hi0, hz0, hz1, hz2⟩ := info_parts Try.infoI3
  unfold Instr.index
  have hc : (0 : Int) ≤ (i : Int) ∧ (i : Int) < (n : Int) := by omega
  simp [asIntOf, Sem.run_bind, run_underlying hu, hc, sizeOf, typeInfo, hi0, hz1, part, h]
  intro hx; omega

theorem take_snoc {l : List Int} {i : Nat} {v : Int} (h : l[i]? = some v) : l.take (i + 1) = l.take i ++ [v] := by
  rw [List.take_add_one, h]; rfl

set_option maxHeartbeats 1000000 in
set_option maxRecDepth 100000 in
theorem cmem_any {w : World} {L : XM} {k : List Ins} {J : List Int} {x : QM} (h : MX w L k J x) (hc : x.cnt ≤ 32) :
    Calls Try.prog 40 #[pC L] w fun e w' => ∃ v, e = .returned v ∧ w'.ownsRow w.heap.size 3 1 v x.cnt (zVals (x.wd.take x.cnt)) ∧ Below w.heap.size w w' := by
  have H := hyd h
  have HRg := hyd (range_words h)
  have hwl := hyd h.shp.wl
  obtain ⟨n, Hn⟩ : ∃ n, Hid (x.cnt = n) := ⟨_, rfl⟩
  have c69 := h.cnt
  rw [Hn.out] at hc c69 ⊢
  have C69 := hyd c69
  have hn2 : (n : Int) ≤ 32 := by omega
  obtain ⟨i0, hi, hz0, hz1, hz2⟩ := info_parts Try.infoI3
  obtain ⟨A, HA⟩ : ∃ A : Array Value, Hid (A = (zVals x.wd).toArray) := ⟨_, rfl⟩
  have hbx : L.bX < w.heap.size := h.lt (.inl rfl)
  clear h c69
  unfold pC
  go_enter Try.func40, Try.ntmps40
  go_wp2_with (refine wpList_load_mid rfl 85 (.tmp 8) rfl L.bX 70 rfl (zVals x.wd) _ HRg.out Try.underlying85 rfl (by rw [zl, hwl.out]; exact Try.infoI102) ?_)
  rw [← HA.out]
  have hA : ∀ (i : Nat), i < 32 → A[i]? = some (.int .i64 (x.wd.getD i 0)) := fun i hi => by
    rw [HA.out]
    simp only [List.getElem?_toArray]
    refine zVals_at ?_
    rw [List.getD_eq_getElem?_getD, List.getElem?_eq_getElem (by rw [hwl.out]; exact hi)]; rfl
  have HAz := hyd hA
  have hAs : A.size = 32 := by rw [HA.out]; simp [zl, hwl.out]
  clear hA
  go_loopw [3, 10] (fun lv iv wr => ∃ (i : Nat), i ≤ 32 ∧ iv = .int .i64 i ∧ Hid (wr.ownsRow w.heap.size 3 1 lv (min i n) (zVals (x.wd.take (min i n)))) ∧ Hid (Below w.heap.size w wr)) (fun _ iv _ => 32 - (intOf iv).toNat)
  case atStart => exact ⟨0, by omega, rfl, by rw [Nat.zero_min]; exact World.ownsRow_nil _ _ _ _, Below.refl _ _⟩
  case round =>
    rename_i lv0 _
    obtain ⟨i, hi32, rfl, HO, HB⟩ := hrel
    have c69 : wr.cell? ⟨L.bX, 69, none⟩ = some (.int .i64 n) := (HB.out.cell hbx).trans C69.out
    by_cases hi3 : i < 32
    · have i1 : (0 : Int) ≤ (i : Int) := by omega
      have i2 : (i : Int) < 32 := by omega
      have hAi0 := HAz.out i hi3
      obtain ⟨v, Hv⟩ : ∃ v, Hid (x.wd.getD i 0 = v) := ⟨_, rfl⟩
      rw [Hv.out] at hAi0
      have hAi := run_index_int Try.underlying85 A i hi3 v hAi0
      clear hAi0
      have hvi : Hid (x.wd[i]? = some v) := by unfold Hid; rw [← Hv.out, List.getD_eq_getElem?_getD, List.getElem?_eq_getElem (by rw [hwl.out]; exact hi3)]; rfl
      by_cases hin : i < n
      · have hin2 : (i : Int) < (n : Int) := by omega
        rw [Nat.min_eq_left (by omega)] at HO
        obtain ⟨va, vc, hv⟩ := slice_ofM HO.out
        subst hv
        have hsz := HB.out.size
        go_wp2_with (at_builtin; go_must (refine wpList_append_own _ rfl (.tmp 20) (.tmp 22) 22 rfl w.heap.size 3 i0 (.int .i64 0) 1 8 Try.underlying22 hi hz0 hz1 hz2 rfl (by decide) (.slice va i vc) i (zVals (x.wd.take i)) rfl ?a0 ⟨wr.heap.size, 0, none⟩ 1 1 [.int .i64 v] rfl rfl ?a1 ?a2 ?a3 ?a4 ?a5 ?_))
        case a0 => exact HO.out.alloc _
        case a1 => exact World.news_of_block (heap_alloc_new wr _)
        case a2 => intro u hu; simp at hu; subst hu; rfl
        case a3 => unfold maxLen; omega
        case a4 => omega
        case a5 => simp; omega
        · intro v3 w3 hown3 hgrow3 _
          have HB3 : Hid (Below w.heap.size w w3) := (HB.out.alloc hsz _).grown hgrow3 (by simp; omega) (fun y hy => (HO.out.lt y hy).1)
          have HO3 : Hid (w3.ownsRow w.heap.size 3 1 v3 (i + 1) (zVals (x.wd.take (i + 1)))) := by
            unfold Hid; rw [take_snoc hvi.out, zVals_append]; exact hown3
          clear hown3 hgrow3
          go_wp2_with fail
          refine ⟨⟨i + 1, by omega, rfl, by rw [Nat.min_eq_left (by omega)]; exact HO3, HB3⟩, ?_⟩
          simp only [intOf]; omega
      · have hin2 : decide ((i : Int) < (n : Int)) = false := by simp; omega
        go_wp2_with fail
        refine ⟨⟨i + 1, by omega, rfl, ?_, HB⟩, ?_⟩
        · rw [Nat.min_eq_right (by omega)] at HO ⊢; exact HO
        · simp only [intOf]; omega
    · have : i = 32 := by omega
      subst this
      rw [Nat.min_eq_right (by omega)] at HO
      go_wp2_with fail
      go_ret
      exact ⟨_, rfl, HO.out, HB.out⟩

set_option maxHeartbeats 400000 in
theorem mmem_any {w : World} {L : XM} {m : PM} {x : QM} (h : XAt w L m x) :
    Calls Try.prog 21 #[pM L] w fun e w' => ∃ v, e = .returned v ∧ w'.ownsRow w.heap.size 3 1 v m.mem.length (zVals m.mem) ∧ Below w.heap.size w w' := by
  have hq := hyd (cmem_any h.mx h.rel.cells.c32)
  rw [h.rel.cells.wd, h.rel.cells.cnt] at hq
  clear h
  unfold pC at hq
  unfold pM
  go_enter Try.func21, Try.ntmps21
  go_wp2_with fail
  refine hq.out.mono ?_
  rintro e w2 ⟨v, rfl, ho, hb⟩
  have HO := hyd ho
  have HB := hyd hb
  clear ho hb
  go_wp2
  go_ret
  exact ⟨_, rfl, HO.out, HB.out⟩

set_option maxHeartbeats 1000000 in
set_option maxRecDepth 100000 in
theorem cregs_any {w : World} {L : XM} {k : List Ins} {J : List Int} {x : QM} (h : MX w L k J x) (t : Nat) (ht : t < 16) :
    Calls Try.prog 41 #[pC L, .int .i64 t] w fun e w' => ∃ v, e = .returned v ∧ w'.ownsRow w.heap.size 3 1 v 4 (zVals [rgA x t 0, rgA x t 1, rgA x t 2, rgA x t 3]) ∧ Below w.heap.size w w' := by
  have c0 := h.reg ht (r := 0) (by omega)
  have c1 := h.reg ht (r := 1) (by omega)
  have c2 := h.reg ht (r := 2) (by omega)
  have c3 := h.reg ht (r := 3) (by omega)
  rw [Nat.add_zero] at c0
  generalize rgA x t 0 = r0 at *
  generalize rgA x t 1 = r1 at *
  generalize rgA x t 2 = r2 at *
  generalize rgA x t 3 = r3 at *
  have t1 : (0 : Int) ≤ (t : Int) := by omega
  have t2 : (t : Int) < 16 := by omega
  obtain ⟨i0, hi, hz0, hz1, hz2⟩ := info_parts Try.infoI3
  clear h ht
  unfold pC
  go_enter Try.func41, Try.ntmps41
  go_wp2_with fail
  go_loopw [5, 21] (fun lv iv wr => ∃ (i : Nat), i ≤ 4 ∧ iv = .int .i64 i ∧ Hid (wr.ownsRow w.heap.size 3 1 lv i (zVals ([r0, r1, r2, r3].take i))) ∧ Hid (Below w.heap.size w wr)) (fun _ iv _ => 4 - (intOf iv).toNat)
  case atStart => exact ⟨0, by omega, rfl, World.ownsRow_nil _ _ _ _, Below.refl _ _⟩
  case round =>
    obtain ⟨i, hi4, rfl, HO, HB⟩ := hrel
    by_cases hi3 : i < 4
    · have i1 : (0 : Int) ≤ (i : Int) := by omega
      have i2 : (i : Int) < 4 := by omega
      obtain ⟨v, hv4⟩ : ∃ v, [r0, r1, r2, r3][i]? = some v := ⟨_, List.getElem?_eq_getElem (by simpa using hi3)⟩
      have hvi := hyd hv4
      have hAi := run_index_int Try.underlying83 #[.int .i64 r0, .int .i64 r1, .int .i64 r2, .int .i64 r3] i hi3 v (by
        rw [show (#[.int .i64 r0, .int .i64 r1, .int .i64 r2, .int .i64 r3] : Array Value) = (zVals [r0, r1, r2, r3]).toArray from rfl, List.getElem?_toArray]
        exact zVals_at hv4)
      obtain ⟨va, vc, hv⟩ := slice_ofM HO.out
      subst hv
      have hsz := HB.out.size
      clear hv4
      go_wp2_with (at_builtin; go_must (refine wpList_append_own _ rfl (.tmp 24) (.tmp 26) 22 rfl w.heap.size 3 i0 (.int .i64 0) 1 8 Try.underlying22 hi hz0 hz1 hz2 rfl (by decide) (.slice va i vc) i (zVals ([r0, r1, r2, r3].take i)) rfl ?a0 ⟨wr.heap.size, 0, none⟩ 1 1 [.int .i64 v] rfl rfl ?a1 ?a2 ?a3 ?a4 ?a5 ?_))
      case a0 => exact HO.out.alloc _
      case a1 => exact World.news_of_block (heap_alloc_new wr _)
      case a2 => intro u hu; simp at hu; subst hu; rfl
      case a3 => unfold maxLen; omega
      case a4 => omega
      case a5 => simp; omega
      · intro v3 w3 hown3 hgrow3 _
        have HB3 : Hid (Below w.heap.size w w3) := (HB.out.alloc hsz _).grown hgrow3 (by simp; omega) (fun y hy => (HO.out.lt y hy).1)
        have HO3 : Hid (w3.ownsRow w.heap.size 3 1 v3 (i + 1) (zVals ([r0, r1, r2, r3].take (i + 1)))) := by
          unfold Hid; rw [take_snoc hvi.out, zVals_append]; exact hown3
        clear hown3 hgrow3
        go_wp2_with fail
        refine ⟨⟨i + 1, by omega, rfl, HO3, HB3⟩, ?_⟩
        simp only [intOf]; omega
    · have : i = 4 := by omega
      subst this
      go_wp2_with fail
      go_ret
      exact ⟨_, rfl, HO.out, HB.out⟩

theorem regs_four {ts : List Thr} {mem : List Int} {x : QM} (h : CellsAt ts mem x) {t : Nat} (ht : t < ts.length) : [rgA x t 0, rgA x t 1, rgA x t 2, rgA x t 3] = (ts.getD t thr0).regs := by
  have h4 := reg4_at h.reg4 ht
  have e : ∀ r, r < 4 → rgA x t r = (ts.getD t thr0).regs.getD r 0 := fun r hr => by
    unfold rgA
    rw [List.getD_eq_getElem?_getD, h.regs t ht r hr, ← List.getD_eq_getElem?_getD]
  rw [e 0 (by omega), e 1 (by omega), e 2 (by omega), e 3 (by omega)]
  match hl : (ts.getD t thr0).regs, h4 with
  | [a, b, c, d], _ => rfl

def noThr (m : PM) (t : Int) : Prop := t < 0 ∨ (m.ts.length : Int) ≤ t

set_option maxHeartbeats 1000000 in
set_option maxRecDepth 100000 in
theorem mregs_yes {w : World} {L : XM} {m : PM} {x : QM} (h : XAt w L m x) (t : Nat) (ht : t < m.ts.length) :
    Calls Try.prog 24 #[pM L, .int .i64 t] w fun e w' => ∃ v, e = .returned (.tuple #[v, .int .i64 0]) ∧ w'.ownsRow w.heap.size 3 1 v 4 (zVals (m.ts.getD t thr0).regs) ∧ Below w.heap.size w w' := by
  have hn := h.rel.cells.n
  have h16 := h.rel.cells.n16
  have hq := hyd (cregs_any h.mx t (by omega))
  rw [regs_four h.rel.cells ht] at hq
  obtain ⟨-, -, c2, -, -⟩ := h.mx.head
  have t1 : (0 : Int) ≤ (t : Int) := by omega
  have t2 : (t : Int) < (x.n : Int) := by omega
  have t3 : decide ((x.n : Int) ≤ (t : Int)) = false := by simp; omega
  have t4 : decide ((t : Int) < 0) = false := by simp
  have t5 : decide (x.n ≤ t) = false := by simp; omega
  generalize (m.ts.getD t thr0).regs = R at *
  clear h hn h16 ht
  unfold pC at hq
  unfold pM
  go_enter Try.func24, Try.ntmps24
  go_wp2_with fail
  refine hq.out.mono ?_
  rintro e w2 ⟨v, rfl, ho, hb⟩
  have HO := hyd ho
  have HB := hyd hb
  clear ho hb
  go_wp2
  go_ret2
  exact ⟨_, rfl, HO.out, HB.out⟩

set_option maxHeartbeats 1000000 in
set_option maxRecDepth 100000 in
theorem mregs_no {w : World} {L : XM} {m : PM} {x : QM} (h : XAt w L m x) (t : Int) (ht : noThr m t) :
    Calls Try.prog 24 #[pM L, .int .i64 t] w fun e w' => e = .returned (.tuple #[.slice none 0 0, .int .i64 8]) ∧ w' = w := by
  have hn := h.rel.cells.n
  obtain ⟨-, -, c2, -, -⟩ := h.mx.head
  unfold noThr at ht
  rw [← hn] at ht
  clear h hn
  unfold pM
  by_cases h0 : t < 0
  · have g0 : decide (t < 0) = true := by simpa using h0
    go_enter Try.func24, Try.ntmps24
    go_wp2
    go_ret2
    exact ⟨rfl, rfl⟩
  · have g0 : decide (t < 0) = false := by simpa using h0
    have g1 : decide ((x.n : Int) ≤ t) = true := by simp; omega
    go_enter Try.func24, Try.ntmps24
    go_wp2
    go_ret2
    exact ⟨rfl, rfl⟩

set_option maxHeartbeats 1000000 in
set_option maxRecDepth 100000 in
theorem mdone_no {w : World} {L : XM} {m : PM} {x : QM} (h : XAt w L m x) (t : Int) (ht : noThr m t) :
    Calls Try.prog 25 #[pM L, .int .i64 t] w fun e w' => e = .returned (.tuple #[.bool false, .int .i64 8]) ∧ w' = w := by
  have hn := h.rel.cells.n
  obtain ⟨-, -, c2, -, -⟩ := h.mx.head
  unfold noThr at ht
  rw [← hn] at ht
  clear h hn
  unfold pM
  by_cases h0 : t < 0
  · have g0 : decide (t < 0) = true := by simpa using h0
    go_enter Try.func25, Try.ntmps25
    go_wp2
    go_ret2
    exact ⟨rfl, rfl⟩
  · have g0 : decide (t < 0) = false := by simpa using h0
    have g1 : decide ((x.n : Int) ≤ t) = true := by simp; omega
    go_enter Try.func25, Try.ntmps25
    go_wp2
    go_ret2
    exact ⟨rfl, rfl⟩

set_option maxHeartbeats 1000000 in
set_option maxRecDepth 100000 in
theorem mdone_yes {w : World} {L : XM} {m : PM} {x : QM} (h : XAt w L m x) (t : Nat) (ht : t < m.ts.length) :
    Calls Try.prog 25 #[pM L, .int .i64 t] w fun e w' => e = .returned (.tuple #[.bool (isDone m.ts t), .int .i64 0]) ∧ Below w.heap.size w w' := by
  have hn := h.rel.cells.n
  have h16 := h.rel.cells.n16
  have hd := h.rel.dn.2 (t / 4) (by omega) (t % 4) (by omega)
  rw [show 4 * (t / 4) + t % 4 = t by omega] at hd
  have hq := hyd (laneDone_any h.mx (qs_at h.mx.shp (show t / 4 < 4 by omega)) (h.rel.d16 (t / 4) (by omega)) (t % 4) (by omega))
  rw [← hd] at hq
  obtain ⟨-, -, c2, -, -⟩ := h.mx.head
  have t1 : (0 : Int) ≤ (t : Int) := by omega
  have t2 : (t : Int) < (x.n : Int) := by omega
  have t3 : decide ((x.n : Int) ≤ (t : Int)) = false := by simp; omega
  have t4 : decide ((t : Int) < 0) = false := by simp
  have t5 : decide (x.n ≤ t) = false := by simp; omega
  have q1 : Int.tdiv (t : Int) 4 = ((t / 4 : Nat) : Int) := by rw [Int.tdiv_eq_ediv_of_nonneg t1]; omega
  have q2 : Int.tmod (t : Int) 4 = ((t % 4 : Nat) : Int) := by rw [Int.tmod_eq_emod_of_nonneg t1]; omega
  have q3 : (0 : Int) ≤ ((t / 4 : Nat) : Int) := by omega
  have q4 : ((t / 4 : Nat) : Int) < 4 := by omega
  generalize isDone m.ts t = D at *
  clear h hn hd ht
  unfold pW at hq
  rw [oW_int] at hq
  unfold pM
  go_enter Try.func25, Try.ntmps25
  go_wp2_with fail
  refine hq.out.mono ?_
  rintro e w2 ⟨rfl, hb⟩
  have HB := hyd hb
  clear hb
  go_wp2
  go_ret2
  exact ⟨rfl, HB.out⟩

end Go.Proofs.Ytbhbacphiinpeaa

/- What 'Begin' of package flow and 'New' of package cells answer. -/
namespace Go.Proofs.Ytbhbacphiinpeaa
open Go.RowKit

def begM (count : Int) (l : Nat) : Nat := maskOf fun j => decide (j < l) && decide ((j : Int) < count)
theorem begM_zero (count : Int) : begM count 0 = 0 := by
  refine mask_ext (maskOf_lt _) (by omega) fun l hl => ?_
  unfold begM
  rw [maskOf_bit _ hl]; simp
theorem begM_yes {count : Int} {l : Nat} (hl : l < 4) (h : (l : Int) < count) : begM count l ||| 2 ^ l = begM count (l + 1) := by
  refine mask_ext (or_lt16 (maskOf_lt _) (Nat.pow_lt_pow_right (a := 2) (m := l) (n := 4) (by omega) hl)) (maskOf_lt _) fun j hj => ?_
  unfold begM
  rw [Nat.testBit_or, maskOf_bit _ hj, maskOf_bit _ hj, Nat.testBit_two_pow]
  by_cases e : l = j
  · subst e; simp [h]
  · have e1 : decide (j < l + 1) = decide (j < l) := by simp; omega
    rw [e1]; simp [e]
theorem begM_end {count : Int} {l : Nat} (h : count ≤ (l : Int)) : begM count l = begM count 4 := by
  refine mask_ext (maskOf_lt _) (maskOf_lt _) fun j hj => ?_
  unfold begM
  rw [maskOf_bit _ hj, maskOf_bit _ hj]
  by_cases e : (j : Int) < count
  · have e1 : decide (j < l) = true := by simp; omega
    have e2 : decide (j < 4) = true := by simpa using hj
    rw [e1, e2]
  · simp [e]

def splB : Spl := ⟨0, 0, 0, 0, 0⟩
/-- A warp at its beginning. -/
def begQ (count : Int) : Wq := ⟨begM count 4, 0, -1, 0, false, 0, [splB, splB, splB]⟩

def begV (g : Int) : List Value := [.int .i64 g, .int .i64 0, .int .i64 (-1), .int .i64 0, .bool false, .int .i64 0, .int .i64 0, .int .i64 0, .int .i64 0, .int .i64 0, .int .i64 0, .int .i64 0, .int .i64 0, .int .i64 0, .int .i64 0, .int .i64 0, .int .i64 0, .int .i64 0, .int .i64 0, .int .i64 0, .int .i64 0]
theorem begV_q (count : Int) : (begQ count).vals = begV (begM count 4 : Nat) := rfl
theorem begV_one (g : Int) : ∀ v ∈ begV g, v.oneCell' = true := by
  intro v hv
  unfold begV at hv
  simp only [List.mem_cons, List.not_mem_nil, or_false] at hv
  rcases hv with rfl | rfl | rfl | rfl | rfl | rfl | rfl | rfl | rfl | rfl | rfl | rfl | rfl | rfl | rfl | rfl | rfl | rfl | rfl | rfl | rfl <;> rfl
theorem begV_len (g : Int) : (begV g).length = 21 := rfl
def begZ : List Value := [.int .i64 0, .int .i64 0, .int .i64 0, .int .i64 0, .bool false, .int .i64 0, .int .i64 0, .int .i64 0, .int .i64 0, .int .i64 0, .int .i64 0, .int .i64 0, .int .i64 0, .int .i64 0, .int .i64 0, .int .i64 0, .int .i64 0, .int .i64 0, .int .i64 0, .int .i64 0, .int .i64 0]
theorem Try.infoC109 : (Try.prog.info? 92).map (fun i => (i.zero, i.size)) = some (some (.agg begZ.toArray), 21) := by kernel_rfl
theorem Try.builtB (g : Int) : Try.prog.built 92 [(0, .int .i64 g), (2, .int .i64 (-1))] = some (begV g).toArray := by kernel_rfl

theorem wpList_build_to {P : Program} {ops : Array Oper} {rest : List Oper} {o : Oper} {a : Act} {w : World} {Q : Exit → Act → World → Prop} (hg : o.guard = none) (t : TypeId) (parts : Array (Nat × Operand)) (ho : o.op = .build t parts) (V : Array Value)
    (hV : P.built t (parts.map fun (i, x) => (i, a.eval x)).toList = some V) (h : wpList P ops Q rest (a.put o.dst (.agg V)) w) : wpList P ops Q (o :: rest) a w :=
  wpList_build hg t parts ho (by rw [hV]; rfl) (by rw [hV]; exact h)

set_option maxHeartbeats 1000000 in
set_option maxRecDepth 100000 in
theorem begin_lit (count : Int) (w : World) :
    Calls Try.prog 49 #[.int .i64 count] w fun e w' => e = .returned (.agg (begV (begM count 4 : Nat)).toArray) ∧ Below w.heap.size w w' := by
  have hB : Hid (∀ o, Below w.heap.size w (w.alloc o)) := fun o => (Below.refl _ _).alloc (Nat.le_refl _) _
  obtain ⟨hz, hsz⟩ := zero_of_info Try.infoC109
  have HS := hyd hsz
  clear hsz
  obtain ⟨Z, HZ⟩ : ∃ Z : Array Value, Hid (Z = begZ.toArray) := ⟨_, rfl⟩
  rw [← HZ.out] at hz
  have HZs : Hid (Z.size = 21) := by unfold Hid; rw [HZ.out]; rfl
  go_enter Try.func49, Try.ntmps49
  go_wp2_with fail
  clear hz
  go_loopw [3, 4] (fun gv lv wr => ∃ (l : Nat), l ≤ 4 ∧ (l : Int) ≤ 4 ∧ lv = .int .i64 l ∧ gv = .int .i64 (begM count l : Nat) ∧ wr = w.alloc (.cells Z 92)) (fun _ lv _ => 4 - (intOf lv).toNat)
  case atStart => exact ⟨0, by omega, by omega, rfl, by rw [begM_zero]; rfl, rfl⟩
  case round =>
    obtain ⟨l, hl4, hl4', rfl, rfl, rfl⟩ := hrel
    have hz16 : Hid (begM count l < 16) := maskOf_lt _
    by_cases hc : (l : Int) < count
    · have d1 : decide ((l : Int) < count) = true := by simpa using hc
      by_cases hl : l < 4
      · have l1 : (0 : Int) ≤ (l : Int) := by omega
        have l2 : (l : Int) < 4 := by omega
        have Hor := hyd ((or_lane hz16.out hl).trans (congrArg (fun (n : Nat) => (n : Int)) (begM_yes hl hc)))
        clear hc
        go_wp2_with fail
        refine ⟨⟨l + 1, by omega, by omega, rfl, ?_, by trivial⟩, ?_⟩
        · rw [Hor.out]
        · simp only [intOf]; omega
      · have : l = 4 := by omega
        subst this
        have d1' : decide ((4 : Int) < count) = true := by simpa using hc
        clear hc d1
        obtain ⟨GM, HG⟩ : ∃ GM : Nat, Hid (begM count 4 = GM) := ⟨_, rfl⟩
        rw [HG.out]
        go_wp2_with (first | (refine wpList_store_row rfl 92 (.tmp 2) (.tmp 19) rfl w.heap.size (begV GM).toArray rfl rfl 92 Z (heap_alloc_last w _) HS.out HZs.out (all_oneCell_toArray (begV_one GM)) ?_; rw [World.setRow_alloc_new]))
        have hL := run_loadVar_row (P := Try.prog) (w.alloc (.cells (begV GM).toArray 92)) w.heap.size 92 92 (begV GM).toArray (0, 0) _ (heap_alloc_last w _) Try.underlying92 rfl HS.out
        (try simp only [Exit.inBlock, Exit.then])
        refine bodyPost_ret (by simp [results, Try.results49, asAddr, Act.put, hL]; try rfl) rfl ?_
        exact ⟨by rw [HG.out], hB.out _⟩
    · have d1 : decide ((l : Int) < count) = false := by simpa using hc
      rw [begM_end (count := count) (l := l) (by omega)]
      clear hc hz16
      obtain ⟨GM, HG⟩ : ∃ GM : Nat, Hid (begM count 4 = GM) := ⟨_, rfl⟩
      rw [HG.out]
      go_wp2_with (first | (refine wpList_store_row rfl 92 (.tmp 2) (.tmp 19) rfl w.heap.size (begV GM).toArray rfl rfl 92 Z (heap_alloc_last w _) HS.out HZs.out (all_oneCell_toArray (begV_one GM)) ?_; rw [World.setRow_alloc_new]))
      have hL := run_loadVar_row (P := Try.prog) (w.alloc (.cells (begV GM).toArray 92)) w.heap.size 92 92 (begV GM).toArray (0, 0) _ (heap_alloc_last w _) Try.underlying92 rfl HS.out
      (try simp only [Exit.inBlock, Exit.then])
      refine bodyPost_ret (by simp [results, Try.results49, asAddr, Act.put, hL]; try rfl) rfl ?_
      exact ⟨by rw [HG.out], hB.out _⟩

theorem begin_any (count : Int) (w : World) : Calls Try.prog 49 #[.int .i64 count] w fun e w' => e = .returned (.agg (begQ count).vals.toArray) ∧ Below w.heap.size w w' := begin_lit count w

end Go.Proofs.Ytbhbacphiinpeaa

/- What 'New' of package cells answers. -/
namespace Go.Proofs.Ytbhbacphiinpeaa
open Go.RowKit

/-- Registers and words, as cells. -/
def celV (f : Int) (rg : List Int) (c : Nat) (wd : List Int) : List Value := .int .i64 f :: (zVals rg ++ (.int .i64 c :: zVals wd))
def z64 : List Int := List.replicate 64 0
def memW (mem : List Int) (i : Nat) : List Int := mem.take i ++ List.replicate (32 - i) 0

theorem Try.infoC104 : (Try.prog.info? 87).map (fun i => (i.zero, i.size)) = some (some (.agg (List.replicate 98 (.int .i64 0)).toArray), 98) := by kernel_rfl
theorem Try.builtC (f : Int) : Try.prog.built 87 [(0, .int .i64 f)] = some (celV f z64 0 (List.replicate 32 0)).toArray := by kernel_rfl

theorem celV_len {f : Int} {rg : List Int} {c : Nat} {wd : List Int} (h1 : rg.length = 64) (h2 : wd.length = 32) : (celV f rg c wd).length = 98 := by
  unfold celV; simp [zl, h1, h2]
theorem celV_one (f : Int) (rg : List Int) (c : Nat) (wd : List Int) : ∀ v ∈ celV f rg c wd, v.oneCell' = true := by
  intro v hv
  unfold celV at hv
  simp only [List.mem_cons, List.mem_append] at hv
  rcases hv with rfl | hv | rfl | hv
  · rfl
  · exact oneCell_z _ v hv
  · rfl
  · exact oneCell_z _ v hv
theorem celV_word {f : Int} {rg : List Int} {c : Nat} {wd : List Int} (h1 : rg.length = 64) (i : Nat) (v : Int) : (celV f rg c wd).set (66 + i) (.int .i64 v) = celV f rg c (wd.set i v) := by
  unfold celV
  rw [show 66 + i = (65 + i) + 1 by omega, List.set_cons_succ, List.set_append_right _ _ (by rw [zl, h1]; omega), zl, h1, show 65 + i - 64 = i + 1 by omega, List.set_cons_succ, show (zVals wd).set i (.int .i64 v) = zVals (wd.set i v) by simp [zVals, List.map_set]]
theorem celV_cnt {f : Int} {rg : List Int} {c : Nat} {wd : List Int} (h1 : rg.length = 64) (d : Nat) : (celV f rg c wd).set 65 (.int .i64 d) = celV f rg d wd := by
  unfold celV
  rw [show 65 = 64 + 1 by omega, List.set_cons_succ, List.set_append_right _ _ (by rw [zl, h1]; omega), zl, h1]
  rfl
theorem memW_len {mem : List Int} {i : Nat} (h : i ≤ mem.length) (h2 : mem.length ≤ 32) : (memW mem i).length = 32 := by
  unfold memW; simp; omega
theorem memW_set {mem : List Int} {i : Nat} {v : Int} (h : mem[i]? = some v) (h2 : mem.length ≤ 32) : (memW mem i).set i v = memW mem (i + 1) := by
  have hi := (List.getElem?_eq_some_iff.1 h).1
  unfold memW
  rw [List.set_append_right _ _ (by simp; omega), List.length_take, Nat.min_eq_left (by omega), Nat.sub_self, show 32 - i = (32 - (i + 1)) + 1 by omega, List.replicate_succ, List.set_cons_zero, take_snoc h, List.append_assoc]
  rfl

set_option maxHeartbeats 1000000 in
set_option maxRecDepth 100000 in
theorem cnew_any (f : Int) (b off cap n : Nat) (mem : List Int) (hn : mem.length = n) (hn2 : n ≤ 32) (w : World) (hb : b < w.heap.size) (hc : ∀ (i : Nat) x, mem[i]? = some x → w.cell? ⟨b, off + i, none⟩ = some (.int .i64 x)) :
    Calls Try.prog 48 #[.int .i64 f, .slice (some ⟨b, off, none⟩) n cap] w fun e w' => e = .returned (.agg (celV f z64 n (memW mem n)).toArray) ∧ Below w.heap.size w w' := by
  obtain ⟨hz, hsz⟩ := zero_of_info Try.infoC104
  have Hc := hyd hc
  have Hn := hyd hn
  have hn3 : (n : Int) ≤ 32 := by omega
  obtain ⟨Z, HZ⟩ : ∃ Z : Array Value, Hid (Z = (List.replicate 98 (.int .i64 0)).toArray) := ⟨_, rfl⟩
  rw [← HZ.out] at hz
  have HS := hyd hsz
  obtain ⟨C0, HC0⟩ : ∃ C0 : Array Value, Hid (C0 = (celV f z64 0 (List.replicate 32 0)).toArray) := ⟨_, rfl⟩
  have HBt := hyd (Try.builtC f)
  rw [← HC0.out] at HBt
  clear hc hn hsz
  go_enter Try.func48, Try.ntmps48
  have HZs : Hid (Z.size = 98) := by unfold Hid; rw [HZ.out]; rfl
  have HCs : Hid (C0.size = 98) := by unfold Hid; rw [HC0.out]; simp only [List.size_toArray]; exact celV_len rfl rfl
  have HC1 : Hid (C0.all (·.oneCell') = true) := by unfold Hid; rw [HC0.out]; exact all_oneCell_toArray (celV_one _ _ _ _)
  have X1 := heap_alloc_last w (.cells Z 87)
  have X2 := heap_alloc_last (w.alloc (.cells Z 87)) (.cells Z 87)
  rw [World.size_alloc] at X2
  have HX1 := hyd X1
  have HX2 := hyd X2
  clear X1 X2
  go_wp2_with (first | (refine wpList_build_to rfl 87 _ rfl C0 (by first | exact HBt.out | (simp [go_sem]; exact HBt.out)) ?_) | (refine wpList_store_row rfl 87 (.tmp 5) (.tmp 9) rfl (w.heap.size + 1) C0 rfl rfl 87 Z HX2.out (by rw [HCs.out]; exact HS.out) (by rw [HZs.out, HCs.out]) HC1.out ?_))
  have B1 : Hid ((((w.alloc (.cells Z 87)).alloc (.cells Z 87)).setRow (w.heap.size + 1) C0).heap[w.heap.size + 1]? = some (.cells (celV f z64 0 (memW mem 0)).toArray 87)) := by
    unfold Hid
    rw [setRow_heap _ _ Z _ 87 (0, 0) HX2.out, HC0.out]
    rfl
  have R1 : Hid ((((w.alloc (.cells Z 87)).alloc (.cells Z 87)).setRow (w.heap.size + 1) C0).heap[w.heap.size]? = some (.cells Z 87)) := by
    unfold Hid
    rw [setRow_other _ _ _ _ (by omega), Below.heap_alloc _ _ _ (by simp)]
    exact HX1.out
  have L1 : Hid (Below w.heap.size w (((w.alloc (.cells Z 87)).alloc (.cells Z 87)).setRow (w.heap.size + 1) C0)) := by
    refine ⟨rfl, rfl, rfl, by simp; omega, fun g hg => ?_⟩
    rw [setRow_other _ _ _ _ (by omega), Below.heap_alloc _ _ _ (by simp; omega), Below.heap_alloc _ _ _ hg]
  generalize ((w.alloc (.cells Z 87)).alloc (.cells Z 87)).setRow (w.heap.size + 1) C0 = w1 at B1 R1 L1 ⊢
  clear HX1 HX2 hz
  go_loopw [12] (fun iv wr => ∃ i : Nat, i ≤ n ∧ iv = .int .i64 i ∧ Hid (wr.heap[w.heap.size + 1]? = some (.cells (celV f z64 i (memW mem i)).toArray 87)) ∧ Hid (wr.heap[w.heap.size]? = some (.cells Z 87)) ∧ Hid (Below w.heap.size w wr)) (fun iv _ => n - (intOf iv).toNat)
  case atStart => exact ⟨0, by omega, rfl, B1, R1, L1⟩
  case round =>
    clear B1 R1 L1
    obtain ⟨i, hin, rfl, B, R, Lb⟩ := hrel
    by_cases hi : i < n
    · have i1 : (0 : Int) ≤ (i : Int) := by omega
      have i2 : (i : Int) < (n : Int) := by omega
      have i3 : (i : Int) < 32 := by omega
      obtain ⟨v, hv⟩ : ∃ v, mem[i]? = some v := ⟨_, List.getElem?_eq_getElem (by rw [Hn.out]; exact hi)⟩
      have Hv := hyd hv
      have cm := (Lb.out.cell (p := ⟨b, off + i, none⟩) hb).trans (Hc.out i v hv)
      clear hv
      have hl98 : Hid ((celV f z64 i (memW mem i)).length = 98) := celV_len rfl (memW_len (by rw [Hn.out]; exact hin) (by rw [Hn.out]; exact hn2))
      obtain ⟨u1, cw⟩ : ∃ u, wr.cell? ⟨w.heap.size + 1, 66 + i, none⟩ = some u := ⟨_, by rw [cell_of_row wr _ (66 + i) _ 87 _ B.out, List.getElem?_toArray, List.getElem?_eq_getElem (by rw [hl98.out]; omega)]⟩
      have fw := frozen_of_row wr (w.heap.size + 1) (66 + i) _ 87 B.out
      have B2 := hyd (heap_setCell_same wr (w.heap.size + 1) (66 + i) _ 87 (.int .i64 v) B.out)
      have e2 : (celV f z64 i (memW mem i)).toArray.setIfInBounds (66 + i) (.int .i64 v) = (celV f z64 i (memW mem (i + 1))).toArray := by
        rw [List.setIfInBounds_toArray, celV_word rfl, memW_set Hv.out (by rw [Hn.out]; exact hn2)]
      rw [e2] at B2
      have hl98' : Hid ((celV f z64 i (memW mem (i + 1))).length = 98) := celV_len rfl (memW_len (by rw [Hn.out]; exact hi) (by rw [Hn.out]; exact hn2))
      obtain ⟨u2, cc⟩ : ∃ u, (wr.setCell ⟨w.heap.size + 1, 66 + i, none⟩ (.int .i64 v)).cell? ⟨w.heap.size + 1, 65, none⟩ = some u := ⟨_, by rw [cell_of_row _ _ 65 _ 87 _ B2.out, List.getElem?_toArray, List.getElem?_eq_getElem (by rw [hl98'.out]; omega)]⟩
      have fc := frozen_of_row (wr.setCell ⟨w.heap.size + 1, 66 + i, none⟩ (.int .i64 v)) (w.heap.size + 1) 65 _ 87 B2.out
      clear e2
      go_wp2_with fail
      refine ⟨⟨i + 1, by omega, rfl, ?_, ?_, ?_⟩, ?_⟩
      · unfold Hid
        have h3 := heap_setCell_same _ (w.heap.size + 1) 65 _ 87 (.int .i64 ((i : Int) + 1)) B2.out
        rw [List.setIfInBounds_toArray, show ((i : Int) + 1) = ((i + 1 : Nat) : Int) by omega, celV_cnt rfl] at h3
        exact h3
      · exact (Below.heap_setCell _ _ _ _ (by show w.heap.size ≠ w.heap.size + 1; omega)).trans ((Below.heap_setCell _ _ _ _ (by show w.heap.size ≠ w.heap.size + 1; omega)).trans R.out)
      · exact (Lb.out.setCell (p := ⟨w.heap.size + 1, 66 + i, none⟩) (by show w.heap.size ≤ w.heap.size + 1; omega) _).setCell (p := ⟨w.heap.size + 1, 65, none⟩) (by show w.heap.size ≤ w.heap.size + 1; omega) _
      · simp only [intOf]; omega
    · have : i = n := by omega
      subst this
      have hl98 : Hid ((celV f z64 i (memW mem i)).length = 98) := celV_len rfl (memW_len (by rw [Hn.out]; exact hin) (by rw [Hn.out]; exact hn2))
      have hrg : Hid (wr.rangeAt (w.heap.size + 1) 0 (celV f z64 i (memW mem i))) := fun j v hv => by
        rw [Nat.zero_add, cell_of_row wr _ j _ 87 _ B.out, List.getElem?_toArray]; exact hv
      obtain ⟨V, HV⟩ : ∃ V : Array Value, Hid (V = (celV f z64 i (memW mem i)).toArray) := ⟨_, rfl⟩
      have HVs : Hid (V.size = 98) := by unfold Hid; rw [HV.out, List.size_toArray]; exact hl98.out
      have HV1 : Hid (V.all (·.oneCell') = true) := by unfold Hid; rw [HV.out]; exact all_oneCell_toArray (celV_one _ _ _ _)
      go_wp2_with (first | (refine wpList_load_mid rfl 87 (.tmp 5) rfl (w.heap.size + 1) 0 rfl (celV f z64 i (memW mem i)) _ hrg.out Try.underlying87 rfl (by rw [hl98.out]; exact HS.out) ?_; rw [← HV.out]) | (refine wpList_store_row rfl 87 (.tmp 4) (.tmp 27) rfl w.heap.size V rfl rfl 87 Z R.out (by rw [HVs.out]; exact HS.out) (by rw [HZs.out, HVs.out]) HV1.out ?_))
      have R2 := setRow_heap wr w.heap.size Z V 87 (0, 0) R.out
      have L2 : Hid (Below w.heap.size w (wr.setRow w.heap.size V)) := ⟨Lb.out.os, Lb.out.tape, Lb.out.output, by rw [setRow_size]; exact Lb.out.size, fun g hg => by rw [setRow_other _ _ _ _ (by omega)]; exact Lb.out.block g hg⟩
      generalize wr.setRow w.heap.size V = wz at R2 L2 ⊢
      have hL := run_loadVar_row (P := Try.prog) wz w.heap.size 87 87 V (0, 0) _ R2 Try.underlying87 rfl (by rw [HVs.out]; exact HS.out)
      (try simp only [Exit.inBlock, Exit.then])
      refine bodyPost_ret (by simp [results, Try.results48, asAddr, Act.put, hL]; try rfl) rfl ?_
      exact ⟨by rw [HV.out], L2.out⟩

end Go.Proofs.Ytbhbacphiinpeaa

