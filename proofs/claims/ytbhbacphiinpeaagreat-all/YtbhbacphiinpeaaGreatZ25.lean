/- Mv Ra1: joined. -/
import Derived.Test.YtbhbacphiinpeaaGreatZ24
import Derived.Deep.MidRow
import Derived.Test.YtbhbacphiinpeaaGreatZ15

/- What State, Memory, Registers and Done of package loom answer. -/
namespace Go.Proofs.YtbhbacphiinpeaaGreat
open Go.RowKit

theorem Tryz.infoI3 : (Tryz.prog.info? 3).map (fun i => (i.zero, i.size, i.bytes)) = some (some (.int .i64 0), 1, 8) := by kernel_rfl

set_option maxHeartbeats 400000 in
theorem mstate_any {w : World} {L : XM} {m : PM} {x : QM} (h : XAt w L m x) :
    Calls Tryz.prog 41 #[pM L] w fun e w' => e = .returned (.int .i64 m.st) ∧ w' = w := by
  obtain ⟨-, -, -, c3, -⟩ := h.mx.head
  rw [h.rel.st] at c3
  clear h
  unfold pM
  go_enter Tryz.func41, Tryz.ntmps41
  go_wp2
  go_ret
  exact ⟨rfl, rfl⟩

theorem Tryz.infoI102 : (Tryz.prog.info? 102).map (·.size) = some 32 := by kernel_rfl

theorem range_words {w : World} {L : XM} {k : List Ins} {J : List Int} {x : QM} (h : MX w L k J x) : w.rangeAt L.bX 70 (zVals x.wd) := fun j v hv => by
  have hj : j < 32 := by have := (List.getElem?_eq_some_iff.1 hv).1; rw [zl, h.shp.wl] at this; exact this
  rw [h.word hj, ← hv]
  unfold zVals
  rw [List.getElem?_map, List.getElem?_eq_getElem (by rw [h.shp.wl]; exact hj), List.getD_eq_getElem?_getD, List.getElem?_eq_getElem (by rw [h.shp.wl]; exact hj)]
  rfl

theorem run_index_int {t : TypeId} {n : Nat} (hu : Tryz.prog.underlying t = some (.array n 3)) (A : Array Value) (i : Nat) (hi : i < n) (v : Int) (h : A[i]? = some (.int .i64 v)) (w : World) : (Instr.index t (.agg A) (.int .i64 (i : Int))).run Tryz.prog w = .ok (.int .i64 v) w := by
  obtain ⟨i0, hi0, hz0, hz1, hz2⟩ := info_parts Tryz.infoI3
  unfold Instr.index
  have hc : (0 : Int) ≤ (i : Int) ∧ (i : Int) < (n : Int) := by omega
  simp [asIntOf, Sem.run_bind, run_underlying hu, hc, sizeOf, typeInfo, hi0, hz1, part, h]
  intro hx; omega

theorem take_snoc {l : List Int} {i : Nat} {v : Int} (h : l[i]? = some v) : l.take (i + 1) = l.take i ++ [v] := by
  rw [List.take_add_one, h]; rfl

set_option maxHeartbeats 1000000 in
set_option maxRecDepth 100000 in
theorem cmem_any {w : World} {L : XM} {k : List Ins} {J : List Int} {x : QM} (h : MX w L k J x) (hc : x.cnt ≤ 32) :
    Calls Tryz.prog 63 #[pC L] w fun e w' => ∃ v, e = .returned v ∧ w'.ownsRow w.heap.size 3 1 v x.cnt (zVals (x.wd.take x.cnt)) ∧ Below w.heap.size w w' := by
  have H := hyd h
  have HRg := hyd (range_words h)
  have hwl := hyd h.shp.wl
  obtain ⟨n, Hn⟩ : ∃ n, Hid (x.cnt = n) := ⟨_, rfl⟩
  have c69 := h.cnt
  rw [Hn.out] at hc c69 ⊢
  have C69 := hyd c69
  have hn2 : (n : Int) ≤ 32 := by omega
  obtain ⟨i0, hi, hz0, hz1, hz2⟩ := info_parts Tryz.infoI3
  obtain ⟨A, HA⟩ : ∃ A : Array Value, Hid (A = (zVals x.wd).toArray) := ⟨_, rfl⟩
  have hbx : L.bX < w.heap.size := h.lt (.inl rfl)
  clear h c69
  unfold pC
  go_enter Tryz.func63, Tryz.ntmps63
  go_wp2_with (refine wpList_load_mid rfl 102 (.tmp 8) rfl L.bX 70 rfl (zVals x.wd) _ HRg.out Tryz.underlying102 rfl (by rw [zl, hwl.out]; exact Tryz.infoI102) ?_)
  rw [← HA.out]
  have hA : ∀ (i : Nat), i < 32 → A[i]? = some (.int .i64 (x.wd.getD i 0)) := fun i hi => by
    rw [HA.out]
    simp only [List.getElem?_toArray]
    refine zVals_at ?_
    rw [List.getD_eq_getElem?_getD, List.getElem?_eq_getElem (by rw [hwl.out]; exact hi)]; rfl
  have HAz := hyd hA
  have hAs : A.size = 32 := by rw [HA.out]; simp [zl, hwl.out]
  clear hA
  go_loopw [3, 10] (fun lv iv wr => ∃ (i : Nat), i ≤ 32 ∧ iv = .int .i64 i ∧ Hid (wr.ownsRow w.heap.size 3 1 lv (min i n) (zVals (x.wd.take (min i n)))) ∧ Hid (Below w.heap.size w wr)) (fun _ iv _ => 32 - (intOf iv).toNat)
  case atStart => exact ⟨0, by omega, rfl, by rw [Nat.zero_min]; exact World.ownsRow_nil _ _ _ _, Below.refl _ _⟩
  case round =>
    rename_i lv0 _
    obtain ⟨i, hi32, rfl, HO, HB⟩ := hrel
    have c69 : wr.cell? ⟨L.bX, 69, none⟩ = some (.int .i64 n) := (HB.out.cell hbx).trans C69.out
    by_cases hi3 : i < 32
    · have i1 : (0 : Int) ≤ (i : Int) := by omega
      have i2 : (i : Int) < 32 := by omega
      have hAi0 := HAz.out i hi3
      obtain ⟨v, Hv⟩ : ∃ v, Hid (x.wd.getD i 0 = v) := ⟨_, rfl⟩
      rw [Hv.out] at hAi0
      have hAi := run_index_int Tryz.underlying102 A i hi3 v hAi0
      clear hAi0
      have hvi : Hid (x.wd[i]? = some v) := by unfold Hid; rw [← Hv.out, List.getD_eq_getElem?_getD, List.getElem?_eq_getElem (by rw [hwl.out]; exact hi3)]; rfl
      by_cases hin : i < n
      · have hin2 : (i : Int) < (n : Int) := by omega
        rw [Nat.min_eq_left (by omega)] at HO
        obtain ⟨va, vc, hv⟩ := slice_ofM HO.out
        subst hv
        have hsz := HB.out.size
        go_wp2_with (at_builtin; go_must (refine wpList_append_own _ rfl (.tmp 20) (.tmp 22) 24 rfl w.heap.size 3 i0 (.int .i64 0) 1 8 Tryz.underlying24 hi hz0 hz1 hz2 rfl (by decide) (.slice va i vc) i (zVals (x.wd.take i)) rfl ?a0 ⟨wr.heap.size, 0, none⟩ 1 1 [.int .i64 v] rfl rfl ?a1 ?a2 ?a3 ?a4 ?a5 ?_))
        case a0 => exact HO.out.alloc _
        case a1 => exact World.news_of_block (heap_alloc_new wr _)
        case a2 => intro u hu; simp at hu; subst hu; rfl
        case a3 => unfold maxLen; omega
        case a4 => omega
        case a5 => simp; omega
        · intro v3 w3 hown3 hgrow3 _
          have HB3 : Hid (Below w.heap.size w w3) := (HB.out.alloc hsz _).grown hgrow3 (by simp; omega) (fun y hy => (HO.out.lt y hy).1)
          have HO3 : Hid (w3.ownsRow w.heap.size 3 1 v3 (i + 1) (zVals (x.wd.take (i + 1)))) := by
            unfold Hid; rw [take_snoc hvi.out, zVals_append]; exact hown3
          clear hown3 hgrow3
          go_wp2_with fail
          refine ⟨⟨i + 1, by omega, rfl, by rw [Nat.min_eq_left (by omega)]; exact HO3, HB3⟩, ?_⟩
          simp only [intOf]; omega
      · have hin2 : decide ((i : Int) < (n : Int)) = false := by simp; omega
        go_wp2_with fail
        refine ⟨⟨i + 1, by omega, rfl, ?_, HB⟩, ?_⟩
        · rw [Nat.min_eq_right (by omega)] at HO ⊢; exact HO
        · simp only [intOf]; omega
    · have : i = 32 := by omega
      subst this
      rw [Nat.min_eq_right (by omega)] at HO
      go_wp2_with fail
      go_ret
      exact ⟨_, rfl, HO.out, HB.out⟩

set_option maxHeartbeats 400000 in
theorem mmem_any {w : World} {L : XM} {m : PM} {x : QM} (h : XAt w L m x) :
    Calls Tryz.prog 42 #[pM L] w fun e w' => ∃ v, e = .returned v ∧ w'.ownsRow w.heap.size 3 1 v m.mem.length (zVals m.mem) ∧ Below w.heap.size w w' := by
  have hq := hyd (cmem_any h.mx h.rel.cells.c32)
  rw [h.rel.cells.wd, h.rel.cells.cnt] at hq
  clear h
  unfold pC at hq
  unfold pM
  go_enter Tryz.func42, Tryz.ntmps42
  go_wp2_with fail
  refine hq.out.mono ?_
  rintro e w2 ⟨v, rfl, ho, hb⟩
  have HO := hyd ho
  have HB := hyd hb
  clear ho hb
  go_wp2
  go_ret
  exact ⟨_, rfl, HO.out, HB.out⟩

set_option maxHeartbeats 1000000 in
set_option maxRecDepth 100000 in
theorem cregs_any {w : World} {L : XM} {k : List Ins} {J : List Int} {x : QM} (h : MX w L k J x) (t : Nat) (ht : t < 16) :
    Calls Tryz.prog 64 #[pC L, .int .i64 t] w fun e w' => ∃ v, e = .returned v ∧ w'.ownsRow w.heap.size 3 1 v 4 (zVals [rgA x t 0, rgA x t 1, rgA x t 2, rgA x t 3]) ∧ Below w.heap.size w w' := by
  have c0 := h.reg ht (r := 0) (by omega)
  have c1 := h.reg ht (r := 1) (by omega)
  have c2 := h.reg ht (r := 2) (by omega)
  have c3 := h.reg ht (r := 3) (by omega)
  rw [Nat.add_zero] at c0
  generalize rgA x t 0 = r0 at *
  generalize rgA x t 1 = r1 at *
  generalize rgA x t 2 = r2 at *
  generalize rgA x t 3 = r3 at *
  have t1 : (0 : Int) ≤ (t : Int) := by omega
  have t2 : (t : Int) < 16 := by omega
  obtain ⟨i0, hi, hz0, hz1, hz2⟩ := info_parts Tryz.infoI3
  clear h ht
  unfold pC
  go_enter Tryz.func64, Tryz.ntmps64
  go_wp2_with fail
  go_loopw [5, 21] (fun lv iv wr => ∃ (i : Nat), i ≤ 4 ∧ iv = .int .i64 i ∧ Hid (wr.ownsRow w.heap.size 3 1 lv i (zVals ([r0, r1, r2, r3].take i))) ∧ Hid (Below w.heap.size w wr)) (fun _ iv _ => 4 - (intOf iv).toNat)
  case atStart => exact ⟨0, by omega, rfl, World.ownsRow_nil _ _ _ _, Below.refl _ _⟩
  case round =>
    obtain ⟨i, hi4, rfl, HO, HB⟩ := hrel
    by_cases hi3 : i < 4
    · have i1 : (0 : Int) ≤ (i : Int) := by omega
      have i2 : (i : Int) < 4 := by omega
      obtain ⟨v, hv4⟩ : ∃ v, [r0, r1, r2, r3][i]? = some v := ⟨_, List.getElem?_eq_getElem (by simpa using hi3)⟩
      have hvi := hyd hv4
      have hAi := run_index_int Tryz.underlying100 #[.int .i64 r0, .int .i64 r1, .int .i64 r2, .int .i64 r3] i hi3 v (by
        rw [show (#[.int .i64 r0, .int .i64 r1, .int .i64 r2, .int .i64 r3] : Array Value) = (zVals [r0, r1, r2, r3]).toArray from rfl, List.getElem?_toArray]
        exact zVals_at hv4)
      obtain ⟨va, vc, hv⟩ := slice_ofM HO.out
      subst hv
      have hsz := HB.out.size
      clear hv4
      go_wp2_with (at_builtin; go_must (refine wpList_append_own _ rfl (.tmp 24) (.tmp 26) 24 rfl w.heap.size 3 i0 (.int .i64 0) 1 8 Tryz.underlying24 hi hz0 hz1 hz2 rfl (by decide) (.slice va i vc) i (zVals ([r0, r1, r2, r3].take i)) rfl ?a0 ⟨wr.heap.size, 0, none⟩ 1 1 [.int .i64 v] rfl rfl ?a1 ?a2 ?a3 ?a4 ?a5 ?_))
      case a0 => exact HO.out.alloc _
      case a1 => exact World.news_of_block (heap_alloc_new wr _)
      case a2 => intro u hu; simp at hu; subst hu; rfl
      case a3 => unfold maxLen; omega
      case a4 => omega
      case a5 => simp; omega
      · intro v3 w3 hown3 hgrow3 _
        have HB3 : Hid (Below w.heap.size w w3) := (HB.out.alloc hsz _).grown hgrow3 (by simp; omega) (fun y hy => (HO.out.lt y hy).1)
        have HO3 : Hid (w3.ownsRow w.heap.size 3 1 v3 (i + 1) (zVals ([r0, r1, r2, r3].take (i + 1)))) := by
          unfold Hid; rw [take_snoc hvi.out, zVals_append]; exact hown3
        clear hown3 hgrow3
        go_wp2_with fail
        refine ⟨⟨i + 1, by omega, rfl, HO3, HB3⟩, ?_⟩
        simp only [intOf]; omega
    · have : i = 4 := by omega
      subst this
      go_wp2_with fail
      go_ret
      exact ⟨_, rfl, HO.out, HB.out⟩

theorem regs_four {ts : List Thr} {mem : List Int} {x : QM} (h : CellsAt ts mem x) {t : Nat} (ht : t < ts.length) : [rgA x t 0, rgA x t 1, rgA x t 2, rgA x t 3] = (ts.getD t thr0).regs := by
  have h4 := reg4_at h.reg4 ht
  have e : ∀ r, r < 4 → rgA x t r = (ts.getD t thr0).regs.getD r 0 := fun r hr => by
    unfold rgA
    rw [List.getD_eq_getElem?_getD, h.regs t ht r hr, ← List.getD_eq_getElem?_getD]
  rw [e 0 (by omega), e 1 (by omega), e 2 (by omega), e 3 (by omega)]
  match hl : (ts.getD t thr0).regs, h4 with
  | [a, b, c, d], _ => rfl

def noThr (m : PM) (t : Int) : Prop := t < 0 ∨ (m.ts.length : Int) ≤ t

set_option maxHeartbeats 1000000 in
set_option maxRecDepth 100000 in
theorem mregs_yes {w : World} {L : XM} {m : PM} {x : QM} (h : XAt w L m x) (t : Nat) (ht : t < m.ts.length) :
    Calls Tryz.prog 43 #[pM L, .int .i64 t] w fun e w' => ∃ v, e = .returned (.tuple #[v, .int .i64 0]) ∧ w'.ownsRow w.heap.size 3 1 v 4 (zVals (m.ts.getD t thr0).regs) ∧ Below w.heap.size w w' := by
  have hn := h.rel.cells.n
  have h16 := h.rel.cells.n16
  have hq := hyd (cregs_any h.mx t (by omega))
  rw [regs_four h.rel.cells ht] at hq
  obtain ⟨-, -, c2, -, -⟩ := h.mx.head
  have t1 : (0 : Int) ≤ (t : Int) := by omega
  have t2 : (t : Int) < (x.n : Int) := by omega
  have t3 : decide ((x.n : Int) ≤ (t : Int)) = false := by simp; omega
  have t4 : decide ((t : Int) < 0) = false := by simp
  have t5 : decide (x.n ≤ t) = false := by simp; omega
  generalize (m.ts.getD t thr0).regs = R at *
  clear h hn h16 ht
  unfold pC at hq
  unfold pM
  go_enter Tryz.func43, Tryz.ntmps43
  go_wp2_with fail
  refine hq.out.mono ?_
  rintro e w2 ⟨v, rfl, ho, hb⟩
  have HO := hyd ho
  have HB := hyd hb
  clear ho hb
  go_wp2
  go_ret2
  exact ⟨_, rfl, HO.out, HB.out⟩

set_option maxHeartbeats 1000000 in
set_option maxRecDepth 100000 in
theorem mregs_no {w : World} {L : XM} {m : PM} {x : QM} (h : XAt w L m x) (t : Int) (ht : noThr m t) :
    Calls Tryz.prog 43 #[pM L, .int .i64 t] w fun e w' => e = .returned (.tuple #[.slice none 0 0, .int .i64 8]) ∧ w' = w := by
  have hn := h.rel.cells.n
  obtain ⟨-, -, c2, -, -⟩ := h.mx.head
  unfold noThr at ht
  rw [← hn] at ht
  clear h hn
  unfold pM
  by_cases h0 : t < 0
  · have g0 : decide (t < 0) = true := by simpa using h0
    go_enter Tryz.func43, Tryz.ntmps43
    go_wp2
    go_ret2
    exact ⟨rfl, rfl⟩
  · have g0 : decide (t < 0) = false := by simpa using h0
    have g1 : decide ((x.n : Int) ≤ t) = true := by simp; omega
    go_enter Tryz.func43, Tryz.ntmps43
    go_wp2
    go_ret2
    exact ⟨rfl, rfl⟩

set_option maxHeartbeats 1000000 in
set_option maxRecDepth 100000 in
theorem mdone_no {w : World} {L : XM} {m : PM} {x : QM} (h : XAt w L m x) (t : Int) (ht : noThr m t) :
    Calls Tryz.prog 45 #[pM L, .int .i64 t] w fun e w' => e = .returned (.tuple #[.bool false, .int .i64 8]) ∧ w' = w := by
  have hn := h.rel.cells.n
  obtain ⟨-, -, c2, -, -⟩ := h.mx.head
  unfold noThr at ht
  rw [← hn] at ht
  clear h hn
  unfold pM
  by_cases h0 : t < 0
  · have g0 : decide (t < 0) = true := by simpa using h0
    go_enter Tryz.func45, Tryz.ntmps45
    go_wp2
    go_ret2
    exact ⟨rfl, rfl⟩
  · have g0 : decide (t < 0) = false := by simpa using h0
    have g1 : decide ((x.n : Int) ≤ t) = true := by simp; omega
    go_enter Tryz.func45, Tryz.ntmps45
    go_wp2
    go_ret2
    exact ⟨rfl, rfl⟩

set_option maxHeartbeats 1000000 in
set_option maxRecDepth 100000 in
theorem mdone_yes {w : World} {L : XM} {m : PM} {x : QM} (h : XAt w L m x) (t : Nat) (ht : t < m.ts.length) :
    Calls Tryz.prog 45 #[pM L, .int .i64 t] w fun e w' => e = .returned (.tuple #[.bool (isDone m.ts t), .int .i64 0]) ∧ Below w.heap.size w w' := by
  have hn := h.rel.cells.n
  have h16 := h.rel.cells.n16
  have hd := h.rel.dn.2 (t / 4) (by omega) (t % 4) (by omega)
  rw [show 4 * (t / 4) + t % 4 = t by omega] at hd
  have hq := hyd (laneDone_any h.mx (qs_at h.mx.shp (show t / 4 < 4 by omega)) (h.rel.d16 (t / 4) (by omega)) (t % 4) (by omega))
  rw [← hd] at hq
  obtain ⟨-, -, c2, -, -⟩ := h.mx.head
  have t1 : (0 : Int) ≤ (t : Int) := by omega
  have t2 : (t : Int) < (x.n : Int) := by omega
  have t3 : decide ((x.n : Int) ≤ (t : Int)) = false := by simp; omega
  have t4 : decide ((t : Int) < 0) = false := by simp
  have t5 : decide (x.n ≤ t) = false := by simp; omega
  have q1 : Int.tdiv (t : Int) 4 = ((t / 4 : Nat) : Int) := by rw [Int.tdiv_eq_ediv_of_nonneg t1]; omega
  have q2 : Int.tmod (t : Int) 4 = ((t % 4 : Nat) : Int) := by rw [Int.tmod_eq_emod_of_nonneg t1]; omega
  have q3 : (0 : Int) ≤ ((t / 4 : Nat) : Int) := by omega
  have q4 : ((t / 4 : Nat) : Int) < 4 := by omega
  generalize isDone m.ts t = D at *
  clear h hn hd ht
  unfold pW at hq
  rw [oW_int] at hq
  unfold pM
  go_enter Tryz.func45, Tryz.ntmps45
  go_wp2_with fail
  refine hq.out.mono ?_
  rintro e w2 ⟨rfl, hb⟩
  have HB := hyd hb
  clear hb
  go_wp2
  go_ret2
  exact ⟨rfl, HB.out⟩

end Go.Proofs.YtbhbacphiinpeaaGreat

/- What the document's 'memory' does: Load, Store, Fetch. -/
namespace Go.Proofs.YtbhbacphiinpeaaGreat
open Go.RowKit

/-- What 'one' and 'memory' answer and do. -/
def OneAns (w : World) (L : RM) (k : List Ins) (J : List Int) (vW : Value) (ts : List Thr) (st : Int) (t : Nat) (r : Int × Int × Thr × List Int) (e : Ending) (w' : World) : Prop :=
  e = .returned (.tuple #[.int .i64 r.1, .int .i64 r.2.1]) ∧ Core w' L k J vW (ts.set t r.2.2.1) r.2.2.2 st ∧ ∀ B, Fr B [L.gT, L.gM] w w'

set_option maxHeartbeats 1000000 in
set_option maxRecDepth 100000 in
theorem memory_any {w : World} {L : RM} {k : List Ins} {J : List Int} {vW : Value} {ts : List Thr} {mem : List Int} {st : Int} (h : Core w L k J vW ts mem st) (h4 : Reg4 ts) (t : Nat) (th : Thr) (ht : ts[t]? = some th) (o : Int) (a b c : Nat) (ha : a < 4) (hb : b < 4) (ho : o = 9 ∨ o = 10 ∨ o = 11) :
    Calls Tryz.prog 114 #[.pointer (some ⟨L.bM, 0, none⟩), .int .i64 t, .agg #[.int .i64 o, .int .i64 a, .int .i64 b, .int .i64 c]] w (OneAns w L k J vW ts st t (memP ⟨o, a, b, c⟩ th mem)) := by
  obtain ⟨c0, c1, c2, c3, c4, c5⟩ := h.cells
  have htl := (List.getElem?_eq_some_iff.1 ht).1
  have t2 : (t : Int) < (ts.length : Int) := by omega
  have t0 : (0 : Int) ≤ (t : Int) := by omega
  have b0 : (0 : Int) ≤ (b : Int) := by omega
  have b1 : (b : Int) < 4 := by omega
  have a0 : (0 : Int) ≤ (a : Int) := by omega
  have a1 : (a : Int) < 4 := by omega
  have hset : Hid (ts.set t th = ts) := by
    apply List.ext_getElem?
    intro i
    rw [List.getElem?_set]
    split
    · rename_i e; subst e; simp [htl]; exact (List.getElem?_eq_some_iff.1 ht).2.symm
    · rfl
  have H := hyd h
  have H4 := hyd h4
  have Ht := hyd ht
  clear h ht c0 c1 c2 c3 c4 c5 h4
  have HF : Hid (∀ B o, Fr B [L.gT, L.gM] w (w.alloc o)) := fun B o => (Fr.refl _ _ _).alloc o
  obtain ⟨ad, Had⟩ : ∃ ad, Hid (W64 (th.get (b : Int) + (c : Int)) = ad) := ⟨_, rfl⟩
  have had : IntKind.i64.wrap (th.get (b : Int) + (c : Int)) = ad := (IntWalk.i64_left _).trans Had.out
  by_cases hbad : ad < 0
  · have g0 : decide (ad < 0) = true := by simpa using hbad
    have Hm : Hid (memP ⟨o, a, b, c⟩ th mem = (2, -1, th, mem)) := by unfold Hid memP; rw [Had.out, if_pos (.inl hbad)]
    go_enter Tryz.func114, Tryz.ntmps114
    go_wp2_with fail
    obtain ⟨x0, x1, x2, x3, -⟩ := blk_cells (heap_alloc_new w (.cells #[.int .i64 o, .int .i64 a, .int .i64 b, .int .i64 c] 92))
    have C1 := hyd (H.out.alloc (.cells #[.int .i64 o, .int .i64 a, .int .i64 b, .int .i64 c] 92))
    have F1 : Hid (∀ B, Fr B [L.gT, L.gM] w (w.alloc (.cells #[.int .i64 o, .int .i64 a, .int .i64 b, .int .i64 c] 92))) := fun B => HF.out B _
    generalize w.alloc (.cells #[.int .i64 o, .int .i64 a, .int .i64 b, .int .i64 c] 92) = w1 at x0 x1 x2 x3 C1 F1 ⊢
    obtain ⟨-, -, c2, -, c4, -⟩ := C1.out.cells
    have rb := C1.out.cellR H4.out Ht.out hb
    go_quiet (fail)
    generalize hw2 : World.drewN w1 _ = w2
    have C2 : Hid (Core w2 L k J vW ts mem st) := by rw [← hw2]; exact C1.out.drewN _
    have F2 : Hid (∀ B, Fr B [L.gT, L.gM] w w2) := by rw [← hw2]; exact fun B => (F1.out B).drewN _
    have y0 : w2.cell? ⟨w.heap.size, 0, none⟩ = some (.int .i64 o) := by rw [← hw2]; exact x0
    have y1 : w2.cell? ⟨w.heap.size, 1, none⟩ = some (.int .i64 a) := by rw [← hw2]; exact x1
    clear x0 x1 x2 x3 C1 F1 c2 c4 rb hw2 w1
    obtain ⟨-, -, c2, -, c4, -⟩ := C2.out.cells
    go_wp2
    go_ret2
    refine ⟨?_, ?_, F2.out⟩
    · rw [Hm.out]; rfl
    · rw [Hm.out]; dsimp only; rw [hset.out]; exact C2.out
  have g0 : decide (ad < 0) = false := by simpa using hbad
  by_cases hbig : (mem.length : Int) ≤ ad
  · have g1 : decide ((mem.length : Int) ≤ ad) = true := by simpa using hbig
    have Hm : Hid (memP ⟨o, a, b, c⟩ th mem = (2, -1, th, mem)) := by unfold Hid memP; rw [Had.out, if_pos (.inr hbig)]
    go_enter Tryz.func114, Tryz.ntmps114
    go_wp2_with fail
    obtain ⟨x0, x1, x2, x3, -⟩ := blk_cells (heap_alloc_new w (.cells #[.int .i64 o, .int .i64 a, .int .i64 b, .int .i64 c] 92))
    have C1 := hyd (H.out.alloc (.cells #[.int .i64 o, .int .i64 a, .int .i64 b, .int .i64 c] 92))
    have F1 : Hid (∀ B, Fr B [L.gT, L.gM] w (w.alloc (.cells #[.int .i64 o, .int .i64 a, .int .i64 b, .int .i64 c] 92))) := fun B => HF.out B _
    generalize w.alloc (.cells #[.int .i64 o, .int .i64 a, .int .i64 b, .int .i64 c] 92) = w1 at x0 x1 x2 x3 C1 F1 ⊢
    obtain ⟨-, -, c2, -, c4, -⟩ := C1.out.cells
    have rb := C1.out.cellR H4.out Ht.out hb
    go_quiet (fail)
    generalize hw2 : World.drewN w1 _ = w2
    have C2 : Hid (Core w2 L k J vW ts mem st) := by rw [← hw2]; exact C1.out.drewN _
    have F2 : Hid (∀ B, Fr B [L.gT, L.gM] w w2) := by rw [← hw2]; exact fun B => (F1.out B).drewN _
    have y0 : w2.cell? ⟨w.heap.size, 0, none⟩ = some (.int .i64 o) := by rw [← hw2]; exact x0
    have y1 : w2.cell? ⟨w.heap.size, 1, none⟩ = some (.int .i64 a) := by rw [← hw2]; exact x1
    clear x0 x1 x2 x3 C1 F1 c2 c4 rb hw2 w1
    obtain ⟨-, -, c2, -, c4, -⟩ := C2.out.cells
    go_wp2
    go_ret2
    refine ⟨?_, ?_, F2.out⟩
    · rw [Hm.out]; rfl
    · rw [Hm.out]; dsimp only; rw [hset.out]; exact C2.out
  have g1 : decide ((mem.length : Int) ≤ ad) = false := by simpa using hbig
  obtain ⟨q, Hq⟩ : ∃ q : Nat, Hid (ad = (q : Int)) := ⟨ad.toNat, by unfold Hid; omega⟩
  have hq : q < mem.length := by have := Hq.out; omega
  have q1 : (q : Int) < (mem.length : Int) := by omega
  have q0 : (0 : Int) ≤ (q : Int) := by omega
  rw [Hq.out] at had g0 g1
  have hif : Hid (¬ (ad < 0 ∨ (mem.length : Int) ≤ ad)) := by unfold Hid; omega
  obtain ⟨v0, Hv0⟩ : ∃ v0, Hid (mem.getD q 0 = v0) := ⟨_, rfl⟩
  have e4 : Hid (th.regs.length = 4) := H4.out th (List.mem_of_getElem? Ht.out)
  clear hbad hbig
  rcases ho with rfl | rfl | rfl
  · have Hm : Hid (memP ⟨9, a, b, c⟩ th mem = (0, (q : Int), th.put a v0, mem)) := by
      unfold Hid memP; rw [Had.out, if_neg hif.out, if_pos rfl, Hq.out, ← Hv0.out]; rfl
    go_enter Tryz.func114, Tryz.ntmps114
    go_wp2_with fail
    obtain ⟨x0, x1, x2, x3, -⟩ := blk_cells (heap_alloc_new w (.cells #[.int .i64 9, .int .i64 a, .int .i64 b, .int .i64 c] 92))
    have C1 := hyd (H.out.alloc (.cells #[.int .i64 9, .int .i64 a, .int .i64 b, .int .i64 c] 92))
    have F1 : Hid (∀ B, Fr B [L.gT, L.gM] w (w.alloc (.cells #[.int .i64 9, .int .i64 a, .int .i64 b, .int .i64 c] 92))) := fun B => HF.out B _
    generalize w.alloc (.cells #[.int .i64 9, .int .i64 a, .int .i64 b, .int .i64 c] 92) = w1 at x0 x1 x2 x3 C1 F1 ⊢
    obtain ⟨-, -, c2, -, c4, -⟩ := C1.out.cells
    have rb := C1.out.cellR H4.out Ht.out hb
    go_quiet (fail)
    generalize hw2 : World.drewN w1 _ = w2
    have C2 : Hid (Core w2 L k J vW ts mem st) := by rw [← hw2]; exact C1.out.drewN _
    have F2 : Hid (∀ B, Fr B [L.gT, L.gM] w w2) := by rw [← hw2]; exact fun B => (F1.out B).drewN _
    have y0 : w2.cell? ⟨w.heap.size, 0, none⟩ = some (.int .i64 9) := by rw [← hw2]; exact x0
    have y1 : w2.cell? ⟨w.heap.size, 1, none⟩ = some (.int .i64 a) := by rw [← hw2]; exact x1
    clear x0 x1 x2 x3 C1 F1 c2 c4 rb hw2 w1
    obtain ⟨-, -, c2, -, c4, -⟩ := C2.out.cells
    have ra := C2.out.cellR H4.out Ht.out ha
    have rm := C2.out.cellM hq
    rw [Hv0.out] at rm
    go_wp2_with fail
    go_quiet (fail)
    generalize hw3 : World.drewN w2 _ = w3
    have C3 : Hid (Core w3 L k J vW ts mem st) := by rw [← hw3]; exact C2.out.drewN _
    have F3 : Hid (∀ B, Fr B [L.gT, L.gM] w w3) := by rw [← hw3]; exact fun B => (F2.out B).drewN _
    have z0 : w3.cell? ⟨w.heap.size, 0, none⟩ = some (.int .i64 9) := by rw [← hw3]; exact y0
    have z1 : w3.cell? ⟨w.heap.size, 1, none⟩ = some (.int .i64 a) := by rw [← hw3]; exact y1
    clear y0 y1 C2 F2 c2 c4 ra rm hw3 w2
    obtain ⟨-, -, c2, -, c4, -⟩ := C3.out.cells
    have rm := C3.out.cellM hq
    rw [Hv0.out] at rm
    have ra := C3.out.cellR H4.out Ht.out ha
    have fz := C3.out.rT.frozenAt (t * 6 + 1 + a)
    go_wp2_with fail
    go_region
    go_wp2
    go_ret2
    refine ⟨?_, ?_, fun B => ((F3.out B).drew).set (by simp) _⟩
    · rw [Hm.out]; rfl
    · rw [Hm.out]
      exact C3.out.drew.setR H4.out Ht.out ha v0
  · have Hm : Hid (memP ⟨10, a, b, c⟩ th mem = (0, (q : Int), th, mem.set q (th.get a))) := by
      unfold Hid memP; rw [Had.out, if_neg hif.out, if_neg (show ¬ ((10 : Int) = 9) by decide), if_pos rfl, Hq.out]; rfl
    go_enter Tryz.func114, Tryz.ntmps114
    go_wp2_with fail
    obtain ⟨x0, x1, x2, x3, -⟩ := blk_cells (heap_alloc_new w (.cells #[.int .i64 10, .int .i64 a, .int .i64 b, .int .i64 c] 92))
    have C1 := hyd (H.out.alloc (.cells #[.int .i64 10, .int .i64 a, .int .i64 b, .int .i64 c] 92))
    have F1 : Hid (∀ B, Fr B [L.gT, L.gM] w (w.alloc (.cells #[.int .i64 10, .int .i64 a, .int .i64 b, .int .i64 c] 92))) := fun B => HF.out B _
    generalize w.alloc (.cells #[.int .i64 10, .int .i64 a, .int .i64 b, .int .i64 c] 92) = w1 at x0 x1 x2 x3 C1 F1 ⊢
    obtain ⟨-, -, c2, -, c4, -⟩ := C1.out.cells
    have rb := C1.out.cellR H4.out Ht.out hb
    go_quiet (fail)
    generalize hw2 : World.drewN w1 _ = w2
    have C2 : Hid (Core w2 L k J vW ts mem st) := by rw [← hw2]; exact C1.out.drewN _
    have F2 : Hid (∀ B, Fr B [L.gT, L.gM] w w2) := by rw [← hw2]; exact fun B => (F1.out B).drewN _
    have y0 : w2.cell? ⟨w.heap.size, 0, none⟩ = some (.int .i64 10) := by rw [← hw2]; exact x0
    have y1 : w2.cell? ⟨w.heap.size, 1, none⟩ = some (.int .i64 a) := by rw [← hw2]; exact x1
    clear x0 x1 x2 x3 C1 F1 c2 c4 rb hw2 w1
    obtain ⟨-, -, c2, -, c4, -⟩ := C2.out.cells
    have ra := C2.out.cellR H4.out Ht.out ha
    have rm := C2.out.cellM hq
    rw [Hv0.out] at rm
    go_wp2_with fail
    go_quiet (fail)
    generalize hw3 : World.drewN w2 _ = w3
    have C3 : Hid (Core w3 L k J vW ts mem st) := by rw [← hw3]; exact C2.out.drewN _
    have F3 : Hid (∀ B, Fr B [L.gT, L.gM] w w3) := by rw [← hw3]; exact fun B => (F2.out B).drewN _
    have z0 : w3.cell? ⟨w.heap.size, 0, none⟩ = some (.int .i64 10) := by rw [← hw3]; exact y0
    have z1 : w3.cell? ⟨w.heap.size, 1, none⟩ = some (.int .i64 a) := by rw [← hw3]; exact y1
    clear y0 y1 C2 F2 c2 c4 ra rm hw3 w2
    obtain ⟨-, -, c2, -, c4, -⟩ := C3.out.cells
    have rm := C3.out.cellM hq
    rw [Hv0.out] at rm
    have ra := C3.out.cellR H4.out Ht.out ha
    have fz := C3.out.rM.frozenAt q
    go_wp2
    go_ret2
    refine ⟨?_, ?_, fun B => (F3.out B).set (by simp) _⟩
    · rw [Hm.out]; rfl
    · rw [Hm.out]
      dsimp only
      rw [hset.out]
      exact C3.out.setM q _
  · have Hm : Hid (memP ⟨11, a, b, c⟩ th mem = (0, (q : Int), th.put a v0, mem.set q (W64 (v0 + th.get a)))) := by
      unfold Hid memP; rw [Had.out, if_neg hif.out, if_neg (show ¬ ((11 : Int) = 9) by decide), if_neg (show ¬ ((11 : Int) = 10) by decide), if_pos rfl, Hq.out, ← Hv0.out]; rfl
    go_enter Tryz.func114, Tryz.ntmps114
    go_wp2_with fail
    obtain ⟨x0, x1, x2, x3, -⟩ := blk_cells (heap_alloc_new w (.cells #[.int .i64 11, .int .i64 a, .int .i64 b, .int .i64 c] 92))
    have C1 := hyd (H.out.alloc (.cells #[.int .i64 11, .int .i64 a, .int .i64 b, .int .i64 c] 92))
    have F1 : Hid (∀ B, Fr B [L.gT, L.gM] w (w.alloc (.cells #[.int .i64 11, .int .i64 a, .int .i64 b, .int .i64 c] 92))) := fun B => HF.out B _
    generalize w.alloc (.cells #[.int .i64 11, .int .i64 a, .int .i64 b, .int .i64 c] 92) = w1 at x0 x1 x2 x3 C1 F1 ⊢
    obtain ⟨-, -, c2, -, c4, -⟩ := C1.out.cells
    have rb := C1.out.cellR H4.out Ht.out hb
    go_quiet (fail)
    generalize hw2 : World.drewN w1 _ = w2
    have C2 : Hid (Core w2 L k J vW ts mem st) := by rw [← hw2]; exact C1.out.drewN _
    have F2 : Hid (∀ B, Fr B [L.gT, L.gM] w w2) := by rw [← hw2]; exact fun B => (F1.out B).drewN _
    have y0 : w2.cell? ⟨w.heap.size, 0, none⟩ = some (.int .i64 11) := by rw [← hw2]; exact x0
    have y1 : w2.cell? ⟨w.heap.size, 1, none⟩ = some (.int .i64 a) := by rw [← hw2]; exact x1
    clear x0 x1 x2 x3 C1 F1 c2 c4 rb hw2 w1
    obtain ⟨-, -, c2, -, c4, -⟩ := C2.out.cells
    have ra := C2.out.cellR H4.out Ht.out ha
    have rm := C2.out.cellM hq
    rw [Hv0.out] at rm
    go_wp2_with fail
    go_quiet (fail)
    generalize hw3 : World.drewN w2 _ = w3
    have C3 : Hid (Core w3 L k J vW ts mem st) := by rw [← hw3]; exact C2.out.drewN _
    have F3 : Hid (∀ B, Fr B [L.gT, L.gM] w w3) := by rw [← hw3]; exact fun B => (F2.out B).drewN _
    have z0 : w3.cell? ⟨w.heap.size, 0, none⟩ = some (.int .i64 11) := by rw [← hw3]; exact y0
    have z1 : w3.cell? ⟨w.heap.size, 1, none⟩ = some (.int .i64 a) := by rw [← hw3]; exact y1
    clear y0 y1 C2 F2 c2 c4 ra rm hw3 w2
    obtain ⟨-, -, c2, -, c4, -⟩ := C3.out.cells
    have rm := C3.out.cellM hq
    rw [Hv0.out] at rm
    have ra := C3.out.cellR H4.out Ht.out ha
    have fz := C3.out.rM.frozenAt q
    go_wp2_with fail
    have hgm := H.out.lt (g := L.gM) (by simp)
    have C4 := hyd (C3.out.setM q (wrap64 (v0 + th.get (a : Int))))
    have F4 : Hid (∀ B, Fr B [L.gT, L.gM] w (w3.setCell ⟨L.gM, q, none⟩ (.int .i64 (wrap64 (v0 + th.get (a : Int)))))) := fun B => (F3.out B).set (by simp) _
    have u1 : (w3.setCell ⟨L.gM, q, none⟩ (.int .i64 (wrap64 (v0 + th.get (a : Int))))).cell? ⟨w.heap.size, 1, none⟩ = some (.int .i64 a) := by
      rw [World.cell?_of_block (Below.heap_setCell w3 ⟨L.gM, q, none⟩ _ w.heap.size (by dsimp only; omega))]; exact z1
    generalize w3.setCell ⟨L.gM, q, none⟩ (.int .i64 (wrap64 (v0 + th.get (a : Int)))) = w4 at C4 F4 u1 ⊢
    clear c2 c4 rm ra fz z0 z1 C3 F3
    obtain ⟨-, -, c2, -, c4, -⟩ := C4.out.cells
    have ra := C4.out.cellR H4.out Ht.out ha
    have fz := C4.out.rT.frozenAt (t * 6 + 1 + a)
    go_region
    go_wp2
    go_ret2
    refine ⟨?_, ?_, fun B => ((F4.out B).drew).set (by simp) _⟩
    · rw [Hm.out]; rfl
    · rw [Hm.out]
      exact C4.out.drew.setR H4.out Ht.out ha v0

end Go.Proofs.YtbhbacphiinpeaaGreat

