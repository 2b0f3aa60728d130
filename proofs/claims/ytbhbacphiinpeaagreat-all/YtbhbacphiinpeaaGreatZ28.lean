/- Ra4 Rb1 Rb2: joined. -/
import Derived.Test.YtbhbacphiinpeaaGreatZ27

/- What the document's 'one' does, whatever the instruction. -/
namespace Go.Proofs.YtbhbacphiinpeaaGreat
open Go.RowKit

set_option maxHeartbeats 1000000 in
set_option maxRecDepth 100000 in
theorem one_mem9 {w : World} {L : RM} {k : List Ins} {J : List Int} {vW : Value} {ts : List Thr} {mem : List Int} {st : Int} (h : Core w L k J vW ts mem st) (h4 : Reg4 ts) (t : Nat) (th : Thr) (ht : ts[t]? = some th) (a b c : Nat) (ha : a < 4) (hb : b < 4) :
    Calls Tryz.prog 108 #[.pointer (some ⟨L.bM, 0, none⟩), .int .i64 t, .agg #[.int .i64 9, .int .i64 a, .int .i64 b, .int .i64 c]] w (OneAns w L k J vW ts st t (oneP ⟨9, a, b, c⟩ th mem)) := by
  have htl := (List.getElem?_eq_some_iff.1 ht).1
  have t2 : (t : Int) < (ts.length : Int) := by omega
  have t0 : (0 : Int) ≤ (t : Int) := by omega
  have b0 : (0 : Int) ≤ (b : Int) := by omega
  have d0 : (0 : Int) ≤ (c : Int) := by omega
  have a0 : (0 : Int) ≤ (a : Int) := by omega
  have a1 : (a : Int) < 4 := by omega
  have b1 : (b : Int) < 4 := by omega
  have H := hyd h
  have H4 := hyd h4
  have Ht := hyd ht
  clear h ht h4
  obtain ⟨x0, x1, x2, x3, -⟩ := blk_cells (heap_alloc_new w (.cells #[.int .i64 9, .int .i64 a, .int .i64 b, .int .i64 c] 92))
  have C1 := hyd (H.out.alloc (.cells #[.int .i64 9, .int .i64 a, .int .i64 b, .int .i64 c] 92))
  obtain ⟨-, -, c2, -, c4, -⟩ := C1.out.cells
  have r0 := C1.out.cellR H4.out Ht.out (b := 0) (by omega)
  have r1 := C1.out.cellR H4.out Ht.out (b := 1) (by omega)
  have r2 := C1.out.cellR H4.out Ht.out (b := 2) (by omega)
  have r3 := C1.out.cellR H4.out Ht.out (b := 3) (by omega)
  rw [Nat.add_zero] at r0
  have hbx : ((w.alloc (.cells #[.int .i64 9, .int .i64 a, .int .i64 b, .int .i64 c] 92)).alloc (.cells #[.int .i64 (th.get 0), .int .i64 (th.get 1), .int .i64 (th.get 2), .int .i64 (th.get 3)] 100)).heap[w.heap.size]? = some (.cells #[.int .i64 9, .int .i64 a, .int .i64 b, .int .i64 c] 92) := by
    rw [Below.heap_alloc _ _ _ (by simp)]; exact heap_alloc_new w _
  obtain ⟨y0, y1, y2, y3, -⟩ := blk_cells hbx
  clear hbx
  have C2 := hyd (C1.out.alloc (.cells #[.int .i64 (th.get 0), .int .i64 (th.get 1), .int .i64 (th.get 2), .int .i64 (th.get 3)] 100))
  have F2 : Hid (∀ B, Fr B [L.gT, L.gM] w ((w.alloc (.cells #[.int .i64 9, .int .i64 a, .int .i64 b, .int .i64 c] 92)).alloc (.cells #[.int .i64 (th.get 0), .int .i64 (th.get 1), .int .i64 (th.get 2), .int .i64 (th.get 3)] 100))) := fun B => ((Fr.refl _ _ _).alloc _).alloc _
  obtain ⟨q0, q1, q2, q3, -⟩ := blk_cells (heap_alloc_new (w.alloc (.cells #[.int .i64 9, .int .i64 a, .int .i64 b, .int .i64 c] 92)) (.cells #[.int .i64 (th.get 0), .int .i64 (th.get 1), .int .i64 (th.get 2), .int .i64 (th.get 3)] 100))
  rw [World.size_alloc] at q0 q1 q2 q3
  have Q : Hid (∀ {i : Nat}, i < 4 → ((w.alloc (.cells #[.int .i64 9, .int .i64 a, .int .i64 b, .int .i64 c] 92)).alloc (.cells #[.int .i64 (th.get 0), .int .i64 (th.get 1), .int .i64 (th.get 2), .int .i64 (th.get 3)] 100)).cell? ⟨w.heap.size + 1, i, none⟩ = some (.int .i64 (th.get (i : Int)))) := fun {i} hi => four_at th q0 q1 q2 q3 hi
  clear q0 q1 q2 q3
  obtain ⟨-, -, e2, -, e4, -⟩ := C2.out.cells
  have ra := C2.out.cellR H4.out Ht.out ha
  have nm := name_at C2.out H4.out Ht.out
  have fz := C2.out.rT.frozenAt (t * 6 + 1 + a)
  have qb := Q.out hb
  have Hm : Hid (oneP ⟨9, a, b, c⟩ th mem = memP ⟨9, a, b, c⟩ th mem) := by unfold Hid oneP; simp
  go_enter Tryz.func108, Tryz.ntmps108
  go_wp2_with fail
  refine (memory_any C2.out H4.out t th Ht.out 9 a b c ha hb (by decide)).mono ?_
  rintro e w3 ⟨rfl, hC, hF⟩
  have HX := hyd (And.intro hC hF)
  clear hC hF
  go_wp2
  go_ret2
  refine ⟨?_, ?_, fun B => (F2.out B).trans (HX.out.2 B)⟩
  · rw [Hm.out]; rfl
  · rw [Hm.out]; exact HX.out.1

set_option maxHeartbeats 1000000 in
set_option maxRecDepth 100000 in
theorem one_mem10 {w : World} {L : RM} {k : List Ins} {J : List Int} {vW : Value} {ts : List Thr} {mem : List Int} {st : Int} (h : Core w L k J vW ts mem st) (h4 : Reg4 ts) (t : Nat) (th : Thr) (ht : ts[t]? = some th) (a b c : Nat) (ha : a < 4) (hb : b < 4) :
    Calls Tryz.prog 108 #[.pointer (some ⟨L.bM, 0, none⟩), .int .i64 t, .agg #[.int .i64 10, .int .i64 a, .int .i64 b, .int .i64 c]] w (OneAns w L k J vW ts st t (oneP ⟨10, a, b, c⟩ th mem)) := by
  have htl := (List.getElem?_eq_some_iff.1 ht).1
  have t2 : (t : Int) < (ts.length : Int) := by omega
  have t0 : (0 : Int) ≤ (t : Int) := by omega
  have b0 : (0 : Int) ≤ (b : Int) := by omega
  have d0 : (0 : Int) ≤ (c : Int) := by omega
  have a0 : (0 : Int) ≤ (a : Int) := by omega
  have a1 : (a : Int) < 4 := by omega
  have b1 : (b : Int) < 4 := by omega
  have H := hyd h
  have H4 := hyd h4
  have Ht := hyd ht
  clear h ht h4
  obtain ⟨x0, x1, x2, x3, -⟩ := blk_cells (heap_alloc_new w (.cells #[.int .i64 10, .int .i64 a, .int .i64 b, .int .i64 c] 92))
  have C1 := hyd (H.out.alloc (.cells #[.int .i64 10, .int .i64 a, .int .i64 b, .int .i64 c] 92))
  obtain ⟨-, -, c2, -, c4, -⟩ := C1.out.cells
  have r0 := C1.out.cellR H4.out Ht.out (b := 0) (by omega)
  have r1 := C1.out.cellR H4.out Ht.out (b := 1) (by omega)
  have r2 := C1.out.cellR H4.out Ht.out (b := 2) (by omega)
  have r3 := C1.out.cellR H4.out Ht.out (b := 3) (by omega)
  rw [Nat.add_zero] at r0
  have hbx : ((w.alloc (.cells #[.int .i64 10, .int .i64 a, .int .i64 b, .int .i64 c] 92)).alloc (.cells #[.int .i64 (th.get 0), .int .i64 (th.get 1), .int .i64 (th.get 2), .int .i64 (th.get 3)] 100)).heap[w.heap.size]? = some (.cells #[.int .i64 10, .int .i64 a, .int .i64 b, .int .i64 c] 92) := by
    rw [Below.heap_alloc _ _ _ (by simp)]; exact heap_alloc_new w _
  obtain ⟨y0, y1, y2, y3, -⟩ := blk_cells hbx
  clear hbx
  have C2 := hyd (C1.out.alloc (.cells #[.int .i64 (th.get 0), .int .i64 (th.get 1), .int .i64 (th.get 2), .int .i64 (th.get 3)] 100))
  have F2 : Hid (∀ B, Fr B [L.gT, L.gM] w ((w.alloc (.cells #[.int .i64 10, .int .i64 a, .int .i64 b, .int .i64 c] 92)).alloc (.cells #[.int .i64 (th.get 0), .int .i64 (th.get 1), .int .i64 (th.get 2), .int .i64 (th.get 3)] 100))) := fun B => ((Fr.refl _ _ _).alloc _).alloc _
  obtain ⟨q0, q1, q2, q3, -⟩ := blk_cells (heap_alloc_new (w.alloc (.cells #[.int .i64 10, .int .i64 a, .int .i64 b, .int .i64 c] 92)) (.cells #[.int .i64 (th.get 0), .int .i64 (th.get 1), .int .i64 (th.get 2), .int .i64 (th.get 3)] 100))
  rw [World.size_alloc] at q0 q1 q2 q3
  have Q : Hid (∀ {i : Nat}, i < 4 → ((w.alloc (.cells #[.int .i64 10, .int .i64 a, .int .i64 b, .int .i64 c] 92)).alloc (.cells #[.int .i64 (th.get 0), .int .i64 (th.get 1), .int .i64 (th.get 2), .int .i64 (th.get 3)] 100)).cell? ⟨w.heap.size + 1, i, none⟩ = some (.int .i64 (th.get (i : Int)))) := fun {i} hi => four_at th q0 q1 q2 q3 hi
  clear q0 q1 q2 q3
  obtain ⟨-, -, e2, -, e4, -⟩ := C2.out.cells
  have ra := C2.out.cellR H4.out Ht.out ha
  have nm := name_at C2.out H4.out Ht.out
  have fz := C2.out.rT.frozenAt (t * 6 + 1 + a)
  have qb := Q.out hb
  have Hm : Hid (oneP ⟨10, a, b, c⟩ th mem = memP ⟨10, a, b, c⟩ th mem) := by unfold Hid oneP; simp
  go_enter Tryz.func108, Tryz.ntmps108
  go_wp2_with fail
  refine (memory_any C2.out H4.out t th Ht.out 10 a b c ha hb (by decide)).mono ?_
  rintro e w3 ⟨rfl, hC, hF⟩
  have HX := hyd (And.intro hC hF)
  clear hC hF
  go_wp2
  go_ret2
  refine ⟨?_, ?_, fun B => (F2.out B).trans (HX.out.2 B)⟩
  · rw [Hm.out]; rfl
  · rw [Hm.out]; exact HX.out.1

set_option maxHeartbeats 1000000 in
set_option maxRecDepth 100000 in
theorem one_mem11 {w : World} {L : RM} {k : List Ins} {J : List Int} {vW : Value} {ts : List Thr} {mem : List Int} {st : Int} (h : Core w L k J vW ts mem st) (h4 : Reg4 ts) (t : Nat) (th : Thr) (ht : ts[t]? = some th) (a b c : Nat) (ha : a < 4) (hb : b < 4) :
    Calls Tryz.prog 108 #[.pointer (some ⟨L.bM, 0, none⟩), .int .i64 t, .agg #[.int .i64 11, .int .i64 a, .int .i64 b, .int .i64 c]] w (OneAns w L k J vW ts st t (oneP ⟨11, a, b, c⟩ th mem)) := by
  have htl := (List.getElem?_eq_some_iff.1 ht).1
  have t2 : (t : Int) < (ts.length : Int) := by omega
  have t0 : (0 : Int) ≤ (t : Int) := by omega
  have b0 : (0 : Int) ≤ (b : Int) := by omega
  have d0 : (0 : Int) ≤ (c : Int) := by omega
  have a0 : (0 : Int) ≤ (a : Int) := by omega
  have a1 : (a : Int) < 4 := by omega
  have b1 : (b : Int) < 4 := by omega
  have H := hyd h
  have H4 := hyd h4
  have Ht := hyd ht
  clear h ht h4
  obtain ⟨x0, x1, x2, x3, -⟩ := blk_cells (heap_alloc_new w (.cells #[.int .i64 11, .int .i64 a, .int .i64 b, .int .i64 c] 92))
  have C1 := hyd (H.out.alloc (.cells #[.int .i64 11, .int .i64 a, .int .i64 b, .int .i64 c] 92))
  obtain ⟨-, -, c2, -, c4, -⟩ := C1.out.cells
  have r0 := C1.out.cellR H4.out Ht.out (b := 0) (by omega)
  have r1 := C1.out.cellR H4.out Ht.out (b := 1) (by omega)
  have r2 := C1.out.cellR H4.out Ht.out (b := 2) (by omega)
  have r3 := C1.out.cellR H4.out Ht.out (b := 3) (by omega)
  rw [Nat.add_zero] at r0
  have hbx : ((w.alloc (.cells #[.int .i64 11, .int .i64 a, .int .i64 b, .int .i64 c] 92)).alloc (.cells #[.int .i64 (th.get 0), .int .i64 (th.get 1), .int .i64 (th.get 2), .int .i64 (th.get 3)] 100)).heap[w.heap.size]? = some (.cells #[.int .i64 11, .int .i64 a, .int .i64 b, .int .i64 c] 92) := by
    rw [Below.heap_alloc _ _ _ (by simp)]; exact heap_alloc_new w _
  obtain ⟨y0, y1, y2, y3, -⟩ := blk_cells hbx
  clear hbx
  have C2 := hyd (C1.out.alloc (.cells #[.int .i64 (th.get 0), .int .i64 (th.get 1), .int .i64 (th.get 2), .int .i64 (th.get 3)] 100))
  have F2 : Hid (∀ B, Fr B [L.gT, L.gM] w ((w.alloc (.cells #[.int .i64 11, .int .i64 a, .int .i64 b, .int .i64 c] 92)).alloc (.cells #[.int .i64 (th.get 0), .int .i64 (th.get 1), .int .i64 (th.get 2), .int .i64 (th.get 3)] 100))) := fun B => ((Fr.refl _ _ _).alloc _).alloc _
  obtain ⟨q0, q1, q2, q3, -⟩ := blk_cells (heap_alloc_new (w.alloc (.cells #[.int .i64 11, .int .i64 a, .int .i64 b, .int .i64 c] 92)) (.cells #[.int .i64 (th.get 0), .int .i64 (th.get 1), .int .i64 (th.get 2), .int .i64 (th.get 3)] 100))
  rw [World.size_alloc] at q0 q1 q2 q3
  have Q : Hid (∀ {i : Nat}, i < 4 → ((w.alloc (.cells #[.int .i64 11, .int .i64 a, .int .i64 b, .int .i64 c] 92)).alloc (.cells #[.int .i64 (th.get 0), .int .i64 (th.get 1), .int .i64 (th.get 2), .int .i64 (th.get 3)] 100)).cell? ⟨w.heap.size + 1, i, none⟩ = some (.int .i64 (th.get (i : Int)))) := fun {i} hi => four_at th q0 q1 q2 q3 hi
  clear q0 q1 q2 q3
  obtain ⟨-, -, e2, -, e4, -⟩ := C2.out.cells
  have ra := C2.out.cellR H4.out Ht.out ha
  have nm := name_at C2.out H4.out Ht.out
  have fz := C2.out.rT.frozenAt (t * 6 + 1 + a)
  have qb := Q.out hb
  have Hm : Hid (oneP ⟨11, a, b, c⟩ th mem = memP ⟨11, a, b, c⟩ th mem) := by unfold Hid oneP; simp
  go_enter Tryz.func108, Tryz.ntmps108
  go_wp2_with fail
  refine (memory_any C2.out H4.out t th Ht.out 11 a b c ha hb (by decide)).mono ?_
  rintro e w3 ⟨rfl, hC, hF⟩
  have HX := hyd (And.intro hC hF)
  clear hC hF
  go_wp2
  go_ret2
  refine ⟨?_, ?_, fun B => (F2.out B).trans (HX.out.2 B)⟩
  · rw [Hm.out]; rfl
  · rw [Hm.out]; exact HX.out.1

/-- The operations that threads do one after the other. -/
def isOwn (o : Int) : Prop := (1 ≤ o ∧ o ≤ 11)

theorem one_any {w : World} {L : RM} {k : List Ins} {J : List Int} {vW : Value} {ts : List Thr} {mem : List Int} {st : Int} (h : Core w L k J vW ts mem st) (h4 : Reg4 ts) {t : Nat} {th : Thr} (ht : ts[t]? = some th) {x : Ins} {n : Int} (hx : okB n x = true) (ho : isOwn x.o) :
    Calls Tryz.prog 108 #[.pointer (some ⟨L.bM, 0, none⟩), .int .i64 t, .agg #[.int .i64 x.o, .int .i64 x.a, .int .i64 x.b, .int .i64 x.c]] w (OneAns w L k J vW ts st t (oneP x th mem)) := by
  obtain ⟨o, a, b, c⟩ := x
  unfold isOwn at ho
  dsimp only at ho ⊢
  have nat : ∀ z : Int, 0 ≤ z → ∃ m : Nat, z = (m : Int) := fun z hz => ⟨z.toNat, by omega⟩
  have hcases : o = 1 ∨ o = 2 ∨ o = 3 ∨ o = 4 ∨ o = 5 ∨ o = 6 ∨ o = 7 ∨ o = 8 ∨ o = 9 ∨ o = 10 ∨ o = 11 := by omega
  rcases hcases with rfl | rfl | rfl | rfl | rfl | rfl | rfl | rfl | rfl | rfl | rfl <;> simp [okB] at hx
  · obtain ⟨⟨h1, h2⟩, rfl⟩ := hx
    have e1 := bel_bd h1
    have e2 := bel_bd h2
    obtain ⟨a, rfl⟩ := nat a e1.1
    obtain ⟨b, rfl⟩ := nat b e2.1
    exact one_set h h4 t th ht a b 0 (by omega)
  · obtain ⟨⟨h1, h2⟩, h3⟩ := hx
    have e1 := bel_bd h1
    have e2 := bel_bd h2
    have e3 := bel_bd h3
    obtain ⟨a, rfl⟩ := nat a e1.1
    obtain ⟨b, rfl⟩ := nat b e2.1
    obtain ⟨c, rfl⟩ := nat c e3.1
    exact one_add h h4 t th ht a b c (by omega) (by omega) (by omega)
  · obtain ⟨⟨h1, h2⟩, h3⟩ := hx
    have e1 := bel_bd h1
    have e2 := bel_bd h2
    have e3 := bel_bd h3
    obtain ⟨a, rfl⟩ := nat a e1.1
    obtain ⟨b, rfl⟩ := nat b e2.1
    obtain ⟨c, rfl⟩ := nat c e3.1
    exact one_sub h h4 t th ht a b c (by omega) (by omega) (by omega)
  · obtain ⟨⟨h1, h2⟩, h3⟩ := hx
    have e1 := bel_bd h1
    have e2 := bel_bd h2
    have e3 := bel_bd h3
    obtain ⟨a, rfl⟩ := nat a e1.1
    obtain ⟨b, rfl⟩ := nat b e2.1
    obtain ⟨c, rfl⟩ := nat c e3.1
    exact one_mul h h4 t th ht a b c (by omega) (by omega) (by omega)
  · obtain ⟨⟨h1, h2⟩, h3⟩ := hx
    have e1 := bel_bd h1
    have e2 := bel_bd h2
    have e3 := bel_bd h3
    obtain ⟨a, rfl⟩ := nat a e1.1
    obtain ⟨b, rfl⟩ := nat b e2.1
    obtain ⟨c, rfl⟩ := nat c e3.1
    by_cases h0 : th.get (c : Int) = 0
    · exact one_div0 h h4 t th ht a b c (by omega) (by omega) (by omega) h0
    · exact one_div h h4 t th ht a b c (by omega) (by omega) (by omega) h0
  · obtain ⟨⟨h1, h2⟩, h3⟩ := hx
    have e1 := bel_bd h1
    have e2 := bel_bd h2
    have e3 := bel_bd h3
    obtain ⟨a, rfl⟩ := nat a e1.1
    obtain ⟨b, rfl⟩ := nat b e2.1
    obtain ⟨c, rfl⟩ := nat c e3.1
    by_cases h0 : th.get (b : Int) < th.get (c : Int)
    · exact one_less1 h h4 t th ht a b c (by omega) (by omega) (by omega) h0
    · exact one_less0 h h4 t th ht a b c (by omega) (by omega) (by omega) h0
  · obtain ⟨⟨h1, h2⟩, h3⟩ := hx
    have e1 := bel_bd h1
    have e2 := bel_bd h2
    have e3 := bel_bd h3
    obtain ⟨a, rfl⟩ := nat a e1.1
    obtain ⟨b, rfl⟩ := nat b e2.1
    obtain ⟨c, rfl⟩ := nat c e3.1
    by_cases h0 : th.get (b : Int) = th.get (c : Int)
    · exact one_same1 h h4 t th ht a b c (by omega) (by omega) (by omega) h0
    · exact one_same0 h h4 t th ht a b c (by omega) (by omega) (by omega) h0
  · obtain ⟨⟨h1, rfl⟩, rfl⟩ := hx
    have e1 := bel_bd h1
    obtain ⟨a, rfl⟩ := nat a e1.1
    exact one_tid h h4 t th ht a 0 0 (by omega)
  · obtain ⟨⟨h1, h2⟩, h3⟩ := hx
    have e1 := bel_bd h1
    have e2 := bel_bd h2
    have e3 := bel_bd h3
    obtain ⟨a, rfl⟩ := nat a e1.1
    obtain ⟨b, rfl⟩ := nat b e2.1
    obtain ⟨c, rfl⟩ := nat c e3.1
    exact one_mem9 h h4 t th ht a b c (by omega) (by omega)
  · obtain ⟨⟨h1, h2⟩, h3⟩ := hx
    have e1 := bel_bd h1
    have e2 := bel_bd h2
    have e3 := bel_bd h3
    obtain ⟨a, rfl⟩ := nat a e1.1
    obtain ⟨b, rfl⟩ := nat b e2.1
    obtain ⟨c, rfl⟩ := nat c e3.1
    exact one_mem10 h h4 t th ht a b c (by omega) (by omega)
  · obtain ⟨⟨h1, h2⟩, h3⟩ := hx
    have e1 := bel_bd h1
    have e2 := bel_bd h2
    have e3 := bel_bd h3
    obtain ⟨a, rfl⟩ := nat a e1.1
    obtain ⟨b, rfl⟩ := nat b e2.1
    obtain ⟨c, rfl⟩ := nat c e3.1
    exact one_mem11 h h4 t th ht a b c (by omega) (by omega)

end Go.Proofs.YtbhbacphiinpeaaGreat

/- A turn that goes on, as it lies in memory; groups; what the document's 'live' and 'fault' do. -/
namespace Go.Proofs.YtbhbacphiinpeaaGreat
open Go.RowKit

/-- A group of threads, a list of numbers that is in none of the blocks X. -/
def GAt (w : World) (X : List Nat) (v : Value) (g : List Nat) : Prop :=
  ∃ ao cap, v = .slice ao g.length cap ∧ (g = [] ∨ ∃ b cur, ao = some ⟨b, 0, none⟩ ∧ w.heap[b]? = some (.cells cur 3) ∧ b ∉ X ∧ ∀ (i : Nat) (t : Nat), g[i]? = some t → cur[i]? = some (.int .i64 t))

theorem GAt.fr {w w' : World} {B : Nat} {X : List Nat} {v : Value} {g : List Nat} (h : GAt w X v g) (hf : Fr B X w w') : GAt w' X v g := by
  obtain ⟨ao, cap, hv, h⟩ := h
  refine ⟨ao, cap, hv, ?_⟩
  rcases h with h | ⟨b, cur, ha, hh, hX, hc⟩
  · exact .inl h
  · refine .inr ⟨b, cur, ha, ?_, hX, hc⟩
    rw [hf.block b (blk_lt hh) hX (.inr fun cs fr e => ?_)]
    · exact hh
    · rw [hh] at e; simp at e

theorem GAt.cell {w : World} {X : List Nat} {ao : Option Addr} {n cap : Nat} {g : List Nat} (h : GAt w X (.slice ao n cap) g) (hn : 0 < n) : ∃ b, ao = some ⟨b, 0, none⟩ ∧ b < w.heap.size ∧ ∀ (i : Nat) (t : Nat), g[i]? = some t → w.cell? ⟨b, i, none⟩ = some (.int .i64 t) := by
  obtain ⟨ao', cap', hv, h⟩ := h
  cases hv
  rcases h with h | ⟨b, cur, ha, hh, -, hc⟩
  · rw [h] at hn; simp at hn
  · exact ⟨b, ha, blk_lt hh, fun i t ht => by rw [cell_of_row w b i cur 3 (0, 0) hh]; exact hc i t ht⟩

theorem GAt.slice {w : World} {X : List Nat} {v : Value} {g : List Nat} (h : GAt w X v g) : ∃ ao cap, v = .slice ao g.length cap := by
  obtain ⟨ao, cap, hv, -⟩ := h
  exact ⟨ao, cap, hv⟩

theorem GAt.of_owned {w : World} {base : Nat} {X : List Nat} {v : Value} {g : List Nat} (h : w.ownsRow base 3 1 v g.length (natVals g)) (hX : ∀ b, v.ownBlock = some b → b ∉ X) : GAt w X v g := by
  rcases h.2 with ⟨rfl, h0⟩ | ⟨b, cap, cur, rfl, hb, hg, -, -, -, ht⟩
  · exact ⟨none, 0, by rw [h0], .inl (List.eq_nil_of_length_eq_zero h0)⟩
  · refine ⟨_, cap, rfl, .inr ⟨b, cur, rfl, hg, hX b rfl, fun i t hi => ?_⟩⟩
    have hl := (List.getElem?_eq_some_iff.1 hi).1
    have e : (cur.toList.take (g.length * 1))[i]? = some (.int .i64 t) := by rw [ht]; simp [natVals, List.getElem?_map, hi]
    rw [List.getElem?_take, if_pos (by omega)] at e
    simpa using e

/-- A turn that goes on, in block bP; its log is a row from block B on. -/
structure PlayAt (w : World) (L : RM) (bP B : Nat) (k : List Ins) (J : List Int) (vW : Value) (bud : Nat) (warp : Int) (vL : Value) (p : Pl) : Prop where
  blk : w.heap[bP]? = some (.cells #[.pointer (some ⟨L.bM, 0, none⟩), .int .i64 warp, .int .i64 p.steps, .int .i64 p.segs, .int .i64 p.fault, .int .i64 p.fpc, .int .i64 p.fth, vL, .int .i64 bud, .int .i64 p.opn, .bool p.ends, .bool p.waits, .int .i64 p.at0] 123)
  log : w.ownsRow B 94 2 vL p.log.length (flatL p.log)
  core : Core w L k J vW p.ts p.mem p.st
  hB : B ≤ bP

theorem PlayAt.lt {w : World} {L : RM} {bP B : Nat} {k : List Ins} {J : List Int} {vW : Value} {bud : Nat} {warp : Int} {vL : Value} {p : Pl} (h : PlayAt w L bP B k J vW bud warp vL p) : ∀ b ∈ L.X bP, b < w.heap.size := by
  intro b hb
  simp only [RM.X, List.mem_cons, List.not_mem_nil, or_false] at hb
  rcases hb with rfl | rfl | rfl | rfl
  · exact blk_lt h.blk
  · exact h.core.lt (by simp)
  · exact h.core.lt (by simp)
  · exact h.core.lt (by simp)

theorem PlayAt.up {w w' : World} {L : RM} {bP B : Nat} {k : List Ins} {J : List Int} {vW : Value} {bud : Nat} {warp : Int} {vL : Value} {p : Pl} (h : PlayAt w L bP B k J vW bud warp vL p) (hb : Below w.heap.size w w') : PlayAt w' L bP B k J vW bud warp vL p :=
  ⟨(hb.block bP (blk_lt h.blk)).trans h.blk, h.log.keptB hb, h.core.up hb, h.hB⟩

theorem PlayAt.alloc {w : World} {L : RM} {bP B : Nat} {k : List Ins} {J : List Int} {vW : Value} {bud : Nat} {warp : Int} {vL : Value} {p : Pl} (h : PlayAt w L bP B k J vW bud warp vL p) (o : Obj) : PlayAt (w.alloc o) L bP B k J vW bud warp vL p :=
  h.up ((Below.refl _ _).alloc (Nat.le_refl _) _)
theorem PlayAt.drew {w : World} {L : RM} {bP B : Nat} {k : List Ins} {J : List Int} {vW : Value} {bud : Nat} {warp : Int} {vL : Value} {p : Pl} (h : PlayAt w L bP B k J vW bud warp vL p) : PlayAt w.drew L bP B k J vW bud warp vL p :=
  h.up ((Below.refl _ _).drew)
theorem PlayAt.drewN {w : World} {L : RM} {bP B : Nat} {k : List Ins} {J : List Int} {vW : Value} {bud : Nat} {warp : Int} {vL : Value} {p : Pl} (h : PlayAt w L bP B k J vW bud warp vL p) (n : Nat) : PlayAt (w.drewN n) L bP B k J vW bud warp vL p :=
  ⟨h.blk, h.log.keptB ⟨rfl, rfl, rfl, Nat.le_refl _, fun _ _ => rfl⟩, h.core.drewN n, h.hB⟩

theorem PlayAt.cells {w : World} {L : RM} {bP B : Nat} {k : List Ins} {J : List Int} {vW : Value} {bud : Nat} {warp : Int} {vL : Value} {p : Pl} (h : PlayAt w L bP B k J vW bud warp vL p) :
    w.cell? ⟨bP, 0, none⟩ = some (.pointer (some ⟨L.bM, 0, none⟩)) ∧ w.cell? ⟨bP, 2, none⟩ = some (.int .i64 p.steps) ∧ w.cell? ⟨bP, 3, none⟩ = some (.int .i64 p.segs) ∧ w.cell? ⟨bP, 4, none⟩ = some (.int .i64 p.fault) ∧ w.cell? ⟨bP, 5, none⟩ = some (.int .i64 p.fpc) ∧ w.cell? ⟨bP, 6, none⟩ = some (.int .i64 p.fth) ∧ w.cell? ⟨bP, 7, none⟩ = some vL ∧
    w.cell? ⟨bP, 8, none⟩ = some (.int .i64 bud) ∧ w.cell? ⟨bP, 9, none⟩ = some (.int .i64 p.opn) ∧ w.cell? ⟨bP, 10, none⟩ = some (.bool p.ends) ∧ w.cell? ⟨bP, 11, none⟩ = some (.bool p.waits) ∧ w.cell? ⟨bP, 12, none⟩ = some (.int .i64 p.at0) := by
  have hb := h.blk
  refine ⟨?_, ?_, ?_, ?_, ?_, ?_, ?_, ?_, ?_, ?_, ?_, ?_⟩ <;> (rw [cell_of_row w bP _ _ 123 _ hb]; rfl)

theorem PlayAt.frozen {w : World} {L : RM} {bP B : Nat} {k : List Ins} {J : List Int} {vW : Value} {bud : Nat} {warp : Int} {vL : Value} {p : Pl} (h : PlayAt w L bP B k J vW bud warp vL p) (i : Nat) : w.frozen? ⟨bP, i, none⟩ = false :=
  frozen_of_row w bP i _ 123 h.blk

theorem PlayAt.ne {w : World} {L : RM} {bP B : Nat} {k : List Ins} {J : List Int} {vW : Value} {bud : Nat} {warp : Int} {vL : Value} {p : Pl} (h : PlayAt w L bP B k J vW bud warp vL p) :
    L.bM ≠ bP ∧ L.gK ≠ bP ∧ L.gJ ≠ bP ∧ L.gT ≠ bP ∧ L.gM ≠ bP ∧ (∀ g, vL.ownBlock = some g → g ≠ bP ∧ g ≠ L.bM ∧ g ≠ L.gK ∧ g ≠ L.gJ ∧ g ≠ L.gT ∧ g ≠ L.gM) := by
  have hP := h.blk
  have hB := h.core.blk
  obtain ⟨cK, hK⟩ := owns_blk h.core.rK
  obtain ⟨cJ, hJ⟩ := owns_blk h.core.rJ
  obtain ⟨cT, hT⟩ := owns_blk h.core.rT
  obtain ⟨cM, hM⟩ := owns_blk h.core.rM
  have gen : ∀ {a b : Nat} {ca cb : Array Value} {ta tb : TypeId}, w.heap[a]? = some (.cells ca ta) → w.heap[b]? = some (.cells cb tb) → ta ≠ tb → a ≠ b := fun {a b ca cb ta tb} h1 h2 hne e => by
    subst e
    rw [h1] at h2
    simp only [Option.some.injEq, Obj.cells.injEq] at h2
    exact hne h2.2.1
  refine ⟨gen hB hP (by decide), gen hK hP (by decide), gen hJ hP (by decide), gen hT hP (by decide), gen hM hP (by decide), fun g hg => ?_⟩
  rcases h.log.2 with ⟨h0, -⟩ | ⟨g', cap, cur, hv, -, hh, -⟩
  · rw [h0] at hg; simp [Value.ownBlock] at hg
  · rw [hv] at hg
    simp only [Value.ownBlock, Option.some.injEq] at hg
    subst hg
    exact ⟨gen hh hP (by decide), gen hh hB (by decide), gen hh hK (by decide), gen hh hJ (by decide), gen hh hT (by decide), gen hh hM (by decide)⟩

/-- A store into the turn's own block. -/
theorem PlayAt.set {w : World} {L : RM} {bP B : Nat} {k : List Ins} {J : List Int} {vW : Value} {bud : Nat} {warp : Int} {vL vL' : Value} {p p' : Pl} (h : PlayAt w L bP B k J vW bud warp vL p) {i : Nat} {v : Value}
    (hc : (#[.pointer (some ⟨L.bM, 0, none⟩), .int .i64 warp, .int .i64 p.steps, .int .i64 p.segs, .int .i64 p.fault, .int .i64 p.fpc, .int .i64 p.fth, vL, .int .i64 bud, .int .i64 p.opn, .bool p.ends, .bool p.waits, .int .i64 p.at0] : Array Value).setIfInBounds i v = #[.pointer (some ⟨L.bM, 0, none⟩), .int .i64 warp, .int .i64 p'.steps, .int .i64 p'.segs, .int .i64 p'.fault, .int .i64 p'.fpc, .int .i64 p'.fth, vL', .int .i64 bud, .int .i64 p'.opn, .bool p'.ends, .bool p'.waits, .int .i64 p'.at0])
    (hl : w.ownsRow B 94 2 vL' p'.log.length (flatL p'.log)) (hn : ∀ g, vL'.ownBlock = some g → g ≠ bP) (ht : p'.ts = p.ts) (hm : p'.mem = p.mem) (hs : p'.st = p.st) : PlayAt (w.setCell ⟨bP, i, none⟩ v) L bP B k J vW bud warp vL' p' := by
  obtain ⟨n1, n2, n3, n4, n5, -⟩ := h.ne
  refine ⟨?_, owns_setCell hl hn _, ?_, h.hB⟩
  · rw [heap_setCell_same w bP i _ 123 v h.blk, hc]
  · rw [ht, hm, hs]
    exact h.core.keep fun g hg => Below.heap_setCell _ _ _ _ (by rcases hg with rfl | rfl | rfl | rfl | rfl <;> assumption)

/-- The machine has turned, the turn's own block and its log have not. -/
theorem PlayAt.into {w w' : World} {L : RM} {bP B : Nat} {k : List Ins} {J : List Int} {vW : Value} {bud : Nat} {warp : Int} {vL : Value} {p : Pl} {ts : List Thr} {mem : List Int} {st : Int} (h : PlayAt w L bP B k J vW bud warp vL p) (hc : Core w' L k J vW ts mem st) (hP : w'.heap[bP]? = w.heap[bP]?) (hl : ∀ g, vL.ownBlock = some g → w'.heap[g]? = w.heap[g]?) :
    PlayAt w' L bP B k J vW bud warp vL { p with ts := ts, mem := mem, st := st } :=
  ⟨hP.trans h.blk, owns_same h.log hl, hc, h.hB⟩

end Go.Proofs.YtbhbacphiinpeaaGreat

/- What the document's 'live' does. -/
namespace Go.Proofs.YtbhbacphiinpeaaGreat
open Go.RowKit

theorem live_take {ts : List Thr} {g : List Nat} {i t : Nat} (h : g[i]? = some t) : liveL ts (g.take (i + 1)) = liveL ts (g.take i) ++ (if isDone ts t then [] else [t]) := by
  unfold liveL
  rw [List.take_add_one, h, List.filter_append]
  cases hd : isDone ts t <;> simp [hd]

theorem live_len (ts : List Thr) (g : List Nat) : (liveL ts g).length ≤ g.length := List.length_filter_le _ _

theorem done_at {w : World} {L : RM} {k : List Ins} {J : List Int} {vW : Value} {ts : List Thr} {mem : List Int} {st : Int} (h : Core w L k J vW ts mem st) (h4 : Reg4 ts) {t : Nat} (ht : t < ts.length) : w.cell? ⟨L.gT, t * 6 + 5, none⟩ = some (.bool (isDone ts t)) := by
  have hx : ts[t]? = some ts[t] := List.getElem?_eq_getElem ht
  have := h.cellT h4 hx (j := 5) (by omega)
  rw [this, vals_done (h4 _ (List.getElem_mem ht))]
  unfold isDone
  rw [List.getD_eq_getElem?_getD, hx]
  rfl

theorem take_all {α : Type} (l : List α) : l.take l.length = l := List.take_length

set_option maxHeartbeats 1000000 in
set_option maxRecDepth 100000 in
theorem live_any {w : World} {L : RM} {bP B : Nat} {k : List Ins} {J : List Int} {vW : Value} {bud : Nat} {warp : Int} {vL : Value} {p : Pl} (h : PlayAt w L bP B k J vW bud warp vL p) (h4 : Reg4 p.ts) {vg : Value} {g : List Nat} (hg : GAt w (L.X bP) vg g) (hlt : ∀ t ∈ g, t < p.ts.length) (hlen : g.length ≤ 16) :
    Calls Tryz.prog 79 #[.pointer (some ⟨bP, 0, none⟩), vg] w fun e w' => ∃ v', e = .returned v' ∧ GAt w' (L.X bP) v' (liveL p.ts g) ∧ Below w.heap.size w w' := by
  have H := hyd h
  have H4 := hyd h4
  have HG := hyd hg
  have HLt := hyd hlt
  have HX := hyd h.lt
  obtain ⟨ao, cap, rfl⟩ := hg.slice
  clear h h4 hg hlt
  obtain ⟨n, Hn⟩ : ∃ n, Hid (g.length = n) := ⟨_, rfl⟩
  obtain ⟨m, Hm⟩ : ∃ m, Hid (p.ts.length = m) := ⟨_, rfl⟩
  rw [Hn.out] at hlen ⊢
  have hn2 : (n : Int) ≤ 16 := by omega
  obtain ⟨i0, hi, hz0, hz1, hz2⟩ := info_parts Tryz.info3
  go_enter Tryz.func79, Tryz.ntmps79
  go_wp2_with fail
  go_loopw [5, 6] (fun lv iv wr => ∃ (i : Nat) (A : List Nat), i ≤ n ∧ iv = .int .i64 i ∧ A = liveL p.ts (g.take i) ∧ wr.ownsRow w.heap.size 3 1 lv A.length (natVals A) ∧ Below w.heap.size w wr) (fun _ iv _ => n - (intOf iv).toNat)
  case atStart => exact ⟨0, [], Nat.zero_le _, rfl, by simp [liveL], World.ownsRow_nil _ _ _ _, Below.refl _ _⟩
  case round =>
    obtain ⟨i, A, hin, rfl, hA, hown, hb⟩ := hrel
    have HA := hyd hA
    have Hown := hyd hown
    have HB := hyd hb
    have hsz := hb.size
    have hAl : A.length ≤ 16 := by rw [hA]; refine Nat.le_trans (live_len _ _) ?_; rw [List.length_take]; omega
    clear hA hown hb
    by_cases hil : i < n
    · obtain ⟨t, ht⟩ : ∃ t, g[i]? = some t := ⟨_, List.getElem?_eq_getElem (by rw [Hn.out]; exact hil)⟩
      have htm : t < p.ts.length := HLt.out t (List.mem_of_getElem? ht)
      have P1 := hyd (H.out.up HB.out)
      obtain ⟨c0, -⟩ := P1.out.cells
      obtain ⟨-, -, c2, -⟩ := P1.out.core.cells
      have cd := done_at P1.out.core H4.out htm
      rw [Hm.out] at c2 htm
      obtain ⟨bg, hao, hbg, hcg⟩ := HG.out.cell (by rw [Hn.out]; omega)
      subst hao
      have cg := (HB.out.cell (p := ⟨bg, i, none⟩) hbg).trans (hcg i t ht)
      have Ht := hyd ht
      clear hcg ht
      have i1 : (0 : Int) ≤ (i : Int) := by omega
      have i2 : (i : Int) < (n : Int) := by omega
      have t1 : (0 : Int) ≤ (t : Int) := by omega
      have t2 : (t : Int) < (m : Int) := by omega
      have hE := hyd (live_take (ts := p.ts) Ht.out)
      cases hd : isDone p.ts t
      · rw [hd] at cd
        go_wp2_with fail
        go_quiet (fail)
        generalize hw3 : World.drewN wr _ = w3
        have c3 : w3.cell? ⟨bg, i, none⟩ = some (.int .i64 t) := by rw [← hw3]; exact cg
        have O3 : Hid (w3.ownsRow w.heap.size 3 1 u5 A.length (natVals A)) := by rw [← hw3]; exact Hown.out.keptB ⟨rfl, rfl, rfl, Nat.le_refl _, fun _ _ => rfl⟩
        have B3 : Hid (Below w.heap.size w w3) := by rw [← hw3]; exact ⟨HB.out.os, HB.out.tape, HB.out.output, HB.out.size, HB.out.block⟩
        have hsz3 := B3.out.size
        clear hw3 c0 c2 cd cg Hown HB hsz P1
        go_wp2_with (at_builtin; go_must (refine wpList_append_own _ rfl (.tmp 28) (.tmp 33) 24 rfl w.heap.size 3 i0 (.int .i64 0) 1 8 Tryz.underlying24 hi hz0 hz1 hz2 rfl (by decide) u5 A.length (natVals A) rfl ?a0 ⟨w3.heap.size, 0, none⟩ 1 1 [.int .i64 t] rfl rfl ?a1 ?a2 ?a3 ?a4 ?a5 ?_))
        case a0 => exact O3.out.alloc _
        case a1 => exact World.news_of_block (heap_alloc_new w3 _)
        case a2 => intro u hu; simp at hu; subst hu; rfl
        case a3 => unfold maxLen; omega
        case a4 => omega
        case a5 => simp; omega
        · intro v3 w4 hown3 hgrow3 _
          rw [← nat_snoc] at hown3
          have hb3 : Below w.heap.size w w4 := (B3.out.alloc hsz3 _).grown hgrow3 (by simp; omega) (fun x hx => (O3.out.lt x hx).1)
          have HXX := hyd (And.intro hown3 hb3)
          clear hown3 hgrow3 hb3
          go_wp2
          go_roundw
          case rel => exact ⟨i + 1, A ++ [t], by omega, by go_num, by rw [hE.out, hd, ← HA.out]; simp, by rw [List.length_append]; exact HXX.out.1, HXX.out.2⟩
          case measure => simp [intOf] <;> omega
      · rw [hd] at cd
        go_wp2_with fail
        go_quiet (fail)
        generalize hw3 : World.drewN wr _ = w3
        have O3 : Hid (w3.ownsRow w.heap.size 3 1 u5 A.length (natVals A)) := by rw [← hw3]; exact Hown.out.keptB ⟨rfl, rfl, rfl, Nat.le_refl _, fun _ _ => rfl⟩
        have B3 : Hid (Below w.heap.size w w3) := by rw [← hw3]; exact ⟨HB.out.os, HB.out.tape, HB.out.output, HB.out.size, HB.out.block⟩
        clear hw3 c0 c2 cd cg Hown HB hsz P1
        go_wp2
        go_roundw
        case rel => exact ⟨i + 1, A, by omega, by go_num, by rw [hE.out, hd, ← HA.out]; simp, O3.out, B3.out⟩
        case measure => simp [intOf] <;> omega
    · have hin' : i = g.length := by rw [Hn.out]; omega
      have hAe : Hid (A = liveL p.ts g) := by have := HA.out; rw [hin', take_all] at this; exact this
      go_wp2
      go_ret
      refine ⟨_, rfl, ?_, HB.out⟩
      rw [← hAe.out]
      refine GAt.of_owned Hown.out fun b hb hx => ?_
      have := (Hown.out.lt b hb).1
      have := HX.out b hx
      omega

end Go.Proofs.YtbhbacphiinpeaaGreat

