/- Ra2: joined. -/
import Derived.Test.YtbhbacphiinpeaaGreatZ25

/- What the document's 'one' does: what a thread does by itself. -/
namespace Go.Proofs.YtbhbacphiinpeaaGreat
open Go.RowKit

theorem four_at {w : World} {g : Nat} (th : Thr) (h0 : w.cell? ⟨g, 0, none⟩ = some (.int .i64 (th.get 0))) (h1 : w.cell? ⟨g, 1, none⟩ = some (.int .i64 (th.get 1))) (h2 : w.cell? ⟨g, 2, none⟩ = some (.int .i64 (th.get 2))) (h3 : w.cell? ⟨g, 3, none⟩ = some (.int .i64 (th.get 3))) {b : Nat} (hb : b < 4) : w.cell? ⟨g, b, none⟩ = some (.int .i64 (th.get (b : Int))) := by
  match b, hb with
  | 0, _ => exact h0
  | 1, _ => exact h1
  | 2, _ => exact h2
  | 3, _ => exact h3

theorem name_at {w : World} {L : RM} {k : List Ins} {J : List Int} {vW : Value} {ts : List Thr} {mem : List Int} {st : Int} (h : Core w L k J vW ts mem st) (h4 : Reg4 ts) {t : Nat} {th : Thr} (ht : ts[t]? = some th) : w.cell? ⟨L.gT, t * 6, none⟩ = some (.int .i64 th.name) := by
  have := h.cellT h4 ht (j := 0) (by omega)
  rwa [Nat.add_zero] at this

theorem set_same {α : Type} {l : List α} {t : Nat} {x : α} (h : l[t]? = some x) : l.set t x = l := by
  apply List.ext_getElem?
  intro i
  rw [List.getElem?_set]
  split
  · rename_i e; subst e
    have htl := (List.getElem?_eq_some_iff.1 h).1
    rw [if_pos htl, h]
  · rfl

set_option maxHeartbeats 1000000 in
set_option maxRecDepth 100000 in
theorem one_set {w : World} {L : RM} {k : List Ins} {J : List Int} {vW : Value} {ts : List Thr} {mem : List Int} {st : Int} (h : Core w L k J vW ts mem st) (h4 : Reg4 ts) (t : Nat) (th : Thr) (ht : ts[t]? = some th) (a b c : Nat) (ha : a < 4) :
    Calls Tryz.prog 108 #[.pointer (some ⟨L.bM, 0, none⟩), .int .i64 t, .agg #[.int .i64 1, .int .i64 a, .int .i64 b, .int .i64 c]] w (OneAns w L k J vW ts st t (oneP ⟨1, a, b, c⟩ th mem)) := by
  have htl := (List.getElem?_eq_some_iff.1 ht).1
  have t2 : (t : Int) < (ts.length : Int) := by omega
  have t0 : (0 : Int) ≤ (t : Int) := by omega
  have b0 : (0 : Int) ≤ (b : Int) := by omega
  have d0 : (0 : Int) ≤ (c : Int) := by omega
  have a0 : (0 : Int) ≤ (a : Int) := by omega
  have a1 : (a : Int) < 4 := by omega
  have H := hyd h
  have H4 := hyd h4
  have Ht := hyd ht
  clear h ht h4
  obtain ⟨x0, x1, x2, x3, -⟩ := blk_cells (heap_alloc_new w (.cells #[.int .i64 1, .int .i64 a, .int .i64 b, .int .i64 c] 92))
  have C1 := hyd (H.out.alloc (.cells #[.int .i64 1, .int .i64 a, .int .i64 b, .int .i64 c] 92))
  obtain ⟨-, -, c2, -, c4, -⟩ := C1.out.cells
  have r0 := C1.out.cellR H4.out Ht.out (b := 0) (by omega)
  have r1 := C1.out.cellR H4.out Ht.out (b := 1) (by omega)
  have r2 := C1.out.cellR H4.out Ht.out (b := 2) (by omega)
  have r3 := C1.out.cellR H4.out Ht.out (b := 3) (by omega)
  rw [Nat.add_zero] at r0
  have hbx : ((w.alloc (.cells #[.int .i64 1, .int .i64 a, .int .i64 b, .int .i64 c] 92)).alloc (.cells #[.int .i64 (th.get 0), .int .i64 (th.get 1), .int .i64 (th.get 2), .int .i64 (th.get 3)] 100)).heap[w.heap.size]? = some (.cells #[.int .i64 1, .int .i64 a, .int .i64 b, .int .i64 c] 92) := by
    rw [Below.heap_alloc _ _ _ (by simp)]; exact heap_alloc_new w _
  obtain ⟨y0, y1, y2, y3, -⟩ := blk_cells hbx
  clear hbx
  have C2 := hyd (C1.out.alloc (.cells #[.int .i64 (th.get 0), .int .i64 (th.get 1), .int .i64 (th.get 2), .int .i64 (th.get 3)] 100))
  have F2 : Hid (∀ B, Fr B [L.gT, L.gM] w ((w.alloc (.cells #[.int .i64 1, .int .i64 a, .int .i64 b, .int .i64 c] 92)).alloc (.cells #[.int .i64 (th.get 0), .int .i64 (th.get 1), .int .i64 (th.get 2), .int .i64 (th.get 3)] 100))) := fun B => ((Fr.refl _ _ _).alloc _).alloc _
  obtain ⟨q0, q1, q2, q3, -⟩ := blk_cells (heap_alloc_new (w.alloc (.cells #[.int .i64 1, .int .i64 a, .int .i64 b, .int .i64 c] 92)) (.cells #[.int .i64 (th.get 0), .int .i64 (th.get 1), .int .i64 (th.get 2), .int .i64 (th.get 3)] 100))
  rw [World.size_alloc] at q0 q1 q2 q3
  have Q : Hid (∀ {i : Nat}, i < 4 → ((w.alloc (.cells #[.int .i64 1, .int .i64 a, .int .i64 b, .int .i64 c] 92)).alloc (.cells #[.int .i64 (th.get 0), .int .i64 (th.get 1), .int .i64 (th.get 2), .int .i64 (th.get 3)] 100)).cell? ⟨w.heap.size + 1, i, none⟩ = some (.int .i64 (th.get (i : Int)))) := fun {i} hi => four_at th q0 q1 q2 q3 hi
  clear q0 q1 q2 q3
  obtain ⟨-, -, e2, -, e4, -⟩ := C2.out.cells
  have ra := C2.out.cellR H4.out Ht.out ha
  have nm := name_at C2.out H4.out Ht.out
  have fz := C2.out.rT.frozenAt (t * 6 + 1 + a)
  have Hm : Hid (oneP ⟨1, a, b, c⟩ th mem = (0, -1, th.put a ((b : Int)), mem)) := by unfold Hid oneP; rfl
  go_enter Tryz.func108, Tryz.ntmps108
  go_wp2_with fail
  generalize (w.alloc (.cells #[.int .i64 1, .int .i64 a, .int .i64 b, .int .i64 c] 92)).alloc (.cells #[.int .i64 (th.get 0), .int .i64 (th.get 1), .int .i64 (th.get 2), .int .i64 (th.get 3)] 100) = w2 at C2 F2 Q y0 y1 y2 y3 e2 e4 ra nm fz ⊢
  clear x0 x1 x2 x3 C1 c2 c4 r0 r1 r2 r3
  go_region
  go_wp2
  go_ret2
  refine ⟨?_, ?_, fun B => ((F2.out B).drew).set (by simp) _⟩
  · rw [Hm.out]; rfl
  · rw [Hm.out]
    exact C2.out.drew.setR H4.out Ht.out ha _

set_option maxHeartbeats 1000000 in
set_option maxRecDepth 100000 in
theorem one_tid {w : World} {L : RM} {k : List Ins} {J : List Int} {vW : Value} {ts : List Thr} {mem : List Int} {st : Int} (h : Core w L k J vW ts mem st) (h4 : Reg4 ts) (t : Nat) (th : Thr) (ht : ts[t]? = some th) (a b c : Nat) (ha : a < 4) :
    Calls Tryz.prog 108 #[.pointer (some ⟨L.bM, 0, none⟩), .int .i64 t, .agg #[.int .i64 8, .int .i64 a, .int .i64 b, .int .i64 c]] w (OneAns w L k J vW ts st t (oneP ⟨8, a, b, c⟩ th mem)) := by
  have htl := (List.getElem?_eq_some_iff.1 ht).1
  have t2 : (t : Int) < (ts.length : Int) := by omega
  have t0 : (0 : Int) ≤ (t : Int) := by omega
  have b0 : (0 : Int) ≤ (b : Int) := by omega
  have d0 : (0 : Int) ≤ (c : Int) := by omega
  have a0 : (0 : Int) ≤ (a : Int) := by omega
  have a1 : (a : Int) < 4 := by omega
  have H := hyd h
  have H4 := hyd h4
  have Ht := hyd ht
  clear h ht h4
  obtain ⟨x0, x1, x2, x3, -⟩ := blk_cells (heap_alloc_new w (.cells #[.int .i64 8, .int .i64 a, .int .i64 b, .int .i64 c] 92))
  have C1 := hyd (H.out.alloc (.cells #[.int .i64 8, .int .i64 a, .int .i64 b, .int .i64 c] 92))
  obtain ⟨-, -, c2, -, c4, -⟩ := C1.out.cells
  have r0 := C1.out.cellR H4.out Ht.out (b := 0) (by omega)
  have r1 := C1.out.cellR H4.out Ht.out (b := 1) (by omega)
  have r2 := C1.out.cellR H4.out Ht.out (b := 2) (by omega)
  have r3 := C1.out.cellR H4.out Ht.out (b := 3) (by omega)
  rw [Nat.add_zero] at r0
  have hbx : ((w.alloc (.cells #[.int .i64 8, .int .i64 a, .int .i64 b, .int .i64 c] 92)).alloc (.cells #[.int .i64 (th.get 0), .int .i64 (th.get 1), .int .i64 (th.get 2), .int .i64 (th.get 3)] 100)).heap[w.heap.size]? = some (.cells #[.int .i64 8, .int .i64 a, .int .i64 b, .int .i64 c] 92) := by
    rw [Below.heap_alloc _ _ _ (by simp)]; exact heap_alloc_new w _
  obtain ⟨y0, y1, y2, y3, -⟩ := blk_cells hbx
  clear hbx
  have C2 := hyd (C1.out.alloc (.cells #[.int .i64 (th.get 0), .int .i64 (th.get 1), .int .i64 (th.get 2), .int .i64 (th.get 3)] 100))
  have F2 : Hid (∀ B, Fr B [L.gT, L.gM] w ((w.alloc (.cells #[.int .i64 8, .int .i64 a, .int .i64 b, .int .i64 c] 92)).alloc (.cells #[.int .i64 (th.get 0), .int .i64 (th.get 1), .int .i64 (th.get 2), .int .i64 (th.get 3)] 100))) := fun B => ((Fr.refl _ _ _).alloc _).alloc _
  obtain ⟨q0, q1, q2, q3, -⟩ := blk_cells (heap_alloc_new (w.alloc (.cells #[.int .i64 8, .int .i64 a, .int .i64 b, .int .i64 c] 92)) (.cells #[.int .i64 (th.get 0), .int .i64 (th.get 1), .int .i64 (th.get 2), .int .i64 (th.get 3)] 100))
  rw [World.size_alloc] at q0 q1 q2 q3
  have Q : Hid (∀ {i : Nat}, i < 4 → ((w.alloc (.cells #[.int .i64 8, .int .i64 a, .int .i64 b, .int .i64 c] 92)).alloc (.cells #[.int .i64 (th.get 0), .int .i64 (th.get 1), .int .i64 (th.get 2), .int .i64 (th.get 3)] 100)).cell? ⟨w.heap.size + 1, i, none⟩ = some (.int .i64 (th.get (i : Int)))) := fun {i} hi => four_at th q0 q1 q2 q3 hi
  clear q0 q1 q2 q3
  obtain ⟨-, -, e2, -, e4, -⟩ := C2.out.cells
  have ra := C2.out.cellR H4.out Ht.out ha
  have nm := name_at C2.out H4.out Ht.out
  have fz := C2.out.rT.frozenAt (t * 6 + 1 + a)
  have Hm : Hid (oneP ⟨8, a, b, c⟩ th mem = (0, -1, th.put a (th.name), mem)) := by unfold Hid oneP; rfl
  go_enter Tryz.func108, Tryz.ntmps108
  go_wp2_with fail
  generalize (w.alloc (.cells #[.int .i64 8, .int .i64 a, .int .i64 b, .int .i64 c] 92)).alloc (.cells #[.int .i64 (th.get 0), .int .i64 (th.get 1), .int .i64 (th.get 2), .int .i64 (th.get 3)] 100) = w2 at C2 F2 Q y0 y1 y2 y3 e2 e4 ra nm fz ⊢
  clear x0 x1 x2 x3 C1 c2 c4 r0 r1 r2 r3
  go_region
  go_wp2
  go_ret2
  refine ⟨?_, ?_, fun B => ((F2.out B).drew).set (by simp) _⟩
  · rw [Hm.out]; rfl
  · rw [Hm.out]
    exact C2.out.drew.setR H4.out Ht.out ha _

set_option maxHeartbeats 1000000 in
set_option maxRecDepth 100000 in
theorem one_add {w : World} {L : RM} {k : List Ins} {J : List Int} {vW : Value} {ts : List Thr} {mem : List Int} {st : Int} (h : Core w L k J vW ts mem st) (h4 : Reg4 ts) (t : Nat) (th : Thr) (ht : ts[t]? = some th) (a b c : Nat) (ha : a < 4) (hb : b < 4) (hc : c < 4) :
    Calls Tryz.prog 108 #[.pointer (some ⟨L.bM, 0, none⟩), .int .i64 t, .agg #[.int .i64 2, .int .i64 a, .int .i64 b, .int .i64 c]] w (OneAns w L k J vW ts st t (oneP ⟨2, a, b, c⟩ th mem)) := by
  have htl := (List.getElem?_eq_some_iff.1 ht).1
  have t2 : (t : Int) < (ts.length : Int) := by omega
  have t0 : (0 : Int) ≤ (t : Int) := by omega
  have b0 : (0 : Int) ≤ (b : Int) := by omega
  have d0 : (0 : Int) ≤ (c : Int) := by omega
  have a0 : (0 : Int) ≤ (a : Int) := by omega
  have a1 : (a : Int) < 4 := by omega
  have b1 : (b : Int) < 4 := by omega
  have d1 : (c : Int) < 4 := by omega
  have H := hyd h
  have H4 := hyd h4
  have Ht := hyd ht
  clear h ht h4
  obtain ⟨x0, x1, x2, x3, -⟩ := blk_cells (heap_alloc_new w (.cells #[.int .i64 2, .int .i64 a, .int .i64 b, .int .i64 c] 92))
  have C1 := hyd (H.out.alloc (.cells #[.int .i64 2, .int .i64 a, .int .i64 b, .int .i64 c] 92))
  obtain ⟨-, -, c2, -, c4, -⟩ := C1.out.cells
  have r0 := C1.out.cellR H4.out Ht.out (b := 0) (by omega)
  have r1 := C1.out.cellR H4.out Ht.out (b := 1) (by omega)
  have r2 := C1.out.cellR H4.out Ht.out (b := 2) (by omega)
  have r3 := C1.out.cellR H4.out Ht.out (b := 3) (by omega)
  rw [Nat.add_zero] at r0
  have hbx : ((w.alloc (.cells #[.int .i64 2, .int .i64 a, .int .i64 b, .int .i64 c] 92)).alloc (.cells #[.int .i64 (th.get 0), .int .i64 (th.get 1), .int .i64 (th.get 2), .int .i64 (th.get 3)] 100)).heap[w.heap.size]? = some (.cells #[.int .i64 2, .int .i64 a, .int .i64 b, .int .i64 c] 92) := by
    rw [Below.heap_alloc _ _ _ (by simp)]; exact heap_alloc_new w _
  obtain ⟨y0, y1, y2, y3, -⟩ := blk_cells hbx
  clear hbx
  have C2 := hyd (C1.out.alloc (.cells #[.int .i64 (th.get 0), .int .i64 (th.get 1), .int .i64 (th.get 2), .int .i64 (th.get 3)] 100))
  have F2 : Hid (∀ B, Fr B [L.gT, L.gM] w ((w.alloc (.cells #[.int .i64 2, .int .i64 a, .int .i64 b, .int .i64 c] 92)).alloc (.cells #[.int .i64 (th.get 0), .int .i64 (th.get 1), .int .i64 (th.get 2), .int .i64 (th.get 3)] 100))) := fun B => ((Fr.refl _ _ _).alloc _).alloc _
  obtain ⟨q0, q1, q2, q3, -⟩ := blk_cells (heap_alloc_new (w.alloc (.cells #[.int .i64 2, .int .i64 a, .int .i64 b, .int .i64 c] 92)) (.cells #[.int .i64 (th.get 0), .int .i64 (th.get 1), .int .i64 (th.get 2), .int .i64 (th.get 3)] 100))
  rw [World.size_alloc] at q0 q1 q2 q3
  have Q : Hid (∀ {i : Nat}, i < 4 → ((w.alloc (.cells #[.int .i64 2, .int .i64 a, .int .i64 b, .int .i64 c] 92)).alloc (.cells #[.int .i64 (th.get 0), .int .i64 (th.get 1), .int .i64 (th.get 2), .int .i64 (th.get 3)] 100)).cell? ⟨w.heap.size + 1, i, none⟩ = some (.int .i64 (th.get (i : Int)))) := fun {i} hi => four_at th q0 q1 q2 q3 hi
  clear q0 q1 q2 q3
  obtain ⟨-, -, e2, -, e4, -⟩ := C2.out.cells
  have ra := C2.out.cellR H4.out Ht.out ha
  have nm := name_at C2.out H4.out Ht.out
  have fz := C2.out.rT.frozenAt (t * 6 + 1 + a)
  have qb := Q.out hb
  have qc := Q.out hc
  have Hm : Hid (oneP ⟨2, a, b, c⟩ th mem = (0, -1, th.put a (wrap64 (th.get (b : Int) + th.get (c : Int))), mem)) := by unfold Hid oneP; rfl
  go_enter Tryz.func108, Tryz.ntmps108
  go_wp2_with fail
  generalize (w.alloc (.cells #[.int .i64 2, .int .i64 a, .int .i64 b, .int .i64 c] 92)).alloc (.cells #[.int .i64 (th.get 0), .int .i64 (th.get 1), .int .i64 (th.get 2), .int .i64 (th.get 3)] 100) = w2 at C2 F2 Q y0 y1 y2 y3 e2 e4 ra nm fz qb qc ⊢
  clear x0 x1 x2 x3 C1 c2 c4 r0 r1 r2 r3
  go_quiet (fail)
  generalize hw3 : World.drewN w2 _ = w3
  have C3 : Hid (Core w3 L k J vW ts mem st) := by rw [← hw3]; exact C2.out.drewN _
  have F3 : Hid (∀ B, Fr B [L.gT, L.gM] w w3) := by rw [← hw3]; exact fun B => (F2.out B).drewN _
  have z1 : w3.cell? ⟨w.heap.size, 1, none⟩ = some (.int .i64 a) := by rw [← hw3]; exact y1
  clear y0 y1 y2 y3 C2 F2 Q e2 e4 ra nm fz qb qc hw3 w2
  obtain ⟨-, -, e2, -, e4, -⟩ := C3.out.cells
  have ra := C3.out.cellR H4.out Ht.out ha
  have fz := C3.out.rT.frozenAt (t * 6 + 1 + a)
  go_wp2_with fail
  go_region
  go_wp2
  go_ret2
  refine ⟨?_, ?_, fun B => ((F3.out B).drew).set (by simp) _⟩
  · rw [Hm.out]; rfl
  · rw [Hm.out]
    exact C3.out.drew.setR H4.out Ht.out ha _

set_option maxHeartbeats 1000000 in
set_option maxRecDepth 100000 in
theorem one_sub {w : World} {L : RM} {k : List Ins} {J : List Int} {vW : Value} {ts : List Thr} {mem : List Int} {st : Int} (h : Core w L k J vW ts mem st) (h4 : Reg4 ts) (t : Nat) (th : Thr) (ht : ts[t]? = some th) (a b c : Nat) (ha : a < 4) (hb : b < 4) (hc : c < 4) :
    Calls Tryz.prog 108 #[.pointer (some ⟨L.bM, 0, none⟩), .int .i64 t, .agg #[.int .i64 3, .int .i64 a, .int .i64 b, .int .i64 c]] w (OneAns w L k J vW ts st t (oneP ⟨3, a, b, c⟩ th mem)) := by
  have htl := (List.getElem?_eq_some_iff.1 ht).1
  have t2 : (t : Int) < (ts.length : Int) := by omega
  have t0 : (0 : Int) ≤ (t : Int) := by omega
  have b0 : (0 : Int) ≤ (b : Int) := by omega
  have d0 : (0 : Int) ≤ (c : Int) := by omega
  have a0 : (0 : Int) ≤ (a : Int) := by omega
  have a1 : (a : Int) < 4 := by omega
  have b1 : (b : Int) < 4 := by omega
  have d1 : (c : Int) < 4 := by omega
  have H := hyd h
  have H4 := hyd h4
  have Ht := hyd ht
  clear h ht h4
  obtain ⟨x0, x1, x2, x3, -⟩ := blk_cells (heap_alloc_new w (.cells #[.int .i64 3, .int .i64 a, .int .i64 b, .int .i64 c] 92))
  have C1 := hyd (H.out.alloc (.cells #[.int .i64 3, .int .i64 a, .int .i64 b, .int .i64 c] 92))
  obtain ⟨-, -, c2, -, c4, -⟩ := C1.out.cells
  have r0 := C1.out.cellR H4.out Ht.out (b := 0) (by omega)
  have r1 := C1.out.cellR H4.out Ht.out (b := 1) (by omega)
  have r2 := C1.out.cellR H4.out Ht.out (b := 2) (by omega)
  have r3 := C1.out.cellR H4.out Ht.out (b := 3) (by omega)
  rw [Nat.add_zero] at r0
  have hbx : ((w.alloc (.cells #[.int .i64 3, .int .i64 a, .int .i64 b, .int .i64 c] 92)).alloc (.cells #[.int .i64 (th.get 0), .int .i64 (th.get 1), .int .i64 (th.get 2), .int .i64 (th.get 3)] 100)).heap[w.heap.size]? = some (.cells #[.int .i64 3, .int .i64 a, .int .i64 b, .int .i64 c] 92) := by
    rw [Below.heap_alloc _ _ _ (by simp)]; exact heap_alloc_new w _
  obtain ⟨y0, y1, y2, y3, -⟩ := blk_cells hbx
  clear hbx
  have C2 := hyd (C1.out.alloc (.cells #[.int .i64 (th.get 0), .int .i64 (th.get 1), .int .i64 (th.get 2), .int .i64 (th.get 3)] 100))
  have F2 : Hid (∀ B, Fr B [L.gT, L.gM] w ((w.alloc (.cells #[.int .i64 3, .int .i64 a, .int .i64 b, .int .i64 c] 92)).alloc (.cells #[.int .i64 (th.get 0), .int .i64 (th.get 1), .int .i64 (th.get 2), .int .i64 (th.get 3)] 100))) := fun B => ((Fr.refl _ _ _).alloc _).alloc _
  obtain ⟨q0, q1, q2, q3, -⟩ := blk_cells (heap_alloc_new (w.alloc (.cells #[.int .i64 3, .int .i64 a, .int .i64 b, .int .i64 c] 92)) (.cells #[.int .i64 (th.get 0), .int .i64 (th.get 1), .int .i64 (th.get 2), .int .i64 (th.get 3)] 100))
  rw [World.size_alloc] at q0 q1 q2 q3
  have Q : Hid (∀ {i : Nat}, i < 4 → ((w.alloc (.cells #[.int .i64 3, .int .i64 a, .int .i64 b, .int .i64 c] 92)).alloc (.cells #[.int .i64 (th.get 0), .int .i64 (th.get 1), .int .i64 (th.get 2), .int .i64 (th.get 3)] 100)).cell? ⟨w.heap.size + 1, i, none⟩ = some (.int .i64 (th.get (i : Int)))) := fun {i} hi => four_at th q0 q1 q2 q3 hi
  clear q0 q1 q2 q3
  obtain ⟨-, -, e2, -, e4, -⟩ := C2.out.cells
  have ra := C2.out.cellR H4.out Ht.out ha
  have nm := name_at C2.out H4.out Ht.out
  have fz := C2.out.rT.frozenAt (t * 6 + 1 + a)
  have qb := Q.out hb
  have qc := Q.out hc
  have Hm : Hid (oneP ⟨3, a, b, c⟩ th mem = (0, -1, th.put a (wrap64 (th.get (b : Int) - th.get (c : Int))), mem)) := by unfold Hid oneP; rfl
  go_enter Tryz.func108, Tryz.ntmps108
  go_wp2_with fail
  generalize (w.alloc (.cells #[.int .i64 3, .int .i64 a, .int .i64 b, .int .i64 c] 92)).alloc (.cells #[.int .i64 (th.get 0), .int .i64 (th.get 1), .int .i64 (th.get 2), .int .i64 (th.get 3)] 100) = w2 at C2 F2 Q y0 y1 y2 y3 e2 e4 ra nm fz qb qc ⊢
  clear x0 x1 x2 x3 C1 c2 c4 r0 r1 r2 r3
  go_quiet (fail)
  generalize hw3 : World.drewN w2 _ = w3
  have C3 : Hid (Core w3 L k J vW ts mem st) := by rw [← hw3]; exact C2.out.drewN _
  have F3 : Hid (∀ B, Fr B [L.gT, L.gM] w w3) := by rw [← hw3]; exact fun B => (F2.out B).drewN _
  have z1 : w3.cell? ⟨w.heap.size, 1, none⟩ = some (.int .i64 a) := by rw [← hw3]; exact y1
  clear y0 y1 y2 y3 C2 F2 Q e2 e4 ra nm fz qb qc hw3 w2
  obtain ⟨-, -, e2, -, e4, -⟩ := C3.out.cells
  have ra := C3.out.cellR H4.out Ht.out ha
  have fz := C3.out.rT.frozenAt (t * 6 + 1 + a)
  go_wp2_with fail
  go_region
  go_wp2
  go_ret2
  refine ⟨?_, ?_, fun B => ((F3.out B).drew).set (by simp) _⟩
  · rw [Hm.out]; rfl
  · rw [Hm.out]
    exact C3.out.drew.setR H4.out Ht.out ha _

set_option maxHeartbeats 1000000 in
set_option maxRecDepth 100000 in
theorem one_mul {w : World} {L : RM} {k : List Ins} {J : List Int} {vW : Value} {ts : List Thr} {mem : List Int} {st : Int} (h : Core w L k J vW ts mem st) (h4 : Reg4 ts) (t : Nat) (th : Thr) (ht : ts[t]? = some th) (a b c : Nat) (ha : a < 4) (hb : b < 4) (hc : c < 4) :
    Calls Tryz.prog 108 #[.pointer (some ⟨L.bM, 0, none⟩), .int .i64 t, .agg #[.int .i64 4, .int .i64 a, .int .i64 b, .int .i64 c]] w (OneAns w L k J vW ts st t (oneP ⟨4, a, b, c⟩ th mem)) := by
  have htl := (List.getElem?_eq_some_iff.1 ht).1
  have t2 : (t : Int) < (ts.length : Int) := by omega
  have t0 : (0 : Int) ≤ (t : Int) := by omega
  have b0 : (0 : Int) ≤ (b : Int) := by omega
  have d0 : (0 : Int) ≤ (c : Int) := by omega
  have a0 : (0 : Int) ≤ (a : Int) := by omega
  have a1 : (a : Int) < 4 := by omega
  have b1 : (b : Int) < 4 := by omega
  have d1 : (c : Int) < 4 := by omega
  have H := hyd h
  have H4 := hyd h4
  have Ht := hyd ht
  clear h ht h4
  obtain ⟨x0, x1, x2, x3, -⟩ := blk_cells (heap_alloc_new w (.cells #[.int .i64 4, .int .i64 a, .int .i64 b, .int .i64 c] 92))
  have C1 := hyd (H.out.alloc (.cells #[.int .i64 4, .int .i64 a, .int .i64 b, .int .i64 c] 92))
  obtain ⟨-, -, c2, -, c4, -⟩ := C1.out.cells
  have r0 := C1.out.cellR H4.out Ht.out (b := 0) (by omega)
  have r1 := C1.out.cellR H4.out Ht.out (b := 1) (by omega)
  have r2 := C1.out.cellR H4.out Ht.out (b := 2) (by omega)
  have r3 := C1.out.cellR H4.out Ht.out (b := 3) (by omega)
  rw [Nat.add_zero] at r0
  have hbx : ((w.alloc (.cells #[.int .i64 4, .int .i64 a, .int .i64 b, .int .i64 c] 92)).alloc (.cells #[.int .i64 (th.get 0), .int .i64 (th.get 1), .int .i64 (th.get 2), .int .i64 (th.get 3)] 100)).heap[w.heap.size]? = some (.cells #[.int .i64 4, .int .i64 a, .int .i64 b, .int .i64 c] 92) := by
    rw [Below.heap_alloc _ _ _ (by simp)]; exact heap_alloc_new w _
  obtain ⟨y0, y1, y2, y3, -⟩ := blk_cells hbx
  clear hbx
  have C2 := hyd (C1.out.alloc (.cells #[.int .i64 (th.get 0), .int .i64 (th.get 1), .int .i64 (th.get 2), .int .i64 (th.get 3)] 100))
  have F2 : Hid (∀ B, Fr B [L.gT, L.gM] w ((w.alloc (.cells #[.int .i64 4, .int .i64 a, .int .i64 b, .int .i64 c] 92)).alloc (.cells #[.int .i64 (th.get 0), .int .i64 (th.get 1), .int .i64 (th.get 2), .int .i64 (th.get 3)] 100))) := fun B => ((Fr.refl _ _ _).alloc _).alloc _
  obtain ⟨q0, q1, q2, q3, -⟩ := blk_cells (heap_alloc_new (w.alloc (.cells #[.int .i64 4, .int .i64 a, .int .i64 b, .int .i64 c] 92)) (.cells #[.int .i64 (th.get 0), .int .i64 (th.get 1), .int .i64 (th.get 2), .int .i64 (th.get 3)] 100))
  rw [World.size_alloc] at q0 q1 q2 q3
  have Q : Hid (∀ {i : Nat}, i < 4 → ((w.alloc (.cells #[.int .i64 4, .int .i64 a, .int .i64 b, .int .i64 c] 92)).alloc (.cells #[.int .i64 (th.get 0), .int .i64 (th.get 1), .int .i64 (th.get 2), .int .i64 (th.get 3)] 100)).cell? ⟨w.heap.size + 1, i, none⟩ = some (.int .i64 (th.get (i : Int)))) := fun {i} hi => four_at th q0 q1 q2 q3 hi
  clear q0 q1 q2 q3
  obtain ⟨-, -, e2, -, e4, -⟩ := C2.out.cells
  have ra := C2.out.cellR H4.out Ht.out ha
  have nm := name_at C2.out H4.out Ht.out
  have fz := C2.out.rT.frozenAt (t * 6 + 1 + a)
  have qb := Q.out hb
  have qc := Q.out hc
  have Hm : Hid (oneP ⟨4, a, b, c⟩ th mem = (0, -1, th.put a (wrap64 (th.get (b : Int) * th.get (c : Int))), mem)) := by unfold Hid oneP; rfl
  go_enter Tryz.func108, Tryz.ntmps108
  go_wp2_with fail
  generalize (w.alloc (.cells #[.int .i64 4, .int .i64 a, .int .i64 b, .int .i64 c] 92)).alloc (.cells #[.int .i64 (th.get 0), .int .i64 (th.get 1), .int .i64 (th.get 2), .int .i64 (th.get 3)] 100) = w2 at C2 F2 Q y0 y1 y2 y3 e2 e4 ra nm fz qb qc ⊢
  clear x0 x1 x2 x3 C1 c2 c4 r0 r1 r2 r3
  go_quiet (fail)
  generalize hw3 : World.drewN w2 _ = w3
  have C3 : Hid (Core w3 L k J vW ts mem st) := by rw [← hw3]; exact C2.out.drewN _
  have F3 : Hid (∀ B, Fr B [L.gT, L.gM] w w3) := by rw [← hw3]; exact fun B => (F2.out B).drewN _
  have z1 : w3.cell? ⟨w.heap.size, 1, none⟩ = some (.int .i64 a) := by rw [← hw3]; exact y1
  clear y0 y1 y2 y3 C2 F2 Q e2 e4 ra nm fz qb qc hw3 w2
  obtain ⟨-, -, e2, -, e4, -⟩ := C3.out.cells
  have ra := C3.out.cellR H4.out Ht.out ha
  have fz := C3.out.rT.frozenAt (t * 6 + 1 + a)
  go_wp2_with fail
  go_region
  go_wp2
  go_ret2
  refine ⟨?_, ?_, fun B => ((F3.out B).drew).set (by simp) _⟩
  · rw [Hm.out]; rfl
  · rw [Hm.out]
    exact C3.out.drew.setR H4.out Ht.out ha _

end Go.Proofs.YtbhbacphiinpeaaGreat

