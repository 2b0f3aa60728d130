/- Mq: joined. -/
import Derived.Test.YtbhbacphiinpeaaGreatZ18

/- What 'instr' and 'join' of package loom answer. -/
namespace Go.Proofs.YtbhbacphiinpeaaGreat
open Go.RowKit

def pM (L : XM) : Value := .pointer (some ⟨L.bX, 0, none⟩)

theorem MX.ins {w : World} {L : XM} {k : List Ins} {J : List Int} {x : QM} (h : MX w L k J x) {pc : Nat} {ins : Ins} (hx : k[pc]? = some ins) :
    w.cell? ⟨L.gK, pc * 4, none⟩ = some (.int .i64 ins.o) ∧ w.cell? ⟨L.gK, pc * 4 + 1, none⟩ = some (.int .i64 ins.a) ∧ w.cell? ⟨L.gK, pc * 4 + 2, none⟩ = some (.int .i64 ins.b) ∧ w.cell? ⟨L.gK, pc * 4 + 3, none⟩ = some (.int .i64 ins.c) := by
  have hpl := (List.getElem?_eq_some_iff.1 hx).1
  have hn := h.n
  have hr : w.ownsRow 0 92 4 (.slice (some ⟨L.gK, 0, none⟩) L.n L.cK) L.n (flat k) := h.rK
  obtain ⟨f0, f1, f2, f3⟩ := flat_at hx
  exact ⟨(hr.cellAt (pc * 4) (by omega)).trans f0, (hr.cellAt (pc * 4 + 1) (by omega)).trans f1, (hr.cellAt (pc * 4 + 2) (by omega)).trans f2, (hr.cellAt (pc * 4 + 3) (by omega)).trans f3⟩

theorem box4_set {w : World} {B : Nat} {x y z u : Value} {t : TypeId} (h : w.heap[B]? = some (.cells #[x, y, z, u] t)) (a b c d : Value) : ((((w.setCell ⟨B, 0, none⟩ a).setCell ⟨B, 1, none⟩ b).setCell ⟨B, 2, none⟩ c).setCell ⟨B, 3, none⟩ d).heap[B]? = some (.cells #[a, b, c, d] t) := by
  have h1 := heap_setCell_same w B 0 _ t a h
  have h2 := heap_setCell_same _ B 1 _ t b h1
  have h3 := heap_setCell_same _ B 2 _ t c h2
  have h4 := heap_setCell_same _ B 3 _ t d h3
  rw [h4]; rfl

set_option maxHeartbeats 400000 in
theorem instr_any {w : World} {L : XM} {k : List Ins} {J : List Int} {x : QM} (h : MX w L k J x) {pc : Nat} {ins : Ins} (hx : k[pc]? = some ins) :
    Calls Tryz.prog 88 #[pM L, .int .i64 pc] w fun e w' => e = .returned (.agg #[.int .i64 ins.o, .int .i64 ins.a, .int .i64 ins.b, .int .i64 ins.c]) ∧ Below w.heap.size w w' := by
  have hpl := (List.getElem?_eq_some_iff.1 hx).1
  have h1 := h.alloc (.cells #[.int .i64 0, .int .i64 0, .int .i64 0, .int .i64 0] 92)
  obtain ⟨c0, -, -, -, -⟩ := h1.head
  obtain ⟨i0, i1, i2, i3⟩ := h1.ins hx
  unfold XM.vL at c0
  rw [h.n] at c0
  have p1 : (0 : Int) ≤ (pc : Int) := by omega
  have p2 : (pc : Int) < (k.length : Int) := by omega
  have hd : decide (k.length ≤ pc) = false := by simp; omega
  have hB : Hid (Below w.heap.size w (w.alloc (.cells #[.int .i64 0, .int .i64 0, .int .i64 0, .int .i64 0] 92))) := (Below.refl _ _).alloc (Nat.le_refl _) _
  have X1 := hyd (heap_alloc_new w (.cells #[.int .i64 0, .int .i64 0, .int .i64 0, .int .i64 0] 92))
  clear h h1 hx
  unfold pM
  go_enter Tryz.func88, Tryz.ntmps88
  go_wp2_with fail
  obtain ⟨y0, y1, y2, y3⟩ := box4 (heap_alloc_new w (.cells #[.int .i64 ins.o, .int .i64 ins.a, .int .i64 ins.b, .int .i64 ins.c] 92))
  (try simp only [Exit.inBlock, Exit.then])
  refine bodyPost_ret (by simp [results, Tryz.results88, go_sem, y0, y1, y2, y3]; try rfl) rfl ?_
  exact ⟨rfl, (Below.refl _ _).alloc (Nat.le_refl _) _⟩

theorem MX.joinAt {w : World} {L : XM} {k : List Ins} {J : List Int} {x : QM} (h : MX w L k J x) {pc : Nat} {j : Int} (hx : J[pc]? = some j) (hJ : J.length = k.length) : w.cell? ⟨L.gJ, pc, none⟩ = some (.int .i64 j) := by
  have hpl := (List.getElem?_eq_some_iff.1 hx).1
  have hn := h.n
  have hr : w.ownsRow 0 3 1 (.slice (some ⟨L.gJ, 0, none⟩) L.n L.cJ) L.n (zVals J) := h.rJ
  exact (hr.cellAt pc (by omega)).trans (zVals_at hx)

set_option maxHeartbeats 400000 in
theorem mjoin_any {w : World} {L : XM} {k : List Ins} {J : List Int} {x : QM} (h : MX w L k J x) {pc : Nat} {j : Int} (hx : J[pc]? = some j) (hJ : J.length = k.length) :
    Calls Tryz.prog 92 #[pM L, .int .i64 pc] w fun e w' => e = .returned (.int .i64 j) ∧ Below w.heap.size w w' := by
  have hpl := (List.getElem?_eq_some_iff.1 hx).1
  obtain ⟨-, c1, -, -, -⟩ := h.head
  have i0 := h.joinAt hx hJ
  unfold XM.vJ at c1
  rw [h.n] at c1
  have p1 : (0 : Int) ≤ (pc : Int) := by omega
  have p2 : (pc : Int) < (k.length : Int) := by omega
  have hd : decide (k.length ≤ pc) = false := by simp; omega
  clear h hx
  unfold pM
  go_enter Tryz.func92, Tryz.ntmps92
  go_wp2_with fail
  go_ret
  exact ⟨rfl, Below.refl _ _⟩

end Go.Proofs.YtbhbacphiinpeaaGreat

