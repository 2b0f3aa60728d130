/- Rq Ma Mb Fz Md Me: joined. -/
import Derived.Test.YtbhbacphiinpeaaGreatZ11
import Derived.Test.YtbhbacphiinpeaaGreatZ14
import Derived.Test.YtbhbacphiinpeaaGreatRows
import Derived.Test.YtbhbacphiinpeaaGreatZ01
import Derived.WalkKit
import Derived.WalkSpells
import Derived.WalkLawsBesides
import Derived.BigGuardPart
import Derived.Test.YtbhbacphiinpeaaGreatZ13

/- The machine through new blocks and stores: facts on memory. -/
namespace Go.Proofs.YtbhbacphiinpeaaGreat
open Go.RowKit

theorem owns_same {w w' : World} {base : Nat} {e : TypeId} {size : Nat} {v : Value} {n : Nat} {xs : List Value} (h : w.ownsRow base e size v n xs) (hk : ∀ g, v.ownBlock = some g → w'.heap[g]? = w.heap[g]?) : w'.ownsRow base e size v n xs := by
  refine ⟨h.1, ?_⟩
  rcases h.2 with h0 | ⟨g, cap, cur, hv, hb, hg, r⟩
  · exact .inl h0
  · exact .inr ⟨g, cap, cur, hv, hb, (hk g (by rw [hv]; rfl)).trans hg, r⟩

theorem owns_blk {w : World} {base : Nat} {e : TypeId} {size : Nat} {g n c : Nat} {xs : List Value} (h : w.ownsRow base e size (.slice (some ⟨g, 0, none⟩) n c) n xs) : ∃ cur, w.heap[g]? = some (.cells cur e) := by
  rcases h.2 with ⟨h0, -⟩ | ⟨g', cap, cur, hv, -, hg, -⟩
  · cases h0
  · cases hv; exact ⟨cur, hg⟩

theorem Core.keep {w w' : World} {L : RM} {k : List Ins} {J : List Int} {vW : Value} {ts : List Thr} {mem : List Int} {st : Int} (h : Core w L k J vW ts mem st)
    (hk : ∀ g, (g = L.bM ∨ g = L.gK ∨ g = L.gJ ∨ g = L.gT ∨ g = L.gM) → w'.heap[g]? = w.heap[g]?) : Core w' L k J vW ts mem st := by
  have hh : ∀ (x n c : Nat), (x = L.bM ∨ x = L.gK ∨ x = L.gJ ∨ x = L.gT ∨ x = L.gM) → ∀ g, (Value.slice (some ⟨x, 0, none⟩) n c).ownBlock = some g → w'.heap[g]? = w.heap[g]? := fun x n c hx g hg => by
    simp only [Value.ownBlock, Option.some.injEq] at hg
    subst hg
    exact hk x hx
  exact ⟨(hk _ (.inl rfl)).trans h.blk, owns_same h.rK (hh _ _ _ (by simp)), owns_same h.rJ (hh _ _ _ (by simp)), owns_same h.rT (hh _ _ _ (by simp)), owns_same h.rM (hh _ _ _ (by simp)), h.ne⟩

theorem Core.lt {w : World} {L : RM} {k : List Ins} {J : List Int} {vW : Value} {ts : List Thr} {mem : List Int} {st : Int} (h : Core w L k J vW ts mem st) {g : Nat} (hg : g = L.bM ∨ g = L.gK ∨ g = L.gJ ∨ g = L.gT ∨ g = L.gM) : g < w.heap.size := by
  rcases hg with rfl | rfl | rfl | rfl | rfl
  · exact blk_lt h.blk
  · exact (h.rK.lt _ rfl).2
  · exact (h.rJ.lt _ rfl).2
  · exact (h.rT.lt _ rfl).2
  · exact (h.rM.lt _ rfl).2

theorem Core.alloc {w : World} {L : RM} {k : List Ins} {J : List Int} {vW : Value} {ts : List Thr} {mem : List Int} {st : Int} (h : Core w L k J vW ts mem st) (o : Obj) : Core (w.alloc o) L k J vW ts mem st :=
  h.keep fun _ hg => Below.heap_alloc _ _ _ (h.lt hg)
theorem Core.drew {w : World} {L : RM} {k : List Ins} {J : List Int} {vW : Value} {ts : List Thr} {mem : List Int} {st : Int} (h : Core w L k J vW ts mem st) : Core w.drew L k J vW ts mem st :=
  h.keep fun _ _ => rfl
theorem Core.up {w w' : World} {L : RM} {k : List Ins} {J : List Int} {vW : Value} {ts : List Thr} {mem : List Int} {st : Int} (h : Core w L k J vW ts mem st) (hb : Below w.heap.size w w') : Core w' L k J vW ts mem st :=
  h.keep fun g hg => hb.block g (h.lt hg)

/-- The machine's blocks are of different kinds, or known to be apart. -/
theorem Core.apart {w : World} {L : RM} {k : List Ins} {J : List Int} {vW : Value} {ts : List Thr} {mem : List Int} {st : Int} (h : Core w L k J vW ts mem st) :
    (L.bM ≠ L.gT ∧ L.gK ≠ L.gT ∧ L.gJ ≠ L.gT ∧ L.gM ≠ L.gT) ∧ (L.bM ≠ L.gM ∧ L.gK ≠ L.gM ∧ L.gJ ≠ L.gM) ∧ (L.gK ≠ L.bM ∧ L.gJ ≠ L.bM) := by
  obtain ⟨cK, hK⟩ := owns_blk h.rK
  obtain ⟨cJ, hJ⟩ := owns_blk h.rJ
  obtain ⟨cT, hT⟩ := owns_blk h.rT
  obtain ⟨cM, hM⟩ := owns_blk h.rM
  have hB := h.blk
  have gen : ∀ {a b : Nat} {ca cb : Array Value} {ta tb : TypeId}, w.heap[a]? = some (.cells ca ta) → w.heap[b]? = some (.cells cb tb) → ta ≠ tb → a ≠ b := fun {a b ca cb ta tb} h1 h2 hne e => by
    subst e
    rw [h1] at h2
    simp only [Option.some.injEq, Obj.cells.injEq] at h2
    exact hne h2.2.1
  exact ⟨⟨gen hB hT (by decide), gen hK hT (by decide), gen hJ hT (by decide), gen hM hT (by decide)⟩, ⟨gen hB hM (by decide), gen hK hM (by decide), h.ne⟩, gen hK hB (by decide), gen hJ hB (by decide)⟩

theorem owns_set1 {w : World} {base : Nat} {e : TypeId} {size : Nat} {x n c : Nat} {xs : List Value} (h : w.ownsRow base e size (.slice (some ⟨x, 0, none⟩) n c) n xs) {a : Addr} (ha : x ≠ a.block) (u : Value) : (w.setCell a u).ownsRow base e size (.slice (some ⟨x, 0, none⟩) n c) n xs :=
  owns_setCell h (fun g hg => by simp only [Value.ownBlock, Option.some.injEq] at hg; subst hg; exact ha) u

/-- A cell of a thread is stored. -/
theorem Core.setT {w : World} {L : RM} {k : List Ins} {J : List Int} {vW : Value} {ts : List Thr} {mem : List Int} {st : Int} (h : Core w L k J vW ts mem st) (h4 : Reg4 ts) {t j : Nat} {th th' : Thr} {v : Value} (ht : ts[t]? = some th) (hj : j < 6) (h' : th.vals.set j v = th'.vals) :
    Core (w.setCell ⟨L.gT, t * 6 + j, none⟩ v) L k J vW (ts.set t th') mem st := by
  obtain ⟨⟨a1, a2, a3, a4⟩, -, -⟩ := h.apart
  refine ⟨?_, owns_set1 h.rK a2 _, owns_set1 h.rJ a3 _, ?_, owns_set1 h.rM a4 _, h.ne⟩
  · rw [Below.heap_setCell _ _ _ _ a1, List.length_set]; exact h.blk
  · have := (h.rT.stored (t * 6 + j) v).1
    rw [flatT_set h4 ht hj h'] at this
    rw [List.length_set]
    exact this

/-- A register is stored. -/
theorem Core.setR {w : World} {L : RM} {k : List Ins} {J : List Int} {vW : Value} {ts : List Thr} {mem : List Int} {st : Int} (h : Core w L k J vW ts mem st) (h4 : Reg4 ts) {t a : Nat} {th : Thr} (ht : ts[t]? = some th) (ha : a < 4) (v : Int) :
    Core (w.setCell ⟨L.gT, t * 6 + 1 + a, none⟩ (.int .i64 v)) L k J vW (ts.set t (th.put a v)) mem st := by
  rw [Nat.add_assoc]
  refine h.setT h4 ht (by omega) ?_
  have e := vals_put (h4 th (List.mem_of_getElem? ht)) (a := (a : Int)) (by omega) (by omega) v
  simpa using e

/-- A word is stored. -/
theorem Core.setM {w : World} {L : RM} {k : List Ins} {J : List Int} {vW : Value} {ts : List Thr} {mem : List Int} {st : Int} (h : Core w L k J vW ts mem st) (i : Nat) (v : Int) : Core (w.setCell ⟨L.gM, i, none⟩ (.int .i64 v)) L k J vW ts (mem.set i v) st := by
  obtain ⟨⟨a1, a2, a3, a4⟩, ⟨b1, b2, b3⟩, -⟩ := h.apart
  refine ⟨?_, owns_set1 h.rK b2 _, owns_set1 h.rJ b3 _, owns_set1 h.rT (fun e => a4 e.symm) _, ?_, h.ne⟩
  · rw [Below.heap_setCell _ _ _ _ b1, List.length_set]; exact h.blk
  · have := (h.rM.stored i (.int .i64 v)).1
    have e : (zVals mem).set i (.int .i64 v) = zVals (mem.set i v) := by simp [zVals, List.map_set]
    rw [e] at this
    rw [List.length_set]
    exact this

/-- The state is stored. -/
theorem Core.setS {w : World} {L : RM} {k : List Ins} {J : List Int} {vW : Value} {ts : List Thr} {mem : List Int} {st : Int} (h : Core w L k J vW ts mem st) (v : Int) : Core (w.setCell ⟨L.bM, 5, none⟩ (.int .i64 v)) L k J vW ts mem v := by
  obtain ⟨⟨a1, a2, a3, a4⟩, ⟨b1, b2, b3⟩, c1, c2⟩ := h.apart
  refine ⟨?_, owns_set1 h.rK c1 _, owns_set1 h.rJ c2 _, owns_set1 h.rT (fun e => a1 e.symm) _, owns_set1 h.rM (fun e => b1 e.symm) _, h.ne⟩
  rw [heap_setCell_same w L.bM 5 _ 85 _ h.blk]; rfl

/-- The cells of the machine's own block. -/
theorem Core.cells {w : World} {L : RM} {k : List Ins} {J : List Int} {vW : Value} {ts : List Thr} {mem : List Int} {st : Int} (h : Core w L k J vW ts mem st) :
    w.cell? ⟨L.bM, 0, none⟩ = some (.slice (some ⟨L.gK, 0, none⟩) k.length L.cK) ∧ w.cell? ⟨L.bM, 1, none⟩ = some (.slice (some ⟨L.gJ, 0, none⟩) k.length L.cJ) ∧ w.cell? ⟨L.bM, 2, none⟩ = some (.slice (some ⟨L.gT, 0, none⟩) ts.length L.cT) ∧ w.cell? ⟨L.bM, 3, none⟩ = some vW ∧
    w.cell? ⟨L.bM, 4, none⟩ = some (.slice (some ⟨L.gM, 0, none⟩) mem.length L.cM) ∧ w.cell? ⟨L.bM, 5, none⟩ = some (.int .i64 st) := by
  have hb := h.blk
  refine ⟨?_, ?_, ?_, ?_, ?_, ?_⟩ <;> (rw [cell_of_row w L.bM _ _ 85 _ hb]; rfl)

theorem Core.cellT {w : World} {L : RM} {k : List Ins} {J : List Int} {vW : Value} {ts : List Thr} {mem : List Int} {st : Int} (h : Core w L k J vW ts mem st) (h4 : Reg4 ts) {t j : Nat} {th : Thr} (ht : ts[t]? = some th) (hj : j < 6) :
    w.cell? ⟨L.gT, t * 6 + j, none⟩ = th.vals[j]? := by
  have hlt := (List.getElem?_eq_some_iff.1 ht).1
  exact (h.rT.cellAt (t * 6 + j) (by omega)).trans (flatT_at h4 ht hj)
theorem Core.cellR {w : World} {L : RM} {k : List Ins} {J : List Int} {vW : Value} {ts : List Thr} {mem : List Int} {st : Int} (h : Core w L k J vW ts mem st) (h4 : Reg4 ts) {t b : Nat} {th : Thr} (ht : ts[t]? = some th) (hb : b < 4) :
    w.cell? ⟨L.gT, t * 6 + 1 + b, none⟩ = some (.int .i64 (th.get b)) := by
  have := h.cellT h4 ht (j := 1 + b) (by omega)
  rw [← Nat.add_assoc] at this
  rw [this]
  have e := vals_reg (h4 th (List.mem_of_getElem? ht)) (a := (b : Int)) (by omega) (by omega)
  simpa using e
theorem Core.cellM {w : World} {L : RM} {k : List Ins} {J : List Int} {vW : Value} {ts : List Thr} {mem : List Int} {st : Int} (h : Core w L k J vW ts mem st) {i : Nat} (hi : i < mem.length) :
    w.cell? ⟨L.gM, i, none⟩ = some (.int .i64 (mem.getD i 0)) := by
  refine (h.rM.cellAt i (by omega)).trans (zVals_at ?_)
  rw [List.getD_eq_getElem?_getD, List.getElem?_eq_getElem hi]; rfl

theorem Core.drewN {w : World} {L : RM} {k : List Ins} {J : List Int} {vW : Value} {ts : List Thr} {mem : List Int} {st : Int} (h : Core w L k J vW ts mem st) (n : Nat) : Core (w.drewN n) L k J vW ts mem st :=
  h.keep fun _ _ => rfl
theorem Fr.drewN {B : Nat} {X : List Nat} {w w' : World} (h : Fr B X w w') (n : Nat) : Fr B X w (w'.drewN n) := ⟨h.os, h.tape, h.output, h.size, h.block⟩

end Go.Proofs.YtbhbacphiinpeaaGreat

/- How the program's machine lies in memory: facts on memory. -/
namespace Go.Proofs.YtbhbacphiinpeaaGreat
open Go.RowKit

theorem flatMap_len {α β : Type} {f : α → List β} {c : Nat} : ∀ {l : List α}, (∀ x ∈ l, (f x).length = c) → (l.flatMap f).length = l.length * c
  | [], _ => by simp
  | x :: l, h => by
    rw [List.flatMap_cons, List.length_append, flatMap_len (l := l) fun y hy => h y (by simp [hy]), h x (by simp), List.length_cons, Nat.succ_mul]; omega

theorem flatMap_at {α β : Type} {f : α → List β} {c : Nat} : ∀ {l : List α} {i j : Nat} {x : α}, (∀ x ∈ l, (f x).length = c) → l[i]? = some x → j < c → (l.flatMap f)[i * c + j]? = (f x)[j]?
  | [], i, j, x, _, hx, _ => by simp at hx
  | y :: l, 0, j, x, h, hx, hj => by
    simp only [List.getElem?_cons_zero, Option.some.injEq] at hx
    subst hx
    rw [List.flatMap_cons, Nat.zero_mul, Nat.zero_add, List.getElem?_append_left (by rw [h y (by simp)]; exact hj)]
  | y :: l, i + 1, j, x, h, hx, hj => by
    simp only [List.getElem?_cons_succ] at hx
    have hy := h y (by simp)
    have e : (i + 1) * c + j - c = i * c + j := by rw [Nat.succ_mul]; omega
    rw [List.flatMap_cons, List.getElem?_append_right (by rw [hy, Nat.succ_mul]; omega), hy, e]
    exact flatMap_at (fun z hz => h z (by simp [hz])) hx hj

theorem flatMap_set {α β : Type} {f : α → List β} {c : Nat} {v : β} : ∀ {l : List α} {i j : Nat} {x x' : α}, (∀ x ∈ l, (f x).length = c) → l[i]? = some x → j < c → (f x).set j v = f x' → (l.flatMap f).set (i * c + j) v = (l.set i x').flatMap f
  | [], i, j, x, x', _, hx, _, _ => by simp at hx
  | y :: l, 0, j, x, x', h, hx, hj, e => by
    simp only [List.getElem?_cons_zero, Option.some.injEq] at hx
    subst hx
    rw [List.flatMap_cons, Nat.zero_mul, Nat.zero_add, List.set_append_left _ _ (by rw [h y (by simp)]; exact hj), e]
    rfl
  | y :: l, i + 1, j, x, x', h, hx, hj, e => by
    simp only [List.getElem?_cons_succ] at hx
    have hy := h y (by simp)
    have e' : (i + 1) * c + j - c = i * c + j := by rw [Nat.succ_mul]; omega
    rw [List.flatMap_cons, List.set_append_right _ _ (by rw [hy, Nat.succ_mul]; omega), hy, e', flatMap_set (fun z hz => h z (by simp [hz])) hx hj e]
    rfl

def Spl.vals (s : Spl) : List Value := [.int .i64 s.group, .int .i64 s.to, .int .i64 s.later, .int .i64 s.next, .int .i64 s.join]
def Wq.vals (q : Wq) : List Value := [.int .i64 q.group, .int .i64 q.pc, .int .i64 q.to, .int .i64 q.done, .bool q.waits, .int .i64 q.opn] ++ q.sp.flatMap Spl.vals
def headV (vL vJ : Value) (x : QM) : List Value := [vL, vJ, .int .i64 x.n, .int .i64 x.st, .int .i64 x.first]
def flatQ (vL vJ : Value) (x : QM) : List Value := headV vL vJ x ++ (zVals x.rg ++ (.int .i64 x.cnt :: (zVals x.wd ++ x.qs.flatMap Wq.vals)))

structure Shp (x : QM) : Prop where
  rl : x.rg.length = 64
  wl : x.wd.length = 32
  ql : x.qs.length = 4
  sl : ∀ q ∈ x.qs, q.sp.length = 3

theorem spl_len (s : Spl) : s.vals.length = 5 := rfl
theorem wq_len {q : Wq} (h : q.sp.length = 3) : q.vals.length = 21 := by
  unfold Wq.vals
  rw [List.length_append, flatMap_len (c := 5) fun x _ => spl_len x, h]; rfl
theorem qs_len {x : QM} (h : Shp x) : ∀ q ∈ x.qs, q.vals.length = 21 := fun q hq => wq_len (h.sl q hq)
theorem zl (l : List Int) : (zVals l).length = l.length := by simp [zVals]

theorem flat_head (vL vJ : Value) (x : QM) {j : Nat} (hj : j < 5) : (flatQ vL vJ x)[j]? = (headV vL vJ x)[j]? := by
  unfold flatQ
  rw [List.getElem?_append_left (by simpa [headV] using hj)]
theorem flat_rg {vL vJ : Value} {x : QM} (h : Shp x) {i : Nat} (hi : i < 64) : (flatQ vL vJ x)[5 + i]? = some (.int .i64 (x.rg.getD i 0)) := by
  unfold flatQ
  rw [List.getElem?_append_right (by simp [headV]), show 5 + i - (headV vL vJ x).length = i by simp [headV], List.getElem?_append_left (by rw [zl, h.rl]; exact hi)]
  refine zVals_at ?_
  rw [List.getD_eq_getElem?_getD, List.getElem?_eq_getElem (by rw [h.rl]; exact hi)]; rfl
theorem flat_cnt {vL vJ : Value} {x : QM} (h : Shp x) : (flatQ vL vJ x)[69]? = some (.int .i64 x.cnt) := by
  unfold flatQ
  rw [List.getElem?_append_right (by simp [headV]), show 69 - (headV vL vJ x).length = 64 by simp [headV], List.getElem?_append_right (by rw [zl, h.rl]; omega), zl, h.rl]
  rfl
theorem flat_wd {vL vJ : Value} {x : QM} (h : Shp x) {i : Nat} (hi : i < 32) : (flatQ vL vJ x)[70 + i]? = some (.int .i64 (x.wd.getD i 0)) := by
  unfold flatQ
  rw [List.getElem?_append_right (by simp [headV]; omega), show 70 + i - (headV vL vJ x).length = 65 + i by simp [headV]; omega, List.getElem?_append_right (by rw [zl, h.rl]; omega), zl, h.rl, show 65 + i - 64 = i + 1 by omega, List.getElem?_cons_succ, List.getElem?_append_left (by rw [zl, h.wl]; exact hi)]
  refine zVals_at ?_
  rw [List.getD_eq_getElem?_getD, List.getElem?_eq_getElem (by rw [h.wl]; exact hi)]; rfl
theorem flat_qs {vL vJ : Value} {x : QM} (h : Shp x) {i j : Nat} {q : Wq} (hq : x.qs[i]? = some q) (hj : j < 21) : (flatQ vL vJ x)[102 + i * 21 + j]? = q.vals[j]? := by
  unfold flatQ
  rw [List.getElem?_append_right (by simp [headV]; omega), show 102 + i * 21 + j - (headV vL vJ x).length = 97 + i * 21 + j by simp [headV]; omega, List.getElem?_append_right (by rw [zl, h.rl]; omega), zl, h.rl, show 97 + i * 21 + j - 64 = (32 + (i * 21 + j)) + 1 by omega, List.getElem?_cons_succ, List.getElem?_append_right (by rw [zl, h.wl]; omega), zl, h.wl, show 32 + (i * 21 + j) - 32 = i * 21 + j by omega]
  exact flatMap_at (qs_len h) hq hj

theorem flat_setSt {vL vJ : Value} {x : QM} (v : Int) : (flatQ vL vJ x).set 3 (.int .i64 v) = flatQ vL vJ { x with st := v } := rfl
theorem flat_setRg {vL vJ : Value} {x : QM} (h : Shp x) {i : Nat} (hi : i < 64) (v : Int) : (flatQ vL vJ x).set (5 + i) (.int .i64 v) = flatQ vL vJ { x with rg := x.rg.set i v } := by
  unfold flatQ
  rw [List.set_append_right _ _ (by simp [headV]), show 5 + i - (headV vL vJ x).length = i by simp [headV], List.set_append_left _ _ (by rw [zl, h.rl]; exact hi), show (zVals x.rg).set i (.int .i64 v) = zVals (x.rg.set i v) by simp [zVals, List.map_set]]
  rfl
theorem flat_setWd {vL vJ : Value} {x : QM} (h : Shp x) {i : Nat} (hi : i < 32) (v : Int) : (flatQ vL vJ x).set (70 + i) (.int .i64 v) = flatQ vL vJ { x with wd := x.wd.set i v } := by
  unfold flatQ
  rw [List.set_append_right _ _ (by simp [headV]; omega), show 70 + i - (headV vL vJ x).length = 65 + i by simp [headV]; omega, List.set_append_right _ _ (by rw [zl, h.rl]; omega), zl, h.rl, show 65 + i - 64 = i + 1 by omega, List.set_cons_succ, List.set_append_left _ _ (by rw [zl, h.wl]; exact hi), show (zVals x.wd).set i (.int .i64 v) = zVals (x.wd.set i v) by simp [zVals, List.map_set]]
  rfl
theorem flat_setQ {vL vJ : Value} {x : QM} (h : Shp x) {i j : Nat} {q q' : Wq} {v : Value} (hq : x.qs[i]? = some q) (hj : j < 21) (e : q.vals.set j v = q'.vals) : (flatQ vL vJ x).set (102 + i * 21 + j) v = flatQ vL vJ { x with qs := x.qs.set i q' } := by
  unfold flatQ
  rw [List.set_append_right _ _ (by simp [headV]; omega), show 102 + i * 21 + j - (headV vL vJ x).length = 97 + i * 21 + j by simp [headV]; omega, List.set_append_right _ _ (by rw [zl, h.rl]; omega), zl, h.rl, show 97 + i * 21 + j - 64 = (32 + (i * 21 + j)) + 1 by omega, List.set_cons_succ, List.set_append_right _ _ (by rw [zl, h.wl]; omega), zl, h.wl, show 32 + (i * 21 + j) - 32 = i * 21 + j by omega, flatMap_set (qs_len h) hq hj e]
  rfl

/-- Where the program's machine lies. -/
structure XM where
  bX : Nat
  gK : Nat
  cK : Nat
  gJ : Nat
  cJ : Nat
  n : Nat

def XM.vL (L : XM) : Value := .slice (some ⟨L.gK, 0, none⟩) L.n L.cK
def XM.vJ (L : XM) : Value := .slice (some ⟨L.gJ, 0, none⟩) L.n L.cJ

structure MX (w : World) (L : XM) (k : List Ins) (J : List Int) (x : QM) : Prop where
  blk : w.heap[L.bX]? = some (.cells (flatQ L.vL L.vJ x).toArray 112)
  rK : w.ownsRow 0 92 4 L.vL L.n (flat k)
  rJ : w.ownsRow 0 3 1 L.vJ L.n (zVals J)
  n : L.n = k.length
  shp : Shp x

theorem MX.keep {w w' : World} {L : XM} {k : List Ins} {J : List Int} {x : QM} (h : MX w L k J x) (hk : ∀ g, (g = L.bX ∨ g = L.gK ∨ g = L.gJ) → w'.heap[g]? = w.heap[g]?) : MX w' L k J x := by
  have hh : ∀ (y n c : Nat), (y = L.bX ∨ y = L.gK ∨ y = L.gJ) → ∀ g, (Value.slice (some ⟨y, 0, none⟩) n c).ownBlock = some g → w'.heap[g]? = w.heap[g]? := fun y n c hy g hg => by
    simp only [Value.ownBlock, Option.some.injEq] at hg
    subst hg
    exact hk y hy
  exact ⟨(hk _ (.inl rfl)).trans h.blk, owns_same h.rK (hh _ _ _ (by simp)), owns_same h.rJ (hh _ _ _ (by simp)), h.n, h.shp⟩
theorem MX.lt {w : World} {L : XM} {k : List Ins} {J : List Int} {x : QM} (h : MX w L k J x) {g : Nat} (hg : g = L.bX ∨ g = L.gK ∨ g = L.gJ) : g < w.heap.size := by
  rcases hg with rfl | rfl | rfl
  · exact blk_lt h.blk
  · exact (h.rK.lt _ rfl).2
  · exact (h.rJ.lt _ rfl).2
theorem MX.alloc {w : World} {L : XM} {k : List Ins} {J : List Int} {x : QM} (h : MX w L k J x) (o : Obj) : MX (w.alloc o) L k J x := h.keep fun _ hg => Below.heap_alloc _ _ _ (h.lt hg)
theorem MX.drew {w : World} {L : XM} {k : List Ins} {J : List Int} {x : QM} (h : MX w L k J x) : MX w.drew L k J x := h.keep fun _ _ => rfl
theorem MX.drewN {w : World} {L : XM} {k : List Ins} {J : List Int} {x : QM} (h : MX w L k J x) (n : Nat) : MX (w.drewN n) L k J x := h.keep fun _ _ => rfl
theorem MX.up {w w' : World} {L : XM} {k : List Ins} {J : List Int} {x : QM} (h : MX w L k J x) (hb : Below w.heap.size w w') : MX w' L k J x := h.keep fun g hg => hb.block g (h.lt hg)

theorem MX.apart {w : World} {L : XM} {k : List Ins} {J : List Int} {x : QM} (h : MX w L k J x) : L.gK ≠ L.bX ∧ L.gJ ≠ L.bX := by
  obtain ⟨cK, hK⟩ := owns_blk h.rK
  obtain ⟨cJ, hJ⟩ := owns_blk h.rJ
  have hB := h.blk
  refine ⟨fun e => ?_, fun e => ?_⟩
  · rw [e, hB] at hK; simp only [Option.some.injEq, Obj.cells.injEq] at hK; exact absurd hK.2.1 (by decide)
  · rw [e, hB] at hJ; simp only [Option.some.injEq, Obj.cells.injEq] at hJ; exact absurd hJ.2.1 (by decide)

theorem MX.set {w : World} {L : XM} {k : List Ins} {J : List Int} {x x' : QM} (h : MX w L k J x) {i : Nat} {v : Value} (e : (flatQ L.vL L.vJ x).set i v = flatQ L.vL L.vJ x') (hs : Shp x') : MX (w.setCell ⟨L.bX, i, none⟩ v) L k J x' := by
  obtain ⟨a1, a2⟩ := h.apart
  refine ⟨?_, owns_set1 h.rK a1 _, owns_set1 h.rJ a2 _, h.n, hs⟩
  rw [heap_setCell_same w L.bX i _ 112 v h.blk, ← e]
  simp

theorem MX.cell {w : World} {L : XM} {k : List Ins} {J : List Int} {x : QM} (h : MX w L k J x) (i : Nat) : w.cell? ⟨L.bX, i, none⟩ = (flatQ L.vL L.vJ x)[i]? := by
  rw [cell_of_row w L.bX i _ 112 _ h.blk]; simp
theorem MX.frz {w : World} {L : XM} {k : List Ins} {J : List Int} {x : QM} (h : MX w L k J x) (i : Nat) : w.frozen? ⟨L.bX, i, none⟩ = false := frozen_of_row w L.bX i _ 112 h.blk

/-- The register r of the thread t. -/
def rgA (x : QM) (t r : Nat) : Int := x.rg.getD (t * 4 + r) 0
def rgPut (x : QM) (t r : Nat) (v : Int) : QM := { x with rg := x.rg.set (t * 4 + r) v }
def wdPut (x : QM) (i : Nat) (v : Int) : QM := { x with wd := x.wd.set i v }
def qPut (x : QM) (i : Nat) (q : Wq) : QM := { x with qs := x.qs.set i q }

theorem MX.reg {w : World} {L : XM} {k : List Ins} {J : List Int} {x : QM} (h : MX w L k J x) {t r : Nat} (ht : t < 16) (hr : r < 4) : w.cell? ⟨L.bX, 5 + t * 4 + r, none⟩ = some (.int .i64 (rgA x t r)) := by
  rw [h.cell, Nat.add_assoc, flat_rg h.shp (by omega)]; rfl
theorem MX.setReg {w : World} {L : XM} {k : List Ins} {J : List Int} {x : QM} (h : MX w L k J x) {t r : Nat} (ht : t < 16) (hr : r < 4) (v : Int) : MX (w.setCell ⟨L.bX, 5 + t * 4 + r, none⟩ (.int .i64 v)) L k J (rgPut x t r v) := by
  rw [Nat.add_assoc]
  exact h.set (flat_setRg h.shp (by omega) v) ⟨by simp [rgPut, h.shp.rl], h.shp.wl, h.shp.ql, h.shp.sl⟩
theorem MX.word {w : World} {L : XM} {k : List Ins} {J : List Int} {x : QM} (h : MX w L k J x) {i : Nat} (hi : i < 32) : w.cell? ⟨L.bX, 70 + i, none⟩ = some (.int .i64 (x.wd.getD i 0)) := by
  rw [h.cell, flat_wd h.shp hi]
theorem MX.setWord {w : World} {L : XM} {k : List Ins} {J : List Int} {x : QM} (h : MX w L k J x) {i : Nat} (hi : i < 32) (v : Int) : MX (w.setCell ⟨L.bX, 70 + i, none⟩ (.int .i64 v)) L k J (wdPut x i v) :=
  h.set (flat_setWd h.shp hi v) ⟨h.shp.rl, by simp [wdPut, h.shp.wl], h.shp.ql, h.shp.sl⟩
theorem MX.cnt {w : World} {L : XM} {k : List Ins} {J : List Int} {x : QM} (h : MX w L k J x) : w.cell? ⟨L.bX, 69, none⟩ = some (.int .i64 x.cnt) := by rw [h.cell, flat_cnt h.shp]
theorem MX.head {w : World} {L : XM} {k : List Ins} {J : List Int} {x : QM} (h : MX w L k J x) : w.cell? ⟨L.bX, 0, none⟩ = some L.vL ∧ w.cell? ⟨L.bX, 1, none⟩ = some L.vJ ∧ w.cell? ⟨L.bX, 2, none⟩ = some (.int .i64 x.n) ∧ w.cell? ⟨L.bX, 3, none⟩ = some (.int .i64 x.st) ∧ w.cell? ⟨L.bX, 4, none⟩ = some (.int .i64 x.first) := by
  refine ⟨?_, ?_, ?_, ?_, ?_⟩ <;> (rw [h.cell, flat_head _ _ _ (by omega)]; rfl)
theorem MX.setSt {w : World} {L : XM} {k : List Ins} {J : List Int} {x : QM} (h : MX w L k J x) (v : Int) : MX (w.setCell ⟨L.bX, 3, none⟩ (.int .i64 v)) L k J { x with st := v } :=
  h.set (flat_setSt v) ⟨h.shp.rl, h.shp.wl, h.shp.ql, h.shp.sl⟩

/-- The cells of a warp, from o on. -/
theorem MX.warp {w : World} {L : XM} {k : List Ins} {J : List Int} {x : QM} (h : MX w L k J x) {i : Nat} {q : Wq} (hq : x.qs[i]? = some q) {j : Nat} (hj : j < 21) : w.cell? ⟨L.bX, 102 + i * 21 + j, none⟩ = q.vals[j]? := by
  rw [h.cell, flat_qs h.shp hq hj]
theorem MX.setQ {w : World} {L : XM} {k : List Ins} {J : List Int} {x : QM} (h : MX w L k J x) {i : Nat} {q q' : Wq} (hq : x.qs[i]? = some q) {j : Nat} (hj : j < 21) {v : Value} (e : q.vals.set j v = q'.vals) (hs : q'.sp.length = 3) : MX (w.setCell ⟨L.bX, 102 + i * 21 + j, none⟩ v) L k J (qPut x i q') :=
  h.set (flat_setQ h.shp hq hj e) ⟨h.shp.rl, h.shp.wl, by simp [qPut, h.shp.ql], fun y hy => by
    rcases List.mem_or_eq_of_mem_set hy with hy | rfl
    · exact h.shp.sl y hy
    · exact hs⟩

end Go.Proofs.YtbhbacphiinpeaaGreat

/- What the small functions of package cells answer: mayBe, oneIf, compute. -/
namespace Go.Proofs.YtbhbacphiinpeaaGreat
open Go.RowKit

set_option maxHeartbeats 400000 in
theorem cmay_yes (t r : Nat) (ht : t < 16) (hr : r < 4) (w : World) :
    Calls Tryz.prog 110 #[.int .i64 t, .int .i64 r] w fun e w' => e = .returned (.bool true) ∧ w' = w := by
  have t1 : (0 : Int) ≤ (t : Int) := by omega
  have t2 : (t : Int) < 16 := by omega
  have r1 : (0 : Int) ≤ (r : Int) := by omega
  have r2 : (r : Int) < 4 := by omega
  clear ht hr
  go_enter Tryz.func110, Tryz.ntmps110
  go_wp2
  go_ret
  exact ⟨rfl, rfl⟩

set_option maxHeartbeats 400000 in
theorem oneIf_any (b : Bool) (w : World) :
    Calls Tryz.prog 115 #[.bool b] w fun e w' => e = .returned (.int .i64 (if b then 1 else 0)) ∧ w' = w := by
  cases b
  · go_enter Tryz.func115, Tryz.ntmps115
    go_wp2
    go_ret
    exact ⟨rfl, rfl⟩
  · go_enter Tryz.func115, Tryz.ntmps115
    go_wp2
    go_ret
    exact ⟨rfl, rfl⟩

end Go.Proofs.YtbhbacphiinpeaaGreat

/- Sets as numbers, with the operations of the language; plain. -/
namespace Go.Proofs.YtbhbacphiinpeaaGreat
open Go.RowKit

theorem band16 : ∀ a b : Fin 16, _root_.Go.bits .and .i64 (a.1 : Int) (b.1 : Int) = ((a.1 &&& b.1 : Nat) : Int) := by decide
theorem bor16 : ∀ a b : Fin 16, _root_.Go.bits .or .i64 (a.1 : Int) (b.1 : Int) = ((a.1 ||| b.1 : Nat) : Int) := by decide
theorem bnot16 : ∀ a b : Fin 16, _root_.Go.bits .andNot .i64 (a.1 : Int) (b.1 : Int) = ((mns a.1 b.1 : Nat) : Int) := by decide
theorem band {a b : Nat} (ha : a < 16) (hb : b < 16) : _root_.Go.bits .and .i64 (a : Int) (b : Int) = ((a &&& b : Nat) : Int) := band16 ⟨a, ha⟩ ⟨b, hb⟩
theorem bor {a b : Nat} (ha : a < 16) (hb : b < 16) : _root_.Go.bits .or .i64 (a : Int) (b : Int) = ((a ||| b : Nat) : Int) := bor16 ⟨a, ha⟩ ⟨b, hb⟩
theorem bnot {a b : Nat} (ha : a < 16) (hb : b < 16) : _root_.Go.bits .andNot .i64 (a : Int) (b : Int) = ((mns a b : Nat) : Int) := bnot16 ⟨a, ha⟩ ⟨b, hb⟩
theorem bone (a : Nat) (h : a < 4294967296) : _root_.Go.bits .and .i64 (a : Int) 1 = ((a &&& 1 : Nat) : Int) := by
  unfold _root_.Go.bits
  simp only [BitVec.toNat_and, BitVec.toNat_ofInt]
  rw [show ((a : Int) % ((2 ^ IntKind.i64.bits : Nat) : Int)).toNat = a by simp only [IntKind.bits]; omega, show ((1 : Int) % ((2 ^ IntKind.i64.bits : Nat) : Int)).toNat = 1 from rfl]
  have : a &&& 1 ≤ 1 := Nat.and_le_right
  rw [show IntKind.i64.wrap ((a &&& 1 : Nat) : Int) = ((a &&& 1 : Nat) : Int) by
    rcases (by omega : a &&& 1 = 0 ∨ a &&& 1 = 1) with e | e <;> rw [e] <;> rfl]
theorem bone' (a : Nat) (h : a < 4294967296) : _root_.Go.bits .and .i64 (a : Int) 1 = ((a % 2 : Nat) : Int) := by rw [bone a h, Nat.and_one_is_mod]
theorem wrap_nat {n : Nat} (h : n < 4294967296) : IntKind.i64.wrap (n : Int) = (n : Int) := by
  rw [IntWalk.i64_left]; unfold wrap64; omega
theorem bor_big {a b : Nat} (ha : a < 4294967296) (hb : b < 4294967296) : _root_.Go.bits .or .i64 (a : Int) (b : Int) = ((a ||| b : Nat) : Int) := by
  unfold _root_.Go.bits
  simp only [BitVec.toNat_or, BitVec.toNat_ofInt]
  rw [show ((a : Int) % ((2 ^ IntKind.i64.bits : Nat) : Int)).toNat = a by simp only [IntKind.bits]; omega, show ((b : Int) % ((2 ^ IntKind.i64.bits : Nat) : Int)).toNat = b by simp only [IntKind.bits]; omega]
  exact wrap_nat (Nat.or_lt_two_pow (n := 32) ha hb)
theorem shr16 : ∀ a : Fin 16, ∀ l : Fin 4, (a.1 / 2 ^ l.1) % 2 = if a.1.testBit l.1 then 1 else 0 := by decide
theorem bit_at {m l : Nat} (hm : m < 16) (hl : l < 4) : _root_.Go.bits .and .i64 ((m : Int) / 2 ^ l) 1 = if m.testBit l then 1 else 0 := by
  have e : ((m : Int) / 2 ^ l) = ((m / 2 ^ l : Nat) : Int) := by simp
  have hlt : m / 2 ^ l < 4294967296 := Nat.lt_of_le_of_lt (Nat.div_le_self _ _) (by omega)
  rw [e, bone' _ hlt, shr16 ⟨m, hm⟩ ⟨l, hl⟩]
  cases m.testBit l <;> rfl
theorem bit_yes {m l : Nat} (hm : m < 16) (hl : l < 4) (h : m.testBit l = true) : _root_.Go.bits .and .i64 ((m : Int) / 2 ^ l) 1 = 1 := by rw [bit_at hm hl, h]; rfl
theorem bit_no {m l : Nat} (hm : m < 16) (hl : l < 4) (h : m.testBit l = false) : _root_.Go.bits .and .i64 ((m : Int) / 2 ^ l) 1 = 0 := by rw [bit_at hm hl, h]; rfl
end Go.Proofs.YtbhbacphiinpeaaGreat

/- What 'sizeOf' answers. -/
namespace Go.Proofs.YtbhbacphiinpeaaGreat
open Go.RowKit

def popB (s : Nat) : Nat := ((List.range 8).filter fun l => s.testBit l).length
theorem popB_fin : ∀ s : Fin 256, popB s.1 = s.1 % 2 + popB (s.1 / 2) := by set_option maxRecDepth 10000 in decide
theorem popB_step {s : Nat} (h : s < 256) : popB s = s % 2 + popB (s / 2) := popB_fin ⟨s, h⟩
theorem popB_le (s : Nat) : popB s ≤ 8 := by unfold popB; exact Nat.le_trans (List.length_filter_le _ _) (by simp)

set_option maxHeartbeats 400000 in
theorem sizeOf_any (s : Nat) (hs : s < 256) (w : World) :
    Calls Tryz.prog 107 #[.int .i64 s] w fun e w' => e = .returned (.int .i64 (popB s)) ∧ Below w.heap.size w w' := by
  go_enter Tryz.func107, Tryz.ntmps107
  go_wp2_with fail
  go_loopw [0, 3] (fun sv zv wr => ∃ (a z : Nat), a < 256 ∧ sv = .int .i64 a ∧ zv = .int .i64 z ∧ Hid (z + popB a = popB s) ∧ Below w.heap.size w wr) (fun sv _ _ => (intOf sv).toNat)
  case atStart => exact ⟨s, 0, hs, rfl, rfl, by unfold Hid; omega, Below.refl _ _⟩
  case round =>
    obtain ⟨a, z, ha, rfl, rfl, hz, hb⟩ := hrel
    have hz8 : z ≤ 8 := by have := hz.out; have := popB_le s; omega
    by_cases h0 : 0 < a
    · have g0 : (0 : Int) < (a : Int) := by omega
      have gb := bone' a (by omega)
      have HS := hyd (popB_step ha)
      go_wp2_with fail
      refine ⟨⟨a / 2, z + a % 2, by omega, ?_, ?_, ?_, hb⟩, ?_⟩
      · rfl
      · congr 1
      · have := hz.out; have := HS.out; unfold Hid; omega
      · simp only [intOf]; omega
    · have : a = 0 := by omega
      subst this
      go_wp2_with fail
      go_ret
      refine ⟨?_, hb⟩
      have := hz.out
      rw [show popB 0 = 0 from rfl] at this
      rw [← this]; rfl

end Go.Proofs.YtbhbacphiinpeaaGreat

/- What 'get' and 'put' of package cells do. -/
namespace Go.Proofs.YtbhbacphiinpeaaGreat
open Go.RowKit

def pC (L : XM) : Value := .pointer (some ⟨L.bX, 4, none⟩)

set_option maxHeartbeats 400000 in
theorem get_any {w : World} {L : XM} {k : List Ins} {J : List Int} {x : QM} (h : MX w L k J x) (t r : Nat) (ht : t < 16) (hr : r < 4) :
    Calls Tryz.prog 105 #[pC L, .int .i64 t, .int .i64 r] w fun e w' => e = .returned (.int .i64 (rgA x t r)) ∧ w' = w := by
  have hc := h.reg ht hr
  clear h
  unfold pC
  have t1 : (0 : Int) ≤ (t : Int) := by omega
  have t2 : (t : Int) < 16 := by omega
  have r1 : (0 : Int) ≤ (r : Int) := by omega
  have r2 : (r : Int) < 4 := by omega
  go_enter Tryz.func105, Tryz.ntmps105
  go_wp2_with (go_at_call 110; refine (cmay_yes t r ht hr _).mono ?_; rintro e w' ⟨rfl, rfl⟩)
  go_ret
  exact ⟨rfl, rfl⟩

set_option maxHeartbeats 400000 in
theorem put_reg {w : World} {L : XM} {k : List Ins} {J : List Int} {x : QM} (h : MX w L k J x) (t r : Nat) (ht : t < 16) (hr : r < 4) (v : Int) :
    Calls Tryz.prog 112 #[pC L, .int .i64 t, .int .i64 r, .int .i64 v] w fun e w' => e = .returned (.tuple #[]) ∧ MX w' L k J (rgPut x t r v) ∧ ∀ B, Fr B [L.bX] w w' := by
  have hc := h.reg ht hr
  have hf := h.frz (5 + t * 4 + r)
  have H := hyd h
  clear h
  unfold pC
  have t1 : (0 : Int) ≤ (t : Int) := by omega
  have t2 : (t : Int) < 16 := by omega
  have r1 : (0 : Int) ≤ (r : Int) := by omega
  have r2 : (r : Int) < 4 := by omega
  go_enter Tryz.func112, Tryz.ntmps112
  go_wp2_with (go_at_call 110; refine (cmay_yes t r ht hr _).mono ?_; rintro e w' ⟨rfl, rfl⟩)
  go_end0
  exact ⟨rfl, H.out.setReg ht hr v, fun B => (Fr.refl _ _ _).set (by simp) _⟩

end Go.Proofs.YtbhbacphiinpeaaGreat

