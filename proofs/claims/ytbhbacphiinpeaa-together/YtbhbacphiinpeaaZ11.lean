/- Inv Iv Rq Ma Mb: joined. -/
import Derived.Test.YtbhbacphiinpeaaZ01
import Derived.Test.YtbhbacphiinpeaaZ06
import Derived.Test.YtbhbacphiinpeaaZ07
import Derived.Test.YtbhbacphiinpeaaZ10
import Derived.Test.YtbhbacphiinpeaaRows
import Derived.WalkKit
import Derived.WalkSpells
import Derived.WalkLawsBesides
import Derived.BigGuardPart

/- The lists that came out, and what stays true of them: facts on memory; nothing of the program is in this text. -/
namespace Go.Proofs.Ytbhbacphiinpeaa
open Go.RowKit

theorem blk_lt' {w : World} {B : Nat} {o : Obj} (h : w.heap[B]? = some o) : B < w.heap.size := (Array.getElem?_eq_some_iff.1 h).1

/-- n instructions that are the mark m. -/
def marks (n : Nat) (m : Int) : List Ins := List.replicate n ⟨m, 0, 0, 0⟩

theorem marks_length (n : Nat) (m : Int) : (marks n m).length = n := by simp [marks]
theorem marks_succ (n : Nat) (m : Int) : flat (marks (n + 1) m) = flat (marks n m) ++ Ins.vals ⟨m, 0, 0, 0⟩ := by
  unfold marks
  rw [List.replicate_succ', flat_append, flat_one]
theorem marks_take {k n : Nat} (h : k ≤ n) (m : Int) {l : List Value} (hl : l.take (n * 4) = flat (marks n m)) : l.take (k * 4) = flat (marks k m) := by
  have e : marks n m = marks k m ++ marks (n - k) m := by
    unfold marks
    rw [List.replicate_append_replicate]
    congr 1; omega
  have h1 : (l.take (n * 4)).take (k * 4) = (flat (marks n m)).take (k * 4) := by rw [hl]
  rw [List.take_take, Nat.min_eq_left (by omega), e, flat_append] at h1
  have h2 : (flat (marks k m)).length = k * 4 := by rw [flat_length, marks_length]
  rw [h1, ← h2]
  exact List.take_left

/-- The slice v has n entries, all the mark m; its row lies below block B. -/
def Mrk (w : World) (B : Nat) (v : Value) (n : Nat) (m : Int) : Prop := ∃ ao cap, v = .slice ao n cap ∧ (n = 0 ∨ ∃ g cur, ao = some ⟨g, 0, none⟩ ∧ g < B ∧ w.heap[g]? = some (.cells cur 31) ∧ cur.toList.take (n * 4) = flat (marks n m))

theorem Mrk.keep {w w' : World} {B B' : Nat} {v : Value} {n : Nat} {m : Int} (h : Mrk w B v n m) (hB : B ≤ B') (hk : ∀ g cur, g < B → w.heap[g]? = some (.cells cur 31) → w'.heap[g]? = w.heap[g]?) : Mrk w' B' v n m := by
  obtain ⟨ao, cap, hv, h⟩ := h
  refine ⟨ao, cap, hv, ?_⟩
  rcases h with h | ⟨g, cur, ha, hg, hh, ht⟩
  · exact .inl h
  · exact .inr ⟨g, cur, ha, by omega, (hk g cur hg hh).trans hh, ht⟩

theorem Mrk.below {w w' : World} {B : Nat} {v : Value} {n : Nat} {m : Int} (h : Mrk w B v n m) (hb : Below B w w') : Mrk w' B v n m := h.keep (Nat.le_refl _) fun g _ hg _ => hb.block g hg

theorem Mrk.of_owned {w : World} {base : Nat} {v : Value} {n : Nat} {m : Int} (h : w.ownsRow base 31 4 v n (flat (marks n m))) : Mrk w w.heap.size v n m := by
  rcases h.2 with ⟨rfl, rfl⟩ | ⟨g, cap, cur, rfl, hb, hg, -, -, -, ht⟩
  · exact ⟨none, 0, rfl, .inl rfl⟩
  · exact ⟨_, cap, rfl, .inr ⟨g, cur, rfl, blk_lt' hg, hg, ht⟩⟩

/-- Through an append of one mark more to a list of marks. -/
theorem Mrk.append {w w' : World} {base : Nat} {u v : Value} {k n g c : Nat} {m : Int} (h : Mrk w w.heap.size u k m) (hg : w.grownBy w' v.ownBlock) (hown : w'.ownsRow base 31 4 (.slice (some ⟨g, 0, none⟩) (n + 1) c) (n + 1) (flat (marks (n + 1) m)))
    (hat : v.ownBlock = some g ∨ (g = w.heap.size ∧ ∀ k, k < w.heap.size → w'.heap[k]? = w.heap[k]?)) (hk : k ≤ n + 1) : Mrk w' w'.heap.size u k m := by
  obtain ⟨ao, cap, hv, h⟩ := h
  refine ⟨ao, cap, hv, ?_⟩
  rcases h with h | ⟨gu, cur, ha, hgu, hh, ht⟩
  · exact .inl h
  · have hlt := blk_lt' hh
    by_cases he : gu = g ∧ v.ownBlock = some g
    · obtain ⟨rfl, -⟩ := he
      rcases hown.2 with ⟨h0, -⟩ | ⟨g', cap', cur', hv', -, hg', -, -, -, ht'⟩
      · cases h0
      · cases hv'
        exact .inr ⟨gu, cur', ha, blk_lt' hg', hg', marks_take hk m ht'⟩
    · have hsame : w'.heap[gu]? = w.heap[gu]? := by
        rcases hat with h1 | ⟨-, h1⟩
        · exact hg.block gu hlt (fun e => he ⟨by rw [h1] at e; exact Option.some.inj e, h1⟩)
        · exact h1 gu hlt
      exact .inr ⟨gu, cur, ha, Nat.lt_of_lt_of_le hlt hg.size, hsame.trans hh, ht⟩

theorem Mrk.alloc {w : World} {u : Value} {k : Nat} {m : Int} (h : Mrk w w.heap.size u k m) (o : Obj) : Mrk (w.alloc o) (w.alloc o).heap.size u k m :=
  h.keep (by simp) fun g _ hg _ => Below.heap_alloc w o g hg

theorem Mrk.sees {w : World} {B : Nat} {v : Value} {n : Nat} {m : Int} (hn : n ≤ 4398046511104) (h : Mrk w B v n m) : Sees w v (marks n m) := by
  obtain ⟨ao, cap, rfl, h⟩ := h
  refine ⟨by rw [marks_length]; exact hn, ?_⟩
  rcases h with rfl | ⟨g, cur, rfl, -, hh, ht⟩
  · exact .inl ⟨rfl, ao, cap, rfl⟩
  · refine .inr ⟨g, 0, cap, by rw [marks_length], blk_lt' hh, fun i x hx => ?_⟩
    have hi : i < n := by have := (List.getElem?_eq_some_iff.1 hx).1; rwa [marks_length] at this
    obtain ⟨a0, a1, a2, a3⟩ := flat_at hx
    have key : ∀ j, j < n * 4 → w.cell? ⟨g, 0 + j, none⟩ = (flat (marks n m))[j]? := fun j hj => by
      rw [cell_of_row w g (0 + j) cur 31 (0, 0) hh, Nat.zero_add, ← ht, List.getElem?_take, if_pos hj]
      simp
    refine ⟨?_, ?_, ?_, ?_⟩
    · rw [key _ (by omega)]; exact a0
    · rw [show 0 + i * 4 + 1 = 0 + (i * 4 + 1) by omega, key _ (by omega)]; exact a1
    · rw [show 0 + i * 4 + 2 = 0 + (i * 4 + 2) by omega, key _ (by omega)]; exact a2
    · rw [show 0 + i * 4 + 3 = 0 + (i * 4 + 3) by omega, key _ (by omega)]; exact a3

/-- A list that came out: itself, with one entry more, with three; its mark. -/
structure Ent where
  l : Value
  one : Value
  three : Value
  m : Int
  n : Nat

def Ent.vals (e : Ent) : List Value := [e.l, e.one, e.three, .int .i64 e.m]
def flatE (es : List Ent) : List Value := es.flatMap Ent.vals

def EOk (w : World) (B : Nat) (e : Ent) : Prop := Mrk w B e.l e.n e.m ∧ Mrk w B e.one (e.n + 1) e.m ∧ Mrk w B e.three (e.n + 3) e.m ∧ e.n ≤ 40

theorem EOk.keep {w w' : World} {B B' : Nat} {e : Ent} (h : EOk w B e) (hB : B ≤ B') (hk : ∀ g cur, g < B → w.heap[g]? = some (.cells cur 31) → w'.heap[g]? = w.heap[g]?) : EOk w' B' e :=
  ⟨h.1.keep hB hk, h.2.1.keep hB hk, h.2.2.1.keep hB hk, h.2.2.2⟩

theorem flatE_length (l : List Ent) : (flatE l).length = l.length * 4 := by
  induction l with
  | nil => rfl
  | cons x l ih => simp only [flatE, List.flatMap_cons, List.length_append, List.length_cons] at ih ⊢; rw [ih]; simp [Ent.vals]; omega

theorem flatE_at {l : List Ent} {i : Nat} {x : Ent} (h : l[i]? = some x) : (flatE l)[i * 4]? = some x.l ∧ (flatE l)[i * 4 + 1]? = some x.one ∧ (flatE l)[i * 4 + 2]? = some x.three ∧ (flatE l)[i * 4 + 3]? = some (.int .i64 x.m) := by
  induction l generalizing i with
  | nil => simp at h
  | cons y l ih =>
    have e : flatE (y :: l) = y.vals ++ flatE l := by simp [flatE]
    rw [e]
    have hl : y.vals.length = 4 := rfl
    match i, h with
    | 0, h =>
      simp at h
      subst h
      simp [Ent.vals]
    | i + 1, h =>
      have h' : l[i]? = some x := by simpa using h
      obtain ⟨a0, a1, a2, a3⟩ := ih h'
      refine ⟨?_, ?_, ?_, ?_⟩
      · rw [List.getElem?_append_right (by omega), hl, show (i + 1) * 4 - 4 = i * 4 by omega]; exact a0
      · rw [List.getElem?_append_right (by omega), hl, show (i + 1) * 4 + 1 - 4 = i * 4 + 1 by omega]; exact a1
      · rw [List.getElem?_append_right (by omega), hl, show (i + 1) * 4 + 2 - 4 = i * 4 + 2 by omega]; exact a2
      · rw [List.getElem?_append_right (by omega), hl, show (i + 1) * 4 + 3 - 4 = i * 4 + 3 by omega]; exact a3

theorem owns_below {w w' : World} {B base : Nat} {e : TypeId} {size : Nat} {v : Value} {n : Nat} {xs : List Value} (h : w.ownsRow base e size v n xs) (hB : ∀ g, v.ownBlock = some g → g < B) (hb : Below B w w') : w'.ownsRow base e size v n xs := by
  refine ⟨h.1, ?_⟩
  rcases h.2 with h2 | ⟨g, cap, cur, rfl, hg, hh, r⟩
  · exact .inl h2
  · exact .inr ⟨g, cap, cur, rfl, hg, (hb.block g (hB g rfl)).trans hh, r⟩

end Go.Proofs.Ytbhbacphiinpeaa

/- The lists that came out, of numbers, instructions and logs, and what stays true of them: facts on memory; nothing of the program is in this text. -/
namespace Go.Proofs.Ytbhbacphiinpeaa
open Go.RowKit

/-- A kind of lists: its elements' type, the type of its entries, the cells of an element, the cells of a mark. -/
structure Fam where
  e : TypeId
  st : TypeId
  sz : Nat
  mv : Int → List Value

/-- n marks, as cells. -/
def reps (f : Fam) (n : Nat) (m : Int) : List Value := (List.replicate n (f.mv m)).flatten

theorem reps_succ (f : Fam) (n : Nat) (m : Int) : reps f (n + 1) m = reps f n m ++ f.mv m := by
  unfold reps
  rw [List.replicate_succ', List.flatten_append]
  simp
theorem reps_length {f : Fam} (hf : ∀ m, (f.mv m).length = f.sz) (n : Nat) (m : Int) : (reps f n m).length = n * f.sz := by
  induction n with
  | zero => simp [reps]
  | succ n ih => rw [reps_succ, List.length_append, ih, hf, Nat.succ_mul]
theorem reps_add (f : Fam) (a b : Nat) (m : Int) : reps f (a + b) m = reps f a m ++ reps f b m := by
  unfold reps
  rw [← List.replicate_append_replicate, List.flatten_append]
theorem reps_take {f : Fam} (hf : ∀ m, (f.mv m).length = f.sz) {k n : Nat} (h : k ≤ n) (m : Int) {l : List Value} (hl : l.take (n * f.sz) = reps f n m) : l.take (k * f.sz) = reps f k m := by
  have e : reps f n m = reps f k m ++ reps f (n - k) m := by rw [← reps_add]; congr 1; omega
  have h1 : (l.take (n * f.sz)).take (k * f.sz) = (reps f n m).take (k * f.sz) := by rw [hl]
  rw [List.take_take, Nat.min_eq_left (Nat.mul_le_mul_right _ h), e] at h1
  rw [h1, ← reps_length hf k m]
  exact List.take_left

/-- The slice v has n entries, all the mark m; its row lies below block B. -/
def MrkG (f : Fam) (w : World) (B : Nat) (v : Value) (n : Nat) (m : Int) : Prop := ∃ ao cap, v = .slice ao n cap ∧ (n = 0 ∨ ∃ g cur, ao = some ⟨g, 0, none⟩ ∧ g < B ∧ w.heap[g]? = some (.cells cur f.e) ∧ cur.toList.take (n * f.sz) = reps f n m)

theorem MrkG.keep {f : Fam} {w w' : World} {B B' : Nat} {v : Value} {n : Nat} {m : Int} (h : MrkG f w B v n m) (hB : B ≤ B') (hk : ∀ g cur, g < B → w.heap[g]? = some (.cells cur f.e) → w'.heap[g]? = w.heap[g]?) : MrkG f w' B' v n m := by
  obtain ⟨ao, cap, hv, h⟩ := h
  refine ⟨ao, cap, hv, ?_⟩
  rcases h with h | ⟨g, cur, ha, hg, hh, ht⟩
  · exact .inl h
  · exact .inr ⟨g, cur, ha, by omega, (hk g cur hg hh).trans hh, ht⟩

theorem MrkG.of_owned {f : Fam} {w : World} {base : Nat} {v : Value} {n : Nat} {m : Int} (h : w.ownsRow base f.e f.sz v n (reps f n m)) : MrkG f w w.heap.size v n m := by
  rcases h.2 with ⟨rfl, rfl⟩ | ⟨g, cap, cur, rfl, hb, hg, -, -, -, ht⟩
  · exact ⟨none, 0, rfl, .inl rfl⟩
  · exact ⟨_, cap, rfl, .inr ⟨g, cur, rfl, blk_lt' hg, hg, ht⟩⟩

/-- Through an append of one mark more to a list of marks. -/
theorem MrkG.append {f : Fam} (hf : ∀ m, (f.mv m).length = f.sz) {w w' : World} {base : Nat} {u v : Value} {k n g c : Nat} {m : Int} (h : MrkG f w w.heap.size u k m) (hg : w.grownBy w' v.ownBlock) (hown : w'.ownsRow base f.e f.sz (.slice (some ⟨g, 0, none⟩) (n + 1) c) (n + 1) (reps f (n + 1) m))
    (hat : v.ownBlock = some g ∨ (g = w.heap.size ∧ ∀ k, k < w.heap.size → w'.heap[k]? = w.heap[k]?)) (hk : k ≤ n + 1) : MrkG f w' w'.heap.size u k m := by
  obtain ⟨ao, cap, hv, h⟩ := h
  refine ⟨ao, cap, hv, ?_⟩
  rcases h with h | ⟨gu, cur, ha, hgu, hh, ht⟩
  · exact .inl h
  · have hlt := blk_lt' hh
    by_cases he : gu = g ∧ v.ownBlock = some g
    · obtain ⟨rfl, -⟩ := he
      rcases hown.2 with ⟨h0, -⟩ | ⟨g', cap', cur', hv', -, hg', -, -, -, ht'⟩
      · cases h0
      · cases hv'
        exact .inr ⟨gu, cur', ha, blk_lt' hg', hg', reps_take hf hk m ht'⟩
    · have hsame : w'.heap[gu]? = w.heap[gu]? := by
        rcases hat with h1 | ⟨-, h1⟩
        · exact hg.block gu hlt (fun e => he ⟨by rw [h1] at e; exact Option.some.inj e, h1⟩)
        · exact h1 gu hlt
      exact .inr ⟨gu, cur, ha, Nat.lt_of_lt_of_le hlt hg.size, hsame.trans hh, ht⟩

theorem MrkG.alloc {f : Fam} {w : World} {u : Value} {k : Nat} {m : Int} (h : MrkG f w w.heap.size u k m) (o : Obj) : MrkG f (w.alloc o) (w.alloc o).heap.size u k m :=
  h.keep (by simp) fun g _ hg _ => Below.heap_alloc w o g hg

/-- The j-th cell of a list of marks. -/
theorem MrkG.cell {f : Fam} {w : World} {B : Nat} {ao : Option Addr} {n cap : Nat} {m : Int} (h : MrkG f w B (.slice ao n cap) n m) (hn : 0 < n) : ∃ g, ao = some ⟨g, 0, none⟩ ∧ g < w.heap.size ∧ ∀ j, j < n * f.sz → w.cell? ⟨g, j, none⟩ = (reps f n m)[j]? := by
  obtain ⟨ao', cap', hv, h⟩ := h
  cases hv
  rcases h with h | ⟨g, cur, ha, -, hh, ht⟩
  · omega
  · refine ⟨g, ha, blk_lt' hh, fun j hj => ?_⟩
    rw [cell_of_row w g j cur f.e (0, 0) hh, ← ht, List.getElem?_take, if_pos hj]
    simp

def EOkG (f : Fam) (w : World) (B : Nat) (e : Ent) : Prop := MrkG f w B e.l e.n e.m ∧ MrkG f w B e.one (e.n + 1) e.m ∧ MrkG f w B e.three (e.n + 3) e.m ∧ e.n ≤ 4000

theorem EOkG.keep {f : Fam} {w w' : World} {B B' : Nat} {e : Ent} (h : EOkG f w B e) (hB : B ≤ B') (hk : ∀ g cur, g < B → w.heap[g]? = some (.cells cur f.e) → w'.heap[g]? = w.heap[g]?) : EOkG f w' B' e :=
  ⟨h.1.keep hB hk, h.2.1.keep hB hk, h.2.2.1.keep hB hk, h.2.2.2⟩

/-- The lists of one kind, kept in the slice v. -/
def RowG (f : Fam) (w : World) (B BW : Nat) (v : Value) (es : List Ent) : Prop := w.ownsRow (BW + 1) f.st 4 v es.length (flatE es) ∧ (∀ g, v.ownBlock = some g → g < B) ∧ ∀ e ∈ es, EOkG f w B e

theorem RowG.up {f : Fam} {w w' : World} {B BW : Nat} {v : Value} {es : List Ent} (h : RowG f w B BW v es) (hb : Below B w w') : RowG f w' B BW v es :=
  ⟨owns_below h.1 h.2.1 hb, h.2.1, fun e he => (h.2.2 e he).keep (Nat.le_refl _) fun g _ hg _ => hb.block g hg⟩
theorem RowG.wide {f : Fam} {w : World} {B B' BW : Nat} {v : Value} {es : List Ent} (h : RowG f w B BW v es) (hB : B ≤ B') : RowG f w B' BW v es :=
  ⟨h.1, fun g hg => Nat.lt_of_lt_of_le (h.2.1 g hg) hB, fun e he => (h.2.2 e he).keep hB fun _ _ _ _ => rfl⟩

theorem owns_not {w : World} {base : Nat} {e : TypeId} {size : Nat} {v : Value} {n : Nat} {xs : List Value} (h : w.ownsRow base e size v n xs) {g : Nat} {cs : Array Value} {t : TypeId} {fr : Nat × Nat} (hg : w.heap[g]? = some (.cells cs t fr)) (hne : t ≠ e) : some g ≠ v.ownBlock := by
  intro e0
  rcases h.2 with ⟨rfl, -⟩ | ⟨g', cap, cur, rfl, -, hh, -⟩
  · simp [Value.ownBlock] at e0
  · simp only [Value.ownBlock, Option.some.injEq] at e0
    subst e0
    rw [hg] at hh
    simp only [Option.some.injEq, Obj.cells.injEq] at hh
    exact hne hh.2.1

end Go.Proofs.Ytbhbacphiinpeaa

/- The machine through new blocks and stores: facts on memory. -/
namespace Go.Proofs.Ytbhbacphiinpeaa
open Go.RowKit

theorem owns_same {w w' : World} {base : Nat} {e : TypeId} {size : Nat} {v : Value} {n : Nat} {xs : List Value} (h : w.ownsRow base e size v n xs) (hk : ∀ g, v.ownBlock = some g → w'.heap[g]? = w.heap[g]?) : w'.ownsRow base e size v n xs := by
  refine ⟨h.1, ?_⟩
  rcases h.2 with h0 | ⟨g, cap, cur, hv, hb, hg, r⟩
  · exact .inl h0
  · exact .inr ⟨g, cap, cur, hv, hb, (hk g (by rw [hv]; rfl)).trans hg, r⟩

theorem owns_blk {w : World} {base : Nat} {e : TypeId} {size : Nat} {g n c : Nat} {xs : List Value} (h : w.ownsRow base e size (.slice (some ⟨g, 0, none⟩) n c) n xs) : ∃ cur, w.heap[g]? = some (.cells cur e) := by
  rcases h.2 with ⟨h0, -⟩ | ⟨g', cap, cur, hv, -, hg, -⟩
  · cases h0
  · cases hv; exact ⟨cur, hg⟩

theorem owns_set1 {w : World} {base : Nat} {e : TypeId} {size : Nat} {x n c : Nat} {xs : List Value} (h : w.ownsRow base e size (.slice (some ⟨x, 0, none⟩) n c) n xs) {a : Addr} (ha : x ≠ a.block) (u : Value) : (w.setCell a u).ownsRow base e size (.slice (some ⟨x, 0, none⟩) n c) n xs :=
  owns_setCell h (fun g hg => by simp only [Value.ownBlock, Option.some.injEq] at hg; subst hg; exact ha) u

theorem Fr.drewN {B : Nat} {X : List Nat} {w w' : World} (h : Fr B X w w') (n : Nat) : Fr B X w (w'.drewN n) := ⟨h.os, h.tape, h.output, h.size, h.block⟩

end Go.Proofs.Ytbhbacphiinpeaa

/- How the program's machine lies in memory: facts on memory. -/
namespace Go.Proofs.Ytbhbacphiinpeaa
open Go.RowKit

theorem flatMap_len {α β : Type} {f : α → List β} {c : Nat} : ∀ {l : List α}, (∀ x ∈ l, (f x).length = c) → (l.flatMap f).length = l.length * c
  | [], _ => by simp
  | x :: l, h => by
    rw [List.flatMap_cons, List.length_append, flatMap_len (l := l) fun y hy => h y (by simp [hy]), h x (by simp), List.length_cons, Nat.succ_mul]; omega

theorem flatMap_at {α β : Type} {f : α → List β} {c : Nat} : ∀ {l : List α} {i j : Nat} {x : α}, (∀ x ∈ l, (f x).length = c) → l[i]? = some x → j < c → (l.flatMap f)[i * c + j]? = (f x)[j]?
  | [], i, j, x, _, hx, _ => by simp at hx
  | y :: l, 0, j, x, h, hx, hj => by
    simp only [List.getElem?_cons_zero, Option.some.injEq] at hx
    subst hx
    rw [List.flatMap_cons, Nat.zero_mul, Nat.zero_add, List.getElem?_append_left (by rw [h y (by simp)]; exact hj)]
  | y :: l, i + 1, j, x, h, hx, hj => by
    simp only [List.getElem?_cons_succ] at hx
    have hy := h y (by simp)
    have e : (i + 1) * c + j - c = i * c + j := by rw [Nat.succ_mul]; omega
    rw [List.flatMap_cons, List.getElem?_append_right (by rw [hy, Nat.succ_mul]; omega), hy, e]
    exact flatMap_at (fun z hz => h z (by simp [hz])) hx hj

theorem flatMap_set {α β : Type} {f : α → List β} {c : Nat} {v : β} : ∀ {l : List α} {i j : Nat} {x x' : α}, (∀ x ∈ l, (f x).length = c) → l[i]? = some x → j < c → (f x).set j v = f x' → (l.flatMap f).set (i * c + j) v = (l.set i x').flatMap f
  | [], i, j, x, x', _, hx, _, _ => by simp at hx
  | y :: l, 0, j, x, x', h, hx, hj, e => by
    simp only [List.getElem?_cons_zero, Option.some.injEq] at hx
    subst hx
    rw [List.flatMap_cons, Nat.zero_mul, Nat.zero_add, List.set_append_left _ _ (by rw [h y (by simp)]; exact hj), e]
    rfl
  | y :: l, i + 1, j, x, x', h, hx, hj, e => by
    simp only [List.getElem?_cons_succ] at hx
    have hy := h y (by simp)
    have e' : (i + 1) * c + j - c = i * c + j := by rw [Nat.succ_mul]; omega
    rw [List.flatMap_cons, List.set_append_right _ _ (by rw [hy, Nat.succ_mul]; omega), hy, e', flatMap_set (fun z hz => h z (by simp [hz])) hx hj e]
    rfl

def Spl.vals (s : Spl) : List Value := [.int .i64 s.group, .int .i64 s.to, .int .i64 s.later, .int .i64 s.next, .int .i64 s.join]
def Wq.vals (q : Wq) : List Value := [.int .i64 q.group, .int .i64 q.pc, .int .i64 q.to, .int .i64 q.done, .bool q.waits, .int .i64 q.opn] ++ q.sp.flatMap Spl.vals
def headV (vL vJ : Value) (x : QM) : List Value := [vL, vJ, .int .i64 x.n, .int .i64 x.st, .int .i64 x.first]
def flatQ (vL vJ : Value) (x : QM) : List Value := headV vL vJ x ++ (zVals x.rg ++ (.int .i64 x.cnt :: (zVals x.wd ++ x.qs.flatMap Wq.vals)))

structure Shp (x : QM) : Prop where
  rl : x.rg.length = 64
  wl : x.wd.length = 32
  ql : x.qs.length = 4
  sl : ∀ q ∈ x.qs, q.sp.length = 3

theorem spl_len (s : Spl) : s.vals.length = 5 := rfl
theorem wq_len {q : Wq} (h : q.sp.length = 3) : q.vals.length = 21 := by
  unfold Wq.vals
  rw [List.length_append, flatMap_len (c := 5) fun x _ => spl_len x, h]; rfl
theorem qs_len {x : QM} (h : Shp x) : ∀ q ∈ x.qs, q.vals.length = 21 := fun q hq => wq_len (h.sl q hq)
theorem zl (l : List Int) : (zVals l).length = l.length := by simp [zVals]

theorem flat_head (vL vJ : Value) (x : QM) {j : Nat} (hj : j < 5) : (flatQ vL vJ x)[j]? = (headV vL vJ x)[j]? := by
  unfold flatQ
  rw [List.getElem?_append_left (by simpa [headV] using hj)]
theorem flat_rg {vL vJ : Value} {x : QM} (h : Shp x) {i : Nat} (hi : i < 64) : (flatQ vL vJ x)[5 + i]? = some (.int .i64 (x.rg.getD i 0)) := by
  unfold flatQ
  rw [List.getElem?_append_right (by simp [headV]), show 5 + i - (headV vL vJ x).length = i by simp [headV], List.getElem?_append_left (by rw [zl, h.rl]; exact hi)]
  refine zVals_at ?_
  rw [List.getD_eq_getElem?_getD, List.getElem?_eq_getElem (by rw [h.rl]; exact hi)]; rfl
theorem flat_cnt {vL vJ : Value} {x : QM} (h : Shp x) : (flatQ vL vJ x)[69]? = some (.int .i64 x.cnt) := by
  unfold flatQ
  rw [List.getElem?_append_right (by simp [headV]), show 69 - (headV vL vJ x).length = 64 by simp [headV], List.getElem?_append_right (by rw [zl, h.rl]; omega), zl, h.rl]
  rfl
theorem flat_wd {vL vJ : Value} {x : QM} (h : Shp x) {i : Nat} (hi : i < 32) : (flatQ vL vJ x)[70 + i]? = some (.int .i64 (x.wd.getD i 0)) := by
  unfold flatQ
  rw [List.getElem?_append_right (by simp [headV]; omega), show 70 + i - (headV vL vJ x).length = 65 + i by simp [headV]; omega, List.getElem?_append_right (by rw [zl, h.rl]; omega), zl, h.rl, show 65 + i - 64 = i + 1 by omega, List.getElem?_cons_succ, List.getElem?_append_left (by rw [zl, h.wl]; exact hi)]
  refine zVals_at ?_
  rw [List.getD_eq_getElem?_getD, List.getElem?_eq_getElem (by rw [h.wl]; exact hi)]; rfl
theorem flat_qs {vL vJ : Value} {x : QM} (h : Shp x) {i j : Nat} {q : Wq} (hq : x.qs[i]? = some q) (hj : j < 21) : (flatQ vL vJ x)[102 + i * 21 + j]? = q.vals[j]? := by
  unfold flatQ
  rw [List.getElem?_append_right (by simp [headV]; omega), show 102 + i * 21 + j - (headV vL vJ x).length = 97 + i * 21 + j by simp [headV]; omega, List.getElem?_append_right (by rw [zl, h.rl]; omega), zl, h.rl, show 97 + i * 21 + j - 64 = (32 + (i * 21 + j)) + 1 by omega, List.getElem?_cons_succ, List.getElem?_append_right (by rw [zl, h.wl]; omega), zl, h.wl, show 32 + (i * 21 + j) - 32 = i * 21 + j by omega]
  exact flatMap_at (qs_len h) hq hj

theorem flat_setSt {vL vJ : Value} {x : QM} (v : Int) : (flatQ vL vJ x).set 3 (.int .i64 v) = flatQ vL vJ { x with st := v } := rfl
theorem flat_setRg {vL vJ : Value} {x : QM} (h : Shp x) {i : Nat} (hi : i < 64) (v : Int) : (flatQ vL vJ x).set (5 + i) (.int .i64 v) = flatQ vL vJ { x with rg := x.rg.set i v } := by
  unfold flatQ
  rw [List.set_append_right _ _ (by simp [headV]), show 5 + i - (headV vL vJ x).length = i by simp [headV], List.set_append_left _ _ (by rw [zl, h.rl]; exact hi), show (zVals x.rg).set i (.int .i64 v) = zVals (x.rg.set i v) by simp [zVals, List.map_set]]
  rfl
theorem flat_setWd {vL vJ : Value} {x : QM} (h : Shp x) {i : Nat} (hi : i < 32) (v : Int) : (flatQ vL vJ x).set (70 + i) (.int .i64 v) = flatQ vL vJ { x with wd := x.wd.set i v } := by
  unfold flatQ
  rw [List.set_append_right _ _ (by simp [headV]; omega), show 70 + i - (headV vL vJ x).length = 65 + i by simp [headV]; omega, List.set_append_right _ _ (by rw [zl, h.rl]; omega), zl, h.rl, show 65 + i - 64 = i + 1 by omega, List.set_cons_succ, List.set_append_left _ _ (by rw [zl, h.wl]; exact hi), show (zVals x.wd).set i (.int .i64 v) = zVals (x.wd.set i v) by simp [zVals, List.map_set]]
  rfl
theorem flat_setQ {vL vJ : Value} {x : QM} (h : Shp x) {i j : Nat} {q q' : Wq} {v : Value} (hq : x.qs[i]? = some q) (hj : j < 21) (e : q.vals.set j v = q'.vals) : (flatQ vL vJ x).set (102 + i * 21 + j) v = flatQ vL vJ { x with qs := x.qs.set i q' } := by
  unfold flatQ
  rw [List.set_append_right _ _ (by simp [headV]; omega), show 102 + i * 21 + j - (headV vL vJ x).length = 97 + i * 21 + j by simp [headV]; omega, List.set_append_right _ _ (by rw [zl, h.rl]; omega), zl, h.rl, show 97 + i * 21 + j - 64 = (32 + (i * 21 + j)) + 1 by omega, List.set_cons_succ, List.set_append_right _ _ (by rw [zl, h.wl]; omega), zl, h.wl, show 32 + (i * 21 + j) - 32 = i * 21 + j by omega, flatMap_set (qs_len h) hq hj e]
  rfl

/-- Where the program's machine lies. -/
structure XM where
  bX : Nat
  gK : Nat
  cK : Nat
  gJ : Nat
  cJ : Nat
  n : Nat

def XM.vL (L : XM) : Value := .slice (some ⟨L.gK, 0, none⟩) L.n L.cK
def XM.vJ (L : XM) : Value := .slice (some ⟨L.gJ, 0, none⟩) L.n L.cJ

structure MX (w : World) (L : XM) (k : List Ins) (J : List Int) (x : QM) : Prop where
  blk : w.heap[L.bX]? = some (.cells (flatQ L.vL L.vJ x).toArray 95)
  rK : w.ownsRow 0 31 4 L.vL L.n (flat k)
  rJ : w.ownsRow 0 3 1 L.vJ L.n (zVals J)
  n : L.n = k.length
  shp : Shp x

theorem MX.keep {w w' : World} {L : XM} {k : List Ins} {J : List Int} {x : QM} (h : MX w L k J x) (hk : ∀ g, (g = L.bX ∨ g = L.gK ∨ g = L.gJ) → w'.heap[g]? = w.heap[g]?) : MX w' L k J x := by
  have hh : ∀ (y n c : Nat), (y = L.bX ∨ y = L.gK ∨ y = L.gJ) → ∀ g, (Value.slice (some ⟨y, 0, none⟩) n c).ownBlock = some g → w'.heap[g]? = w.heap[g]? := fun y n c hy g hg => by
    simp only [Value.ownBlock, Option.some.injEq] at hg
    subst hg
    exact hk y hy
  exact ⟨(hk _ (.inl rfl)).trans h.blk, owns_same h.rK (hh _ _ _ (by simp)), owns_same h.rJ (hh _ _ _ (by simp)), h.n, h.shp⟩
theorem MX.lt {w : World} {L : XM} {k : List Ins} {J : List Int} {x : QM} (h : MX w L k J x) {g : Nat} (hg : g = L.bX ∨ g = L.gK ∨ g = L.gJ) : g < w.heap.size := by
  rcases hg with rfl | rfl | rfl
  · exact blk_lt h.blk
  · exact (h.rK.lt _ rfl).2
  · exact (h.rJ.lt _ rfl).2
theorem MX.alloc {w : World} {L : XM} {k : List Ins} {J : List Int} {x : QM} (h : MX w L k J x) (o : Obj) : MX (w.alloc o) L k J x := h.keep fun _ hg => Below.heap_alloc _ _ _ (h.lt hg)
theorem MX.drew {w : World} {L : XM} {k : List Ins} {J : List Int} {x : QM} (h : MX w L k J x) : MX w.drew L k J x := h.keep fun _ _ => rfl
theorem MX.drewN {w : World} {L : XM} {k : List Ins} {J : List Int} {x : QM} (h : MX w L k J x) (n : Nat) : MX (w.drewN n) L k J x := h.keep fun _ _ => rfl
theorem MX.up {w w' : World} {L : XM} {k : List Ins} {J : List Int} {x : QM} (h : MX w L k J x) (hb : Below w.heap.size w w') : MX w' L k J x := h.keep fun g hg => hb.block g (h.lt hg)

theorem MX.apart {w : World} {L : XM} {k : List Ins} {J : List Int} {x : QM} (h : MX w L k J x) : L.gK ≠ L.bX ∧ L.gJ ≠ L.bX := by
  obtain ⟨cK, hK⟩ := owns_blk h.rK
  obtain ⟨cJ, hJ⟩ := owns_blk h.rJ
  have hB := h.blk
  refine ⟨fun e => ?_, fun e => ?_⟩
  · rw [e, hB] at hK; simp only [Option.some.injEq, Obj.cells.injEq] at hK; exact absurd hK.2.1 (by decide)
  · rw [e, hB] at hJ; simp only [Option.some.injEq, Obj.cells.injEq] at hJ; exact absurd hJ.2.1 (by decide)

theorem MX.set {w : World} {L : XM} {k : List Ins} {J : List Int} {x x' : QM} (h : MX w L k J x) {i : Nat} {v : Value} (e : (flatQ L.vL L.vJ x).set i v = flatQ L.vL L.vJ x') (hs : Shp x') : MX (w.setCell ⟨L.bX, i, none⟩ v) L k J x' := by
  obtain ⟨a1, a2⟩ := h.apart
  refine ⟨?_, owns_set1 h.rK a1 _, owns_set1 h.rJ a2 _, h.n, hs⟩
  rw [heap_setCell_same w L.bX i _ 95 v h.blk, ← e]
  simp

theorem MX.cell {w : World} {L : XM} {k : List Ins} {J : List Int} {x : QM} (h : MX w L k J x) (i : Nat) : w.cell? ⟨L.bX, i, none⟩ = (flatQ L.vL L.vJ x)[i]? := by
  rw [cell_of_row w L.bX i _ 95 _ h.blk]; simp
theorem MX.frz {w : World} {L : XM} {k : List Ins} {J : List Int} {x : QM} (h : MX w L k J x) (i : Nat) : w.frozen? ⟨L.bX, i, none⟩ = false := frozen_of_row w L.bX i _ 95 h.blk

/-- The register r of the thread t. -/
def rgA (x : QM) (t r : Nat) : Int := x.rg.getD (t * 4 + r) 0
def rgPut (x : QM) (t r : Nat) (v : Int) : QM := { x with rg := x.rg.set (t * 4 + r) v }
def wdPut (x : QM) (i : Nat) (v : Int) : QM := { x with wd := x.wd.set i v }
def qPut (x : QM) (i : Nat) (q : Wq) : QM := { x with qs := x.qs.set i q }

theorem MX.reg {w : World} {L : XM} {k : List Ins} {J : List Int} {x : QM} (h : MX w L k J x) {t r : Nat} (ht : t < 16) (hr : r < 4) : w.cell? ⟨L.bX, 5 + t * 4 + r, none⟩ = some (.int .i64 (rgA x t r)) := by
  rw [h.cell, Nat.add_assoc, flat_rg h.shp (by omega)]; rfl
theorem MX.setReg {w : World} {L : XM} {k : List Ins} {J : List Int} {x : QM} (h : MX w L k J x) {t r : Nat} (ht : t < 16) (hr : r < 4) (v : Int) : MX (w.setCell ⟨L.bX, 5 + t * 4 + r, none⟩ (.int .i64 v)) L k J (rgPut x t r v) := by
  rw [Nat.add_assoc]
  exact h.set (flat_setRg h.shp (by omega) v) ⟨by simp [rgPut, h.shp.rl], h.shp.wl, h.shp.ql, h.shp.sl⟩
theorem MX.word {w : World} {L : XM} {k : List Ins} {J : List Int} {x : QM} (h : MX w L k J x) {i : Nat} (hi : i < 32) : w.cell? ⟨L.bX, 70 + i, none⟩ = some (.int .i64 (x.wd.getD i 0)) := by
  rw [h.cell, flat_wd h.shp hi]
theorem MX.setWord {w : World} {L : XM} {k : List Ins} {J : List Int} {x : QM} (h : MX w L k J x) {i : Nat} (hi : i < 32) (v : Int) : MX (w.setCell ⟨L.bX, 70 + i, none⟩ (.int .i64 v)) L k J (wdPut x i v) :=
  h.set (flat_setWd h.shp hi v) ⟨h.shp.rl, by simp [wdPut, h.shp.wl], h.shp.ql, h.shp.sl⟩
theorem MX.cnt {w : World} {L : XM} {k : List Ins} {J : List Int} {x : QM} (h : MX w L k J x) : w.cell? ⟨L.bX, 69, none⟩ = some (.int .i64 x.cnt) := by rw [h.cell, flat_cnt h.shp]
theorem MX.head {w : World} {L : XM} {k : List Ins} {J : List Int} {x : QM} (h : MX w L k J x) : w.cell? ⟨L.bX, 0, none⟩ = some L.vL ∧ w.cell? ⟨L.bX, 1, none⟩ = some L.vJ ∧ w.cell? ⟨L.bX, 2, none⟩ = some (.int .i64 x.n) ∧ w.cell? ⟨L.bX, 3, none⟩ = some (.int .i64 x.st) ∧ w.cell? ⟨L.bX, 4, none⟩ = some (.int .i64 x.first) := by
  refine ⟨?_, ?_, ?_, ?_, ?_⟩ <;> (rw [h.cell, flat_head _ _ _ (by omega)]; rfl)
theorem MX.setSt {w : World} {L : XM} {k : List Ins} {J : List Int} {x : QM} (h : MX w L k J x) (v : Int) : MX (w.setCell ⟨L.bX, 3, none⟩ (.int .i64 v)) L k J { x with st := v } :=
  h.set (flat_setSt v) ⟨h.shp.rl, h.shp.wl, h.shp.ql, h.shp.sl⟩

/-- The cells of a warp, from o on. -/
theorem MX.warp {w : World} {L : XM} {k : List Ins} {J : List Int} {x : QM} (h : MX w L k J x) {i : Nat} {q : Wq} (hq : x.qs[i]? = some q) {j : Nat} (hj : j < 21) : w.cell? ⟨L.bX, 102 + i * 21 + j, none⟩ = q.vals[j]? := by
  rw [h.cell, flat_qs h.shp hq hj]
theorem MX.setQ {w : World} {L : XM} {k : List Ins} {J : List Int} {x : QM} (h : MX w L k J x) {i : Nat} {q q' : Wq} (hq : x.qs[i]? = some q) {j : Nat} (hj : j < 21) {v : Value} (e : q.vals.set j v = q'.vals) (hs : q'.sp.length = 3) : MX (w.setCell ⟨L.bX, 102 + i * 21 + j, none⟩ v) L k J (qPut x i q') :=
  h.set (flat_setQ h.shp hq hj e) ⟨h.shp.rl, h.shp.wl, by simp [qPut, h.shp.ql], fun y hy => by
    rcases List.mem_or_eq_of_mem_set hy with hy | rfl
    · exact h.shp.sl y hy
    · exact hs⟩

end Go.Proofs.Ytbhbacphiinpeaa

/- What the small functions of package cells answer: mayBe, oneIf, compute. -/
namespace Go.Proofs.Ytbhbacphiinpeaa
open Go.RowKit

set_option maxHeartbeats 400000 in
theorem cmay_yes (t r : Nat) (ht : t < 16) (hr : r < 4) (w : World) :
    Calls Try.prog 83 #[.int .i64 t, .int .i64 r] w fun e w' => e = .returned (.bool true) ∧ w' = w := by
  have t1 : (0 : Int) ≤ (t : Int) := by omega
  have t2 : (t : Int) < 16 := by omega
  have r1 : (0 : Int) ≤ (r : Int) := by omega
  have r2 : (r : Int) < 4 := by omega
  clear ht hr
  go_enter Try.func83, Try.ntmps83
  go_wp2
  go_ret
  exact ⟨rfl, rfl⟩

set_option maxHeartbeats 400000 in
theorem oneIf_any (b : Bool) (w : World) :
    Calls Try.prog 87 #[.bool b] w fun e w' => e = .returned (.int .i64 (if b then 1 else 0)) ∧ w' = w := by
  cases b
  · go_enter Try.func87, Try.ntmps87
    go_wp2
    go_ret
    exact ⟨rfl, rfl⟩
  · go_enter Try.func87, Try.ntmps87
    go_wp2
    go_ret
    exact ⟨rfl, rfl⟩

end Go.Proofs.Ytbhbacphiinpeaa

