/- The lists that came out, and what stays true of them: facts on memory; nothing of the program is in this text. -/
import Derived.Test.YtbhbacphiinpeaaGreatView
import Derived.Test.YtbhbacphiinpeaaGreatAp
namespace Go.Proofs.YtbhbacphiinpeaaGreat
open Go.RowKit

theorem blk_lt' {w : World} {B : Nat} {o : Obj} (h : w.heap[B]? = some o) : B < w.heap.size := (Array.getElem?_eq_some_iff.1 h).1

/-- n instructions that are the mark m. -/
def marks (n : Nat) (m : Int) : List Ins := List.replicate n ⟨m, 0, 0, 0⟩

theorem marks_length (n : Nat) (m : Int) : (marks n m).length = n := by simp [marks]
theorem marks_succ (n : Nat) (m : Int) : flat (marks (n + 1) m) = flat (marks n m) ++ Ins.vals ⟨m, 0, 0, 0⟩ := by
  unfold marks
  rw [List.replicate_succ', flat_append, flat_one]
theorem marks_take {k n : Nat} (h : k ≤ n) (m : Int) {l : List Value} (hl : l.take (n * 4) = flat (marks n m)) : l.take (k * 4) = flat (marks k m) := by
  have e : marks n m = marks k m ++ marks (n - k) m := by
    unfold marks
    rw [List.replicate_append_replicate]
    congr 1; omega
  have h1 : (l.take (n * 4)).take (k * 4) = (flat (marks n m)).take (k * 4) := by rw [hl]
  rw [List.take_take, Nat.min_eq_left (by omega), e, flat_append] at h1
  have h2 : (flat (marks k m)).length = k * 4 := by rw [flat_length, marks_length]
  rw [h1, ← h2]
  exact List.take_left

/-- The slice v has n entries, all the mark m; its row lies below block B. -/
def Mrk (w : World) (B : Nat) (v : Value) (n : Nat) (m : Int) : Prop := ∃ ao cap, v = .slice ao n cap ∧ (n = 0 ∨ ∃ g cur, ao = some ⟨g, 0, none⟩ ∧ g < B ∧ w.heap[g]? = some (.cells cur 92) ∧ cur.toList.take (n * 4) = flat (marks n m))

theorem Mrk.keep {w w' : World} {B B' : Nat} {v : Value} {n : Nat} {m : Int} (h : Mrk w B v n m) (hB : B ≤ B') (hk : ∀ g cur, g < B → w.heap[g]? = some (.cells cur 92) → w'.heap[g]? = w.heap[g]?) : Mrk w' B' v n m := by
  obtain ⟨ao, cap, hv, h⟩ := h
  refine ⟨ao, cap, hv, ?_⟩
  rcases h with h | ⟨g, cur, ha, hg, hh, ht⟩
  · exact .inl h
  · exact .inr ⟨g, cur, ha, by omega, (hk g cur hg hh).trans hh, ht⟩

theorem Mrk.below {w w' : World} {B : Nat} {v : Value} {n : Nat} {m : Int} (h : Mrk w B v n m) (hb : Below B w w') : Mrk w' B v n m := h.keep (Nat.le_refl _) fun g _ hg _ => hb.block g hg

theorem Mrk.of_owned {w : World} {base : Nat} {v : Value} {n : Nat} {m : Int} (h : w.ownsRow base 92 4 v n (flat (marks n m))) : Mrk w w.heap.size v n m := by
  rcases h.2 with ⟨rfl, rfl⟩ | ⟨g, cap, cur, rfl, hb, hg, -, -, -, ht⟩
  · exact ⟨none, 0, rfl, .inl rfl⟩
  · exact ⟨_, cap, rfl, .inr ⟨g, cur, rfl, blk_lt' hg, hg, ht⟩⟩

/-- Through an append of one mark more to a list of marks. -/
theorem Mrk.append {w w' : World} {base : Nat} {u v : Value} {k n g c : Nat} {m : Int} (h : Mrk w w.heap.size u k m) (hg : w.grownBy w' v.ownBlock) (hown : w'.ownsRow base 92 4 (.slice (some ⟨g, 0, none⟩) (n + 1) c) (n + 1) (flat (marks (n + 1) m)))
    (hat : v.ownBlock = some g ∨ (g = w.heap.size ∧ ∀ k, k < w.heap.size → w'.heap[k]? = w.heap[k]?)) (hk : k ≤ n + 1) : Mrk w' w'.heap.size u k m := by
  obtain ⟨ao, cap, hv, h⟩ := h
  refine ⟨ao, cap, hv, ?_⟩
  rcases h with h | ⟨gu, cur, ha, hgu, hh, ht⟩
  · exact .inl h
  · have hlt := blk_lt' hh
    by_cases he : gu = g ∧ v.ownBlock = some g
    · obtain ⟨rfl, -⟩ := he
      rcases hown.2 with ⟨h0, -⟩ | ⟨g', cap', cur', hv', -, hg', -, -, -, ht'⟩
      · cases h0
      · cases hv'
        exact .inr ⟨gu, cur', ha, blk_lt' hg', hg', marks_take hk m ht'⟩
    · have hsame : w'.heap[gu]? = w.heap[gu]? := by
        rcases hat with h1 | ⟨-, h1⟩
        · exact hg.block gu hlt (fun e => he ⟨by rw [h1] at e; exact Option.some.inj e, h1⟩)
        · exact h1 gu hlt
      exact .inr ⟨gu, cur, ha, Nat.lt_of_lt_of_le hlt hg.size, hsame.trans hh, ht⟩

theorem Mrk.alloc {w : World} {u : Value} {k : Nat} {m : Int} (h : Mrk w w.heap.size u k m) (o : Obj) : Mrk (w.alloc o) (w.alloc o).heap.size u k m :=
  h.keep (by simp) fun g _ hg _ => Below.heap_alloc w o g hg

theorem Mrk.sees {w : World} {B : Nat} {v : Value} {n : Nat} {m : Int} (hn : n ≤ 4398046511104) (h : Mrk w B v n m) : Sees w v (marks n m) := by
  obtain ⟨ao, cap, rfl, h⟩ := h
  refine ⟨by rw [marks_length]; exact hn, ?_⟩
  rcases h with rfl | ⟨g, cur, rfl, -, hh, ht⟩
  · exact .inl ⟨rfl, ao, cap, rfl⟩
  · refine .inr ⟨g, 0, cap, by rw [marks_length], blk_lt' hh, fun i x hx => ?_⟩
    have hi : i < n := by have := (List.getElem?_eq_some_iff.1 hx).1; rwa [marks_length] at this
    obtain ⟨a0, a1, a2, a3⟩ := flat_at hx
    have key : ∀ j, j < n * 4 → w.cell? ⟨g, 0 + j, none⟩ = (flat (marks n m))[j]? := fun j hj => by
      rw [cell_of_row w g (0 + j) cur 92 (0, 0) hh, Nat.zero_add, ← ht, List.getElem?_take, if_pos hj]
      simp
    refine ⟨?_, ?_, ?_, ?_⟩
    · rw [key _ (by omega)]; exact a0
    · rw [show 0 + i * 4 + 1 = 0 + (i * 4 + 1) by omega, key _ (by omega)]; exact a1
    · rw [show 0 + i * 4 + 2 = 0 + (i * 4 + 2) by omega, key _ (by omega)]; exact a2
    · rw [show 0 + i * 4 + 3 = 0 + (i * 4 + 3) by omega, key _ (by omega)]; exact a3

/-- A list that came out: itself, with one entry more, with three; its mark. -/
structure Ent where
  l : Value
  one : Value
  three : Value
  m : Int
  n : Nat

def Ent.vals (e : Ent) : List Value := [e.l, e.one, e.three, .int .i64 e.m]
def flatE (es : List Ent) : List Value := es.flatMap Ent.vals

def EOk (w : World) (B : Nat) (e : Ent) : Prop := Mrk w B e.l e.n e.m ∧ Mrk w B e.one (e.n + 1) e.m ∧ Mrk w B e.three (e.n + 3) e.m ∧ e.n ≤ 40

theorem EOk.keep {w w' : World} {B B' : Nat} {e : Ent} (h : EOk w B e) (hB : B ≤ B') (hk : ∀ g cur, g < B → w.heap[g]? = some (.cells cur 92) → w'.heap[g]? = w.heap[g]?) : EOk w' B' e :=
  ⟨h.1.keep hB hk, h.2.1.keep hB hk, h.2.2.1.keep hB hk, h.2.2.2⟩

theorem flatE_length (l : List Ent) : (flatE l).length = l.length * 4 := by
  induction l with
  | nil => rfl
  | cons x l ih => simp only [flatE, List.flatMap_cons, List.length_append, List.length_cons] at ih ⊢; rw [ih]; simp [Ent.vals]; omega

theorem flatE_at {l : List Ent} {i : Nat} {x : Ent} (h : l[i]? = some x) : (flatE l)[i * 4]? = some x.l ∧ (flatE l)[i * 4 + 1]? = some x.one ∧ (flatE l)[i * 4 + 2]? = some x.three ∧ (flatE l)[i * 4 + 3]? = some (.int .i64 x.m) := by
  induction l generalizing i with
  | nil => simp at h
  | cons y l ih =>
    have e : flatE (y :: l) = y.vals ++ flatE l := by simp [flatE]
    rw [e]
    have hl : y.vals.length = 4 := rfl
    match i, h with
    | 0, h =>
      simp at h
      subst h
      simp [Ent.vals]
    | i + 1, h =>
      have h' : l[i]? = some x := by simpa using h
      obtain ⟨a0, a1, a2, a3⟩ := ih h'
      refine ⟨?_, ?_, ?_, ?_⟩
      · rw [List.getElem?_append_right (by omega), hl, show (i + 1) * 4 - 4 = i * 4 by omega]; exact a0
      · rw [List.getElem?_append_right (by omega), hl, show (i + 1) * 4 + 1 - 4 = i * 4 + 1 by omega]; exact a1
      · rw [List.getElem?_append_right (by omega), hl, show (i + 1) * 4 + 2 - 4 = i * 4 + 2 by omega]; exact a2
      · rw [List.getElem?_append_right (by omega), hl, show (i + 1) * 4 + 3 - 4 = i * 4 + 3 by omega]; exact a3

/-- All that the law keeps, in block BW and in the rows that lie below block B. -/
def Inv (w : World) (B BW : Nat) (es : List Ent) : Prop := ∃ vc, w.heap[BW]? = some (.cells #[.slice none 0 0, .slice none 0 0, vc, .slice none 0 0] 34) ∧ w.ownsRow (BW + 1) 48 4 vc es.length (flatE es) ∧ (∀ g, vc.ownBlock = some g → g < B) ∧ BW < B ∧ ∀ e ∈ es, EOk w B e

theorem owns_below {w w' : World} {B base : Nat} {e : TypeId} {size : Nat} {v : Value} {n : Nat} {xs : List Value} (h : w.ownsRow base e size v n xs) (hB : ∀ g, v.ownBlock = some g → g < B) (hb : Below B w w') : w'.ownsRow base e size v n xs := by
  refine ⟨h.1, ?_⟩
  rcases h.2 with h2 | ⟨g, cap, cur, rfl, hg, hh, r⟩
  · exact .inl h2
  · exact .inr ⟨g, cap, cur, rfl, hg, (hb.block g (hB g rfl)).trans hh, r⟩

theorem Inv.up {w w' : World} {B BW : Nat} {es : List Ent} (h : Inv w B BW es) (hb : Below B w w') : Inv w' B BW es := by
  obtain ⟨vc, h1, h2, h3, h4, h5⟩ := h
  exact ⟨vc, (hb.block BW h4).trans h1, owns_below h2 h3 hb, h3, h4, fun e he => (h5 e he).keep (Nat.le_refl _) fun g _ hg _ => hb.block g hg⟩

theorem Inv.wide {w : World} {B B' BW : Nat} {es : List Ent} (h : Inv w B BW es) (hB : B ≤ B') : Inv w B' BW es := by
  obtain ⟨vc, h1, h2, h3, h4, h5⟩ := h
  exact ⟨vc, h1, h2, fun g hg => Nat.lt_of_lt_of_le (h3 g hg) hB, by omega, fun e he => (h5 e he).keep hB fun _ _ _ _ => rfl⟩

end Go.Proofs.YtbhbacphiinpeaaGreat
