/- The lists that came out, of numbers, instructions and logs, and what stays true of them: facts on memory; nothing of the program is in this text. -/
import Derived.Test.YtbhbacphiinpeaaGreatInv
namespace Go.Proofs.YtbhbacphiinpeaaGreat
open Go.RowKit

/-- A kind of lists: its elements' type, the type of its entries, the cells of an element, the cells of a mark. -/
structure Fam where
  e : TypeId
  st : TypeId
  sz : Nat
  mv : Int → List Value

abbrev famI : Fam := ⟨3, 45, 1, fun m => [.int .i64 m]⟩
abbrev famC : Fam := ⟨92, 48, 4, fun m => [.int .i64 m, .int .i64 0, .int .i64 0, .int .i64 0]⟩
abbrev famG : Fam := ⟨94, 52, 2, fun m => [.int .i64 m, .int .i64 0]⟩

/-- n marks, as cells. -/
def reps (f : Fam) (n : Nat) (m : Int) : List Value := (List.replicate n (f.mv m)).flatten

theorem reps_succ (f : Fam) (n : Nat) (m : Int) : reps f (n + 1) m = reps f n m ++ f.mv m := by
  unfold reps
  rw [List.replicate_succ', List.flatten_append]
  simp
theorem reps_length {f : Fam} (hf : ∀ m, (f.mv m).length = f.sz) (n : Nat) (m : Int) : (reps f n m).length = n * f.sz := by
  induction n with
  | zero => simp [reps]
  | succ n ih => rw [reps_succ, List.length_append, ih, hf, Nat.succ_mul]
theorem reps_add (f : Fam) (a b : Nat) (m : Int) : reps f (a + b) m = reps f a m ++ reps f b m := by
  unfold reps
  rw [← List.replicate_append_replicate, List.flatten_append]
theorem reps_take {f : Fam} (hf : ∀ m, (f.mv m).length = f.sz) {k n : Nat} (h : k ≤ n) (m : Int) {l : List Value} (hl : l.take (n * f.sz) = reps f n m) : l.take (k * f.sz) = reps f k m := by
  have e : reps f n m = reps f k m ++ reps f (n - k) m := by rw [← reps_add]; congr 1; omega
  have h1 : (l.take (n * f.sz)).take (k * f.sz) = (reps f n m).take (k * f.sz) := by rw [hl]
  rw [List.take_take, Nat.min_eq_left (Nat.mul_le_mul_right _ h), e] at h1
  rw [h1, ← reps_length hf k m]
  exact List.take_left

/-- The slice v has n entries, all the mark m; its row lies below block B. -/
def MrkG (f : Fam) (w : World) (B : Nat) (v : Value) (n : Nat) (m : Int) : Prop := ∃ ao cap, v = .slice ao n cap ∧ (n = 0 ∨ ∃ g cur, ao = some ⟨g, 0, none⟩ ∧ g < B ∧ w.heap[g]? = some (.cells cur f.e) ∧ cur.toList.take (n * f.sz) = reps f n m)

theorem MrkG.keep {f : Fam} {w w' : World} {B B' : Nat} {v : Value} {n : Nat} {m : Int} (h : MrkG f w B v n m) (hB : B ≤ B') (hk : ∀ g cur, g < B → w.heap[g]? = some (.cells cur f.e) → w'.heap[g]? = w.heap[g]?) : MrkG f w' B' v n m := by
  obtain ⟨ao, cap, hv, h⟩ := h
  refine ⟨ao, cap, hv, ?_⟩
  rcases h with h | ⟨g, cur, ha, hg, hh, ht⟩
  · exact .inl h
  · exact .inr ⟨g, cur, ha, by omega, (hk g cur hg hh).trans hh, ht⟩

theorem MrkG.of_owned {f : Fam} {w : World} {base : Nat} {v : Value} {n : Nat} {m : Int} (h : w.ownsRow base f.e f.sz v n (reps f n m)) : MrkG f w w.heap.size v n m := by
  rcases h.2 with ⟨rfl, rfl⟩ | ⟨g, cap, cur, rfl, hb, hg, -, -, -, ht⟩
  · exact ⟨none, 0, rfl, .inl rfl⟩
  · exact ⟨_, cap, rfl, .inr ⟨g, cur, rfl, blk_lt' hg, hg, ht⟩⟩

/-- Through an append of one mark more to a list of marks. -/
theorem MrkG.append {f : Fam} (hf : ∀ m, (f.mv m).length = f.sz) {w w' : World} {base : Nat} {u v : Value} {k n g c : Nat} {m : Int} (h : MrkG f w w.heap.size u k m) (hg : w.grownBy w' v.ownBlock) (hown : w'.ownsRow base f.e f.sz (.slice (some ⟨g, 0, none⟩) (n + 1) c) (n + 1) (reps f (n + 1) m))
    (hat : v.ownBlock = some g ∨ (g = w.heap.size ∧ ∀ k, k < w.heap.size → w'.heap[k]? = w.heap[k]?)) (hk : k ≤ n + 1) : MrkG f w' w'.heap.size u k m := by
  obtain ⟨ao, cap, hv, h⟩ := h
  refine ⟨ao, cap, hv, ?_⟩
  rcases h with h | ⟨gu, cur, ha, hgu, hh, ht⟩
  · exact .inl h
  · have hlt := blk_lt' hh
    by_cases he : gu = g ∧ v.ownBlock = some g
    · obtain ⟨rfl, -⟩ := he
      rcases hown.2 with ⟨h0, -⟩ | ⟨g', cap', cur', hv', -, hg', -, -, -, ht'⟩
      · cases h0
      · cases hv'
        exact .inr ⟨gu, cur', ha, blk_lt' hg', hg', reps_take hf hk m ht'⟩
    · have hsame : w'.heap[gu]? = w.heap[gu]? := by
        rcases hat with h1 | ⟨-, h1⟩
        · exact hg.block gu hlt (fun e => he ⟨by rw [h1] at e; exact Option.some.inj e, h1⟩)
        · exact h1 gu hlt
      exact .inr ⟨gu, cur, ha, Nat.lt_of_lt_of_le hlt hg.size, hsame.trans hh, ht⟩

theorem MrkG.alloc {f : Fam} {w : World} {u : Value} {k : Nat} {m : Int} (h : MrkG f w w.heap.size u k m) (o : Obj) : MrkG f (w.alloc o) (w.alloc o).heap.size u k m :=
  h.keep (by simp) fun g _ hg _ => Below.heap_alloc w o g hg

/-- The j-th cell of a list of marks. -/
theorem MrkG.cell {f : Fam} {w : World} {B : Nat} {ao : Option Addr} {n cap : Nat} {m : Int} (h : MrkG f w B (.slice ao n cap) n m) (hn : 0 < n) : ∃ g, ao = some ⟨g, 0, none⟩ ∧ g < w.heap.size ∧ ∀ j, j < n * f.sz → w.cell? ⟨g, j, none⟩ = (reps f n m)[j]? := by
  obtain ⟨ao', cap', hv, h⟩ := h
  cases hv
  rcases h with h | ⟨g, cur, ha, -, hh, ht⟩
  · omega
  · refine ⟨g, ha, blk_lt' hh, fun j hj => ?_⟩
    rw [cell_of_row w g j cur f.e (0, 0) hh, ← ht, List.getElem?_take, if_pos hj]
    simp

def EOkG (f : Fam) (w : World) (B : Nat) (e : Ent) : Prop := MrkG f w B e.l e.n e.m ∧ MrkG f w B e.one (e.n + 1) e.m ∧ MrkG f w B e.three (e.n + 3) e.m ∧ e.n ≤ 4000

theorem EOkG.keep {f : Fam} {w w' : World} {B B' : Nat} {e : Ent} (h : EOkG f w B e) (hB : B ≤ B') (hk : ∀ g cur, g < B → w.heap[g]? = some (.cells cur f.e) → w'.heap[g]? = w.heap[g]?) : EOkG f w' B' e :=
  ⟨h.1.keep hB hk, h.2.1.keep hB hk, h.2.2.1.keep hB hk, h.2.2.2⟩

/-- The lists of one kind, kept in the slice v. -/
def RowG (f : Fam) (w : World) (B BW : Nat) (v : Value) (es : List Ent) : Prop := w.ownsRow (BW + 1) f.st 4 v es.length (flatE es) ∧ (∀ g, v.ownBlock = some g → g < B) ∧ ∀ e ∈ es, EOkG f w B e

theorem RowG.up {f : Fam} {w w' : World} {B BW : Nat} {v : Value} {es : List Ent} (h : RowG f w B BW v es) (hb : Below B w w') : RowG f w' B BW v es :=
  ⟨owns_below h.1 h.2.1 hb, h.2.1, fun e he => (h.2.2 e he).keep (Nat.le_refl _) fun g _ hg _ => hb.block g hg⟩
theorem RowG.wide {f : Fam} {w : World} {B B' BW : Nat} {v : Value} {es : List Ent} (h : RowG f w B BW v es) (hB : B ≤ B') : RowG f w B' BW v es :=
  ⟨h.1, fun g hg => Nat.lt_of_lt_of_le (h.2.1 g hg) hB, fun e he => (h.2.2 e he).keep hB fun _ _ _ _ => rfl⟩

/-- All that the law keeps: the list of machines vps, and the lists that came out. -/
def InvG (w : World) (B BW : Nat) (vps : Value) (ei ec eg : List Ent) : Prop := ∃ vi vc vg, w.heap[BW]? = some (.cells #[vps, vi, vc, vg] 34) ∧ BW < B ∧ RowG famI w B BW vi ei ∧ RowG famC w B BW vc ec ∧ RowG famG w B BW vg eg

theorem InvG.up {w w' : World} {B BW : Nat} {vps : Value} {ei ec eg : List Ent} (h : InvG w B BW vps ei ec eg) (hb : Below B w w') : InvG w' B BW vps ei ec eg := by
  obtain ⟨vi, vc, vg, h1, h2, h3, h4, h5⟩ := h
  exact ⟨vi, vc, vg, (hb.block BW h2).trans h1, h2, h3.up hb, h4.up hb, h5.up hb⟩
theorem InvG.wide {w : World} {B B' BW : Nat} {vps : Value} {ei ec eg : List Ent} (h : InvG w B BW vps ei ec eg) (hB : B ≤ B') : InvG w B' BW vps ei ec eg := by
  obtain ⟨vi, vc, vg, h1, h2, h3, h4, h5⟩ := h
  exact ⟨vi, vc, vg, h1, by omega, h3.wide hB, h4.wide hB, h5.wide hB⟩

theorem owns_not {w : World} {base : Nat} {e : TypeId} {size : Nat} {v : Value} {n : Nat} {xs : List Value} (h : w.ownsRow base e size v n xs) {g : Nat} {cs : Array Value} {t : TypeId} {fr : Nat × Nat} (hg : w.heap[g]? = some (.cells cs t fr)) (hne : t ≠ e) : some g ≠ v.ownBlock := by
  intro e0
  rcases h.2 with ⟨rfl, -⟩ | ⟨g', cap, cur, rfl, -, hh, -⟩
  · simp [Value.ownBlock] at e0
  · simp only [Value.ownBlock, Option.some.injEq] at e0
    subst e0
    rw [hg] at hh
    simp only [Option.some.injEq, Obj.cells.injEq] at hh
    exact hne hh.2.1

/-- A row of another kind stays through an append to the entries of one kind and the store of their field. -/
theorem RowG.other {f f' : Fam} {w w' : World} {B B' BW o : Nat} {v v' vx : Value} {es es' : List Ent} {ob : Obj} {cs : Array Value} (h : RowG f w B BW v es) (hB : B ≤ B') (hBw : B ≤ w.heap.size) (hBW : w.heap[BW]? = some (.cells cs 34)) (hr : w.ownsRow (BW + 1) f'.st 4 v' es'.length (flatE es'))
    (hg : (w.alloc ob).grownBy w' v'.ownBlock) (h1 : f.st ≠ f'.st) (h2 : f.e ≠ f'.st) (h3 : f.e ≠ 34) : RowG f (w'.setCell ⟨BW, o, none⟩ vx) B' BW v es := by
  have hkeep : ∀ g t cur fr, g < w.heap.size → w.heap[g]? = some (.cells cur t fr) → t ≠ f'.st → g ≠ BW → (w'.setCell ⟨BW, o, none⟩ vx).heap[g]? = w.heap[g]? := fun g t cur fr hgl hgt hne hgb => by
    rw [Below.heap_setCell _ _ _ _ hgb, hg.block g (by simp; omega) (owns_not hr hgt hne), Below.heap_alloc _ _ _ hgl]
  refine ⟨?_, fun g hg' => Nat.lt_of_lt_of_le (h.2.1 g hg') hB, fun e he => (h.2.2 e he).keep hB fun g cur hgl hg34 => ?_⟩
  · obtain ⟨k1, k2⟩ := h.1
    refine ⟨k1, ?_⟩
    rcases k2 with k2 | ⟨g, cap, cur, rfl, hgb, hh, r⟩
    · exact .inl k2
    · exact .inr ⟨g, cap, cur, rfl, hgb, (hkeep g f.st cur (0, 0) (blk_lt' hh) hh h1 (by omega)).trans hh, r⟩
  · refine hkeep g f.e cur (0, 0) (by omega) hg34 h2 (fun e0 => ?_)
    rw [e0, hBW] at hg34
    simp only [Option.some.injEq, Obj.cells.injEq] at hg34
    exact h3 hg34.2.1.symm

/-- One entry more of one kind. -/
theorem RowG.more {f : Fam} {w w' : World} {B BW o : Nat} {v v' : Value} {es : List Ent} {en : Ent} {ob : Obj} {cs : Array Value} (h : RowG f w B BW v es) (hBw : B ≤ w.heap.size) (hBW : w.heap[BW]? = some (.cells cs 34)) (hen : EOkG f w w.heap.size en)
    (hown : w'.ownsRow (BW + 1) f.st 4 v' (es.length + 1) (flatE es ++ en.vals)) (hg : (w.alloc ob).grownBy w' v.ownBlock) (h2 : f.e ≠ f.st) (h3 : f.e ≠ 34) : RowG f (w'.setCell ⟨BW, o, none⟩ v') w'.heap.size BW v' (es ++ [en]) := by
  have hgs := hg.size
  simp only [World.size_alloc] at hgs
  have hkeep : ∀ g cur, g < w.heap.size → w.heap[g]? = some (.cells cur f.e) → (w'.setCell ⟨BW, o, none⟩ v').heap[g]? = w.heap[g]? := fun g cur hgl hg34 => by
    have hne : g ≠ BW := fun e0 => by
      rw [e0, hBW] at hg34
      simp only [Option.some.injEq, Obj.cells.injEq] at hg34
      exact h3 hg34.2.1.symm
    rw [Below.heap_setCell _ _ _ _ hne, hg.block g (by simp; omega) (owns_not h.1 hg34 h2), Below.heap_alloc _ _ _ hgl]
  have he : flatE (es ++ [en]) = flatE es ++ en.vals := by simp [flatE]
  refine ⟨?_, fun g hgv => (hown.lt g hgv).2, fun e hee => ?_⟩
  · rw [List.length_append, he]
    obtain ⟨k1, k2⟩ := hown
    refine ⟨k1, ?_⟩
    rcases k2 with k2 | ⟨g, cap, cur, hv, hgb, hh, r⟩
    · exact .inl k2
    · exact .inr ⟨g, cap, cur, hv, hgb, by rw [Below.heap_setCell _ _ _ _ (by show g ≠ BW; omega)]; exact hh, r⟩
  · simp only [List.mem_append, List.mem_singleton] at hee
    rcases hee with hee | rfl
    · exact (h.2.2 e hee).keep (by omega) fun g cur hgl hg34 => hkeep g cur (by omega) hg34
    · exact hen.keep (by omega) hkeep

end Go.Proofs.YtbhbacphiinpeaaGreat
