/- Re2 Re3 Re1: joined. -/
import Derived.Test.YtbhbacphiinpeaaGreatZ34

/- A machine that is being made: facts on memory. -/
namespace Go.Proofs.YtbhbacphiinpeaaGreat
open Go.RowKit

def wrpB : Wrp := ⟨0, false, false⟩
def zipW (vs : List Value) : List (Value × Wrp) := vs.map fun v => (v, wrpB)

theorem zipW_at {vs : List Value} {i : Nat} {v : Value} (h : vs[i]? = some v) : (zipW vs)[i]? = some (v, wrpB) := by simp [zipW, List.getElem?_map, h]
theorem flatW_snoc (l : List (Value × Wrp)) (v : Value) (x : Wrp) : flatW (l ++ [(v, x)]) = flatW l ++ [v, .int .i64 x.at0, .bool x.waits, .bool x.done] := by simp [flatW]
theorem flatT_snoc (l : List Thr) (t : Thr) : flatT (l ++ [t]) = flatT l ++ t.vals := by simp [flatT]

theorem zipW_set {v' : Value} : ∀ {vs : List Value} {i : Nat}, (flatW (zipW vs)).set (i * 4) v' = flatW (zipW (vs.set i v'))
  | [], i => by simp [zipW, flatW]
  | u :: vs, 0 => by simp [zipW, flatW]
  | u :: vs, i + 1 => by
    have ih := zipW_set (v' := v') (vs := vs) (i := i)
    show ([u, .int .i64 wrpB.at0, .bool wrpB.waits, .bool wrpB.done] ++ flatW (zipW vs)).set ((i + 1) * 4) v' = [u, .int .i64 wrpB.at0, .bool wrpB.waits, .bool wrpB.done] ++ flatW (zipW (vs.set i v'))
    rw [List.set_append_right _ _ (by simp; omega), ← ih]
    congr 2
    simp
    omega

/-- The machine that is being made: its threads ts, its warps' lists vs with the threads gs; what is made in the loop lies from block B on. -/
structure NewAt (w : World) (B bM gK cK gJ cJ gM cM : Nat) (k : List Ins) (J mem : List Int) (ts : List Thr) (vT vW : Value) (vs : List Value) (gs : List (List Nat)) : Prop where
  blk : w.heap[bM]? = some (.cells #[.slice (some ⟨gK, 0, none⟩) k.length cK, .slice (some ⟨gJ, 0, none⟩) k.length cJ, vT, vW, .slice (some ⟨gM, 0, none⟩) mem.length cM, .int .i64 0] 85)
  rT : w.ownsRow B 116 6 vT ts.length (flatT ts)
  rW : w.ownsRow B 118 4 vW vs.length (flatW (zipW vs))
  lenG : gs.length = vs.length
  rG : ∀ (i : Nat) v g, vs[i]? = some v → gs[i]? = some g → w.ownsRow B 3 1 v g.length (natVals g)
  ap : ∀ (i j : Nat) v u, i ≠ j → vs[i]? = some v → vs[j]? = some u → ∀ b c, v.ownBlock = some b → u.ownBlock = some c → b ≠ c
  hB : bM < B

theorem blkM_lt {w : World} {B bM gK cK gJ cJ gM cM : Nat} {k : List Ins} {J mem : List Int} {ts : List Thr} {vT vW : Value} {vs : List Value} {gs : List (List Nat)} (h : NewAt w B bM gK cK gJ cJ gM cM k J mem ts vT vW vs gs) : bM < w.heap.size := blk_lt h.blk

theorem NewAt.cells {w : World} {B bM gK cK gJ cJ gM cM : Nat} {k : List Ins} {J mem : List Int} {ts : List Thr} {vT vW : Value} {vs : List Value} {gs : List (List Nat)} (h : NewAt w B bM gK cK gJ cJ gM cM k J mem ts vT vW vs gs) :
    (w.cell? ⟨bM, 2, none⟩ = some vT ∧ w.cell? ⟨bM, 3, none⟩ = some vW) ∧ (w.frozen? ⟨bM, 2, none⟩ = false ∧ w.frozen? ⟨bM, 3, none⟩ = false) := by
  refine ⟨⟨?_, ?_⟩, ?_, ?_⟩
  · rw [cell_of_row w bM _ _ 85 _ h.blk]; rfl
  · rw [cell_of_row w bM _ _ 85 _ h.blk]; rfl
  · exact frozen_of_row w bM 2 _ 85 h.blk
  · exact frozen_of_row w bM 3 _ 85 h.blk

/-- What is not the row that grew stays. -/
theorem NewAt.alloc {w : World} {B bM gK cK gJ cJ gM cM : Nat} {k : List Ins} {J mem : List Int} {ts : List Thr} {vT vW : Value} {vs : List Value} {gs : List (List Nat)} (h : NewAt w B bM gK cK gJ cJ gM cM k J mem ts vT vW vs gs) (o : Obj) : NewAt (w.alloc o) B bM gK cK gJ cJ gM cM k J mem ts vT vW vs gs :=
  ⟨(Below.heap_alloc _ _ _ (blk_lt h.blk)).trans h.blk, h.rT.alloc _, h.rW.alloc _, h.lenG, fun i v g hv hg => (h.rG i v g hv hg).alloc _, h.ap, h.hB⟩

/-- One thread more. -/
theorem NewAt.thread {w w1 : World} {B bM gK cK gJ cJ gM cM : Nat} {k : List Ins} {J mem : List Int} {ts : List Thr} {vT vW vT' : Value} {vs : List Value} {gs : List (List Nat)} {t : Thr} (h : NewAt w B bM gK cK gJ cJ gM cM k J mem ts vT vW vs gs)
    (hown : w1.ownsRow B 116 6 vT' (ts.length + 1) (flatT ts ++ t.vals)) (hg : w.grownBy w1 vT.ownBlock) :
    w1.heap[bM]? = w.heap[bM]? ∧ NewAt (w1.setCell ⟨bM, 2, none⟩ vT') B bM gK cK gJ cJ gM cM k J mem (ts ++ [t]) vT' vW vs gs := by
  have hb : w1.heap[bM]? = w.heap[bM]? := hg.block bM (blk_lt h.blk) (fun e => by have := (h.rT.lt bM e.symm).1; have := h.hB; omega)
  have hne : ∀ {e : TypeId} {s : Nat} {v : Value} {n : Nat} {xs : List Value}, w1.ownsRow B e s v n xs → (w1.setCell ⟨bM, 2, none⟩ vT').ownsRow B e s v n xs := fun ho => owns_setCell ho (fun g hg' => by have := (ho.lt g hg').1; have := h.hB; dsimp only; omega) _
  refine ⟨hb, ?_, ?_, ?_, h.lenG, fun i v g hv hgg => ?_, h.ap, h.hB⟩
  · rw [heap_setCell_same w1 bM 2 _ 85 vT' (hb.trans h.blk)]; rfl
  · have := hne hown
    rw [List.length_append, flatT_snoc]
    exact this
  · exact hne (h.rW.kept hg (rows_apart h.rW h.rT (by decide)))
  · exact hne ((h.rG i v g hv hgg).kept hg (rows_apart (h.rG i v g hv hgg) h.rT (by decide)))

/-- One warp more. -/
theorem NewAt.warp {w w1 : World} {B bM gK cK gJ cJ gM cM : Nat} {k : List Ins} {J mem : List Int} {ts : List Thr} {vT vW vW' : Value} {vs : List Value} {gs : List (List Nat)} (h : NewAt w B bM gK cK gJ cJ gM cM k J mem ts vT vW vs gs)
    (hown : w1.ownsRow B 118 4 vW' (vs.length + 1) (flatW (zipW vs) ++ [.slice none 0 0, .int .i64 0, .bool false, .bool false])) (hg : w.grownBy w1 vW.ownBlock) :
    w1.heap[bM]? = w.heap[bM]? ∧ NewAt (w1.setCell ⟨bM, 3, none⟩ vW') B bM gK cK gJ cJ gM cM k J mem ts vT vW' (vs ++ [.slice none 0 0]) (gs ++ [[]]) := by
  have hb : w1.heap[bM]? = w.heap[bM]? := hg.block bM (blk_lt h.blk) (fun e => by have := (h.rW.lt bM e.symm).1; have := h.hB; omega)
  have hne : ∀ {e : TypeId} {s : Nat} {v : Value} {n : Nat} {xs : List Value}, w1.ownsRow B e s v n xs → (w1.setCell ⟨bM, 3, none⟩ vW').ownsRow B e s v n xs := fun ho => owns_setCell ho (fun g hg' => by have := (ho.lt g hg').1; have := h.hB; dsimp only; omega) _
  have hlast : ∀ {i : Nat} {v : Value}, (vs ++ [Value.slice none 0 0])[i]? = some v → vs[i]? = some v ∨ (i = vs.length ∧ v = .slice none 0 0) := fun {i v} hv => by
    by_cases hi : i < vs.length
    · rw [List.getElem?_append_left hi] at hv; exact .inl hv
    · rw [List.getElem?_append_right (by omega)] at hv
      have h0 := (List.getElem?_eq_some_iff.1 hv).1
      simp at h0
      have : i - vs.length = 0 := by omega
      rw [this] at hv
      simp at hv
      exact .inr ⟨by omega, hv.symm⟩
  refine ⟨hb, ?_, ?_, ?_, by simp [h.lenG], fun i v g hv hgg => ?_, fun i j v u hij hv hu b c hb' hc' => ?_, h.hB⟩
  · rw [heap_setCell_same w1 bM 3 _ 85 vW' (hb.trans h.blk)]; rfl
  · exact hne (h.rT.kept hg (rows_apart h.rT h.rW (by decide)))
  · have e : zipW (vs ++ [.slice none 0 0]) = zipW vs ++ [(.slice none 0 0, wrpB)] := by simp [zipW]
    rw [List.length_append, e, flatW_snoc]
    exact hne hown
  · rcases hlast hv with h1 | ⟨rfl, rfl⟩
    · have hi := (List.getElem?_eq_some_iff.1 h1).1
      rw [List.getElem?_append_left (by rw [h.lenG]; exact hi)] at hgg
      exact hne ((h.rG i v g h1 hgg).kept hg (rows_apart (h.rG i v g h1 hgg) h.rW (by decide)))
    · rw [List.getElem?_append_right (by rw [h.lenG]; exact Nat.le_refl _), h.lenG] at hgg
      simp at hgg
      subst hgg
      exact World.ownsRow_nil _ _ _ _
  · rcases hlast hv with h1 | ⟨rfl, rfl⟩
    · rcases hlast hu with h2 | ⟨rfl, rfl⟩
      · exact h.ap i j v u hij h1 h2 b c hb' hc'
      · simp [Value.ownBlock] at hc'
    · simp [Value.ownBlock] at hb'

/-- One thread more in a warp's list. -/
theorem NewAt.member {w w1 : World} {B bM gK cK gJ cJ gM cM : Nat} {k : List Ins} {J mem : List Int} {ts : List Thr} {vT v v' : Value} {gW nW cW x : Nat} {vs : List Value} {gs : List (List Nat)} {i : Nat} {g : List Nat} (h : NewAt w B bM gK cK gJ cJ gM cM k J mem ts vT (.slice (some ⟨gW, 0, none⟩) nW cW) vs gs) (hnW : vs.length = nW)
    (hv : vs[i]? = some v) (hgi : gs[i]? = some g) (hown : w1.ownsRow B 3 1 v' (g.length + 1) (natVals (g ++ [x]))) (hg : w.grownBy w1 v.ownBlock)
    (hat : ∀ b, v'.ownBlock = some b → v.ownBlock = some b ∨ w.heap.size ≤ b) :
    w1.heap[bM]? = w.heap[bM]? ∧ w1.heap[gW]? = w.heap[gW]? ∧ NewAt (w1.setCell ⟨gW, i * 4, none⟩ v') B bM gK cK gJ cJ gM cM k J mem ts vT (.slice (some ⟨gW, 0, none⟩) nW cW) (vs.set i v') (gs.set i (g ++ [x])) := by
  subst hnW
  have hrv := h.rG i v g hv hgi
  have hil := (List.getElem?_eq_some_iff.1 hv).1
  have hb : w1.heap[bM]? = w.heap[bM]? := hg.block bM (blk_lt h.blk) (fun e => by have := (hrv.lt bM e.symm).1; have := h.hB; omega)
  have hgWlt := (h.rW.lt gW rfl).2
  have hgWB := (h.rW.lt gW rfl).1
  obtain ⟨cW', hWb⟩ := owns_blk h.rW
  have hw : w1.heap[gW]? = w.heap[gW]? := hg.block gW hgWlt (owns_not hrv hWb (by decide))
  have hW1 : w1.ownsRow B 118 4 (.slice (some ⟨gW, 0, none⟩) vs.length cW) vs.length (flatW (zipW vs)) := h.rW.kept hg (rows_apart h.rW hrv (by decide))
  have hset : ∀ {j : Nat} {u : Value}, (vs.set i v')[j]? = some u → (j = i ∧ u = v') ∨ (j ≠ i ∧ vs[j]? = some u) := fun {j u} hu => by
    rw [List.getElem?_set] at hu
    by_cases e : i = j
    · rw [if_pos e, if_pos hil] at hu
      exact .inl ⟨e.symm, (Option.some.inj hu).symm⟩
    · rw [if_neg e] at hu
      exact .inr ⟨fun e' => e e'.symm, hu⟩
  have hvW : ∀ b, v'.ownBlock = some b → b ≠ gW := fun b hb' e => by
    subst e
    rcases hown.2 with ⟨h0, -⟩ | ⟨g', cap, cur, hv2, -, hh, -⟩
    · rw [h0] at hb'; simp [Value.ownBlock] at hb'
    · rw [hv2] at hb'
      simp only [Value.ownBlock, Option.some.injEq] at hb'
      subst hb'
      rw [hw, hWb] at hh
      simp at hh
  refine ⟨hb, hw, ?_, ?_, ?_, by simp [h.lenG], fun j u gg hu hgg => ?_, fun a j u z haj hu hz b c hb' hc' => ?_, h.hB⟩
  · rw [Below.heap_setCell _ _ _ _ (by have := h.hB; dsimp only; omega)]; exact hb.trans h.blk
  · have h1 := h.rT.kept hg (rows_apart h.rT hrv (by decide))
    exact owns_setCell h1 (fun b hb' => by
      rcases rows_apart h1 hW1 (by decide) with e | e
      · rw [e] at hb'; simp at hb'
      · intro e'; subst e'; exact e (by rw [hb']; rfl)) _
  · have h1 := (hW1.stored (i * 4) v').1
    rw [List.length_set, ← zipW_set]
    exact h1
  · rcases hset hu with ⟨rfl, rfl⟩ | ⟨hj, hu'⟩
    · rw [List.getElem?_set, if_pos rfl, if_pos (by rw [h.lenG]; exact hil)] at hgg
      cases hgg
      rw [List.length_append]
      exact owns_setCell hown hvW _
    · rw [List.getElem?_set, if_neg (fun e => hj e.symm)] at hgg
      have h1 := h.rG j u gg hu' hgg
      have h2 := h1.kept hg (by
        cases hub : u.ownBlock with
        | none => exact .inl rfl
        | some b =>
          right
          intro e
          exact h.ap j i u v hj hu' hv b b hub e.symm rfl)
      exact owns_setCell h2 (fun b hb' e => by
        dsimp only at e
        subst e
        rcases h1.2 with ⟨h0, -⟩ | ⟨g', cap, cur, hv2, -, hh, -⟩
        · rw [h0] at hb'; simp [Value.ownBlock] at hb'
        · rw [hv2] at hb'
          simp only [Value.ownBlock, Option.some.injEq] at hb'
          subst hb'
          rw [hWb] at hh
          simp at hh) _
  · rcases hset hu with ⟨rfl, rfl⟩ | ⟨ha, hu'⟩
    · rcases hset hz with ⟨rfl, rfl⟩ | ⟨hj, hz'⟩
      · exact absurd rfl haj
      · rcases hat b hb' with h1 | h1
        · exact h.ap a j v z haj hv hz' b c h1 hc'
        · obtain ⟨gg, hgg⟩ : ∃ gg, gs[j]? = some gg := ⟨_, List.getElem?_eq_getElem (by rw [h.lenG]; exact (List.getElem?_eq_some_iff.1 hz').1)⟩
          have := ((h.rG j z gg hz' hgg).lt c hc').2
          omega
    · rcases hset hz with ⟨rfl, rfl⟩ | ⟨hj, hz'⟩
      · rcases hat c hc' with h1 | h1
        · exact h.ap a j u v haj hu' hv b c hb' h1
        · obtain ⟨gg, hgg⟩ : ∃ gg, gs[a]? = some gg := ⟨_, List.getElem?_eq_getElem (by rw [h.lenG]; exact (List.getElem?_eq_some_iff.1 hu').1)⟩
          have := ((h.rG a u gg hu' hgg).lt b hb').2
          omega
      · exact h.ap a j u z haj hu' hz' b c hb' hc'

end Go.Proofs.YtbhbacphiinpeaaGreat

/- The warps of n threads: plain lists. -/
namespace Go.Proofs.YtbhbacphiinpeaaGreat
open Go.RowKit

def gsOf (n : Nat) : List (List Nat) := (List.range ((n + 3) / 4)).map (warpG n)
def gsMid (i : Nat) : List (List Nat) := if i % 4 = 0 then gsOf i ++ [[]] else gsOf i
def thrOf (fn i : Nat) : Thr := ⟨(fn : Int) + (i : Int), [0, 0, 0, 0], false⟩

theorem gsOf_at {n j : Nat} (h : j < (n + 3) / 4) : (gsOf n)[j]? = some (warpG n j) := by
  unfold gsOf
  rw [List.getElem?_map, List.getElem?_range h]; rfl
theorem gsOf_len (n : Nat) : (gsOf n).length = (n + 3) / 4 := by simp [gsOf]

theorem warp_full {n j : Nat} (h : 4 * j + 4 ≤ n) : warpG (n + 1) j = warpG n j := by
  unfold warpG
  congr 1
  omega
theorem warp_last {i : Nat} : warpG i (i / 4) ++ [i] = warpG (i + 1) (i / 4) := by
  unfold warpG
  have e1 : min 4 (i - 4 * (i / 4)) = i % 4 := by omega
  have e2 : min 4 (i + 1 - 4 * (i / 4)) = i % 4 + 1 := by omega
  rw [e1, e2, List.range'_concat]
  congr 2
  omega
theorem warp_empty {i : Nat} (h : i % 4 = 0) : warpG i (i / 4) = [] := by
  unfold warpG
  have e1 : min 4 (i - 4 * (i / 4)) = 0 := by omega
  rw [e1]; rfl

theorem mid_len (i : Nat) : (gsMid i).length = i / 4 + 1 := by
  unfold gsMid
  split
  · rw [List.length_append, gsOf_len]; simp; omega
  · rw [gsOf_len]; omega
theorem mid_at (i : Nat) : (gsMid i)[i / 4]? = some (warpG i (i / 4)) := by
  unfold gsMid
  split
  · rename_i h
    rw [List.getElem?_append_right (by rw [gsOf_len]; omega), gsOf_len, warp_empty h]
    have : i / 4 - (i + 3) / 4 = 0 := by omega
    rw [this]; rfl
  · exact gsOf_at (by omega)
theorem mid_set (i : Nat) : (gsMid i).set (i / 4) (warpG i (i / 4) ++ [i]) = gsOf (i + 1) := by
  apply List.ext_getElem?
  intro j
  rw [List.getElem?_set]
  by_cases e : i / 4 = j
  · subst e
    rw [if_pos rfl, if_pos (by rw [mid_len]; omega), warp_last, gsOf_at (by omega)]
  · rw [if_neg e]
    by_cases hj : j < i / 4
    · rw [gsOf_at (by omega), warp_full (by omega)]
      unfold gsMid
      split
      · rw [List.getElem?_append_left (by rw [gsOf_len]; omega), gsOf_at (by omega)]
      · rw [gsOf_at (by omega)]
    · rw [List.getElem?_eq_none (by rw [mid_len]; omega), List.getElem?_eq_none (by rw [gsOf_len]; omega)]

end Go.Proofs.YtbhbacphiinpeaaGreat

/- What the document's 'New' answers where it is refused. -/
namespace Go.Proofs.YtbhbacphiinpeaaGreat
open Go.RowKit

set_option maxHeartbeats 400000 in
theorem rnew_no (s : ByteArray) (hm : s.size ≤ 140737488355328) (h0 : (dchk s).1 ≠ 0) (t f : Int) (ao : Option Addr) (n cap : Nat) (w : World) :
    Calls Tryz.prog 36 #[.string s, .int .i64 t, .int .i64 f, .slice ao n cap] w fun e w' => e = .returned (.tuple #[.pointer none, .int .i64 (dchk s).1, .int .i64 (dchk s).2]) ∧ Below w.heap.size w w' := by
  have g0 : ((dchk s).1 != 0) = true := by simpa using h0
  clear h0
  go_enter Tryz.func36, Tryz.ntmps36
  go_wp2_with fail
  refine (rdecode_any s hm _).mono ?_
  rintro e w1 ⟨v, rfl, hb1, -⟩
  go_wp2
  go_ret3
  exact ⟨rfl, hb1⟩

set_option maxHeartbeats 1000000 in
theorem rnew_bad (s : ByteArray) (hm : s.size ≤ 140737488355328) (h0 : (dchk s).1 = 0) (t f : Int) (ao : Option Addr) (n cap : Nat) (hn : n ≤ 17592186044416) (w : World) (he : newErr t f n ≠ 0) :
    Calls Tryz.prog 36 #[.string s, .int .i64 t, .int .i64 f, .slice ao n cap] w fun e w' => e = .returned (.tuple #[.pointer none, .int .i64 (newErr t f n), .int .i64 0]) ∧ Below w.heap.size w w' := by
  have g0 : ((dchk s).1 != 0) = false := by simpa using h0
  clear h0
  by_cases h1 : t < 1
  · have hq : Hid (newErr t f n = 4) := by unfold Hid newErr; rw [if_pos (.inl h1)]
    have g1 : decide (t < 1) = true := by simpa using h1
    go_enter Tryz.func36, Tryz.ntmps36
    go_wp2_with fail
    refine (rdecode_any s hm _).mono ?_
    rintro e w1 ⟨v, rfl, hb1, -⟩
    go_wp2
    go_ret3
    rw [hq.out]
    exact ⟨rfl, hb1⟩
  have g1 : decide (t < 1) = false := by simpa using h1
  by_cases h2 : 16 < t
  · have hq : Hid (newErr t f n = 4) := by unfold Hid newErr; rw [if_pos (.inr (.inl h2))]
    have g2 : decide (16 < t) = true := by simpa using h2
    go_enter Tryz.func36, Tryz.ntmps36
    go_wp2_with fail
    refine (rdecode_any s hm _).mono ?_
    rintro e w1 ⟨v, rfl, hb1, -⟩
    go_wp2
    go_ret3
    rw [hq.out]
    exact ⟨rfl, hb1⟩
  have g2 : decide (16 < t) = false := by simpa using h2
  by_cases h3 : f < 0
  · have hq : Hid (newErr t f n = 4) := by unfold Hid newErr; rw [if_pos (.inr (.inr (.inl h3)))]
    have g3 : decide (f < 0) = true := by simpa using h3
    go_enter Tryz.func36, Tryz.ntmps36
    go_wp2_with fail
    refine (rdecode_any s hm _).mono ?_
    rintro e w1 ⟨v, rfl, hb1, -⟩
    go_wp2
    go_ret3
    rw [hq.out]
    exact ⟨rfl, hb1⟩
  have g3 : decide (f < 0) = false := by simpa using h3
  by_cases h4 : 1000 < f
  · have hq : Hid (newErr t f n = 4) := by unfold Hid newErr; rw [if_pos (.inr (.inr (.inr h4)))]
    have g4 : decide (1000 < f) = true := by simpa using h4
    go_enter Tryz.func36, Tryz.ntmps36
    go_wp2_with fail
    refine (rdecode_any s hm _).mono ?_
    rintro e w1 ⟨v, rfl, hb1, -⟩
    go_wp2
    go_ret3
    rw [hq.out]
    exact ⟨rfl, hb1⟩
  have g4 : decide (1000 < f) = false := by simpa using h4
  have hq : Hid (newErr t f n = 5 ∧ (n < 1 ∨ 32 < n)) := by
    unfold newErr at he
    rw [if_neg (by omega)] at he
    by_cases h5 : n < 1 ∨ 32 < n
    · refine ⟨?_, h5⟩
      unfold newErr
      rw [if_neg (by omega), if_pos h5]
    · rw [if_neg h5] at he
      exact absurd rfl he
  clear he h1 h2 h3 h4
  by_cases h5 : n < 1
  · have hn0 : n = 0 := by omega
    subst hn0
    clear h5
    go_enter Tryz.func36, Tryz.ntmps36
    go_wp2_with fail
    refine (rdecode_any s hm _).mono ?_
    rintro e w1 ⟨v, rfl, hb1, -⟩
    go_wp2
    go_ret3
    rw [hq.out.1]
    exact ⟨rfl, hb1⟩
  · have g5 : decide ((n : Int) < 1) = false := by simp; omega
    have g6 : decide (32 < (n : Int)) = true := by
      have := hq.out.2
      simp; omega
    go_enter Tryz.func36, Tryz.ntmps36
    go_wp2_with fail
    refine (rdecode_any s hm _).mono ?_
    rintro e w1 ⟨v, rfl, hb1, -⟩
    go_wp2
    go_ret3
    rw [hq.out.1]
    exact ⟨rfl, hb1⟩

end Go.Proofs.YtbhbacphiinpeaaGreat

