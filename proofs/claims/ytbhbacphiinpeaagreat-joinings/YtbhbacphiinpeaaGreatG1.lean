/- What the document's 'next' and 'reaches' answer. -/
import Derived.Test.YtbhbacphiinpeaaGreatRows
import Derived.Test.YtbhbacphiinpeaaGreatGr
import Derived.Test.YtbhbacphiinpeaaGreatAp
import Derived.Test.YtbhbacphiinpeaaGreatMk
import Derived.Deep.LoopGhost
namespace Go.Proofs.YtbhbacphiinpeaaGreat
open Go.RowKit

theorem Tryz.info3 : (Tryz.prog.info? 3).map (fun i => (i.zero, i.size, i.bytes)) = some (some (.int .i64 0), 1, 8) := by kernel_rfl
theorem Tryz.info4 : (Tryz.prog.info? 4).map (fun i => (i.zero, i.size, i.bytes)) = some (some (.bool false), 1, 1) := by kernel_rfl

/-- Numbers of instructions as cells. -/
def natVals (l : List Nat) : List Value := l.map fun (m : Nat) => Value.int .i64 (m : Int)

set_option maxHeartbeats 400000 in
theorem next_at (b off n cap i : Nat) (x : Ins) (hi : i < n) (hn : n ≤ 40) (hb0 : 0 ≤ x.b) (w : World) (k : List Ins) (hx : k[i]? = some x)
    (c0 : w.cell? ⟨b, off + i * 4, none⟩ = some (.int .i64 x.o)) (c2 : w.cell? ⟨b, off + i * 4 + 2, none⟩ = some (.int .i64 x.b)) :
    Calls Tryz.prog 87 #[.slice (some ⟨b, off, none⟩) n cap, .int .i64 i] w fun e w' => ∃ v, e = .returned v ∧ w'.ownsRow w.heap.size 3 1 v (nxt k i).length (natVals (nxt k i)) ∧ Below w.heap.size w w' := by
  have hnx : nxt k i = if x.o = 0 then [] else if x.o = 12 then [x.b.toNat] else if x.o = 13 then [x.b.toNat, i + 1] else [i + 1] := by unfold nxt; rw [hx]
  rw [hnx]
  have Hx := hyd hx
  have hbn : ((x.b.toNat : Nat) : Int) = x.b := by omega
  have Hbn := hyd hbn
  clear hx hnx hbn
  have i1 : (0 : Int) ≤ (i : Int) := by omega
  have i2 : (i : Int) < (n : Int) := by omega
  by_cases h0 : x.o = 0
  · rw [if_pos h0]
    have t0 : (x.o == 0) = true := by rw [h0]; rfl
    clear h0
    go_enter Tryz.func87, Tryz.ntmps87
    go_wp2
    go_ret
    exact ⟨_, rfl, World.ownsRow_nil _ _ _ _, Below.refl _ _⟩
  rw [if_neg h0]
  have t0 : (x.o == 0) = false := beq_eq_false_iff_ne.2 h0
  by_cases h12 : x.o = 12
  · rw [if_pos h12]
    have t1 : (x.o == 12) = true := by rw [h12]; rfl
    clear h0 h12
    go_enter Tryz.func87, Tryz.ntmps87
    go_wp2
    go_ret
    refine ⟨_, rfl, ?_, (Below.refl _ _).alloc (Nat.le_refl _) _⟩
    have := World.ownsRow_lit (base := w.heap.size) (e := 3) (size := 1) w #[.int .i64 x.b] 1 (Nat.le_refl _) (by decide) rfl
    unfold natVals
    rw [List.map_cons, List.map_nil, Hbn.out]
    exact this
  rw [if_neg h12]
  have t1 : (x.o == 12) = false := beq_eq_false_iff_ne.2 h12
  by_cases h13 : x.o = 13
  · rw [if_pos h13]
    have t2 : (x.o == 13) = true := by rw [h13]; rfl
    clear h0 h12 h13
    go_enter Tryz.func87, Tryz.ntmps87
    go_wp2
    go_ret
    refine ⟨_, rfl, ?_, (Below.refl _ _).alloc (Nat.le_refl _) _⟩
    have := World.ownsRow_lit (base := w.heap.size) (e := 3) (size := 1) w #[.int .i64 x.b, .int .i64 ((i : Int) + 1)] 2 (Nat.le_refl _) (by decide) rfl
    unfold natVals
    rw [List.map_cons, List.map_cons, List.map_nil, Hbn.out]
    exact this
  · rw [if_neg h13]
    have t2 : (x.o == 13) = false := beq_eq_false_iff_ne.2 h13
    clear h0 h12 h13
    go_enter Tryz.func87, Tryz.ntmps87
    go_wp2
    go_ret
    refine ⟨_, rfl, ?_, (Below.refl _ _).alloc (Nat.le_refl _) _⟩
    exact World.ownsRow_lit (base := w.heap.size) (e := 3) (size := 1) w #[.int .i64 ((i : Int) + 1)] 1 (Nat.le_refl _) (by decide) rfl

/-- Which of n instructions have been come to, as cells. -/
def seenVals (n : Nat) (L : List Nat) : List Value := (List.range n).map fun x => Value.bool (decide (x ∈ L))

theorem seen_at {n m : Nat} (L : List Nat) (h : m < n) : (seenVals n L)[m]? = some (.bool (decide (m ∈ L))) := by simp [seenVals, List.getElem?_map, List.getElem?_range h]
theorem seen_set {n m : Nat} (L : List Nat) : (seenVals n L).set m (.bool true) = seenVals n (L ++ [m]) := by
  apply List.ext_getElem?
  intro i
  by_cases hi : i < n
  · rw [seen_at _ hi]
    by_cases e : m = i
    · subst e
      rw [List.getElem?_set_self (by simpa [seenVals] using hi)]
      simp
    · rw [List.getElem?_set_ne e, seen_at _ hi]
      have : i ≠ m := fun e2 => e e2.symm
      simp [this]
  · rw [List.getElem?_eq_none (by simp [seenVals]; omega), List.getElem?_eq_none (by simp [seenVals]; omega)]
theorem seen_none (n : Nat) : List.replicate n (Value.bool false) = seenVals n [] := by
  apply List.ext_getElem?
  intro i
  by_cases hi : i < n
  · rw [seen_at _ hi, List.getElem?_replicate, if_pos hi]; simp
  · rw [List.getElem?_eq_none (by simp; omega), List.getElem?_eq_none (by simp [seenVals]; omega)]
theorem nat_at {L : List Nat} {i x : Nat} (h : L[i]? = some x) : (natVals L)[i]? = some (.int .i64 x) := by simp [natVals, List.getElem?_map, h]
theorem nat_snoc (L : List Nat) (m : Nat) : natVals (L ++ [m]) = natVals L ++ [.int .i64 m] := by simp [natVals]

theorem foldl_snoc {wo : Int} {ms : List Nat} {j m : Nat} (L : List Nat) (h : ms[j]? = some m) : (ms.take (j + 1)).foldl (visit wo) L = visit wo ((ms.take j).foldl (visit wo) L) m := by
  have hj := (List.getElem?_eq_some_iff.1 h).1
  have e : ms[j] = m := by rw [List.getElem?_eq_getElem hj] at h; exact Option.some.inj h
  rw [List.take_succ_eq_append_getElem hj, e, List.foldl_append]
  rfl

end Go.Proofs.YtbhbacphiinpeaaGreat
