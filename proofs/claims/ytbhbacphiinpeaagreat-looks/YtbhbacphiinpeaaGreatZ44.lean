/- Nb Nc Na Wy Wa: joined. -/
import Derived.Test.YtbhbacphiinpeaaGreatZ25
import Derived.Deep.WholeRow
import Derived.Test.YtbhbacphiinpeaaGreatZ04
import Derived.Test.YtbhbacphiinpeaaGreatZ11
import Derived.Test.YtbhbacphiinpeaaGreatZ10
import Derived.Test.YtbhbacphiinpeaaGreatRows
import Derived.WalkKit
import Derived.WalkSpells
import Derived.WalkLawsBesides
import Derived.BigGuardPart

/- What 'Begin' of package flow and 'New' of package cells answer. -/
namespace Go.Proofs.YtbhbacphiinpeaaGreat
open Go.RowKit

def begM (count : Int) (l : Nat) : Nat := maskOf fun j => decide (j < l) && decide ((j : Int) < count)
theorem begM_zero (count : Int) : begM count 0 = 0 := by
  refine mask_ext (maskOf_lt _) (by omega) fun l hl => ?_
  unfold begM
  rw [maskOf_bit _ hl]; simp
theorem begM_yes {count : Int} {l : Nat} (hl : l < 4) (h : (l : Int) < count) : begM count l ||| 2 ^ l = begM count (l + 1) := by
  refine mask_ext (or_lt16 (maskOf_lt _) (Nat.pow_lt_pow_right (a := 2) (m := l) (n := 4) (by omega) hl)) (maskOf_lt _) fun j hj => ?_
  unfold begM
  rw [Nat.testBit_or, maskOf_bit _ hj, maskOf_bit _ hj, Nat.testBit_two_pow]
  by_cases e : l = j
  · subst e; simp [h]
  · have e1 : decide (j < l + 1) = decide (j < l) := by simp; omega
    rw [e1]; simp [e]
theorem begM_end {count : Int} {l : Nat} (h : count ≤ (l : Int)) : begM count l = begM count 4 := by
  refine mask_ext (maskOf_lt _) (maskOf_lt _) fun j hj => ?_
  unfold begM
  rw [maskOf_bit _ hj, maskOf_bit _ hj]
  by_cases e : (j : Int) < count
  · have e1 : decide (j < l) = true := by simp; omega
    have e2 : decide (j < 4) = true := by simpa using hj
    rw [e1, e2]
  · simp [e]

def splB : Spl := ⟨0, 0, 0, 0, 0⟩
/-- A warp at its beginning. -/
def begQ (count : Int) : Wq := ⟨begM count 4, 0, -1, 0, false, 0, [splB, splB, splB]⟩

def begV (g : Int) : List Value := [.int .i64 g, .int .i64 0, .int .i64 (-1), .int .i64 0, .bool false, .int .i64 0, .int .i64 0, .int .i64 0, .int .i64 0, .int .i64 0, .int .i64 0, .int .i64 0, .int .i64 0, .int .i64 0, .int .i64 0, .int .i64 0, .int .i64 0, .int .i64 0, .int .i64 0, .int .i64 0, .int .i64 0]
theorem begV_q (count : Int) : (begQ count).vals = begV (begM count 4 : Nat) := rfl
theorem begV_one (g : Int) : ∀ v ∈ begV g, v.oneCell' = true := by
  intro v hv
  unfold begV at hv
  simp only [List.mem_cons, List.not_mem_nil, or_false] at hv
  rcases hv with rfl | rfl | rfl | rfl | rfl | rfl | rfl | rfl | rfl | rfl | rfl | rfl | rfl | rfl | rfl | rfl | rfl | rfl | rfl | rfl | rfl <;> rfl
theorem begV_len (g : Int) : (begV g).length = 21 := rfl
def begZ : List Value := [.int .i64 0, .int .i64 0, .int .i64 0, .int .i64 0, .bool false, .int .i64 0, .int .i64 0, .int .i64 0, .int .i64 0, .int .i64 0, .int .i64 0, .int .i64 0, .int .i64 0, .int .i64 0, .int .i64 0, .int .i64 0, .int .i64 0, .int .i64 0, .int .i64 0, .int .i64 0, .int .i64 0]
theorem Tryz.infoC109 : (Tryz.prog.info? 109).map (fun i => (i.zero, i.size)) = some (some (.agg begZ.toArray), 21) := by kernel_rfl
theorem Tryz.builtB (g : Int) : Tryz.prog.built 109 [(0, .int .i64 g), (2, .int .i64 (-1))] = some (begV g).toArray := by kernel_rfl

theorem wpList_build_to {P : Program} {ops : Array Oper} {rest : List Oper} {o : Oper} {a : Act} {w : World} {Q : Exit → Act → World → Prop} (hg : o.guard = none) (t : TypeId) (parts : Array (Nat × Operand)) (ho : o.op = .build t parts) (V : Array Value)
    (hV : P.built t (parts.map fun (i, x) => (i, a.eval x)).toList = some V) (h : wpList P ops Q rest (a.put o.dst (.agg V)) w) : wpList P ops Q (o :: rest) a w :=
  wpList_build hg t parts ho (by rw [hV]; rfl) (by rw [hV]; exact h)

set_option maxHeartbeats 1000000 in
set_option maxRecDepth 100000 in
theorem begin_lit (count : Int) (w : World) :
    Calls Tryz.prog 53 #[.int .i64 count] w fun e w' => e = .returned (.agg (begV (begM count 4 : Nat)).toArray) ∧ Below w.heap.size w w' := by
  have hB : Hid (∀ o, Below w.heap.size w (w.alloc o)) := fun o => (Below.refl _ _).alloc (Nat.le_refl _) _
  obtain ⟨hz, hsz⟩ := zero_of_info Tryz.infoC109
  have HS := hyd hsz
  clear hsz
  obtain ⟨Z, HZ⟩ : ∃ Z : Array Value, Hid (Z = begZ.toArray) := ⟨_, rfl⟩
  rw [← HZ.out] at hz
  have HZs : Hid (Z.size = 21) := by unfold Hid; rw [HZ.out]; rfl
  go_enter Tryz.func53, Tryz.ntmps53
  go_wp2_with fail
  clear hz
  go_loopw [3, 4] (fun gv lv wr => ∃ (l : Nat), l ≤ 4 ∧ (l : Int) ≤ 4 ∧ lv = .int .i64 l ∧ gv = .int .i64 (begM count l : Nat) ∧ wr = w.alloc (.cells Z 109)) (fun _ lv _ => 4 - (intOf lv).toNat)
  case atStart => exact ⟨0, by omega, by omega, rfl, by rw [begM_zero]; rfl, rfl⟩
  case round =>
    obtain ⟨l, hl4, hl4', rfl, rfl, rfl⟩ := hrel
    have hz16 : Hid (begM count l < 16) := maskOf_lt _
    by_cases hc : (l : Int) < count
    · have d1 : decide ((l : Int) < count) = true := by simpa using hc
      by_cases hl : l < 4
      · have l1 : (0 : Int) ≤ (l : Int) := by omega
        have l2 : (l : Int) < 4 := by omega
        have Hor := hyd ((or_lane hz16.out hl).trans (congrArg (fun (n : Nat) => (n : Int)) (begM_yes hl hc)))
        clear hc
        go_wp2_with fail
        refine ⟨⟨l + 1, by omega, by omega, rfl, ?_, by trivial⟩, ?_⟩
        · rw [Hor.out]
        · simp only [intOf]; omega
      · have : l = 4 := by omega
        subst this
        have d1' : decide ((4 : Int) < count) = true := by simpa using hc
        clear hc d1
        obtain ⟨GM, HG⟩ : ∃ GM : Nat, Hid (begM count 4 = GM) := ⟨_, rfl⟩
        rw [HG.out]
        go_wp2_with (first | (refine wpList_store_row rfl 109 (.tmp 2) (.tmp 19) rfl w.heap.size (begV GM).toArray rfl rfl 109 Z (heap_alloc_last w _) HS.out HZs.out (all_oneCell_toArray (begV_one GM)) ?_; rw [World.setRow_alloc_new]))
        have hL := run_loadVar_row (P := Tryz.prog) (w.alloc (.cells (begV GM).toArray 109)) w.heap.size 109 109 (begV GM).toArray (0, 0) _ (heap_alloc_last w _) Tryz.underlying109 rfl HS.out
        (try simp only [Exit.inBlock, Exit.then])
        refine bodyPost_ret (by simp [results, Tryz.results53, asAddr, Act.put, hL]; try rfl) rfl ?_
        exact ⟨by rw [HG.out], hB.out _⟩
    · have d1 : decide ((l : Int) < count) = false := by simpa using hc
      rw [begM_end (count := count) (l := l) (by omega)]
      clear hc hz16
      obtain ⟨GM, HG⟩ : ∃ GM : Nat, Hid (begM count 4 = GM) := ⟨_, rfl⟩
      rw [HG.out]
      go_wp2_with (first | (refine wpList_store_row rfl 109 (.tmp 2) (.tmp 19) rfl w.heap.size (begV GM).toArray rfl rfl 109 Z (heap_alloc_last w _) HS.out HZs.out (all_oneCell_toArray (begV_one GM)) ?_; rw [World.setRow_alloc_new]))
      have hL := run_loadVar_row (P := Tryz.prog) (w.alloc (.cells (begV GM).toArray 109)) w.heap.size 109 109 (begV GM).toArray (0, 0) _ (heap_alloc_last w _) Tryz.underlying109 rfl HS.out
      (try simp only [Exit.inBlock, Exit.then])
      refine bodyPost_ret (by simp [results, Tryz.results53, asAddr, Act.put, hL]; try rfl) rfl ?_
      exact ⟨by rw [HG.out], hB.out _⟩

theorem begin_any (count : Int) (w : World) : Calls Tryz.prog 53 #[.int .i64 count] w fun e w' => e = .returned (.agg (begQ count).vals.toArray) ∧ Below w.heap.size w w' := begin_lit count w

end Go.Proofs.YtbhbacphiinpeaaGreat

/- What 'New' of package cells answers. -/
namespace Go.Proofs.YtbhbacphiinpeaaGreat
open Go.RowKit

/-- Registers and words, as cells. -/
def celV (f : Int) (rg : List Int) (c : Nat) (wd : List Int) : List Value := .int .i64 f :: (zVals rg ++ (.int .i64 c :: zVals wd))
def z64 : List Int := List.replicate 64 0
def memW (mem : List Int) (i : Nat) : List Int := mem.take i ++ List.replicate (32 - i) 0

theorem Tryz.infoC104 : (Tryz.prog.info? 104).map (fun i => (i.zero, i.size)) = some (some (.agg (List.replicate 98 (.int .i64 0)).toArray), 98) := by kernel_rfl
theorem Tryz.builtC (f : Int) : Tryz.prog.built 104 [(0, .int .i64 f)] = some (celV f z64 0 (List.replicate 32 0)).toArray := by kernel_rfl

theorem celV_len {f : Int} {rg : List Int} {c : Nat} {wd : List Int} (h1 : rg.length = 64) (h2 : wd.length = 32) : (celV f rg c wd).length = 98 := by
  unfold celV; simp [zl, h1, h2]
theorem celV_one (f : Int) (rg : List Int) (c : Nat) (wd : List Int) : ∀ v ∈ celV f rg c wd, v.oneCell' = true := by
  intro v hv
  unfold celV at hv
  simp only [List.mem_cons, List.mem_append] at hv
  rcases hv with rfl | hv | rfl | hv
  · rfl
  · exact oneCell_z _ v hv
  · rfl
  · exact oneCell_z _ v hv
theorem celV_word {f : Int} {rg : List Int} {c : Nat} {wd : List Int} (h1 : rg.length = 64) (i : Nat) (v : Int) : (celV f rg c wd).set (66 + i) (.int .i64 v) = celV f rg c (wd.set i v) := by
  unfold celV
  rw [show 66 + i = (65 + i) + 1 by omega, List.set_cons_succ, List.set_append_right _ _ (by rw [zl, h1]; omega), zl, h1, show 65 + i - 64 = i + 1 by omega, List.set_cons_succ, show (zVals wd).set i (.int .i64 v) = zVals (wd.set i v) by simp [zVals, List.map_set]]
theorem celV_cnt {f : Int} {rg : List Int} {c : Nat} {wd : List Int} (h1 : rg.length = 64) (d : Nat) : (celV f rg c wd).set 65 (.int .i64 d) = celV f rg d wd := by
  unfold celV
  rw [show 65 = 64 + 1 by omega, List.set_cons_succ, List.set_append_right _ _ (by rw [zl, h1]; omega), zl, h1]
  rfl
theorem memW_len {mem : List Int} {i : Nat} (h : i ≤ mem.length) (h2 : mem.length ≤ 32) : (memW mem i).length = 32 := by
  unfold memW; simp; omega
theorem memW_set {mem : List Int} {i : Nat} {v : Int} (h : mem[i]? = some v) (h2 : mem.length ≤ 32) : (memW mem i).set i v = memW mem (i + 1) := by
  have hi := (List.getElem?_eq_some_iff.1 h).1
  unfold memW
  rw [List.set_append_right _ _ (by simp; omega), List.length_take, Nat.min_eq_left (by omega), Nat.sub_self, show 32 - i = (32 - (i + 1)) + 1 by omega, List.replicate_succ, List.set_cons_zero, take_snoc h, List.append_assoc]
  rfl

set_option maxHeartbeats 1000000 in
set_option maxRecDepth 100000 in
theorem cnew_any (f : Int) (b off cap n : Nat) (mem : List Int) (hn : mem.length = n) (hn2 : n ≤ 32) (w : World) (hb : b < w.heap.size) (hc : ∀ (i : Nat) x, mem[i]? = some x → w.cell? ⟨b, off + i, none⟩ = some (.int .i64 x)) :
    Calls Tryz.prog 52 #[.int .i64 f, .slice (some ⟨b, off, none⟩) n cap] w fun e w' => e = .returned (.agg (celV f z64 n (memW mem n)).toArray) ∧ Below w.heap.size w w' := by
  obtain ⟨hz, hsz⟩ := zero_of_info Tryz.infoC104
  have Hc := hyd hc
  have Hn := hyd hn
  have hn3 : (n : Int) ≤ 32 := by omega
  obtain ⟨Z, HZ⟩ : ∃ Z : Array Value, Hid (Z = (List.replicate 98 (.int .i64 0)).toArray) := ⟨_, rfl⟩
  rw [← HZ.out] at hz
  have HS := hyd hsz
  obtain ⟨C0, HC0⟩ : ∃ C0 : Array Value, Hid (C0 = (celV f z64 0 (List.replicate 32 0)).toArray) := ⟨_, rfl⟩
  have HBt := hyd (Tryz.builtC f)
  rw [← HC0.out] at HBt
  clear hc hn hsz
  go_enter Tryz.func52, Tryz.ntmps52
  have HZs : Hid (Z.size = 98) := by unfold Hid; rw [HZ.out]; rfl
  have HCs : Hid (C0.size = 98) := by unfold Hid; rw [HC0.out]; simp only [List.size_toArray]; exact celV_len rfl rfl
  have HC1 : Hid (C0.all (·.oneCell') = true) := by unfold Hid; rw [HC0.out]; exact all_oneCell_toArray (celV_one _ _ _ _)
  have X1 := heap_alloc_last w (.cells Z 104)
  have X2 := heap_alloc_last (w.alloc (.cells Z 104)) (.cells Z 104)
  rw [World.size_alloc] at X2
  have HX1 := hyd X1
  have HX2 := hyd X2
  clear X1 X2
  go_wp2_with (first | (refine wpList_build_to rfl 104 _ rfl C0 (by first | exact HBt.out | (simp [go_sem]; exact HBt.out)) ?_) | (refine wpList_store_row rfl 104 (.tmp 5) (.tmp 9) rfl (w.heap.size + 1) C0 rfl rfl 104 Z HX2.out (by rw [HCs.out]; exact HS.out) (by rw [HZs.out, HCs.out]) HC1.out ?_))
  have B1 : Hid ((((w.alloc (.cells Z 104)).alloc (.cells Z 104)).setRow (w.heap.size + 1) C0).heap[w.heap.size + 1]? = some (.cells (celV f z64 0 (memW mem 0)).toArray 104)) := by
    unfold Hid
    rw [setRow_heap _ _ Z _ 104 (0, 0) HX2.out, HC0.out]
    rfl
  have R1 : Hid ((((w.alloc (.cells Z 104)).alloc (.cells Z 104)).setRow (w.heap.size + 1) C0).heap[w.heap.size]? = some (.cells Z 104)) := by
    unfold Hid
    rw [setRow_other _ _ _ _ (by omega), Below.heap_alloc _ _ _ (by simp)]
    exact HX1.out
  have L1 : Hid (Below w.heap.size w (((w.alloc (.cells Z 104)).alloc (.cells Z 104)).setRow (w.heap.size + 1) C0)) := by
    refine ⟨rfl, rfl, rfl, by simp; omega, fun g hg => ?_⟩
    rw [setRow_other _ _ _ _ (by omega), Below.heap_alloc _ _ _ (by simp; omega), Below.heap_alloc _ _ _ hg]
  generalize ((w.alloc (.cells Z 104)).alloc (.cells Z 104)).setRow (w.heap.size + 1) C0 = w1 at B1 R1 L1 ⊢
  clear HX1 HX2 hz
  go_loopw [12] (fun iv wr => ∃ i : Nat, i ≤ n ∧ iv = .int .i64 i ∧ Hid (wr.heap[w.heap.size + 1]? = some (.cells (celV f z64 i (memW mem i)).toArray 104)) ∧ Hid (wr.heap[w.heap.size]? = some (.cells Z 104)) ∧ Hid (Below w.heap.size w wr)) (fun iv _ => n - (intOf iv).toNat)
  case atStart => exact ⟨0, by omega, rfl, B1, R1, L1⟩
  case round =>
    clear B1 R1 L1
    obtain ⟨i, hin, rfl, B, R, Lb⟩ := hrel
    by_cases hi : i < n
    · have i1 : (0 : Int) ≤ (i : Int) := by omega
      have i2 : (i : Int) < (n : Int) := by omega
      have i3 : (i : Int) < 32 := by omega
      obtain ⟨v, hv⟩ : ∃ v, mem[i]? = some v := ⟨_, List.getElem?_eq_getElem (by rw [Hn.out]; exact hi)⟩
      have Hv := hyd hv
      have cm := (Lb.out.cell (p := ⟨b, off + i, none⟩) hb).trans (Hc.out i v hv)
      clear hv
      have hl98 : Hid ((celV f z64 i (memW mem i)).length = 98) := celV_len rfl (memW_len (by rw [Hn.out]; exact hin) (by rw [Hn.out]; exact hn2))
      obtain ⟨u1, cw⟩ : ∃ u, wr.cell? ⟨w.heap.size + 1, 66 + i, none⟩ = some u := ⟨_, by rw [cell_of_row wr _ (66 + i) _ 104 _ B.out, List.getElem?_toArray, List.getElem?_eq_getElem (by rw [hl98.out]; omega)]⟩
      have fw := frozen_of_row wr (w.heap.size + 1) (66 + i) _ 104 B.out
      have B2 := hyd (heap_setCell_same wr (w.heap.size + 1) (66 + i) _ 104 (.int .i64 v) B.out)
      have e2 : (celV f z64 i (memW mem i)).toArray.setIfInBounds (66 + i) (.int .i64 v) = (celV f z64 i (memW mem (i + 1))).toArray := by
        rw [List.setIfInBounds_toArray, celV_word rfl, memW_set Hv.out (by rw [Hn.out]; exact hn2)]
      rw [e2] at B2
      have hl98' : Hid ((celV f z64 i (memW mem (i + 1))).length = 98) := celV_len rfl (memW_len (by rw [Hn.out]; exact hi) (by rw [Hn.out]; exact hn2))
      obtain ⟨u2, cc⟩ : ∃ u, (wr.setCell ⟨w.heap.size + 1, 66 + i, none⟩ (.int .i64 v)).cell? ⟨w.heap.size + 1, 65, none⟩ = some u := ⟨_, by rw [cell_of_row _ _ 65 _ 104 _ B2.out, List.getElem?_toArray, List.getElem?_eq_getElem (by rw [hl98'.out]; omega)]⟩
      have fc := frozen_of_row (wr.setCell ⟨w.heap.size + 1, 66 + i, none⟩ (.int .i64 v)) (w.heap.size + 1) 65 _ 104 B2.out
      clear e2
      go_wp2_with fail
      refine ⟨⟨i + 1, by omega, rfl, ?_, ?_, ?_⟩, ?_⟩
      · unfold Hid
        have h3 := heap_setCell_same _ (w.heap.size + 1) 65 _ 104 (.int .i64 ((i : Int) + 1)) B2.out
        rw [List.setIfInBounds_toArray, show ((i : Int) + 1) = ((i + 1 : Nat) : Int) by omega, celV_cnt rfl] at h3
        exact h3
      · exact (Below.heap_setCell _ _ _ _ (by show w.heap.size ≠ w.heap.size + 1; omega)).trans ((Below.heap_setCell _ _ _ _ (by show w.heap.size ≠ w.heap.size + 1; omega)).trans R.out)
      · exact (Lb.out.setCell (p := ⟨w.heap.size + 1, 66 + i, none⟩) (by show w.heap.size ≤ w.heap.size + 1; omega) _).setCell (p := ⟨w.heap.size + 1, 65, none⟩) (by show w.heap.size ≤ w.heap.size + 1; omega) _
      · simp only [intOf]; omega
    · have : i = n := by omega
      subst this
      have hl98 : Hid ((celV f z64 i (memW mem i)).length = 98) := celV_len rfl (memW_len (by rw [Hn.out]; exact hin) (by rw [Hn.out]; exact hn2))
      have hrg : Hid (wr.rangeAt (w.heap.size + 1) 0 (celV f z64 i (memW mem i))) := fun j v hv => by
        rw [Nat.zero_add, cell_of_row wr _ j _ 104 _ B.out, List.getElem?_toArray]; exact hv
      obtain ⟨V, HV⟩ : ∃ V : Array Value, Hid (V = (celV f z64 i (memW mem i)).toArray) := ⟨_, rfl⟩
      have HVs : Hid (V.size = 98) := by unfold Hid; rw [HV.out, List.size_toArray]; exact hl98.out
      have HV1 : Hid (V.all (·.oneCell') = true) := by unfold Hid; rw [HV.out]; exact all_oneCell_toArray (celV_one _ _ _ _)
      go_wp2_with (first | (refine wpList_load_mid rfl 104 (.tmp 5) rfl (w.heap.size + 1) 0 rfl (celV f z64 i (memW mem i)) _ hrg.out Tryz.underlying104 rfl (by rw [hl98.out]; exact HS.out) ?_; rw [← HV.out]) | (refine wpList_store_row rfl 104 (.tmp 4) (.tmp 27) rfl w.heap.size V rfl rfl 104 Z R.out (by rw [HVs.out]; exact HS.out) (by rw [HZs.out, HVs.out]) HV1.out ?_))
      have R2 := setRow_heap wr w.heap.size Z V 104 (0, 0) R.out
      have L2 : Hid (Below w.heap.size w (wr.setRow w.heap.size V)) := ⟨Lb.out.os, Lb.out.tape, Lb.out.output, by rw [setRow_size]; exact Lb.out.size, fun g hg => by rw [setRow_other _ _ _ _ (by omega)]; exact Lb.out.block g hg⟩
      generalize wr.setRow w.heap.size V = wz at R2 L2 ⊢
      have hL := run_loadVar_row (P := Tryz.prog) wz w.heap.size 104 104 V (0, 0) _ R2 Tryz.underlying104 rfl (by rw [HVs.out]; exact HS.out)
      (try simp only [Exit.inBlock, Exit.then])
      refine bodyPost_ret (by simp [results, Tryz.results52, asAddr, Act.put, hL]; try rfl) rfl ?_
      exact ⟨by rw [HV.out], L2.out⟩

end Go.Proofs.YtbhbacphiinpeaaGreat

/- What 'New' of package loom answers where it refuses. -/
namespace Go.Proofs.YtbhbacphiinpeaaGreat
open Go.RowKit

set_option maxHeartbeats 400000 in
theorem mnew_no (s : ByteArray) (hm : s.size ≤ 140737488355328) (h0 : (dchk s).1 ≠ 0) (t f : Int) (ao : Option Addr) (n cap : Nat) (w : World) :
    Calls Tryz.prog 34 #[.string s, .int .i64 t, .int .i64 f, .slice ao n cap] w fun e w' => e = .returned (.tuple #[.pointer none, .int .i64 (dchk s).1, .int .i64 (dchk s).2]) ∧ Below w.heap.size w w' := by
  have g0 : ((dchk s).1 != 0) = true := by simpa using h0
  clear h0
  go_enter Tryz.func34, Tryz.ntmps34
  go_wp2_with fail
  refine (decode_any s hm _).mono ?_
  rintro e w1 ⟨v, rfl, hb1, -⟩
  go_wp2
  go_ret3
  exact ⟨rfl, hb1⟩

set_option maxHeartbeats 1000000 in
theorem mnew_bad (s : ByteArray) (hm : s.size ≤ 140737488355328) (h0 : (dchk s).1 = 0) (t f : Int) (ao : Option Addr) (n cap : Nat) (hn : n ≤ 17592186044416) (w : World) (he : newErr t f n ≠ 0) :
    Calls Tryz.prog 34 #[.string s, .int .i64 t, .int .i64 f, .slice ao n cap] w fun e w' => e = .returned (.tuple #[.pointer none, .int .i64 (newErr t f n), .int .i64 0]) ∧ Below w.heap.size w w' := by
  have g0 : ((dchk s).1 != 0) = false := by simpa using h0
  clear h0
  by_cases h1 : t < 1
  · have hq : Hid (newErr t f n = 4) := by unfold Hid newErr; rw [if_pos (.inl h1)]
    have g1 : decide (t < 1) = true := by simpa using h1
    go_enter Tryz.func34, Tryz.ntmps34
    go_wp2_with fail
    refine (decode_any s hm _).mono ?_
    rintro e w1 ⟨v, rfl, hb1, -⟩
    go_wp2
    go_ret3
    rw [hq.out]
    exact ⟨rfl, hb1⟩
  have g1 : decide (t < 1) = false := by simpa using h1
  by_cases h2 : 16 < t
  · have hq : Hid (newErr t f n = 4) := by unfold Hid newErr; rw [if_pos (.inr (.inl h2))]
    have g2 : decide (16 < t) = true := by simpa using h2
    go_enter Tryz.func34, Tryz.ntmps34
    go_wp2_with fail
    refine (decode_any s hm _).mono ?_
    rintro e w1 ⟨v, rfl, hb1, -⟩
    go_wp2
    go_ret3
    rw [hq.out]
    exact ⟨rfl, hb1⟩
  have g2 : decide (16 < t) = false := by simpa using h2
  by_cases h3 : f < 0
  · have hq : Hid (newErr t f n = 4) := by unfold Hid newErr; rw [if_pos (.inr (.inr (.inl h3)))]
    have g3 : decide (f < 0) = true := by simpa using h3
    go_enter Tryz.func34, Tryz.ntmps34
    go_wp2_with fail
    refine (decode_any s hm _).mono ?_
    rintro e w1 ⟨v, rfl, hb1, -⟩
    go_wp2
    go_ret3
    rw [hq.out]
    exact ⟨rfl, hb1⟩
  have g3 : decide (f < 0) = false := by simpa using h3
  by_cases h4 : 1000 < f
  · have hq : Hid (newErr t f n = 4) := by unfold Hid newErr; rw [if_pos (.inr (.inr (.inr h4)))]
    have g4 : decide (1000 < f) = true := by simpa using h4
    go_enter Tryz.func34, Tryz.ntmps34
    go_wp2_with fail
    refine (decode_any s hm _).mono ?_
    rintro e w1 ⟨v, rfl, hb1, -⟩
    go_wp2
    go_ret3
    rw [hq.out]
    exact ⟨rfl, hb1⟩
  have g4 : decide (1000 < f) = false := by simpa using h4
  have hq : Hid (newErr t f n = 5 ∧ (n < 1 ∨ 32 < n)) := by
    unfold newErr at he
    rw [if_neg (by omega)] at he
    by_cases h5 : n < 1 ∨ 32 < n
    · refine ⟨?_, h5⟩
      unfold newErr
      rw [if_neg (by omega), if_pos h5]
    · rw [if_neg h5] at he
      exact absurd rfl he
  clear he h1 h2 h3 h4
  by_cases h5 : n < 1
  · have hn0 : n = 0 := by omega
    subst hn0
    clear h5
    go_enter Tryz.func34, Tryz.ntmps34
    go_wp2_with fail
    refine (decode_any s hm _).mono ?_
    rintro e w1 ⟨v, rfl, hb1, -⟩
    go_wp2
    go_ret3
    rw [hq.out.1]
    exact ⟨rfl, hb1⟩
  · have g5 : decide ((n : Int) < 1) = false := by simp; omega
    have g6 : decide (32 < (n : Int)) = true := by
      have := hq.out.2
      simp; omega
    go_enter Tryz.func34, Tryz.ntmps34
    go_wp2_with fail
    refine (decode_any s hm _).mono ?_
    rintro e w1 ⟨v, rfl, hb1, -⟩
    go_wp2
    go_ret3
    rw [hq.out.1]
    exact ⟨rfl, hb1⟩

end Go.Proofs.YtbhbacphiinpeaaGreat

/- What the program works out of the ways in a kernel: plain lists; nothing of the program is in this text. -/
namespace Go.Proofs.YtbhbacphiinpeaaGreat
open Go.RowKit

/-- Is there an instruction m, and is it marked? -/
def mkd (E : List Bool) (m : Int) : Bool := if 0 ≤ m then E.getD m.toNat false else false

theorem mkd_nat (E : List Bool) (n : Nat) : mkd E (n : Int) = true ↔ E[n]? = some true := by
  unfold mkd
  rw [if_pos (by omega)]
  simp only [Int.toNat_natCast, List.getD_eq_getElem?_getD]
  cases h : E[n]? with
  | none => simp
  | some b => simp

theorem mkd_int {E : List Bool} {m : Int} (h : 0 ≤ m) : mkd E m = true ↔ E[m.toNat]? = some true := by
  have := mkd_nat E m.toNat
  rwa [Int.toNat_of_nonneg h] at this

/-- Is the instruction an Exit, or is one marked that comes next? -/
def bhd (E : List Bool) (x : Ins) (n : Nat) : Bool := if x.o = 0 then true else if x.o = 12 then mkd E x.b else if x.o = 13 then (mkd E x.b || mkd E ((n : Int) + 1)) else mkd E ((n : Int) + 1)

def Sound (k : List Ins) (av : Int) (E : List Bool) : Prop := E.length = k.length ∧ ∀ i : Nat, E[i]? = some true → (i : Int) ≠ av ∧ Rch k av i
def Whole (k : List Ins) (av : Int) (E : List Bool) : Prop := ∀ (i : Nat) x, k[i]? = some x → (i : Int) ≠ av → bhd E x i = true → E[i]? = some true
def Ends (k : List Ins) (av : Int) (E : List Bool) : Prop := E.length = k.length ∧ ∀ i : Nat, E[i]? = some true ↔ ((i : Int) ≠ av ∧ Rch k av i)

theorem bhd_iff {k : List Ins} {E : List Bool} {n : Nat} {x : Ins} (hx : k[n]? = some x) (hb : 0 ≤ x.b) : bhd E x n = true ↔ isEnd k n ∨ ∃ m ∈ nxt k n, E[m]? = some true := by
  have hn : nxt k n = if x.o = 0 then [] else if x.o = 12 then [x.b.toNat] else if x.o = 13 then [x.b.toNat, n + 1] else [n + 1] := by unfold nxt; rw [hx]
  have he : isEnd k n ↔ x.o = 0 := ⟨fun ⟨y, h1, h2⟩ => by rw [hx] at h1; cases h1; exact h2, fun h => ⟨x, hx, h⟩⟩
  have h1 : mkd E ((n : Int) + 1) = true ↔ E[n + 1]? = some true := by
    have := mkd_nat E (n + 1)
    rwa [show ((n + 1 : Nat) : Int) = (n : Int) + 1 by omega] at this
  have h2 := mkd_int (E := E) hb
  rw [he, hn]
  unfold bhd
  by_cases h0 : x.o = 0
  · simp [h0]
  rw [if_neg h0, if_neg h0]
  by_cases h12 : x.o = 12
  · rw [if_pos h12, if_pos h12, h2]; simp [h12]
  rw [if_neg h12, if_neg h12]
  by_cases h13 : x.o = 13
  · rw [if_pos h13, if_pos h13, Bool.or_eq_true, h1, h2]; simp [h13]
  rw [if_neg h13, if_neg h13, h1]
  simp [h0]

theorem bhd_sound {k : List Ins} {av : Int} {E : List Bool} {n : Nat} {x : Ins} (hs : Sound k av E) (hx : k[n]? = some x) (hb : 0 ≤ x.b) (h : bhd E x n = true) : Rch k av n := by
  rcases (bhd_iff hx hb).1 h with he | ⟨m, hm, hE⟩
  · exact ⟨[], he⟩
  · obtain ⟨h1, p, hp⟩ := hs.2 m hE
    exact ⟨m :: p, hm, h1, hp⟩

theorem way_in {k : List Ins} {wo : Int} {n : Nat} {p : List Nat} (h : IsWay k wo n p) : ∃ x, k[n]? = some x := by
  cases p with
  | nil => obtain ⟨x, hx, -⟩ := h; exact ⟨x, hx⟩
  | cons m p =>
    obtain ⟨h1, -⟩ := h
    cases hx : k[n]? with
    | none => unfold nxt at h1; rw [hx] at h1; simp at h1
    | some x => exact ⟨x, rfl⟩

theorem whole_all {k : List Ins} {av : Int} {E : List Bool} (hb : ∀ (i : Nat) x, k[i]? = some x → 0 ≤ x.b) (hw : Whole k av E) : ∀ (p : List Nat) (n : Nat), (n : Int) ≠ av → IsWay k av n p → E[n]? = some true
  | [], n, hn, h => by
    obtain ⟨x, hx⟩ := way_in h
    exact hw n x hx hn ((bhd_iff hx (hb n x hx)).2 (.inl h))
  | m :: p, n, hn, h => by
    obtain ⟨x, hx⟩ := way_in h
    obtain ⟨h1, h2, h3⟩ := h
    exact hw n x hx hn ((bhd_iff hx (hb n x hx)).2 (.inr ⟨m, h1, whole_all hb hw p m h2 h3⟩))

theorem ends_of {k : List Ins} {av : Int} {E : List Bool} (hb : ∀ (i : Nat) x, k[i]? = some x → 0 ≤ x.b) (hs : Sound k av E) (hw : Whole k av E) : Ends k av E :=
  ⟨hs.1, fun i => ⟨hs.2 i, fun ⟨h1, p, hp⟩ => whole_all hb hw p i h1 hp⟩⟩

theorem sound_none (k : List Ins) (av : Int) : Sound k av (List.replicate k.length false) := by
  refine ⟨by simp, fun i h => ?_⟩
  rw [List.getElem?_replicate] at h
  split at h <;> simp at h

theorem sound_set {k : List Ins} {av : Int} {E : List Bool} {n : Nat} {x : Ins} (hs : Sound k av E) (hx : k[n]? = some x) (hb : 0 ≤ x.b) (hn : (n : Int) ≠ av) (h : bhd E x n = true) : Sound k av (E.set n true) := by
  refine ⟨by simp [hs.1], fun i hi => ?_⟩
  rw [List.getElem?_set] at hi
  by_cases e : n = i
  · subst e
    exact ⟨hn, bhd_sound hs hx hb h⟩
  · rw [if_neg e] at hi
    exact hs.2 i hi

theorem count_set : ∀ {E : List Bool} {n : Nat}, E[n]? = some false → (E.set n true).count true = E.count true + 1
  | [], n, h => by simp at h
  | b :: E, 0, h => by simp at h; subst h; simp
  | b :: E, n + 1, h => by
    simp only [List.getElem?_cons_succ] at h
    have := count_set h
    simp only [List.set_cons_succ, List.count_cons, this]
    omega

theorem all_of_count {E : List Bool} (h : E.length ≤ E.count true) : ∀ b ∈ E, b = true := by
  have h1 := List.count_le_length (a := true) (l := E)
  have h2 := List.count_eq_length.1 (Nat.le_antisymm h1 h)
  exact fun b hb => (h2 b hb).symm

theorem whole_of_count {k : List Ins} {av : Int} {E : List Bool} (hl : E.length = k.length) (h : k.length ≤ E.count true) : Whole k av E := by
  intro i x hx _ _
  have hi : i < E.length := by rw [hl]; exact (List.getElem?_eq_some_iff.1 hx).1
  rw [List.getElem?_eq_getElem hi]
  rw [all_of_count (by omega) _ (List.getElem_mem hi)]

/-- The row of d: by which instructions does each way come by d? -/
def OnRow (k : List Ins) (d : Nat) (R : List Bool) : Prop := R.length = k.length ∧ ∀ n : Nat, R[n]? = some true ↔ (Rch k (-1) n ∧ Psd k n d)
def On (k : List Ins) (M : List (List Bool)) : Prop := M.length = k.length ∧ ∀ (d : Nat) R, M[d]? = some R → OnRow k d R

/-- What stands at n in the row of d. -/
def onB (E W : List Bool) (d n : Nat) : Bool := decide (n ≠ d) && (mkd E n && !mkd W n)

theorem onB_iff {k : List Ins} {E W : List Bool} {d n : Nat} (hE : Ends k (-1) E) (hW : Ends k (d : Int) W) : onB E W d n = true ↔ (Rch k (-1) n ∧ Psd k n d) := by
  unfold onB Psd
  rw [Bool.and_eq_true, Bool.and_eq_true, decide_eq_true_iff, mkd_nat, hE.2, Bool.not_eq_true', ← Bool.not_eq_true, mkd_nat, hW.2]
  have h1 : ((n : Int) ≠ -1) := by omega
  constructor
  · rintro ⟨a, ⟨-, b⟩, c⟩
    exact ⟨b, a, fun h => c ⟨by omega, h⟩⟩
  · rintro ⟨b, a, c⟩
    exact ⟨a, ⟨h1, b⟩, fun h => c h.2⟩

theorem onRow_of {k : List Ins} {E W R : List Bool} {d : Nat} (hE : Ends k (-1) E) (hW : Ends k (d : Int) W) (hl : R.length = k.length) (h : ∀ (n : Nat) b, R[n]? = some b → b = onB E W d n) : OnRow k d R := by
  refine ⟨hl, fun n => ?_⟩
  rw [← onB_iff hE hW]
  constructor
  · intro hn; exact (h n true hn).symm
  · intro hn
    by_cases hlt : n < R.length
    · have e : R[n]? = some R[n] := List.getElem?_eq_getElem hlt
      rw [e, h n _ e, hn]
    · obtain ⟨⟨p, hp⟩, -⟩ := (onB_iff hE hW).1 hn
      obtain ⟨x, hx⟩ := way_in hp
      have := (List.getElem?_eq_some_iff.1 hx).1
      omega

end Go.Proofs.YtbhbacphiinpeaaGreat

/- What 'marked' and 'endsBehind' answer. -/
namespace Go.Proofs.YtbhbacphiinpeaaGreat
open Go.RowKit

/-- The slice reads as the marks E, one for each of n instructions. -/
def SeesB (w : World) (b n : Nat) (E : List Bool) : Prop := E.length = n ∧ 1 ≤ n ∧ n ≤ 40 ∧ b < w.heap.size ∧ ∀ (i : Nat) x, E[i]? = some x → w.cell? ⟨b, i, none⟩ = some (.bool x)

theorem SeesB.up {w w' : World} {b n : Nat} {E : List Bool} {B : Nat} (h : SeesB w b n E) (hB : w.heap.size ≤ B) (hb : Below B w w') : SeesB w' b n E := by
  obtain ⟨h1, h2, h3, h4, h5⟩ := h
  exact ⟨h1, h2, h3, Nat.lt_of_lt_of_le h4 hb.size, fun i x hx => (hb.cell (Nat.lt_of_lt_of_le h4 hB)).trans (h5 i x hx)⟩

set_option maxHeartbeats 400000 in
theorem marked_any {w : World} {b n : Nat} {E : List Bool} (cap : Nat) (h : SeesB w b n E) (m : Int) :
    Calls Tryz.prog 85 #[.slice (some ⟨b, 0, none⟩) n cap, .int .i64 m] w fun e w' => e = .returned (.bool (mkd E m)) ∧ w' = w := by
  obtain ⟨h1, h2, h3, h4, h5⟩ := h
  by_cases h0 : 0 ≤ m
  · by_cases hlt : m < (n : Int)
    · obtain ⟨i, rfl⟩ : ∃ i : Nat, m = (i : Int) := ⟨m.toNat, by omega⟩
      have hi : i < E.length := by omega
      obtain ⟨x, hx⟩ : ∃ x, E[i]? = some x := ⟨_, List.getElem?_eq_getElem hi⟩
      have c0 := h5 i x hx
      have hm : Hid (mkd E (i : Int) = x) := by unfold Hid mkd; rw [if_pos h0]; simp [hx]
      have hn2 : (n : Int) ≤ 40 := by omega
      clear h5 hx hi h1
      go_enter Tryz.func85, Tryz.ntmps85
      go_wp2
      go_ret
      exact ⟨by rw [hm.out]; rfl, rfl⟩
    · have hm : Hid (mkd E m = false) := by
        unfold Hid mkd; rw [if_pos h0]
        have : E[m.toNat]? = none := List.getElem?_eq_none (by omega)
        simp [this]
      have g1 : decide (m < (n : Int)) = false := by simpa using hlt
      clear h5 h1
      go_enter Tryz.func85, Tryz.ntmps85
      go_wp2
      go_ret
      exact ⟨by rw [hm.out]; rfl, rfl⟩
  · have hm : Hid (mkd E m = false) := by unfold Hid mkd; rw [if_neg h0]
    have g1 : decide (0 ≤ m) = false := by simpa using h0
    clear h5 h1
    go_enter Tryz.func85, Tryz.ntmps85
    go_wp2
    go_ret
    exact ⟨by rw [hm.out]; rfl, rfl⟩

set_option maxHeartbeats 400000 in
theorem behind_any {w : World} {b n : Nat} {E : List Bool} (cap : Nat) (h : SeesB w b n E) (x : Ins) (i : Nat) (hi : i < n) :
    Calls Tryz.prog 103 #[.agg #[.int .i64 x.o, .int .i64 x.a, .int .i64 x.b, .int .i64 x.c], .int .i64 i, .slice (some ⟨b, 0, none⟩) n cap] w fun e w' => e = .returned (.bool (bhd E x i)) ∧ Below w.heap.size w w' := by
  have H := hyd h
  have hi2 : (i : Int) ≤ 40 := by have := h.2.2.1; omega
  have hi0 : (0 : Int) ≤ (i : Int) := by omega
  clear h
  have HU : Hid (∀ v, SeesB (w.alloc v) b n E) := fun v => H.out.up (Nat.le_refl _) ((Below.refl _ w).alloc (Nat.le_refl _) v)
  by_cases h0 : x.o = 0
  · have hb : Hid (bhd E x i = true) := by unfold Hid bhd; rw [if_pos h0]
    have t0 : (x.o == 0) = true := by rw [h0]; rfl
    clear h0
    go_enter Tryz.func103, Tryz.ntmps103
    go_wp2
    go_ret
    exact ⟨by rw [hb.out]; rfl, (Below.refl _ _).alloc (Nat.le_refl _) _⟩
  have t0 : (x.o == 0) = false := beq_eq_false_iff_ne.2 h0
  by_cases h12 : x.o = 12
  · have hb : Hid (bhd E x i = mkd E x.b) := by unfold Hid bhd; rw [if_neg h0, if_pos h12]
    have t1 : (x.o == 12) = true := by rw [h12]; rfl
    clear h0 h12
    go_enter Tryz.func103, Tryz.ntmps103
    go_wp2_with (go_at_call 85; refine (marked_any _ (HU.out _) _).mono ?_; rintro e w' ⟨rfl, rfl⟩)
    go_ret
    exact ⟨by rw [hb.out]; rfl, (Below.refl _ _).alloc (Nat.le_refl _) _⟩
  have t1 : (x.o == 12) = false := beq_eq_false_iff_ne.2 h12
  by_cases h13 : x.o = 13
  · have hb : Hid (bhd E x i = (mkd E x.b || mkd E ((i : Int) + 1))) := by unfold Hid bhd; rw [if_neg h0, if_neg h12, if_pos h13]
    have t2 : (x.o == 13) = true := by rw [h13]; rfl
    clear h0 h12 h13
    cases hm : mkd E x.b
    · go_enter Tryz.func103, Tryz.ntmps103
      go_wp2_with (go_at_call 85; refine (marked_any _ (HU.out _) _).mono ?_; rintro e w' ⟨rfl, rfl⟩)
      go_ret
      exact ⟨by rw [hb.out, hm]; rfl, (Below.refl _ _).alloc (Nat.le_refl _) _⟩
    · go_enter Tryz.func103, Tryz.ntmps103
      go_wp2_with (go_at_call 85; refine (marked_any _ (HU.out _) _).mono ?_; rintro e w' ⟨rfl, rfl⟩)
      go_ret
      exact ⟨by rw [hb.out, hm]; rfl, (Below.refl _ _).alloc (Nat.le_refl _) _⟩
  have t2 : (x.o == 13) = false := beq_eq_false_iff_ne.2 h13
  have hb : Hid (bhd E x i = mkd E ((i : Int) + 1)) := by unfold Hid bhd; rw [if_neg h0, if_neg h12, if_neg h13]
  clear h0 h12 h13
  go_enter Tryz.func103, Tryz.ntmps103
  go_wp2_with (go_at_call 85; refine (marked_any _ (HU.out _) _).mono ?_; rintro e w' ⟨rfl, rfl⟩)
  go_ret
  exact ⟨by rw [hb.out]; rfl, (Below.refl _ _).alloc (Nat.le_refl _) _⟩

end Go.Proofs.YtbhbacphiinpeaaGreat

