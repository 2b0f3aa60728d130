/- Nc E Na Wy Wa: joined. -/
import Derived.Test.YtbhbacphiinpeaaZ21
import Derived.Deep.WholeRow
import Derived.Test.YtbhbacphiinpeaaZ02
import Derived.Test.YtbhbacphiinpeaaZ01
import Derived.Test.YtbhbacphiinpeaaZ07
import Derived.Test.YtbhbacphiinpeaaZ06
import Derived.Test.YtbhbacphiinpeaaRows
import Derived.WalkKit
import Derived.WalkSpells
import Derived.WalkLawsBesides
import Derived.BigGuardPart

/- What 'New' of package cells answers. -/
namespace Go.Proofs.Ytbhbacphiinpeaa
open Go.RowKit

/-- Registers and words, as cells. -/
def celV (f : Int) (rg : List Int) (c : Nat) (wd : List Int) : List Value := .int .i64 f :: (zVals rg ++ (.int .i64 c :: zVals wd))
def z64 : List Int := List.replicate 64 0
def memW (mem : List Int) (i : Nat) : List Int := mem.take i ++ List.replicate (32 - i) 0

theorem Try.infoC104 : (Try.prog.info? 87).map (fun i => (i.zero, i.size)) = some (some (.agg (List.replicate 98 (.int .i64 0)).toArray), 98) := by kernel_rfl
theorem Try.builtC (f : Int) : Try.prog.built 87 [(0, .int .i64 f)] = some (celV f z64 0 (List.replicate 32 0)).toArray := by kernel_rfl

theorem celV_len {f : Int} {rg : List Int} {c : Nat} {wd : List Int} (h1 : rg.length = 64) (h2 : wd.length = 32) : (celV f rg c wd).length = 98 := by
  unfold celV; simp [zl, h1, h2]
theorem celV_one (f : Int) (rg : List Int) (c : Nat) (wd : List Int) : ∀ v ∈ celV f rg c wd, v.oneCell' = true := by
  intro v hv
  unfold celV at hv
  simp only [List.mem_cons, List.mem_append] at hv
  rcases hv with rfl | hv | rfl | hv
  · rfl
  · exact oneCell_z _ v hv
  · rfl
  · exact oneCell_z _ v hv
theorem celV_word {f : Int} {rg : List Int} {c : Nat} {wd : List Int} (h1 : rg.length = 64) (i : Nat) (v : Int) : (celV f rg c wd).set (66 + i) (.int .i64 v) = celV f rg c (wd.set i v) := by
  unfold celV
  rw [show 66 + i = (65 + i) + 1 by omega, List.set_cons_succ, List.set_append_right _ _ (by rw [zl, h1]; omega), zl, h1, show 65 + i - 64 = i + 1 by omega, List.set_cons_succ, show (zVals wd).set i (.int .i64 v) = zVals (wd.set i v) by simp [zVals, List.map_set]]
theorem celV_cnt {f : Int} {rg : List Int} {c : Nat} {wd : List Int} (h1 : rg.length = 64) (d : Nat) : (celV f rg c wd).set 65 (.int .i64 d) = celV f rg d wd := by
  unfold celV
  rw [show 65 = 64 + 1 by omega, List.set_cons_succ, List.set_append_right _ _ (by rw [zl, h1]; omega), zl, h1]
  rfl
theorem memW_len {mem : List Int} {i : Nat} (h : i ≤ mem.length) (h2 : mem.length ≤ 32) : (memW mem i).length = 32 := by
  unfold memW; simp; omega
theorem memW_set {mem : List Int} {i : Nat} {v : Int} (h : mem[i]? = some v) (h2 : mem.length ≤ 32) : (memW mem i).set i v = memW mem (i + 1) := by
  have hi := (List.getElem?_eq_some_iff.1 h).1
  unfold memW
  rw [List.set_append_right _ _ (by simp; omega), List.length_take, Nat.min_eq_left (by omega), Nat.sub_self, show 32 - i = (32 - (i + 1)) + 1 by omega, List.replicate_succ, List.set_cons_zero, take_snoc h, List.append_assoc]
  rfl

set_option maxHeartbeats 1000000 in
set_option maxRecDepth 100000 in
theorem cnew_any (f : Int) (b off cap n : Nat) (mem : List Int) (hn : mem.length = n) (hn2 : n ≤ 32) (w : World) (hb : b < w.heap.size) (hc : ∀ (i : Nat) x, mem[i]? = some x → w.cell? ⟨b, off + i, none⟩ = some (.int .i64 x)) :
    Calls Try.prog 48 #[.int .i64 f, .slice (some ⟨b, off, none⟩) n cap] w fun e w' => e = .returned (.agg (celV f z64 n (memW mem n)).toArray) ∧ Below w.heap.size w w' := by
  obtain ⟨hz, hsz⟩ := zero_of_info Try.infoC104
  have Hc := hyd hc
  have Hn := hyd hn
  have hn3 : (n : Int) ≤ 32 := by omega
  obtain ⟨Z, HZ⟩ : ∃ Z : Array Value, Hid (Z = (List.replicate 98 (.int .i64 0)).toArray) := ⟨_, rfl⟩
  rw [← HZ.out] at hz
  have HS := hyd hsz
  obtain ⟨C0, HC0⟩ : ∃ C0 : Array Value, Hid (C0 = (celV f z64 0 (List.replicate 32 0)).toArray) := ⟨_, rfl⟩
  have HBt := hyd (Try.builtC f)
  rw [← HC0.out] at HBt
  clear hc hn hsz
  go_enter Try.func48, Try.ntmps48
  have HZs : Hid (Z.size = 98) := by unfold Hid; rw [HZ.out]; rfl
  have HCs : Hid (C0.size = 98) := by unfold Hid; rw [HC0.out]; simp only [List.size_toArray]; exact celV_len rfl rfl
  have HC1 : Hid (C0.all (·.oneCell') = true) := by unfold Hid; rw [HC0.out]; exact all_oneCell_toArray (celV_one _ _ _ _)
  have X1 := heap_alloc_last w (.cells Z 87)
  have X2 := heap_alloc_last (w.alloc (.cells Z 87)) (.cells Z 87)
  rw [World.size_alloc] at X2
  have HX1 := hyd X1
  have HX2 := hyd X2
  clear X1 X2
  go_wp2_with (first | (refine wpList_build_to rfl 87 _ rfl C0 (by first | exact HBt.out | (simp [go_sem]; exact HBt.out)) ?_) | (refine wpList_store_row rfl 87 (.tmp 5) (.tmp 9) rfl (w.heap.size + 1) C0 rfl rfl 87 Z HX2.out (by rw [HCs.out]; exact HS.out) (by rw [HZs.out, HCs.out]) HC1.out ?_))
  have B1 : Hid ((((w.alloc (.cells Z 87)).alloc (.cells Z 87)).setRow (w.heap.size + 1) C0).heap[w.heap.size + 1]? = some (.cells (celV f z64 0 (memW mem 0)).toArray 87)) := by
    unfold Hid
    rw [setRow_heap _ _ Z _ 87 (0, 0) HX2.out, HC0.out]
    rfl
  have R1 : Hid ((((w.alloc (.cells Z 87)).alloc (.cells Z 87)).setRow (w.heap.size + 1) C0).heap[w.heap.size]? = some (.cells Z 87)) := by
    unfold Hid
    rw [setRow_other _ _ _ _ (by omega), Below.heap_alloc _ _ _ (by simp)]
    exact HX1.out
  have L1 : Hid (Below w.heap.size w (((w.alloc (.cells Z 87)).alloc (.cells Z 87)).setRow (w.heap.size + 1) C0)) := by
    refine ⟨rfl, rfl, rfl, by simp; omega, fun g hg => ?_⟩
    rw [setRow_other _ _ _ _ (by omega), Below.heap_alloc _ _ _ (by simp; omega), Below.heap_alloc _ _ _ hg]
  generalize ((w.alloc (.cells Z 87)).alloc (.cells Z 87)).setRow (w.heap.size + 1) C0 = w1 at B1 R1 L1 ⊢
  clear HX1 HX2 hz
  go_loopw [12] (fun iv wr => ∃ i : Nat, i ≤ n ∧ iv = .int .i64 i ∧ Hid (wr.heap[w.heap.size + 1]? = some (.cells (celV f z64 i (memW mem i)).toArray 87)) ∧ Hid (wr.heap[w.heap.size]? = some (.cells Z 87)) ∧ Hid (Below w.heap.size w wr)) (fun iv _ => n - (intOf iv).toNat)
  case atStart => exact ⟨0, by omega, rfl, B1, R1, L1⟩
  case round =>
    clear B1 R1 L1
    obtain ⟨i, hin, rfl, B, R, Lb⟩ := hrel
    by_cases hi : i < n
    · have i1 : (0 : Int) ≤ (i : Int) := by omega
      have i2 : (i : Int) < (n : Int) := by omega
      have i3 : (i : Int) < 32 := by omega
      obtain ⟨v, hv⟩ : ∃ v, mem[i]? = some v := ⟨_, List.getElem?_eq_getElem (by rw [Hn.out]; exact hi)⟩
      have Hv := hyd hv
      have cm := (Lb.out.cell (p := ⟨b, off + i, none⟩) hb).trans (Hc.out i v hv)
      clear hv
      have hl98 : Hid ((celV f z64 i (memW mem i)).length = 98) := celV_len rfl (memW_len (by rw [Hn.out]; exact hin) (by rw [Hn.out]; exact hn2))
      obtain ⟨u1, cw⟩ : ∃ u, wr.cell? ⟨w.heap.size + 1, 66 + i, none⟩ = some u := ⟨_, by rw [cell_of_row wr _ (66 + i) _ 87 _ B.out, List.getElem?_toArray, List.getElem?_eq_getElem (by rw [hl98.out]; omega)]⟩
      have fw := frozen_of_row wr (w.heap.size + 1) (66 + i) _ 87 B.out
      have B2 := hyd (heap_setCell_same wr (w.heap.size + 1) (66 + i) _ 87 (.int .i64 v) B.out)
      have e2 : (celV f z64 i (memW mem i)).toArray.setIfInBounds (66 + i) (.int .i64 v) = (celV f z64 i (memW mem (i + 1))).toArray := by
        rw [List.setIfInBounds_toArray, celV_word rfl, memW_set Hv.out (by rw [Hn.out]; exact hn2)]
      rw [e2] at B2
      have hl98' : Hid ((celV f z64 i (memW mem (i + 1))).length = 98) := celV_len rfl (memW_len (by rw [Hn.out]; exact hi) (by rw [Hn.out]; exact hn2))
      obtain ⟨u2, cc⟩ : ∃ u, (wr.setCell ⟨w.heap.size + 1, 66 + i, none⟩ (.int .i64 v)).cell? ⟨w.heap.size + 1, 65, none⟩ = some u := ⟨_, by rw [cell_of_row _ _ 65 _ 87 _ B2.out, List.getElem?_toArray, List.getElem?_eq_getElem (by rw [hl98'.out]; omega)]⟩
      have fc := frozen_of_row (wr.setCell ⟨w.heap.size + 1, 66 + i, none⟩ (.int .i64 v)) (w.heap.size + 1) 65 _ 87 B2.out
      clear e2
      go_wp2_with fail
      refine ⟨⟨i + 1, by omega, rfl, ?_, ?_, ?_⟩, ?_⟩
      · unfold Hid
        have h3 := heap_setCell_same _ (w.heap.size + 1) 65 _ 87 (.int .i64 ((i : Int) + 1)) B2.out
        rw [List.setIfInBounds_toArray, show ((i : Int) + 1) = ((i + 1 : Nat) : Int) by omega, celV_cnt rfl] at h3
        exact h3
      · exact (Below.heap_setCell _ _ _ _ (by show w.heap.size ≠ w.heap.size + 1; omega)).trans ((Below.heap_setCell _ _ _ _ (by show w.heap.size ≠ w.heap.size + 1; omega)).trans R.out)
      · exact (Lb.out.setCell (p := ⟨w.heap.size + 1, 66 + i, none⟩) (by show w.heap.size ≤ w.heap.size + 1; omega) _).setCell (p := ⟨w.heap.size + 1, 65, none⟩) (by show w.heap.size ≤ w.heap.size + 1; omega) _
      · simp only [intOf]; omega
    · have : i = n := by omega
      subst this
      have hl98 : Hid ((celV f z64 i (memW mem i)).length = 98) := celV_len rfl (memW_len (by rw [Hn.out]; exact hin) (by rw [Hn.out]; exact hn2))
      have hrg : Hid (wr.rangeAt (w.heap.size + 1) 0 (celV f z64 i (memW mem i))) := fun j v hv => by
        rw [Nat.zero_add, cell_of_row wr _ j _ 87 _ B.out, List.getElem?_toArray]; exact hv
      obtain ⟨V, HV⟩ : ∃ V : Array Value, Hid (V = (celV f z64 i (memW mem i)).toArray) := ⟨_, rfl⟩
      have HVs : Hid (V.size = 98) := by unfold Hid; rw [HV.out, List.size_toArray]; exact hl98.out
      have HV1 : Hid (V.all (·.oneCell') = true) := by unfold Hid; rw [HV.out]; exact all_oneCell_toArray (celV_one _ _ _ _)
      go_wp2_with (first | (refine wpList_load_mid rfl 87 (.tmp 5) rfl (w.heap.size + 1) 0 rfl (celV f z64 i (memW mem i)) _ hrg.out Try.underlying87 rfl (by rw [hl98.out]; exact HS.out) ?_; rw [← HV.out]) | (refine wpList_store_row rfl 87 (.tmp 4) (.tmp 27) rfl w.heap.size V rfl rfl 87 Z R.out (by rw [HVs.out]; exact HS.out) (by rw [HZs.out, HVs.out]) HV1.out ?_))
      have R2 := setRow_heap wr w.heap.size Z V 87 (0, 0) R.out
      have L2 : Hid (Below w.heap.size w (wr.setRow w.heap.size V)) := ⟨Lb.out.os, Lb.out.tape, Lb.out.output, by rw [setRow_size]; exact Lb.out.size, fun g hg => by rw [setRow_other _ _ _ _ (by omega)]; exact Lb.out.block g hg⟩
      generalize wr.setRow w.heap.size V = wz at R2 L2 ⊢
      have hL := run_loadVar_row (P := Try.prog) wz w.heap.size 87 87 V (0, 0) _ R2 Try.underlying87 rfl (by rw [HVs.out]; exact HS.out)
      (try simp only [Exit.inBlock, Exit.then])
      refine bodyPost_ret (by simp [results, Try.results48, asAddr, Act.put, hL]; try rfl) rfl ?_
      exact ⟨by rw [HV.out], L2.out⟩

end Go.Proofs.Ytbhbacphiinpeaa

/- What 'Decode' answers. -/
namespace Go.Proofs.Ytbhbacphiinpeaa
open Go.RowKit

set_option maxHeartbeats 400000 in
theorem decode_size (s : ByteArray) (hm : s.size ≤ 140737488355328) (h : s.size % 4 ≠ 0 ∨ 160 < s.size) (w : World) :
    Calls Try.prog 32 #[.string s] w fun e w' => e = .returned (.tuple #[.slice none 0 0, .int .i64 1, .int .i64 0]) ∧ w' = w := by
  by_cases h4 : s.size % 4 = 0
  · have g : (((s.size : Int) % 4) != 0) = false := by
      have : (s.size : Int) % 4 = 0 := by omega
      rw [this]; rfl
    have g2 : decide ((160 : Int) < (s.size : Int)) = true := by simp; omega
    have h5 : (160 : Int) < (s.size : Int) := by omega
    have H4 : Hid (s.size % 4 = 0) := h4
    clear h h4
    go_enter Try.func32, Try.ntmps32
    go_wp2
    go_ret3
    exact ⟨rfl, rfl⟩
  · have g : (((s.size : Int) % 4) != 0) = true := by
      have : (s.size : Int) % 4 ≠ 0 := by omega
      simpa using this
    clear h h4
    go_enter Try.func32, Try.ntmps32
    go_wp2
    go_ret3
    exact ⟨rfl, rfl⟩

set_option maxHeartbeats 400000 in
theorem decode_fits (s : ByteArray) (n : Nat) (hs : s.size = 4 * n) (hn : n ≤ 40) (w : World) :
    Calls Try.prog 32 #[.string s] w fun e w' => ∃ v, e = .returned (.tuple #[v, .int .i64 (chk (unp s n)).1, .int .i64 (chk (unp s n)).2]) ∧ Below w.heap.size w w' ∧
      (((chk (unp s n)).1 = 0 ∧ w'.ownsRow w.heap.size 31 4 v n (flat (unp s n))) ∨ ((chk (unp s n)).1 ≠ 0 ∧ v = .slice none 0 0)) := by
  have g : (((s.size : Int) % 4) != 0) = false := by
    have : (s.size : Int) % 4 = 0 := by omega
    rw [this]; rfl
  have g2 : decide ((160 : Int) < (s.size : Int)) = false := by simp; omega
  have g3 : (s.size : Int) ≤ 160 := by omega
  have Hs : Hid (s.size = 4 * n) := hs
  clear hs
  by_cases he : (chk (unp s n)).1 = 0
  · have hb : ((chk (unp s n)).1 != 0) = false := by rw [he]; rfl
    have He : Hid ((chk (unp s n)).1 = 0) := he
    clear he
    have He2 : Hid (chk (unp s n) = (0, 0)) := (chk_zero He.out).1
    go_enter Try.func32, Try.ntmps32
    go_wp2_with fail
    refine (unpack_any s n Hs.out hn _).mono ?_
    rintro e w1 ⟨v, rfl, hown, hb1⟩
    have hsee : Hid (Sees w1 v (unp s n)) := ownsRow_sees (by rw [unp_length]; omega) (by rw [unp_length]; exact hown)
    go_wp2_with fail
    refine (check_any hsee.out).mono ?_
    rintro e w2 ⟨rfl, hb2⟩
    go_wp2
    go_ret3
    refine ⟨v, by rw [He2.out]; rfl, hb1.trans (hb2.mono hb1.size), .inl ⟨He.out, hown.keptB hb2⟩⟩
  · have hb : ((chk (unp s n)).1 != 0) = true := by simpa using he
    go_enter Try.func32, Try.ntmps32
    go_wp2_with fail
    refine (unpack_any s n Hs.out hn _).mono ?_
    rintro e w1 ⟨v, rfl, hown, hb1⟩
    have hsee : Hid (Sees w1 v (unp s n)) := ownsRow_sees (by rw [unp_length]; omega) (by rw [unp_length]; exact hown)
    go_wp2_with fail
    refine (check_any hsee.out).mono ?_
    rintro e w2 ⟨rfl, hb2⟩
    go_wp2
    go_ret3
    exact ⟨_, rfl, hb1.trans (hb2.mono hb1.size), .inr ⟨he, rfl⟩⟩

theorem decode_any (s : ByteArray) (hm : s.size ≤ 140737488355328) (w : World) :
    Calls Try.prog 32 #[.string s] w fun e w' => ∃ v, e = .returned (.tuple #[v, .int .i64 (dchk s).1, .int .i64 (dchk s).2]) ∧ Below w.heap.size w w' ∧
      w'.ownsRow w.heap.size 31 4 v (decL s).length (flat (decL s)) ∧ ((dchk s).1 ≠ 0 → v = .slice none 0 0) := by
  by_cases h : s.size % 4 ≠ 0 ∨ 160 < s.size
  · have e1 : dchk s = (1, 0) := by unfold dchk; rw [if_pos h]
    have e2 : decL s = [] := by unfold decL; rw [e1]; simp
    rw [e1, e2]
    refine (decode_size s hm h w).mono ?_
    rintro e w' ⟨rfl, rfl⟩
    exact ⟨_, rfl, Below.refl _ _, World.ownsRow_nil _ _ _ _, fun _ => rfl⟩
  · have e1 : dchk s = chk (unp s (s.size / 4)) := by unfold dchk; rw [if_neg h]
    refine (decode_fits s (s.size / 4) (by omega) (by omega) w).mono ?_
    rintro e w' ⟨v, rfl, hb, hv⟩
    rw [← e1] at hv ⊢
    refine ⟨v, rfl, hb, ?_⟩
    rcases hv with ⟨h0, hown⟩ | ⟨h0, rfl⟩
    · have e2 : decL s = unp s (s.size / 4) := by unfold decL; rw [if_pos h0]
      rw [e2, unp_length]
      exact ⟨hown, fun hn => absurd h0 hn⟩
    · have e2 : decL s = [] := by unfold decL; rw [if_neg h0]
      rw [e2]
      exact ⟨World.ownsRow_nil _ _ _ _, fun _ => rfl⟩

set_option maxHeartbeats 400000 in
theorem Decode_any (s : ByteArray) (hm : s.size ≤ 140737488355328) (w : World) :
    Calls Try.prog 11 #[.string s] w fun e w' => ∃ v, e = .returned (.tuple #[v, .int .i64 (dchk s).1, .int .i64 (dchk s).2]) ∧ Below w.heap.size w w' ∧
      w'.ownsRow w.heap.size 31 4 v (decL s).length (flat (decL s)) ∧ ((dchk s).1 ≠ 0 → v = .slice none 0 0) := by
  go_enter Try.func11, Try.ntmps11
  go_wp2_with (go_at_call 32; refine (decode_any s hm _).mono ?_; rintro e w1 ⟨v, rfl, hb, hown, hnil⟩)
  go_ret3
  exact ⟨v, rfl, hb, hown, hnil⟩

end Go.Proofs.Ytbhbacphiinpeaa

/- What 'New' of package loom answers where it refuses. -/
namespace Go.Proofs.Ytbhbacphiinpeaa
open Go.RowKit

set_option maxHeartbeats 400000 in
theorem mnew_no (s : ByteArray) (hm : s.size ≤ 140737488355328) (h0 : (dchk s).1 ≠ 0) (t f : Int) (ao : Option Addr) (n cap : Nat) (w : World) :
    Calls Try.prog 37 #[.string s, .int .i64 t, .int .i64 f, .slice ao n cap] w fun e w' => e = .returned (.tuple #[.pointer none, .int .i64 (dchk s).1, .int .i64 (dchk s).2]) ∧ Below w.heap.size w w' := by
  have g0 : ((dchk s).1 != 0) = true := by simpa using h0
  clear h0
  go_enter Try.func37, Try.ntmps37
  go_wp2_with fail
  refine (decode_any s hm _).mono ?_
  rintro e w1 ⟨v, rfl, hb1, -⟩
  go_wp2
  go_ret3
  exact ⟨rfl, hb1⟩

set_option maxHeartbeats 1000000 in
theorem mnew_bad (s : ByteArray) (hm : s.size ≤ 140737488355328) (h0 : (dchk s).1 = 0) (t f : Int) (ao : Option Addr) (n cap : Nat) (hn : n ≤ 17592186044416) (w : World) (he : newErr t f n ≠ 0) :
    Calls Try.prog 37 #[.string s, .int .i64 t, .int .i64 f, .slice ao n cap] w fun e w' => e = .returned (.tuple #[.pointer none, .int .i64 (newErr t f n), .int .i64 0]) ∧ Below w.heap.size w w' := by
  have g0 : ((dchk s).1 != 0) = false := by simpa using h0
  clear h0
  by_cases h1 : t < 1
  · have hq : Hid (newErr t f n = 4) := by unfold Hid newErr; rw [if_pos (.inl h1)]
    have g1 : decide (t < 1) = true := by simpa using h1
    go_enter Try.func37, Try.ntmps37
    go_wp2_with fail
    refine (decode_any s hm _).mono ?_
    rintro e w1 ⟨v, rfl, hb1, -⟩
    go_wp2
    go_ret3
    rw [hq.out]
    exact ⟨rfl, hb1⟩
  have g1 : decide (t < 1) = false := by simpa using h1
  by_cases h2 : 16 < t
  · have hq : Hid (newErr t f n = 4) := by unfold Hid newErr; rw [if_pos (.inr (.inl h2))]
    have g2 : decide (16 < t) = true := by simpa using h2
    go_enter Try.func37, Try.ntmps37
    go_wp2_with fail
    refine (decode_any s hm _).mono ?_
    rintro e w1 ⟨v, rfl, hb1, -⟩
    go_wp2
    go_ret3
    rw [hq.out]
    exact ⟨rfl, hb1⟩
  have g2 : decide (16 < t) = false := by simpa using h2
  by_cases h3 : f < 0
  · have hq : Hid (newErr t f n = 4) := by unfold Hid newErr; rw [if_pos (.inr (.inr (.inl h3)))]
    have g3 : decide (f < 0) = true := by simpa using h3
    go_enter Try.func37, Try.ntmps37
    go_wp2_with fail
    refine (decode_any s hm _).mono ?_
    rintro e w1 ⟨v, rfl, hb1, -⟩
    go_wp2
    go_ret3
    rw [hq.out]
    exact ⟨rfl, hb1⟩
  have g3 : decide (f < 0) = false := by simpa using h3
  by_cases h4 : 1000 < f
  · have hq : Hid (newErr t f n = 4) := by unfold Hid newErr; rw [if_pos (.inr (.inr (.inr h4)))]
    have g4 : decide (1000 < f) = true := by simpa using h4
    go_enter Try.func37, Try.ntmps37
    go_wp2_with fail
    refine (decode_any s hm _).mono ?_
    rintro e w1 ⟨v, rfl, hb1, -⟩
    go_wp2
    go_ret3
    rw [hq.out]
    exact ⟨rfl, hb1⟩
  have g4 : decide (1000 < f) = false := by simpa using h4
  have hq : Hid (newErr t f n = 5 ∧ (n < 1 ∨ 32 < n)) := by
    unfold newErr at he
    rw [if_neg (by omega)] at he
    by_cases h5 : n < 1 ∨ 32 < n
    · refine ⟨?_, h5⟩
      unfold newErr
      rw [if_neg (by omega), if_pos h5]
    · rw [if_neg h5] at he
      exact absurd rfl he
  clear he h1 h2 h3 h4
  by_cases h5 : n < 1
  · have hn0 : n = 0 := by omega
    subst hn0
    clear h5
    go_enter Try.func37, Try.ntmps37
    go_wp2_with fail
    refine (decode_any s hm _).mono ?_
    rintro e w1 ⟨v, rfl, hb1, -⟩
    go_wp2
    go_ret3
    rw [hq.out.1]
    exact ⟨rfl, hb1⟩
  · have g5 : decide ((n : Int) < 1) = false := by simp; omega
    have g6 : decide (32 < (n : Int)) = true := by
      have := hq.out.2
      simp; omega
    go_enter Try.func37, Try.ntmps37
    go_wp2_with fail
    refine (decode_any s hm _).mono ?_
    rintro e w1 ⟨v, rfl, hb1, -⟩
    go_wp2
    go_ret3
    rw [hq.out.1]
    exact ⟨rfl, hb1⟩

end Go.Proofs.Ytbhbacphiinpeaa

/- What the program works out of the ways in a kernel: plain lists; nothing of the program is in this text. -/
namespace Go.Proofs.Ytbhbacphiinpeaa
open Go.RowKit

/-- Is there an instruction m, and is it marked? -/
def mkd (E : List Bool) (m : Int) : Bool := if 0 ≤ m then E.getD m.toNat false else false

theorem mkd_nat (E : List Bool) (n : Nat) : mkd E (n : Int) = true ↔ E[n]? = some true := by
  unfold mkd
  rw [if_pos (by omega)]
  simp only [Int.toNat_natCast, List.getD_eq_getElem?_getD]
  cases h : E[n]? with
  | none => simp
  | some b => simp

theorem mkd_int {E : List Bool} {m : Int} (h : 0 ≤ m) : mkd E m = true ↔ E[m.toNat]? = some true := by
  have := mkd_nat E m.toNat
  rwa [Int.toNat_of_nonneg h] at this

/-- Is the instruction an Exit, or is one marked that comes next? -/
def bhd (E : List Bool) (x : Ins) (n : Nat) : Bool := if x.o = 0 then true else if x.o = 12 then mkd E x.b else if x.o = 13 then (mkd E x.b || mkd E ((n : Int) + 1)) else mkd E ((n : Int) + 1)

def Sound (k : List Ins) (av : Int) (E : List Bool) : Prop := E.length = k.length ∧ ∀ i : Nat, E[i]? = some true → (i : Int) ≠ av ∧ Rch k av i
def Whole (k : List Ins) (av : Int) (E : List Bool) : Prop := ∀ (i : Nat) x, k[i]? = some x → (i : Int) ≠ av → bhd E x i = true → E[i]? = some true
def Ends (k : List Ins) (av : Int) (E : List Bool) : Prop := E.length = k.length ∧ ∀ i : Nat, E[i]? = some true ↔ ((i : Int) ≠ av ∧ Rch k av i)

theorem bhd_iff {k : List Ins} {E : List Bool} {n : Nat} {x : Ins} (hx : k[n]? = some x) (hb : 0 ≤ x.b) : bhd E x n = true ↔ isEnd k n ∨ ∃ m ∈ nxt k n, E[m]? = some true := by
  have hn : nxt k n = if x.o = 0 then [] else if x.o = 12 then [x.b.toNat] else if x.o = 13 then [x.b.toNat, n + 1] else [n + 1] := by unfold nxt; rw [hx]
  have he : isEnd k n ↔ x.o = 0 := ⟨fun ⟨y, h1, h2⟩ => by rw [hx] at h1; cases h1; exact h2, fun h => ⟨x, hx, h⟩⟩
  have h1 : mkd E ((n : Int) + 1) = true ↔ E[n + 1]? = some true := by
    have := mkd_nat E (n + 1)
    rwa [show ((n + 1 : Nat) : Int) = (n : Int) + 1 by omega] at this
  have h2 := mkd_int (E := E) hb
  rw [he, hn]
  unfold bhd
  by_cases h0 : x.o = 0
  · simp [h0]
  rw [if_neg h0, if_neg h0]
  by_cases h12 : x.o = 12
  · rw [if_pos h12, if_pos h12, h2]; simp [h12]
  rw [if_neg h12, if_neg h12]
  by_cases h13 : x.o = 13
  · rw [if_pos h13, if_pos h13, Bool.or_eq_true, h1, h2]; simp [h13]
  rw [if_neg h13, if_neg h13, h1]
  simp [h0]

theorem bhd_sound {k : List Ins} {av : Int} {E : List Bool} {n : Nat} {x : Ins} (hs : Sound k av E) (hx : k[n]? = some x) (hb : 0 ≤ x.b) (h : bhd E x n = true) : Rch k av n := by
  rcases (bhd_iff hx hb).1 h with he | ⟨m, hm, hE⟩
  · exact ⟨[], he⟩
  · obtain ⟨h1, p, hp⟩ := hs.2 m hE
    exact ⟨m :: p, hm, h1, hp⟩

theorem way_in {k : List Ins} {wo : Int} {n : Nat} {p : List Nat} (h : IsWay k wo n p) : ∃ x, k[n]? = some x := by
  cases p with
  | nil => obtain ⟨x, hx, -⟩ := h; exact ⟨x, hx⟩
  | cons m p =>
    obtain ⟨h1, -⟩ := h
    cases hx : k[n]? with
    | none => unfold nxt at h1; rw [hx] at h1; simp at h1
    | some x => exact ⟨x, rfl⟩

theorem whole_all {k : List Ins} {av : Int} {E : List Bool} (hb : ∀ (i : Nat) x, k[i]? = some x → 0 ≤ x.b) (hw : Whole k av E) : ∀ (p : List Nat) (n : Nat), (n : Int) ≠ av → IsWay k av n p → E[n]? = some true
  | [], n, hn, h => by
    obtain ⟨x, hx⟩ := way_in h
    exact hw n x hx hn ((bhd_iff hx (hb n x hx)).2 (.inl h))
  | m :: p, n, hn, h => by
    obtain ⟨x, hx⟩ := way_in h
    obtain ⟨h1, h2, h3⟩ := h
    exact hw n x hx hn ((bhd_iff hx (hb n x hx)).2 (.inr ⟨m, h1, whole_all hb hw p m h2 h3⟩))

theorem ends_of {k : List Ins} {av : Int} {E : List Bool} (hb : ∀ (i : Nat) x, k[i]? = some x → 0 ≤ x.b) (hs : Sound k av E) (hw : Whole k av E) : Ends k av E :=
  ⟨hs.1, fun i => ⟨hs.2 i, fun ⟨h1, p, hp⟩ => whole_all hb hw p i h1 hp⟩⟩

theorem sound_none (k : List Ins) (av : Int) : Sound k av (List.replicate k.length false) := by
  refine ⟨by simp, fun i h => ?_⟩
  rw [List.getElem?_replicate] at h
  split at h <;> simp at h

theorem sound_set {k : List Ins} {av : Int} {E : List Bool} {n : Nat} {x : Ins} (hs : Sound k av E) (hx : k[n]? = some x) (hb : 0 ≤ x.b) (hn : (n : Int) ≠ av) (h : bhd E x n = true) : Sound k av (E.set n true) := by
  refine ⟨by simp [hs.1], fun i hi => ?_⟩
  rw [List.getElem?_set] at hi
  by_cases e : n = i
  · subst e
    exact ⟨hn, bhd_sound hs hx hb h⟩
  · rw [if_neg e] at hi
    exact hs.2 i hi

theorem count_set : ∀ {E : List Bool} {n : Nat}, E[n]? = some false → (E.set n true).count true = E.count true + 1
  | [], n, h => by simp at h
  | b :: E, 0, h => by simp at h; subst h; simp
  | b :: E, n + 1, h => by
    simp only [List.getElem?_cons_succ] at h
    have := count_set h
    simp only [List.set_cons_succ, List.count_cons, this]
    omega

theorem all_of_count {E : List Bool} (h : E.length ≤ E.count true) : ∀ b ∈ E, b = true := by
  have h1 := List.count_le_length (a := true) (l := E)
  have h2 := List.count_eq_length.1 (Nat.le_antisymm h1 h)
  exact fun b hb => (h2 b hb).symm

theorem whole_of_count {k : List Ins} {av : Int} {E : List Bool} (hl : E.length = k.length) (h : k.length ≤ E.count true) : Whole k av E := by
  intro i x hx _ _
  have hi : i < E.length := by rw [hl]; exact (List.getElem?_eq_some_iff.1 hx).1
  rw [List.getElem?_eq_getElem hi]
  rw [all_of_count (by omega) _ (List.getElem_mem hi)]

/-- The row of d: by which instructions does each way come by d? -/
def OnRow (k : List Ins) (d : Nat) (R : List Bool) : Prop := R.length = k.length ∧ ∀ n : Nat, R[n]? = some true ↔ (Rch k (-1) n ∧ Psd k n d)
def On (k : List Ins) (M : List (List Bool)) : Prop := M.length = k.length ∧ ∀ (d : Nat) R, M[d]? = some R → OnRow k d R

/-- What stands at n in the row of d. -/
def onB (E W : List Bool) (d n : Nat) : Bool := decide (n ≠ d) && (mkd E n && !mkd W n)

theorem onB_iff {k : List Ins} {E W : List Bool} {d n : Nat} (hE : Ends k (-1) E) (hW : Ends k (d : Int) W) : onB E W d n = true ↔ (Rch k (-1) n ∧ Psd k n d) := by
  unfold onB Psd
  rw [Bool.and_eq_true, Bool.and_eq_true, decide_eq_true_iff, mkd_nat, hE.2, Bool.not_eq_true', ← Bool.not_eq_true, mkd_nat, hW.2]
  have h1 : ((n : Int) ≠ -1) := by omega
  constructor
  · rintro ⟨a, ⟨-, b⟩, c⟩
    exact ⟨b, a, fun h => c ⟨by omega, h⟩⟩
  · rintro ⟨b, a, c⟩
    exact ⟨a, ⟨h1, b⟩, fun h => c h.2⟩

theorem onRow_of {k : List Ins} {E W R : List Bool} {d : Nat} (hE : Ends k (-1) E) (hW : Ends k (d : Int) W) (hl : R.length = k.length) (h : ∀ (n : Nat) b, R[n]? = some b → b = onB E W d n) : OnRow k d R := by
  refine ⟨hl, fun n => ?_⟩
  rw [← onB_iff hE hW]
  constructor
  · intro hn; exact (h n true hn).symm
  · intro hn
    by_cases hlt : n < R.length
    · have e : R[n]? = some R[n] := List.getElem?_eq_getElem hlt
      rw [e, h n _ e, hn]
    · obtain ⟨⟨p, hp⟩, -⟩ := (onB_iff hE hW).1 hn
      obtain ⟨x, hx⟩ := way_in hp
      have := (List.getElem?_eq_some_iff.1 hx).1
      omega

end Go.Proofs.Ytbhbacphiinpeaa

/- What 'marked' and 'endsBehind' answer. -/
namespace Go.Proofs.Ytbhbacphiinpeaa
open Go.RowKit

/-- The slice reads as the marks E, one for each of n instructions. -/
def SeesB (w : World) (b n : Nat) (E : List Bool) : Prop := E.length = n ∧ 1 ≤ n ∧ n ≤ 40 ∧ b < w.heap.size ∧ ∀ (i : Nat) x, E[i]? = some x → w.cell? ⟨b, i, none⟩ = some (.bool x)

theorem SeesB.up {w w' : World} {b n : Nat} {E : List Bool} {B : Nat} (h : SeesB w b n E) (hB : w.heap.size ≤ B) (hb : Below B w w') : SeesB w' b n E := by
  obtain ⟨h1, h2, h3, h4, h5⟩ := h
  exact ⟨h1, h2, h3, Nat.lt_of_lt_of_le h4 hb.size, fun i x hx => (hb.cell (Nat.lt_of_lt_of_le h4 hB)).trans (h5 i x hx)⟩

set_option maxHeartbeats 400000 in
theorem marked_any {w : World} {b n : Nat} {E : List Bool} (cap : Nat) (h : SeesB w b n E) (m : Int) :
    Calls Try.prog 57 #[.slice (some ⟨b, 0, none⟩) n cap, .int .i64 m] w fun e w' => e = .returned (.bool (mkd E m)) ∧ w' = w := by
  obtain ⟨h1, h2, h3, h4, h5⟩ := h
  by_cases h0 : 0 ≤ m
  · by_cases hlt : m < (n : Int)
    · obtain ⟨i, rfl⟩ : ∃ i : Nat, m = (i : Int) := ⟨m.toNat, by omega⟩
      have hi : i < E.length := by omega
      obtain ⟨x, hx⟩ : ∃ x, E[i]? = some x := ⟨_, List.getElem?_eq_getElem hi⟩
      have c0 := h5 i x hx
      have hm : Hid (mkd E (i : Int) = x) := by unfold Hid mkd; rw [if_pos h0]; simp [hx]
      have hn2 : (n : Int) ≤ 40 := by omega
      clear h5 hx hi h1
      go_enter Try.func57, Try.ntmps57
      go_wp2
      go_ret
      exact ⟨by rw [hm.out]; rfl, rfl⟩
    · have hm : Hid (mkd E m = false) := by
        unfold Hid mkd; rw [if_pos h0]
        have : E[m.toNat]? = none := List.getElem?_eq_none (by omega)
        simp [this]
      have g1 : decide (m < (n : Int)) = false := by simpa using hlt
      clear h5 h1
      go_enter Try.func57, Try.ntmps57
      go_wp2
      go_ret
      exact ⟨by rw [hm.out]; rfl, rfl⟩
  · have hm : Hid (mkd E m = false) := by unfold Hid mkd; rw [if_neg h0]
    have g1 : decide (0 ≤ m) = false := by simpa using h0
    clear h5 h1
    go_enter Try.func57, Try.ntmps57
    go_wp2
    go_ret
    exact ⟨by rw [hm.out]; rfl, rfl⟩

set_option maxHeartbeats 400000 in
theorem behind_any {w : World} {b n : Nat} {E : List Bool} (cap : Nat) (h : SeesB w b n E) (x : Ins) (i : Nat) (hi : i < n) :
    Calls Try.prog 66 #[.agg #[.int .i64 x.o, .int .i64 x.a, .int .i64 x.b, .int .i64 x.c], .int .i64 i, .slice (some ⟨b, 0, none⟩) n cap] w fun e w' => e = .returned (.bool (bhd E x i)) ∧ Below w.heap.size w w' := by
  have H := hyd h
  have hi2 : (i : Int) ≤ 40 := by have := h.2.2.1; omega
  have hi0 : (0 : Int) ≤ (i : Int) := by omega
  clear h
  have HU : Hid (∀ v, SeesB (w.alloc v) b n E) := fun v => H.out.up (Nat.le_refl _) ((Below.refl _ w).alloc (Nat.le_refl _) v)
  by_cases h0 : x.o = 0
  · have hb : Hid (bhd E x i = true) := by unfold Hid bhd; rw [if_pos h0]
    have t0 : (x.o == 0) = true := by rw [h0]; rfl
    clear h0
    go_enter Try.func66, Try.ntmps66
    go_wp2
    go_ret
    exact ⟨by rw [hb.out]; rfl, (Below.refl _ _).alloc (Nat.le_refl _) _⟩
  have t0 : (x.o == 0) = false := beq_eq_false_iff_ne.2 h0
  by_cases h12 : x.o = 12
  · have hb : Hid (bhd E x i = mkd E x.b) := by unfold Hid bhd; rw [if_neg h0, if_pos h12]
    have t1 : (x.o == 12) = true := by rw [h12]; rfl
    clear h0 h12
    go_enter Try.func66, Try.ntmps66
    go_wp2_with (go_at_call 57; refine (marked_any _ (HU.out _) _).mono ?_; rintro e w' ⟨rfl, rfl⟩)
    go_ret
    exact ⟨by rw [hb.out]; rfl, (Below.refl _ _).alloc (Nat.le_refl _) _⟩
  have t1 : (x.o == 12) = false := beq_eq_false_iff_ne.2 h12
  by_cases h13 : x.o = 13
  · have hb : Hid (bhd E x i = (mkd E x.b || mkd E ((i : Int) + 1))) := by unfold Hid bhd; rw [if_neg h0, if_neg h12, if_pos h13]
    have t2 : (x.o == 13) = true := by rw [h13]; rfl
    clear h0 h12 h13
    cases hm : mkd E x.b
    · go_enter Try.func66, Try.ntmps66
      go_wp2_with (go_at_call 57; refine (marked_any _ (HU.out _) _).mono ?_; rintro e w' ⟨rfl, rfl⟩)
      go_ret
      exact ⟨by rw [hb.out, hm]; rfl, (Below.refl _ _).alloc (Nat.le_refl _) _⟩
    · go_enter Try.func66, Try.ntmps66
      go_wp2_with (go_at_call 57; refine (marked_any _ (HU.out _) _).mono ?_; rintro e w' ⟨rfl, rfl⟩)
      go_ret
      exact ⟨by rw [hb.out, hm]; rfl, (Below.refl _ _).alloc (Nat.le_refl _) _⟩
  have t2 : (x.o == 13) = false := beq_eq_false_iff_ne.2 h13
  have hb : Hid (bhd E x i = mkd E ((i : Int) + 1)) := by unfold Hid bhd; rw [if_neg h0, if_neg h12, if_neg h13]
  clear h0 h12 h13
  go_enter Try.func66, Try.ntmps66
  go_wp2_with (go_at_call 57; refine (marked_any _ (HU.out _) _).mono ?_; rintro e w' ⟨rfl, rfl⟩)
  go_ret
  exact ⟨by rw [hb.out]; rfl, (Below.refl _ _).alloc (Nat.le_refl _) _⟩

end Go.Proofs.Ytbhbacphiinpeaa

