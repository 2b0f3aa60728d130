/- What loomkeep's way answers: the instructions that were issued for a thread. -/
import Derived.Test.YtbhbacphiinpeaaTn
import Derived.Test.YtbhbacphiinpeaaTj
import Derived.Test.YtbhbacphiinpeaaSd
import Derived.Test.YtbhbacphiinpeaaSc0
import Derived.Deep.Cut
namespace Go.Proofs.Ytbhbacphiinpeaa
open Go.RowKit

theorem flatL_at : ∀ {l : List (Int × Int)} {i : Nat} {x : Int × Int}, l[i]? = some x → (flatL l)[i * 2]? = some (.int .i64 x.1) ∧ (flatL l)[i * 2 + 1]? = some (.int .i64 x.2)
  | [], i, x, h => by simp at h
  | y :: l, 0, x, h => by
    simp at h
    subst h
    exact ⟨rfl, rfl⟩
  | y :: l, i + 1, x, h => by
    have ih := flatL_at (l := l) (i := i) (x := x) (by simpa using h)
    have e : flatL (y :: l) = .int .i64 y.1 :: .int .i64 y.2 :: flatL l := rfl
    rw [e, show (i + 1) * 2 = i * 2 + 2 by omega]
    exact ih

theorem and_bit : ∀ y < (16 : Nat), ∀ j < (4 : Nat), _root_.Go.bits .and .i64 ((y : Int) / 2 ^ j) 1 = if y.testBit j then 1 else 0 := by decide +kernel

set_option maxHeartbeats 4000000 in
set_option maxRecDepth 100000 in
theorem kway_any {w : World} {bL base c : Nat} {logs : List (List (Int × Int))} {vs : List Value} (h : LogsAt w bL base c logs vs) (r1 r2 r3 r4 r5 r6 r7 r8 : Int) (ta : Option Addr) (tn tc : Nat) (t : Nat) (ht : t / 4 < c) (h16 : t < 16) {lg : List (Int × Int)} (hlg : logs[t / 4]? = some lg) (hll : lg.length ≤ 40000) (hr : ∀ r ∈ lg, 0 ≤ r.2 ∧ r.2 < 16) :
    Calls Try.prog 23 #[.agg #[.slice (some ⟨bL, 0, none⟩) c c, .int .i64 r1, .int .i64 r2, .int .i64 r3, .int .i64 r4, .int .i64 r5, .int .i64 r6, .int .i64 r7, .int .i64 r8, .slice ta tn tc], .int .i64 t] w fun e w' => ∃ v, e = .returned v ∧ w'.ownsRow w.heap.size 3 1 v (wayT t lg).length (zVals (wayT t lg)) ∧ Below w.heap.size w w' := by
  have H := hyd h
  have HR := hyd hr
  have HL := hyd hlg
  clear h hr hlg
  have t0 : (0 : Int) ≤ (t : Int) := by omega
  obtain ⟨tq, htq⟩ : ∃ z, t / 4 = z := ⟨_, rfl⟩
  have e1 : Int.tdiv (t : Int) 4 = (tq : Int) := by rw [Int.tdiv_eq_ediv_of_nonneg (by omega)]; omega
  have e2 : (t : Int) / 4 = (tq : Int) := by omega
  rw [htq] at ht HL
  have htv : tq < vs.length := by rw [H.out.vl]; exact ht
  obtain ⟨vq, Hvq⟩ : ∃ v, Hid (vs[tq]? = some v) := ⟨_, List.getElem?_eq_getElem htv⟩
  have hoq := H.out.own tq lg vq HL.out Hvq.out
  obtain ⟨qa, qc, hv⟩ := slice_ofM hoq
  subst hv
  have hbl : bL < w.heap.size := blk_lt H.out.row
  have kq : w.cell? ⟨bL, tq, none⟩ = some (.slice qa lg.length qc) := by rw [cell_of_row w bL tq _ 47 _ H.out.row, List.getElem?_toArray]; exact Hvq.out
  have Hoq := hyd hoq
  obtain ⟨n, Hn⟩ : ∃ n, Hid (lg.length = n) := ⟨_, rfl⟩
  rw [Hn.out] at kq hll Hoq
  clear hoq htv
  have t1 : (tq : Int) < (c : Int) := by omega
  obtain ⟨tm, htm⟩ : ∃ z, t % 4 = z := ⟨_, rfl⟩
  have e3 : Int.tmod (t : Int) 4 = (tm : Int) := by rw [Int.tmod_eq_emod_of_nonneg (by omega)]; omega
  have e4 : (t : Int) % 4 = (tm : Int) := by omega
  have tm4 : tm < 4 := by omega
  obtain ⟨i0', hi', hz0, hz1, hz2⟩ := info_parts Try.infoI3
  go_enter Try.func23, Try.ntmps23
  go_upto_region 1 with fail
  generalize hw1 : World.alloc w _ = w1
  have hA1 : Below w.heap.size w w1 := by rw [← hw1]; exact (Below.refl _ _).alloc (Nat.le_refl _) _
  have R1 : w1.heap[w.heap.size]? = some (.cells #[.slice (some ⟨bL, 0, none⟩) c c, .int .i64 r1, .int .i64 r2, .int .i64 r3, .int .i64 r4, .int .i64 r5, .int .i64 r6, .int .i64 r7, .int .i64 r8, .slice ta tn tc] 51) := by rw [← hw1]; exact heap_alloc_new w _
  have k1 : w1.cell? ⟨bL, tq, none⟩ = some (.slice qa n qc) := (hA1.cell (p := ⟨bL, tq, none⟩) hbl).trans kq
  have k0 := (ten_cells R1).1.1
  have HA1 := hyd hA1
  clear hw1 hA1 R1 kq
  go_wp2_with fail
  go_loopw [5, 7] (fun lv iv wr => ∃ i : Nat, i ≤ n ∧ iv = .int .i64 i ∧ Hid (wr.ownsRow w.heap.size 3 1 lv (wayT t (lg.take i)).length (zVals (wayT t (lg.take i)))) ∧ Hid (Below w.heap.size w wr)) (fun _ iv _ => n + 1 - (intOf iv).toNat)
  case atStart => exact ⟨0, by omega, rfl, World.ownsRow_nil _ _ _ _, HA1⟩
  case round =>
    obtain ⟨i, hi2, rfl, HV, HBr⟩ := hrel
    have i0 : (0 : Int) ≤ (i : Int) := by omega
    have i1 : (i : Int) ≤ (n : Int) := by omega
    by_cases hi : i < n
    · have i3 : (i : Int) < (n : Int) := by omega
      obtain ⟨gT, hqa⟩ : ∃ g, qa = some ⟨g, 0, none⟩ := by
        rcases Hoq.out.2 with ⟨-, hn⟩ | ⟨g, cap, cur, hv, -⟩
        · omega
        · cases hv; exact ⟨g, rfl⟩
      subst hqa
      obtain ⟨x, hx⟩ : ∃ x, lg[i]? = some x := ⟨_, List.getElem?_eq_getElem (by rw [Hn.out]; exact hi)⟩
      obtain ⟨g0, g1⟩ := HR.out x (List.mem_of_getElem? hx)
      have hgl := Hoq.out.lt gT rfl
      obtain ⟨fa1, fa2⟩ := flatL_at hx
      have hc1 : wr.cell? ⟨gT, i * 2, none⟩ = some (.int .i64 x.1) := by
        rw [HBr.out.cell (p := ⟨gT, i * 2, none⟩) hgl.2, Hoq.out.cellAt (i * 2) (by omega)]
        exact fa1
      have hc2 : wr.cell? ⟨gT, i * 2 + 1, none⟩ = some (.int .i64 x.2) := by
        rw [HBr.out.cell (p := ⟨gT, i * 2 + 1, none⟩) hgl.2, Hoq.out.cellAt (i * 2 + 1) (by omega)]
        exact fa2
      have htk : lg.take (i + 1) = lg.take i ++ [x] := by rw [List.take_add_one, hx]; rfl
      have hwt : wayT t (lg.take (i + 1)) = wayT t (lg.take i) ++ (if x.2.toNat.testBit (t % 4) then [x.1] else []) := by
        rw [htk, wayT_append, wayT_cons]; simp [wayT]
      have hab := and_bit x.2.toNat (by omega) tm tm4
      rw [show ((x.2.toNat : Nat) : Int) = x.2 by omega, ← htm] at hab
      rw [htm] at hab hwt
      obtain ⟨xp, xg⟩ := x
      dsimp only at g0 g1 hc1 hc2 hab hwt
      have hwl : (wayT t (lg.take i)).length ≤ i := by
        unfold wayT
        rw [List.length_map]
        refine Nat.le_trans (List.length_filter_le _ _) ?_
        rw [List.length_take]; omega
      obtain ⟨m, Hm⟩ : ∃ m, Hid ((wayT t (lg.take i)).length = m) := ⟨_, rfl⟩
      rw [Hm.out] at HV hwl
      obtain ⟨va, vc, hv⟩ := slice_ofM HV.out
      subst hv
      have HWT := hyd hwt
      have hsz := HBr.out.size
      clear fa1 fa2 htk hx hgl hwt
      cases hb : xg.toNat.testBit tm with
      | false =>
        rw [hb] at hab HWT
        simp only [Bool.false_eq_true, if_false] at hab HWT
        go_wp2_with fail
        refine ⟨⟨i + 1, by omega, rfl, ?_, HBr⟩, ?_⟩
        · unfold Hid; rw [HWT.out, List.append_nil, Hm.out]; exact HV.out
        · simp only [intOf]; omega
      | true =>
        rw [hb] at hab HWT
        simp only [if_true] at hab HWT
        go_wp2_with (at_builtin; go_must (refine wpList_append_own _ rfl (.tmp 30) (.tmp 36) 22 rfl w.heap.size 3 i0' (.int .i64 0) 1 8 Try.underlying22 hi' hz0 hz1 hz2 rfl (by decide) (.slice va m vc) m (zVals (wayT t (lg.take i))) rfl ?a0 ⟨wr.heap.size, 0, none⟩ 1 1 [.int .i64 xp] rfl rfl ?a1 ?a2 ?a3 ?a4 ?a5 ?_))
        case a0 => exact HV.out.alloc _
        case a1 => exact World.news_of_block (heap_alloc_new wr _)
        case a2 => intro u hu; simp at hu; subst hu; rfl
        case a3 => unfold maxLen; omega
        case a4 => omega
        case a5 => simp; omega
        · intro v3 w3 hown3 hgrow3 _
          have HB3 : Hid (Below w.heap.size w w3) := (HBr.out.alloc hsz _).grown hgrow3 (by simp; omega) (fun y hy => (HV.out.lt y hy).1)
          have HO3 : Hid (w3.ownsRow w.heap.size 3 1 v3 (wayT t (lg.take (i + 1))).length (zVals (wayT t (lg.take (i + 1))))) := by
            unfold Hid; rw [HWT.out, zVals_append, List.length_append, Hm.out]; exact hown3
          clear hown3 hgrow3
          go_wp2_with fail
          refine ⟨⟨i + 1, by omega, rfl, HO3, HB3⟩, ?_⟩
          simp only [intOf]; omega
    · have e : i = n := by omega
      subst e
      have c1 : decide ((i : Int) < (i : Int)) = false := by simp
      have hV2 := HV.out
      rw [List.take_of_length_le (by rw [Hn.out]; exact Nat.le_refl _)] at hV2
      have HV2 := hyd hV2
      clear HV hV2
      obtain ⟨va, vc, hv⟩ := slice_ofM HV2.out
      subst hv
      go_wp2_with fail
      go_ret
      exact ⟨_, rfl, HV2.out, HBr.out⟩

end Go.Proofs.Ytbhbacphiinpeaa
