/- Mo Mp Mq: joined. -/
import Derived.Test.YtbhbacphiinpeaaZ14

/- What GoOn, Exit, Wait, Release, LaneDone and FirstLane of package flow do. -/
namespace Go.Proofs.Ytbhbacphiinpeaa
open Go.RowKit

structure WOk (q : Wq) : Prop where
  sp : q.sp.length = 3
  opn : q.opn ≤ 3
  done : q.done < 16
  grp : q.group < 16
  sg : ∀ p ∈ q.sp, p.group < 16
  sl : ∀ p ∈ q.sp, p.later < 16

theorem qPut_self {x : QM} {i : Nat} {q : Wq} (h : x.qs[i]? = some q) : qPut x i q = x := by
  unfold qPut
  have : x.qs.set i q = x.qs := by
    apply List.ext_getElem?
    intro j
    rw [List.getElem?_set]
    by_cases e : i = j
    · subst e
      obtain ⟨hl, he⟩ := List.getElem?_eq_some_iff.1 h
      simp only [if_true]; rw [if_pos hl, h]
    · rw [if_neg e]
  rw [this]

def FAns (w : World) (L : XM) (k : List Ins) (J : List Int) (x : QM) (i : Nat) (q' : Wq) (e : Ending) (w' : World) : Prop :=
  e = .returned (.tuple #[]) ∧ MX w' L k J (qPut x i q') ∧ ∀ B, Fr B [L.bX] w w'

set_option maxHeartbeats 400000 in
theorem goOn_any {w : World} {L : XM} {k : List Ins} {J : List Int} {x : QM} {i : Nat} {q : Wq} (h : MX w L k J (qPut x i q)) (hi : i < x.qs.length) (ho : WOk q) (pc : Int) :
    Calls Try.prog 69 #[pW L i, .int .i64 pc] w (FAns w L k J x i (goOn pc q)) := by
  have H := hyd h
  have HI := hyd hi
  have HO := hyd ho
  obtain ⟨c0, c1, c2, c3, c4, c5⟩ := h.w6 (qPut_at hi q)
  have f1 := h.frz (oW i + 1)
  clear h hi ho
  unfold pW
  go_enter Try.func69, Try.ntmps69
  go_wp2_with fail
  refine (follow_any (H.out.put1 HI.out HO.out.sp pc) HI.out HO.out.sp HO.out.opn HO.out.done HO.out.sg).mono ?_
  rintro e w2 ⟨rfl, hM, hF⟩
  have M2 := hyd hM
  have F2 := hyd hF
  clear hM hF
  go_wp2_with fail
  go_end0
  exact ⟨rfl, M2.out, fun B => ((Fr.refl B [L.bX] w).set (by simp) _).trans (F2.out B)⟩

set_option maxHeartbeats 400000 in
theorem exit_any {w : World} {L : XM} {k : List Ins} {J : List Int} {x : QM} {i : Nat} {q : Wq} (h : MX w L k J (qPut x i q)) (hi : i < x.qs.length) (ho : WOk q) :
    Calls Try.prog 68 #[pW L i] w (FAns w L k J x i (exitQ q)) := by
  have H := hyd h
  have HI := hyd hi
  have HO := hyd ho
  obtain ⟨c0, c1, c2, c3, c4, c5⟩ := h.w6 (qPut_at hi q)
  have f0 := h.frz (oW i)
  have f3 := h.frz (oW i + 3)
  have hor := bor ho.done ho.grp
  clear h hi ho
  unfold pW
  go_enter Try.func68, Try.ntmps68
  go_wp2_with fail
  go_region
  have M2 := hyd ((H.out.put3 HI.out HO.out.sp (q.done ||| q.group)).drew)
  have F2 : Hid (∀ B, Fr B [L.bX] w (w.setCell ⟨L.bX, oW i + 3, none⟩ (.int .i64 (q.done ||| q.group : Nat))).drew) := fun B => ((Fr.refl B [L.bX] w).set (by simp) _).drew
  generalize (w.setCell ⟨L.bX, oW i + 3, none⟩ (.int .i64 (q.done ||| q.group : Nat))).drew = w2 at M2 F2 ⊢
  clear c0 c1 c2 c3 c4 c5 f0 f3
  obtain ⟨c0, c1, c2, c3, c4, c5⟩ := M2.out.w6 (qPut_at HI.out _)
  have f0 := M2.out.frz (oW i)
  go_wp2_with fail
  refine (follow_any (M2.out.put0 HI.out HO.out.sp 0) HI.out HO.out.sp HO.out.opn (or_lt16 HO.out.done HO.out.grp) HO.out.sg).mono ?_
  rintro e w3 ⟨rfl, hM, hF⟩
  have M3 := hyd hM
  have F3 := hyd hF
  clear hM hF
  go_wp2_with fail
  go_end0
  exact ⟨rfl, M3.out, fun B => ((F2.out B).set (by simp) _).trans (F3.out B)⟩

set_option maxHeartbeats 400000 in
theorem wait_any {w : World} {L : XM} {k : List Ins} {J : List Int} {x : QM} {i : Nat} {q : Wq} (h : MX w L k J (qPut x i q)) (hi : i < x.qs.length) (ho : WOk q) (pc : Int) (hsp : (goOn pc q).sp.length = 3) :
    Calls Try.prog 75 #[pW L i, .int .i64 pc] w (FAns w L k J x i (waitQ pc q)) := by
  have H := hyd h
  have HI := hyd hi
  have HO := hyd ho
  have HS := hyd hsp
  clear h hi ho hsp
  go_enter Try.func75, Try.ntmps75
  go_wp2_with fail
  refine (goOn_any H.out HI.out HO.out pc).mono ?_
  rintro e w2 ⟨rfl, hM, hF⟩
  have M2 := hyd hM
  have F2 := hyd hF
  obtain ⟨c0, c1, c2, c3, c4, c5⟩ := hM.w6 (qPut_at HI.out _)
  have f4 := hM.frz (oW i + 4)
  clear hM hF
  unfold pW
  go_wp2_with fail
  go_end0
  exact ⟨rfl, M2.out.put4 HI.out HS.out true, fun B => (F2.out B).set (by simp) _⟩

set_option maxHeartbeats 400000 in
theorem release_any {w : World} {L : XM} {k : List Ins} {J : List Int} {x : QM} {i : Nat} {q : Wq} (h : MX w L k J (qPut x i q)) (hi : i < x.qs.length) (hs : q.sp.length = 3) :
    Calls Try.prog 64 #[pW L i] w (FAns w L k J x i { q with waits := false }) := by
  have H := hyd h
  have HI := hyd hi
  have HS := hyd hs
  obtain ⟨c0, c1, c2, c3, c4, c5⟩ := h.w6 (qPut_at hi q)
  have f4 := h.frz (oW i + 4)
  clear h hi hs
  unfold pW
  go_enter Try.func64, Try.ntmps64
  go_wp2_with fail
  go_end0
  exact ⟨rfl, H.out.put4 HI.out HS.out false, fun B => (Fr.refl B [L.bX] w).set (by simp) _⟩

set_option maxHeartbeats 400000 in
theorem laneDone_any {w : World} {L : XM} {k : List Ins} {J : List Int} {x : QM} {i : Nat} {q : Wq} (h : MX w L k J x) (hq : x.qs[i]? = some q) (hd : q.done < 16) (l : Nat) (hl : l < 4) :
    Calls Try.prog 42 #[pW L i, .int .i64 l] w fun e w' => e = .returned (.bool (q.done.testBit l)) ∧ Below w.heap.size w w' := by
  obtain ⟨c0, c1, c2, c3, c4, c5⟩ := h.w6 hq
  have hb := bit_at hd hl
  have l1 : (0 : Int) ≤ (l : Int) := by omega
  have l2 : (l : Int) < 4 := by omega
  clear h hq
  unfold pW
  go_enter Try.func42, Try.ntmps42
  go_wp2_with fail
  all_goals (go_ret; exact ⟨rfl, Below.refl _ _⟩)

theorem flane_at : ∀ m : Fin 16, m.1 ≠ 0 → firstL m.1 < 4 ∧ m.1.testBit (firstL m.1) = true ∧ ∀ l : Fin 4, l.1 < firstL m.1 → m.1.testBit l.1 = false := by decide

set_option maxHeartbeats 400000 in
theorem firstLane_any {w : World} {L : XM} {k : List Ins} {J : List Int} {x : QM} {i : Nat} {q : Wq} (h : MX w L k J x) (hq : x.qs[i]? = some q) (hg : q.group < 16) (h0 : q.group ≠ 0) :
    Calls Try.prog 74 #[pW L i] w fun e w' => e = .returned (.int .i64 (firstL q.group)) ∧ Below w.heap.size w w' := by
  obtain ⟨c0, c1, c2, c3, c4, c5⟩ := h.w6 hq
  obtain ⟨n1, n2, n3⟩ := flane_at ⟨q.group, hg⟩ h0
  dsimp only at n1 n2 n3
  generalize hm : q.group = m at *
  have N3 := hyd n3
  clear n3 h hq hm c1 c2 c3 c4 c5
  unfold pW
  go_enter Try.func74, Try.ntmps74
  go_wp2_with fail
  go_loopw [3] (fun lv wr => ∃ l : Nat, l ≤ firstL m ∧ lv = .int .i64 l ∧ wr = w) (fun lv _ => 4 - (intOf lv).toNat)
  case atStart => exact ⟨0, by omega, rfl, rfl⟩
  case round =>
    obtain ⟨l, hl, rfl, rfl⟩ := hrel
    have l1 : (0 : Int) ≤ (l : Int) := by omega
    have l2 : (l : Int) < 4 := by omega
    by_cases he : l = firstL m
    · rw [← he] at n1 n2
      have hb := bit_yes hg n1 n2
      have HE := hyd he
      clear n2 he
      go_wp2_with fail
      go_ret
      exact ⟨by rw [← HE.out]; rfl, Below.refl _ _⟩
    · have hb := bit_no hg (l := l) (by omega) (N3.out ⟨l, by omega⟩ (by dsimp only; omega))
      go_wp2_with fail
      refine ⟨⟨l + 1, by omega, rfl, by trivial⟩, ?_⟩
      simp only [intOf]; omega

end Go.Proofs.Ytbhbacphiinpeaa

/- What 'Branch' of package flow does; what each of these keeps. -/
namespace Go.Proofs.Ytbhbacphiinpeaa
open Go.RowKit

theorem fol_ok : ∀ (m : Nat) {q : Wq}, WOk q → WOk (folN m q)
  | 0, q, h => h
  | m + 1, q, h => by
    unfold folN
    split
    · rename_i he
      refine fol_ok m ?_
      have hlt : q.opn - 1 < q.sp.length := by have := h.sp; have := h.opn; omega
      have hm : topQ q ∈ q.sp := by
        unfold topQ
        rw [List.getD_eq_getElem?_getD, List.getElem?_eq_getElem hlt]
        exact List.getElem_mem _
      unfold folQ
      split
      · refine ⟨by simp [sideQ, h.sp], h.opn, h.done, h.sl _ hm, fun p hp => ?_, fun p hp => ?_⟩
        · rcases List.mem_or_eq_of_mem_set hp with hp | rfl
          · exact h.sg p hp
          · exact h.sg (topQ q) hm
        · rcases List.mem_or_eq_of_mem_set hp with hp | rfl
          · exact h.sl p hp
          · exact Nat.zero_lt_succ _
      · exact ⟨h.sp, by have := h.opn; simp only [shutQ]; omega, h.done, mns_lt (h.sg _ hm), h.sg, h.sl⟩
    · exact h

theorem WOk.goOn {q : Wq} (h : WOk q) (pc : Int) : WOk (goOn pc q) := fol_ok _ ⟨h.sp, h.opn, h.done, h.grp, h.sg, h.sl⟩
theorem WOk.exit {q : Wq} (h : WOk q) : WOk (exitQ q) := fol_ok _ ⟨h.sp, h.opn, or_lt16 h.done h.grp, Nat.zero_lt_succ _, h.sg, h.sl⟩
theorem WOk.wait {q : Wq} (h : WOk q) (pc : Int) : WOk (waitQ pc q) := ⟨(h.goOn pc).sp, (h.goOn pc).opn, (h.goOn pc).done, (h.goOn pc).grp, (h.goOn pc).sg, (h.goOn pc).sl⟩
theorem WOk.split {q : Wq} (h : WOk q) {z : Nat} (hz : z < 16) (next join : Int) : WOk (splitQ z next join q) := by
  unfold splitQ
  by_cases ho : q.opn < 3
  · simp only [if_pos ho]
    refine ⟨by simp [h.sp], by dsimp only; omega, h.done, hz, fun p hp => ?_, fun p hp => ?_⟩
    · rcases List.mem_or_eq_of_mem_set hp with hp | rfl
      · exact h.sg p hp
      · exact h.grp
    · rcases List.mem_or_eq_of_mem_set hp with hp | rfl
      · exact h.sl p hp
      · exact mns_lt h.grp
  · simp only [if_neg ho]
    exact ⟨h.sp, h.opn, h.done, hz, h.sg, h.sl⟩
theorem WOk.branch {q : Wq} (h : WOk q) (zs : Nat) (target next join : Int) : WOk (branchQ zs target next join q) := by
  unfold branchQ
  split
  · exact h.goOn _
  split
  · exact h.goOn _
  · exact (h.split (by rw [Nat.and_comm]; exact and_lt16 _ h.grp) _ _).goOn _

theorem MX.putS5 {w : World} {L : XM} {k : List Ins} {J : List Int} {x : QM} {i : Nat} {q : Wq} (h : MX w L k J (qPut x i q)) (hi : i < x.qs.length) (hs : q.sp.length = 3) {s : Nat} (h3 : s < 3) (g l : Nat) (t n j : Int) :
    MX (((((w.setCell ⟨L.bX, oW i + 6 + s * 5, none⟩ (.int .i64 g)).setCell ⟨L.bX, oW i + 6 + s * 5 + 1, none⟩ (.int .i64 t)).setCell ⟨L.bX, oW i + 6 + s * 5 + 2, none⟩ (.int .i64 l)).setCell ⟨L.bX, oW i + 6 + s * 5 + 3, none⟩ (.int .i64 n)).setCell ⟨L.bX, oW i + 6 + s * 5 + 4, none⟩ (.int .i64 j)) L k J (qPut x i { q with sp := q.sp.set s ⟨g, t, l, n, j⟩ }) := by
  obtain ⟨p, hp⟩ : ∃ p, q.sp[s]? = some p := ⟨_, List.getElem?_eq_getElem (by omega)⟩
  have at0 : ∀ p' : Spl, (q.sp.set s p')[s]? = some p' := fun p' => List.getElem?_set_self (by omega)
  have h1 := h.putS hi hs hp (f := 0) (v := .int .i64 g) (p' := { p with group := g }) (by omega) rfl
  have h2 := h1.putS hi (by simp [hs]) (at0 _) (f := 1) (v := .int .i64 t) (p' := { p with group := g, to := t }) (by omega) rfl
  simp only [List.set_set] at h2
  have h3 := h2.putS hi (by simp [hs]) (at0 _) (f := 2) (v := .int .i64 l) (p' := { p with group := g, to := t, later := l }) (by omega) rfl
  simp only [List.set_set] at h3
  have h4 := h3.putS hi (by simp [hs]) (at0 _) (f := 3) (v := .int .i64 n) (p' := { p with group := g, to := t, later := l, next := n }) (by omega) rfl
  simp only [List.set_set] at h4
  have h5 := h4.putS hi (by simp [hs]) (at0 _) (f := 4) (v := .int .i64 j) (p' := ⟨g, t, l, n, j⟩) (by omega) rfl
  simp only [List.set_set] at h5
  exact h5

set_option maxHeartbeats 1000000 in
set_option maxRecDepth 100000 in
theorem branch_any {w : World} {L : XM} {k : List Ins} {J : List Int} {x : QM} {i : Nat} {q : Wq} (h : MX w L k J (qPut x i q)) (hi : i < x.qs.length) (ho : WOk q) (zs : Nat) (hz : zs < 16) (target next join : Int) (hop : zs &&& q.group ≠ 0 → mns q.group (zs &&& q.group) ≠ 0 → q.opn < 3) :
    Calls Try.prog 72 #[pW L i, .int .i64 zs, .int .i64 target, .int .i64 next, .int .i64 join] w (FAns w L k J x i (branchQ zs target next join q)) := by
  have H := hyd h
  have HI := hyd hi
  have HO := hyd ho
  obtain ⟨c0, c1, c2, c3, c4, c5⟩ := h.w6 (qPut_at hi q)
  have hand := band hz ho.grp
  have z16 : zs &&& q.group < 16 := and_lt16 _ hz
  obtain ⟨z, Hz⟩ : ∃ z, Hid (zs &&& q.group = z) := ⟨_, rfl⟩
  unfold branchQ
  rw [Hz.out] at hand z16 hop ⊢
  have Hz16 := hyd z16
  have hnot := bnot ho.grp z16
  obtain ⟨o, Hn⟩ : ∃ o, Hid (mns q.group z = o) := ⟨_, rfl⟩
  rw [Hn.out] at hnot hop ⊢
  have hf0 := h.frz (oW i)
  clear h hi ho
  unfold pW
  by_cases z0 : z = 0
  · subst z0
    rw [if_pos rfl]
    go_enter Try.func72, Try.ntmps72
    go_wp2_with fail
    refine (goOn_any H.out HI.out HO.out next).mono ?_
    rintro e w2 ⟨rfl, hM, hF⟩
    have M2 := hyd hM
    have F2 := hyd hF
    clear hM hF
    go_wp2_with fail
    (try simp only [Exit.inBlock, Exit.then])
    refine bodyPost_ret (results_none rfl _ _ _) rfl ?_
    exact ⟨rfl, M2.out, F2.out⟩
  rw [if_neg z0]
  have zb : ((z : Int) == 0) = false := by simp; omega
  by_cases o0 : o = 0
  · subst o0
    rw [if_pos rfl]
    go_enter Try.func72, Try.ntmps72
    go_wp2_with fail
    refine (goOn_any H.out HI.out HO.out target).mono ?_
    rintro e w2 ⟨rfl, hM, hF⟩
    have M2 := hyd hM
    have F2 := hyd hF
    clear hM hF
    go_wp2_with fail
    (try simp only [Exit.inBlock, Exit.then])
    refine bodyPost_ret (results_none rfl _ _ _) rfl ?_
    exact ⟨rfl, M2.out, F2.out⟩
  rw [if_neg o0]
  have ob : ((o : Int) == 0) = false := by simp; omega
  have h3 := hop z0 o0
  obtain ⟨j, hj⟩ : ∃ j, q.opn = j := ⟨_, rfl⟩
  rw [hj] at c5 h3
  have Hj := hyd hj
  clear hop hj z0 o0 z16
  have j1 : (0 : Int) ≤ (j : Int) := by omega
  have j2 : (j : Int) < 3 := by omega
  obtain ⟨p, hp⟩ : ∃ p, q.sp[j]? = some p := ⟨_, List.getElem?_eq_getElem (by rw [HO.out.sp]; exact h3)⟩
  obtain ⟨s0, s1, s2, s3, s4⟩ := H.out.s5 (qPut_at HI.out q) hp h3
  have fs0 := H.out.frz (oW i + 6 + j * 5)
  have fs1 := H.out.frz (oW i + 6 + j * 5 + 1)
  have fs2 := H.out.frz (oW i + 6 + j * 5 + 2)
  have fs3 := H.out.frz (oW i + 6 + j * 5 + 3)
  have fs4 := H.out.frz (oW i + 6 + j * 5 + 4)
  go_enter Try.func72, Try.ntmps72
  go_wp2_with fail
  go_region
  have M2 := hyd ((H.out.putS5 HI.out HO.out.sp h3 q.group o q.to next join).drew)
  have F2 : Hid (∀ B, Fr B [L.bX] w (((((w.setCell ⟨L.bX, oW i + 6 + j * 5, none⟩ (.int .i64 q.group)).setCell ⟨L.bX, oW i + 6 + j * 5 + 1, none⟩ (.int .i64 q.to)).setCell ⟨L.bX, oW i + 6 + j * 5 + 2, none⟩ (.int .i64 o)).setCell ⟨L.bX, oW i + 6 + j * 5 + 3, none⟩ (.int .i64 next)).setCell ⟨L.bX, oW i + 6 + j * 5 + 4, none⟩ (.int .i64 join)).drew) := fun B => ((((((Fr.refl B [L.bX] w).set (by simp) _).set (by simp) _).set (by simp) _).set (by simp) _).set (by simp) _).drew
  generalize (((((w.setCell ⟨L.bX, oW i + 6 + j * 5, none⟩ (.int .i64 q.group)).setCell ⟨L.bX, oW i + 6 + j * 5 + 1, none⟩ (.int .i64 q.to)).setCell ⟨L.bX, oW i + 6 + j * 5 + 2, none⟩ (.int .i64 o)).setCell ⟨L.bX, oW i + 6 + j * 5 + 3, none⟩ (.int .i64 next)).setCell ⟨L.bX, oW i + 6 + j * 5 + 4, none⟩ (.int .i64 join)).drew = w2 at M2 F2 ⊢
  clear c0 c1 c2 c3 c4 c5 s0 s1 s2 s3 s4 fs0 fs1 fs2 fs3 fs4 hf0
  obtain ⟨c0, c1, c2, c3, c4, c5⟩ := M2.out.w6 (qPut_at HI.out _)
  dsimp only at c0 c1 c2 c3 c4 c5
  rw [Hj.out] at c5
  have f0 := M2.out.frz (oW i)
  have f2 := M2.out.frz (oW i + 2)
  have f5 := M2.out.frz (oW i + 5)
  go_wp2_with fail
  have hs2 : (q.sp.set j ⟨q.group, q.to, o, next, join⟩).length = 3 := by rw [List.length_set]; exact HO.out.sp
  have M3 := hyd (((M2.out.put5 HI.out hs2 (j + 1)).put0 HI.out hs2 z).put2 HI.out hs2 join)
  have esp : Hid (splitQ z next join q = { q with sp := q.sp.set j ⟨q.group, q.to, o, next, join⟩, opn := j + 1, group := z, to := join }) := by
    unfold Hid splitQ
    rw [Hj.out, if_pos h3, if_pos h3, Hn.out]
  have O3 := hyd (HO.out.split Hz16.out next join)
  rw [esp.out] at O3
  refine (goOn_any M3.out HI.out O3.out target).mono ?_
  rintro e w3 ⟨rfl, hM, hF⟩
  have M4 := hyd hM
  have F4 := hyd hF
  clear hM hF
  go_wp2_with fail
  go_end0
  exact ⟨rfl, by rw [esp.out]; exact M4.out, fun B => ((((F2.out B).set (by simp) _).set (by simp) _).set (by simp) _).trans (F4.out B)⟩

end Go.Proofs.Ytbhbacphiinpeaa

/- What 'instr' and 'join' of package loom answer. -/
namespace Go.Proofs.Ytbhbacphiinpeaa
open Go.RowKit

def pM (L : XM) : Value := .pointer (some ⟨L.bX, 0, none⟩)

theorem MX.ins {w : World} {L : XM} {k : List Ins} {J : List Int} {x : QM} (h : MX w L k J x) {pc : Nat} {ins : Ins} (hx : k[pc]? = some ins) :
    w.cell? ⟨L.gK, pc * 4, none⟩ = some (.int .i64 ins.o) ∧ w.cell? ⟨L.gK, pc * 4 + 1, none⟩ = some (.int .i64 ins.a) ∧ w.cell? ⟨L.gK, pc * 4 + 2, none⟩ = some (.int .i64 ins.b) ∧ w.cell? ⟨L.gK, pc * 4 + 3, none⟩ = some (.int .i64 ins.c) := by
  have hpl := (List.getElem?_eq_some_iff.1 hx).1
  have hn := h.n
  have hr : w.ownsRow 0 31 4 (.slice (some ⟨L.gK, 0, none⟩) L.n L.cK) L.n (flat k) := h.rK
  obtain ⟨f0, f1, f2, f3⟩ := flat_at hx
  exact ⟨(hr.cellAt (pc * 4) (by omega)).trans f0, (hr.cellAt (pc * 4 + 1) (by omega)).trans f1, (hr.cellAt (pc * 4 + 2) (by omega)).trans f2, (hr.cellAt (pc * 4 + 3) (by omega)).trans f3⟩

theorem box4_set {w : World} {B : Nat} {x y z u : Value} {t : TypeId} (h : w.heap[B]? = some (.cells #[x, y, z, u] t)) (a b c d : Value) : ((((w.setCell ⟨B, 0, none⟩ a).setCell ⟨B, 1, none⟩ b).setCell ⟨B, 2, none⟩ c).setCell ⟨B, 3, none⟩ d).heap[B]? = some (.cells #[a, b, c, d] t) := by
  have h1 := heap_setCell_same w B 0 _ t a h
  have h2 := heap_setCell_same _ B 1 _ t b h1
  have h3 := heap_setCell_same _ B 2 _ t c h2
  have h4 := heap_setCell_same _ B 3 _ t d h3
  rw [h4]; rfl

set_option maxHeartbeats 400000 in
theorem instr_any {w : World} {L : XM} {k : List Ins} {J : List Int} {x : QM} (h : MX w L k J x) {pc : Nat} {ins : Ins} (hx : k[pc]? = some ins) :
    Calls Try.prog 67 #[pM L, .int .i64 pc] w fun e w' => e = .returned (.agg #[.int .i64 ins.o, .int .i64 ins.a, .int .i64 ins.b, .int .i64 ins.c]) ∧ Below w.heap.size w w' := by
  have hpl := (List.getElem?_eq_some_iff.1 hx).1
  have h1 := h.alloc (.cells #[.int .i64 0, .int .i64 0, .int .i64 0, .int .i64 0] 31)
  obtain ⟨c0, -, -, -, -⟩ := h1.head
  obtain ⟨i0, i1, i2, i3⟩ := h1.ins hx
  unfold XM.vL at c0
  rw [h.n] at c0
  have p1 : (0 : Int) ≤ (pc : Int) := by omega
  have p2 : (pc : Int) < (k.length : Int) := by omega
  have hd : decide (k.length ≤ pc) = false := by simp; omega
  have hB : Hid (Below w.heap.size w (w.alloc (.cells #[.int .i64 0, .int .i64 0, .int .i64 0, .int .i64 0] 31))) := (Below.refl _ _).alloc (Nat.le_refl _) _
  have X1 := hyd (heap_alloc_new w (.cells #[.int .i64 0, .int .i64 0, .int .i64 0, .int .i64 0] 31))
  clear h h1 hx
  unfold pM
  go_enter Try.func67, Try.ntmps67
  go_wp2_with fail
  obtain ⟨y0, y1, y2, y3⟩ := box4 (heap_alloc_new w (.cells #[.int .i64 ins.o, .int .i64 ins.a, .int .i64 ins.b, .int .i64 ins.c] 31))
  (try simp only [Exit.inBlock, Exit.then])
  refine bodyPost_ret (by simp [results, Try.results67, go_sem, y0, y1, y2, y3]; try rfl) rfl ?_
  exact ⟨rfl, (Below.refl _ _).alloc (Nat.le_refl _) _⟩

theorem MX.joinAt {w : World} {L : XM} {k : List Ins} {J : List Int} {x : QM} (h : MX w L k J x) {pc : Nat} {j : Int} (hx : J[pc]? = some j) (hJ : J.length = k.length) : w.cell? ⟨L.gJ, pc, none⟩ = some (.int .i64 j) := by
  have hpl := (List.getElem?_eq_some_iff.1 hx).1
  have hn := h.n
  have hr : w.ownsRow 0 3 1 (.slice (some ⟨L.gJ, 0, none⟩) L.n L.cJ) L.n (zVals J) := h.rJ
  exact (hr.cellAt pc (by omega)).trans (zVals_at hx)

set_option maxHeartbeats 400000 in
theorem mjoin_any {w : World} {L : XM} {k : List Ins} {J : List Int} {x : QM} (h : MX w L k J x) {pc : Nat} {j : Int} (hx : J[pc]? = some j) (hJ : J.length = k.length) :
    Calls Try.prog 71 #[pM L, .int .i64 pc] w fun e w' => e = .returned (.int .i64 j) ∧ Below w.heap.size w w' := by
  have hpl := (List.getElem?_eq_some_iff.1 hx).1
  obtain ⟨-, c1, -, -, -⟩ := h.head
  have i0 := h.joinAt hx hJ
  unfold XM.vJ at c1
  rw [h.n] at c1
  have p1 : (0 : Int) ≤ (pc : Int) := by omega
  have p2 : (pc : Int) < (k.length : Int) := by omega
  have hd : decide (k.length ≤ pc) = false := by simp; omega
  clear h hx
  unfold pM
  go_enter Try.func71, Try.ntmps71
  go_wp2_with fail
  go_ret
  exact ⟨rfl, Below.refl _ _⟩

end Go.Proofs.Ytbhbacphiinpeaa

