/- Mn Mo Mp: joined. -/
import Derived.Test.YtbhbacphiinpeaaGreatZ17
import Derived.Deep.LoopGhost

/- What 'follow' of package flow does. -/
namespace Go.Proofs.YtbhbacphiinpeaaGreat
open Go.RowKit

theorem MX.setG {w : World} {L : XM} {k : List Ins} {J : List Int} {x : QM} (h : MX w L k J x) {i : Nat} {q : Wq} (hq : x.qs[i]? = some q) (hs : q.sp.length = 3) :
    (∀ v : Nat, MX (w.setCell ⟨L.bX, oW i, none⟩ (.int .i64 v)) L k J (qPut x i { q with group := v })) ∧ (∀ v : Int, MX (w.setCell ⟨L.bX, oW i + 1, none⟩ (.int .i64 v)) L k J (qPut x i { q with pc := v })) ∧
    (∀ v : Int, MX (w.setCell ⟨L.bX, oW i + 2, none⟩ (.int .i64 v)) L k J (qPut x i { q with to := v })) ∧ (∀ v : Nat, MX (w.setCell ⟨L.bX, oW i + 3, none⟩ (.int .i64 v)) L k J (qPut x i { q with done := v })) ∧
    (∀ v : Bool, MX (w.setCell ⟨L.bX, oW i + 4, none⟩ (.bool v)) L k J (qPut x i { q with waits := v })) ∧ (∀ v : Nat, MX (w.setCell ⟨L.bX, oW i + 5, none⟩ (.int .i64 v)) L k J (qPut x i { q with opn := v })) := by
  refine ⟨fun v => h.setQ hq (j := 0) (by omega) rfl hs, fun v => h.setQ hq (j := 1) (by omega) rfl hs, fun v => h.setQ hq (j := 2) (by omega) rfl hs, fun v => h.setQ hq (j := 3) (by omega) rfl hs, fun v => h.setQ hq (j := 4) (by omega) rfl hs, fun v => h.setQ hq (j := 5) (by omega) rfl hs⟩

theorem split_set {q : Wq} {s : Nat} {p p' : Spl} (hp : q.sp[s]? = some p) {f : Nat} (hf : f < 5) {v : Value} (e : p.vals.set f v = p'.vals) : q.vals.set (6 + s * 5 + f) v = ({ q with sp := q.sp.set s p' } : Wq).vals := by
  unfold Wq.vals
  rw [List.set_append_right _ _ (by simp; omega), show 6 + s * 5 + f - [Value.int .i64 q.group, .int .i64 q.pc, .int .i64 q.to, .int .i64 q.done, .bool q.waits, .int .i64 q.opn].length = s * 5 + f by simp; omega, flatMap_set (fun x _ => spl_len x) hp hf e]

theorem MX.setS5 {w : World} {L : XM} {k : List Ins} {J : List Int} {x : QM} (h : MX w L k J x) {i : Nat} {q : Wq} (hq : x.qs[i]? = some q) (hs : q.sp.length = 3) {s : Nat} {p p' : Spl} (hp : q.sp[s]? = some p) {f : Nat} (hf : f < 5) {v : Value} (e : p.vals.set f v = p'.vals) :
    MX (w.setCell ⟨L.bX, oW i + 6 + s * 5 + f, none⟩ v) L k J (qPut x i { q with sp := q.sp.set s p' }) := by
  have hs3 : s < 3 := by have := (List.getElem?_eq_some_iff.1 hp).1; omega
  have := h.setQ hq (j := 6 + s * 5 + f) (by omega) (split_set hp hf e) (by simp [hs])
  rw [show oW i + 6 + s * 5 + f = 102 + i * 21 + (6 + s * 5 + f) by unfold oW; omega]
  exact this

theorem qPut_at {x : QM} {i : Nat} (hi : i < x.qs.length) (q : Wq) : (qPut x i q).qs[i]? = some q := by
  show (x.qs.set i q)[i]? = some q
  rw [List.getElem?_set_self hi]
theorem qPut_put (x : QM) (i : Nat) (q q' : Wq) : qPut (qPut x i q) i q' = qPut x i q' := by
  unfold qPut; simp [List.set_set]

theorem MX.put0 {w : World} {L : XM} {k : List Ins} {J : List Int} {x : QM} {i : Nat} {q : Wq} (h : MX w L k J (qPut x i q)) (hi : i < x.qs.length) (hs : q.sp.length = 3) (v : Nat) : MX (w.setCell ⟨L.bX, oW i, none⟩ (.int .i64 v)) L k J (qPut x i { q with group := v }) := by
  have := (h.setG (qPut_at hi q) hs).1 v
  rwa [qPut_put] at this
theorem MX.put1 {w : World} {L : XM} {k : List Ins} {J : List Int} {x : QM} {i : Nat} {q : Wq} (h : MX w L k J (qPut x i q)) (hi : i < x.qs.length) (hs : q.sp.length = 3) (v : Int) : MX (w.setCell ⟨L.bX, oW i + 1, none⟩ (.int .i64 v)) L k J (qPut x i { q with pc := v }) := by
  have := (h.setG (qPut_at hi q) hs).2.1 v
  rwa [qPut_put] at this
theorem MX.put2 {w : World} {L : XM} {k : List Ins} {J : List Int} {x : QM} {i : Nat} {q : Wq} (h : MX w L k J (qPut x i q)) (hi : i < x.qs.length) (hs : q.sp.length = 3) (v : Int) : MX (w.setCell ⟨L.bX, oW i + 2, none⟩ (.int .i64 v)) L k J (qPut x i { q with to := v }) := by
  have := (h.setG (qPut_at hi q) hs).2.2.1 v
  rwa [qPut_put] at this
theorem MX.put3 {w : World} {L : XM} {k : List Ins} {J : List Int} {x : QM} {i : Nat} {q : Wq} (h : MX w L k J (qPut x i q)) (hi : i < x.qs.length) (hs : q.sp.length = 3) (v : Nat) : MX (w.setCell ⟨L.bX, oW i + 3, none⟩ (.int .i64 v)) L k J (qPut x i { q with done := v }) := by
  have := (h.setG (qPut_at hi q) hs).2.2.2.1 v
  rwa [qPut_put] at this
theorem MX.put4 {w : World} {L : XM} {k : List Ins} {J : List Int} {x : QM} {i : Nat} {q : Wq} (h : MX w L k J (qPut x i q)) (hi : i < x.qs.length) (hs : q.sp.length = 3) (v : Bool) : MX (w.setCell ⟨L.bX, oW i + 4, none⟩ (.bool v)) L k J (qPut x i { q with waits := v }) := by
  have := (h.setG (qPut_at hi q) hs).2.2.2.2.1 v
  rwa [qPut_put] at this
theorem MX.put5 {w : World} {L : XM} {k : List Ins} {J : List Int} {x : QM} {i : Nat} {q : Wq} (h : MX w L k J (qPut x i q)) (hi : i < x.qs.length) (hs : q.sp.length = 3) (v : Nat) : MX (w.setCell ⟨L.bX, oW i + 5, none⟩ (.int .i64 v)) L k J (qPut x i { q with opn := v }) := by
  have := (h.setG (qPut_at hi q) hs).2.2.2.2.2 v
  rwa [qPut_put] at this
theorem MX.putS {w : World} {L : XM} {k : List Ins} {J : List Int} {x : QM} {i : Nat} {q : Wq} (h : MX w L k J (qPut x i q)) (hi : i < x.qs.length) (hs : q.sp.length = 3) {s : Nat} {p p' : Spl} (hp : q.sp[s]? = some p) {f : Nat} (hf : f < 5) {v : Value} (e : p.vals.set f v = p'.vals) :
    MX (w.setCell ⟨L.bX, oW i + 6 + s * 5 + f, none⟩ v) L k J (qPut x i { q with sp := q.sp.set s p' }) := by
  have := h.setS5 (qPut_at hi q) hs hp hf e
  rwa [qPut_put] at this

structure FolInv (w wr : World) (L : XM) (k : List Ins) (J : List Int) (x : QM) (i : Nat) (q qr : Wq) (r : Nat) : Prop where
  mx : MX wr L k J (qPut x i qr)
  fr : ∀ B, Fr B [L.bX] w wr
  fol : fol qr = fol q
  mu : mu qr = r
  sp : qr.sp.length = 3
  opn : qr.opn ≤ 3
  done : qr.done < 16
  grp : ∀ p ∈ qr.sp, p.group < 16

theorem box5 {w : World} {B : Nat} {a b c d e : Value} {t : TypeId} (h : w.heap[B]? = some (.cells #[a, b, c, d, e] t)) : w.cell? ⟨B, 0, none⟩ = some a ∧ w.cell? ⟨B, 1, none⟩ = some b ∧ w.cell? ⟨B, 2, none⟩ = some c ∧ w.cell? ⟨B, 3, none⟩ = some d ∧ w.cell? ⟨B, 4, none⟩ = some e := by
  refine ⟨?_, ?_, ?_, ?_, ?_⟩ <;> (rw [cell_of_row w B _ _ t _ h]; rfl)

theorem top_at {q : Wq} (hs : q.sp.length = 3) {j : Nat} (hj : q.opn = j + 1) (h3 : q.opn ≤ 3) : q.sp[j]? = some (topQ q) := by
  unfold topQ
  rw [hj, Nat.add_sub_cancel, List.getD_eq_getElem?_getD, List.getElem?_eq_getElem (by omega)]; rfl

set_option maxHeartbeats 1000000 in
set_option maxRecDepth 100000 in
theorem follow_any {w : World} {L : XM} {k : List Ins} {J : List Int} {x : QM} {i : Nat} {q : Wq} (h : MX w L k J (qPut x i q)) (hi : i < x.qs.length) (hs : q.sp.length = 3) (ho : q.opn ≤ 3) (hd : q.done < 16) (hg : ∀ p ∈ q.sp, p.group < 16) :
    Calls Tryz.prog 104 #[pW L i] w fun e w' => e = .returned (.tuple #[]) ∧ MX w' L k J (qPut x i (fol q)) ∧ ∀ B, Fr B [L.bX] w w' := by
  have I0 : Hid (FolInv w w L k J x i q q (mu q)) := ⟨h, fun B => Fr.refl _ _ _, rfl, rfl, hs, ho, hd, hg⟩
  have HI := hyd hi
  have hbx : Hid (L.bX < w.heap.size) := h.lt (.inl rfl)
  clear h hs ho hd hg hi
  unfold pW
  go_enter Tryz.func104, Tryz.ntmps104
  go_wp2_with fail
  go_loopg [2] (mu q) (fun r _ wr => ∃ qr, Hid (FolInv w wr L k J x i q qr r))
  case atStart => exact ⟨q, I0⟩
  case round =>
    obtain ⟨qr, I⟩ := hrel
    have hQ := hyd (qPut_at HI.out qr)
    by_cases he : endQ qr
    · by_cases hp : 0 < qr.opn
      · obtain ⟨j, hj⟩ : ∃ j, qr.opn = j + 1 := ⟨qr.opn - 1, by omega⟩
        have Hj := hyd hj
        have hj3 : j < 3 := by have := I.out.opn; omega
        have j1 : (0 : Int) ≤ (j : Int) := by omega
        have j2 : (j : Int) < 3 := by omega
        have htop := hyd (top_at I.out.sp hj I.out.opn)
        have hE := hyd he
        clear hj hp he
        go_wp2_with fail
        refine (ended_any I.out.mx hQ.out).mono ?_
        rw [show decide (endQ qr) = true by simpa using hE.out]
        rintro e w2 ⟨rfl, hb2⟩
        have M2 := hyd (I.out.mx.up hb2)
        have F2 : Hid (∀ B, Fr B [L.bX] w w2) := fun B => (I.out.fr B).trans (Fr.of_below hb2)
        clear hb2
        obtain ⟨c0, c1, c2, c3, c4, c5⟩ := M2.out.w6 hQ.out
        rw [Hj.out] at c5
        obtain ⟨s0, s1, s2, s3, s4⟩ := M2.out.s5 hQ.out htop.out hj3
        have hwj : IntKind.i64.wrap (j : Int) = (j : Int) := wrap_nat (by omega)
        have MA := hyd (M2.out.alloc (.cells #[.int .i64 0, .int .i64 0, .int .i64 0, .int .i64 0, .int .i64 0] 106))
        obtain ⟨-, -, -, -, -, a5⟩ := MA.out.w6 hQ.out
        rw [Hj.out] at a5
        obtain ⟨b0, b1, b2, b3, b4⟩ := MA.out.s5 hQ.out htop.out hj3
        go_wp2_with fail
        go_region
        have hb2 : L.bX < w2.heap.size := M2.out.lt (.inl rfl)
        have X3 : Hid ((w2.alloc (.cells #[.int .i64 (topQ qr).group, .int .i64 (topQ qr).to, .int .i64 (topQ qr).later, .int .i64 (topQ qr).next, .int .i64 (topQ qr).join] 106)).drew.heap[w2.heap.size]? = some (.cells #[.int .i64 (topQ qr).group, .int .i64 (topQ qr).to, .int .i64 (topQ qr).later, .int .i64 (topQ qr).next, .int .i64 (topQ qr).join] 106)) := heap_alloc_new w2 _
        have M3 := hyd ((M2.out.alloc (.cells #[.int .i64 (topQ qr).group, .int .i64 (topQ qr).to, .int .i64 (topQ qr).later, .int .i64 (topQ qr).next, .int .i64 (topQ qr).join] 106)).drew)
        have F3 : Hid (∀ B, Fr B [L.bX] w ((w2.alloc (.cells #[.int .i64 (topQ qr).group, .int .i64 (topQ qr).to, .int .i64 (topQ qr).later, .int .i64 (topQ qr).next, .int .i64 (topQ qr).join] 106)).drew)) := fun B => ((F2.out B).alloc _).drew
        generalize (w2.alloc (.cells #[.int .i64 (topQ qr).group, .int .i64 (topQ qr).to, .int .i64 (topQ qr).later, .int .i64 (topQ qr).next, .int .i64 (topQ qr).join] 106)).drew = w3 at X3 M3 F3 ⊢
        clear c0 c1 c2 c3 c4 c5 s0 s1 s2 s3 s4 MA a5 b0 b1 b2 b3 b4 M2 F2
        obtain ⟨c0, c1, c2, c3, c4, c5⟩ := M3.out.w6 hQ.out
        rw [Hj.out] at c5
        obtain ⟨s0, s1, s2, s3, s4⟩ := M3.out.s5 hQ.out htop.out hj3
        obtain ⟨t0, t1, t2, t3, t4⟩ := box5 X3.out
        have f0 := M3.out.frz (oW i)
        have f1 := M3.out.frz (oW i + 1)
        have f2 := M3.out.frz (oW i + 2)
        have f5 := M3.out.frz (oW i + 5)
        have fs := M3.out.frz (oW i + 6 + j * 5 + 2)
        by_cases hl : (topQ qr).later = 0
        · have hlb : (((topQ qr).later : Int) != 0) = false := by simp; omega
          have hgn := bnot (I.out.grp _ (List.mem_of_getElem? htop.out)) I.out.done
          go_wp2_with fail
          have M4 := hyd (M3.out.put5 HI.out I.out.sp j)
          have F4 : Hid (∀ B, Fr B [L.bX] w (w3.setCell ⟨L.bX, oW i + 5, none⟩ (.int .i64 (j : Int)))) := fun B => (F3.out B).set (by simp) _
          have X4 : Hid ((w3.setCell ⟨L.bX, oW i + 5, none⟩ (.int .i64 (j : Int))).heap[w2.heap.size]? = some (.cells #[.int .i64 (topQ qr).group, .int .i64 (topQ qr).to, .int .i64 (topQ qr).later, .int .i64 (topQ qr).next, .int .i64 (topQ qr).join] 106)) := (Below.heap_setCell _ _ _ _ (fun e => by dsimp only at e; omega)).trans X3.out
          generalize w3.setCell ⟨L.bX, oW i + 5, none⟩ (.int .i64 (j : Int)) = w4 at M4 F4 X4 ⊢
          clear c0 c1 c2 c3 c4 c5 s0 s1 s2 s3 s4 t0 t1 t2 t3 t4 f0 f1 f2 f5 fs M3 F3 X3
          obtain ⟨c0, c1, c2, c3, c4, c5⟩ := M4.out.w6 (qPut_at HI.out _)
          dsimp only at c0 c1 c2 c3 c4 c5
          obtain ⟨t0, t1, t2, t3, t4⟩ := box5 X4.out
          have f0 := M4.out.frz (oW i)
          go_region
          have M5 := hyd ((M4.out.put0 HI.out I.out.sp (mns (topQ qr).group qr.done)).drew)
          have F5 : Hid (∀ B, Fr B [L.bX] w (w4.setCell ⟨L.bX, oW i, none⟩ (.int .i64 (mns (topQ qr).group qr.done : Nat))).drew) := fun B => ((F4.out B).set (by simp) _).drew
          have X5 : Hid ((w4.setCell ⟨L.bX, oW i, none⟩ (.int .i64 (mns (topQ qr).group qr.done : Nat))).drew.heap[w2.heap.size]? = some (.cells #[.int .i64 (topQ qr).group, .int .i64 (topQ qr).to, .int .i64 (topQ qr).later, .int .i64 (topQ qr).next, .int .i64 (topQ qr).join] 106)) := (Below.heap_setCell _ _ _ _ (fun e => by dsimp only at e; omega)).trans X4.out
          generalize (w4.setCell ⟨L.bX, oW i, none⟩ (.int .i64 (mns (topQ qr).group qr.done : Nat))).drew = w5 at M5 F5 X5 ⊢
          clear c0 c1 c2 c3 c4 c5 t0 t1 t2 t3 t4 f0 M4 F4 X4
          obtain ⟨c0, c1, c2, c3, c4, c5⟩ := M5.out.w6 (qPut_at HI.out _)
          dsimp only at c0 c1 c2 c3 c4 c5
          obtain ⟨t0, t1, t2, t3, t4⟩ := box5 X5.out
          have f1 := M5.out.frz (oW i + 1)
          have f2 := M5.out.frz (oW i + 2)
          go_wp2_with fail
          have e : folQ qr = { qr with opn := j, group := mns (topQ qr).group qr.done, pc := (topQ qr).join, to := (topQ qr).to } := by
            unfold folQ; rw [if_neg (by simpa using hl)]; unfold shutQ; rw [Hj.out]; rfl
          go_roundg (mu (folQ qr))
          case measure => have := mu_fol (q := qr) (by rw [Hj.out]; omega) (by rw [I.out.sp]; exact I.out.opn); have := I.out.mu; omega
          case rel =>
            refine ⟨folQ qr, ⟨?_, fun B => ((F5.out B).set (by simp) _).set (by simp) _, ?_, rfl, ?_, ?_, ?_, ?_⟩⟩
            · rw [e]; exact (M5.out.put1 HI.out I.out.sp (topQ qr).join).put2 HI.out I.out.sp (topQ qr).to
            · rw [← fol_more hE.out (by rw [Hj.out]; omega) (by rw [I.out.sp]; exact I.out.opn)]; exact I.out.fol
            · rw [e]; exact I.out.sp
            · rw [e]; dsimp only; omega
            · rw [e]; exact I.out.done
            · rw [e]; exact I.out.grp
        · have hlb : (((topQ qr).later : Int) != 0) = true := by simp; omega
          go_wp2_with fail
          go_region
          have M4 := hyd ((M3.out.putS HI.out I.out.sp htop.out (f := 2) (v := .int .i64 0) (p' := { topQ qr with later := 0 }) (by omega) rfl).drew)
          have F4 : Hid (∀ B, Fr B [L.bX] w (w3.setCell ⟨L.bX, oW i + 6 + j * 5 + 2, none⟩ (.int .i64 0)).drew) := fun B => ((F3.out B).set (by simp) _).drew
          have X4 : Hid ((w3.setCell ⟨L.bX, oW i + 6 + j * 5 + 2, none⟩ (.int .i64 0)).drew.heap[w2.heap.size]? = some (.cells #[.int .i64 (topQ qr).group, .int .i64 (topQ qr).to, .int .i64 (topQ qr).later, .int .i64 (topQ qr).next, .int .i64 (topQ qr).join] 106)) := (Below.heap_setCell _ _ _ _ (fun e => by dsimp only at e; omega)).trans X3.out
          generalize (w3.setCell ⟨L.bX, oW i + 6 + j * 5 + 2, none⟩ (.int .i64 0)).drew = w4 at M4 F4 X4 ⊢
          clear c0 c1 c2 c3 c4 c5 s0 s1 s2 s3 s4 t0 t1 t2 t3 t4 f0 f1 f2 f5 fs M3 F3 X3
          obtain ⟨c0, c1, c2, c3, c4, c5⟩ := M4.out.w6 (qPut_at HI.out _)
          dsimp only at c0 c1 c2 c3 c4 c5
          obtain ⟨t0, t1, t2, t3, t4⟩ := box5 X4.out
          have f0 := M4.out.frz (oW i)
          have f1 := M4.out.frz (oW i + 1)
          have f2 := M4.out.frz (oW i + 2)
          go_wp2_with fail
          have e : folQ qr = { qr with sp := qr.sp.set j { topQ qr with later := 0 }, group := (topQ qr).later, pc := (topQ qr).next, to := (topQ qr).join } := by
            unfold folQ; rw [if_pos hl]; unfold sideQ; rw [Hj.out]; rfl
          have hs4 : (qr.sp.set j { topQ qr with later := 0 }).length = 3 := by rw [List.length_set]; exact I.out.sp
          go_roundg (mu (folQ qr))
          case measure => have := mu_fol (q := qr) (by rw [Hj.out]; omega) (by rw [I.out.sp]; exact I.out.opn); have := I.out.mu; omega
          case rel =>
            refine ⟨folQ qr, ⟨?_, fun B => (((F4.out B).set (by simp) _).set (by simp) _).set (by simp) _, ?_, rfl, ?_, ?_, ?_, ?_⟩⟩
            · rw [e]; exact ((M4.out.put0 HI.out hs4 (topQ qr).later).put1 HI.out hs4 (topQ qr).next).put2 HI.out hs4 (topQ qr).join
            · rw [← fol_more hE.out (by rw [Hj.out]; omega) (by rw [I.out.sp]; exact I.out.opn)]; exact I.out.fol
            · rw [e]; exact hs4
            · rw [e]; exact I.out.opn
            · rw [e]; exact I.out.done
            · rw [e]
              intro p hp
              rcases List.mem_or_eq_of_mem_set hp with hp | rfl
              · exact I.out.grp p hp
              · exact I.out.grp (topQ qr) (List.mem_of_getElem? htop.out)
      · have h0 : qr.opn = 0 := by omega
        have hE := hyd he
        have hst := hyd (fol_stop (q := qr) (fun e => hp e.2))
        clear he hp
        go_wp2_with fail
        refine (ended_any I.out.mx hQ.out).mono ?_
        rw [show decide (endQ qr) = true by simpa using hE.out]
        rintro e w2 ⟨rfl, hb2⟩
        have M2 := hyd (I.out.mx.up hb2)
        have F2 : Hid (∀ B, Fr B [L.bX] w w2) := fun B => (I.out.fr B).trans (Fr.of_below hb2)
        clear hb2
        obtain ⟨c0, c1, c2, c3, c4, c5⟩ := M2.out.w6 hQ.out
        rw [h0] at c5
        go_wp2_with fail
        go_end0
        refine ⟨rfl, ?_, F2.out⟩
        rw [← I.out.fol, hst.out]; exact M2.out
    · have hE := hyd he
      have hst := hyd (fol_stop (q := qr) (fun e => he e.1))
      clear he
      go_wp2_with fail
      refine (ended_any I.out.mx hQ.out).mono ?_
      rw [show decide (endQ qr) = false by simpa using hE.out]
      rintro e w2 ⟨rfl, hb2⟩
      have M2 := hyd (I.out.mx.up hb2)
      have F2 : Hid (∀ B, Fr B [L.bX] w w2) := fun B => (I.out.fr B).trans (Fr.of_below hb2)
      clear hb2
      go_wp2_with fail
      go_end0
      refine ⟨rfl, ?_, F2.out⟩
      rw [← I.out.fol, hst.out]; exact M2.out

end Go.Proofs.YtbhbacphiinpeaaGreat

/- What GoOn, Exit, Wait, Release, LaneDone and FirstLane of package flow do. -/
namespace Go.Proofs.YtbhbacphiinpeaaGreat
open Go.RowKit

structure WOk (q : Wq) : Prop where
  sp : q.sp.length = 3
  opn : q.opn ≤ 3
  done : q.done < 16
  grp : q.group < 16
  sg : ∀ p ∈ q.sp, p.group < 16
  sl : ∀ p ∈ q.sp, p.later < 16

theorem qPut_self {x : QM} {i : Nat} {q : Wq} (h : x.qs[i]? = some q) : qPut x i q = x := by
  unfold qPut
  have : x.qs.set i q = x.qs := by
    apply List.ext_getElem?
    intro j
    rw [List.getElem?_set]
    by_cases e : i = j
    · subst e
      obtain ⟨hl, he⟩ := List.getElem?_eq_some_iff.1 h
      simp only [if_true]; rw [if_pos hl, h]
    · rw [if_neg e]
  rw [this]

def FAns (w : World) (L : XM) (k : List Ins) (J : List Int) (x : QM) (i : Nat) (q' : Wq) (e : Ending) (w' : World) : Prop :=
  e = .returned (.tuple #[]) ∧ MX w' L k J (qPut x i q') ∧ ∀ B, Fr B [L.bX] w w'

set_option maxHeartbeats 400000 in
theorem goOn_any {w : World} {L : XM} {k : List Ins} {J : List Int} {x : QM} {i : Nat} {q : Wq} (h : MX w L k J (qPut x i q)) (hi : i < x.qs.length) (ho : WOk q) (pc : Int) :
    Calls Tryz.prog 90 #[pW L i, .int .i64 pc] w (FAns w L k J x i (goOn pc q)) := by
  have H := hyd h
  have HI := hyd hi
  have HO := hyd ho
  obtain ⟨c0, c1, c2, c3, c4, c5⟩ := h.w6 (qPut_at hi q)
  have f1 := h.frz (oW i + 1)
  clear h hi ho
  unfold pW
  go_enter Tryz.func90, Tryz.ntmps90
  go_wp2_with fail
  refine (follow_any (H.out.put1 HI.out HO.out.sp pc) HI.out HO.out.sp HO.out.opn HO.out.done HO.out.sg).mono ?_
  rintro e w2 ⟨rfl, hM, hF⟩
  have M2 := hyd hM
  have F2 := hyd hF
  clear hM hF
  go_wp2_with fail
  go_end0
  exact ⟨rfl, M2.out, fun B => ((Fr.refl B [L.bX] w).set (by simp) _).trans (F2.out B)⟩

set_option maxHeartbeats 400000 in
theorem exit_any {w : World} {L : XM} {k : List Ins} {J : List Int} {x : QM} {i : Nat} {q : Wq} (h : MX w L k J (qPut x i q)) (hi : i < x.qs.length) (ho : WOk q) :
    Calls Tryz.prog 89 #[pW L i] w (FAns w L k J x i (exitQ q)) := by
  have H := hyd h
  have HI := hyd hi
  have HO := hyd ho
  obtain ⟨c0, c1, c2, c3, c4, c5⟩ := h.w6 (qPut_at hi q)
  have f0 := h.frz (oW i)
  have f3 := h.frz (oW i + 3)
  have hor := bor ho.done ho.grp
  clear h hi ho
  unfold pW
  go_enter Tryz.func89, Tryz.ntmps89
  go_wp2_with fail
  go_region
  have M2 := hyd ((H.out.put3 HI.out HO.out.sp (q.done ||| q.group)).drew)
  have F2 : Hid (∀ B, Fr B [L.bX] w (w.setCell ⟨L.bX, oW i + 3, none⟩ (.int .i64 (q.done ||| q.group : Nat))).drew) := fun B => ((Fr.refl B [L.bX] w).set (by simp) _).drew
  generalize (w.setCell ⟨L.bX, oW i + 3, none⟩ (.int .i64 (q.done ||| q.group : Nat))).drew = w2 at M2 F2 ⊢
  clear c0 c1 c2 c3 c4 c5 f0 f3
  obtain ⟨c0, c1, c2, c3, c4, c5⟩ := M2.out.w6 (qPut_at HI.out _)
  have f0 := M2.out.frz (oW i)
  go_wp2_with fail
  refine (follow_any (M2.out.put0 HI.out HO.out.sp 0) HI.out HO.out.sp HO.out.opn (or_lt16 HO.out.done HO.out.grp) HO.out.sg).mono ?_
  rintro e w3 ⟨rfl, hM, hF⟩
  have M3 := hyd hM
  have F3 := hyd hF
  clear hM hF
  go_wp2_with fail
  go_end0
  exact ⟨rfl, M3.out, fun B => ((F2.out B).set (by simp) _).trans (F3.out B)⟩

set_option maxHeartbeats 400000 in
theorem wait_any {w : World} {L : XM} {k : List Ins} {J : List Int} {x : QM} {i : Nat} {q : Wq} (h : MX w L k J (qPut x i q)) (hi : i < x.qs.length) (ho : WOk q) (pc : Int) (hsp : (goOn pc q).sp.length = 3) :
    Calls Tryz.prog 96 #[pW L i, .int .i64 pc] w (FAns w L k J x i (waitQ pc q)) := by
  have H := hyd h
  have HI := hyd hi
  have HO := hyd ho
  have HS := hyd hsp
  clear h hi ho hsp
  go_enter Tryz.func96, Tryz.ntmps96
  go_wp2_with fail
  refine (goOn_any H.out HI.out HO.out pc).mono ?_
  rintro e w2 ⟨rfl, hM, hF⟩
  have M2 := hyd hM
  have F2 := hyd hF
  obtain ⟨c0, c1, c2, c3, c4, c5⟩ := hM.w6 (qPut_at HI.out _)
  have f4 := hM.frz (oW i + 4)
  clear hM hF
  unfold pW
  go_wp2_with fail
  go_end0
  exact ⟨rfl, M2.out.put4 HI.out HS.out true, fun B => (F2.out B).set (by simp) _⟩

set_option maxHeartbeats 400000 in
theorem release_any {w : World} {L : XM} {k : List Ins} {J : List Int} {x : QM} {i : Nat} {q : Wq} (h : MX w L k J (qPut x i q)) (hi : i < x.qs.length) (hs : q.sp.length = 3) :
    Calls Tryz.prog 78 #[pW L i] w (FAns w L k J x i { q with waits := false }) := by
  have H := hyd h
  have HI := hyd hi
  have HS := hyd hs
  obtain ⟨c0, c1, c2, c3, c4, c5⟩ := h.w6 (qPut_at hi q)
  have f4 := h.frz (oW i + 4)
  clear h hi hs
  unfold pW
  go_enter Tryz.func78, Tryz.ntmps78
  go_wp2_with fail
  go_end0
  exact ⟨rfl, H.out.put4 HI.out HS.out false, fun B => (Fr.refl B [L.bX] w).set (by simp) _⟩

set_option maxHeartbeats 400000 in
theorem laneDone_any {w : World} {L : XM} {k : List Ins} {J : List Int} {x : QM} {i : Nat} {q : Wq} (h : MX w L k J x) (hq : x.qs[i]? = some q) (hd : q.done < 16) (l : Nat) (hl : l < 4) :
    Calls Tryz.prog 65 #[pW L i, .int .i64 l] w fun e w' => e = .returned (.bool (q.done.testBit l)) ∧ Below w.heap.size w w' := by
  obtain ⟨c0, c1, c2, c3, c4, c5⟩ := h.w6 hq
  have hb := bit_at hd hl
  have l1 : (0 : Int) ≤ (l : Int) := by omega
  have l2 : (l : Int) < 4 := by omega
  clear h hq
  unfold pW
  go_enter Tryz.func65, Tryz.ntmps65
  go_wp2_with fail
  all_goals (go_ret; exact ⟨rfl, Below.refl _ _⟩)

theorem flane_at : ∀ m : Fin 16, m.1 ≠ 0 → firstL m.1 < 4 ∧ m.1.testBit (firstL m.1) = true ∧ ∀ l : Fin 4, l.1 < firstL m.1 → m.1.testBit l.1 = false := by decide

set_option maxHeartbeats 400000 in
theorem firstLane_any {w : World} {L : XM} {k : List Ins} {J : List Int} {x : QM} {i : Nat} {q : Wq} (h : MX w L k J x) (hq : x.qs[i]? = some q) (hg : q.group < 16) (h0 : q.group ≠ 0) :
    Calls Tryz.prog 95 #[pW L i] w fun e w' => e = .returned (.int .i64 (firstL q.group)) ∧ Below w.heap.size w w' := by
  obtain ⟨c0, c1, c2, c3, c4, c5⟩ := h.w6 hq
  obtain ⟨n1, n2, n3⟩ := flane_at ⟨q.group, hg⟩ h0
  dsimp only at n1 n2 n3
  generalize hm : q.group = m at *
  have N3 := hyd n3
  clear n3 h hq hm c1 c2 c3 c4 c5
  unfold pW
  go_enter Tryz.func95, Tryz.ntmps95
  go_wp2_with fail
  go_loopw [3] (fun lv wr => ∃ l : Nat, l ≤ firstL m ∧ lv = .int .i64 l ∧ wr = w) (fun lv _ => 4 - (intOf lv).toNat)
  case atStart => exact ⟨0, by omega, rfl, rfl⟩
  case round =>
    obtain ⟨l, hl, rfl, rfl⟩ := hrel
    have l1 : (0 : Int) ≤ (l : Int) := by omega
    have l2 : (l : Int) < 4 := by omega
    by_cases he : l = firstL m
    · rw [← he] at n1 n2
      have hb := bit_yes hg n1 n2
      have HE := hyd he
      clear n2 he
      go_wp2_with fail
      go_ret
      exact ⟨by rw [← HE.out]; rfl, Below.refl _ _⟩
    · have hb := bit_no hg (l := l) (by omega) (N3.out ⟨l, by omega⟩ (by dsimp only; omega))
      go_wp2_with fail
      refine ⟨⟨l + 1, by omega, rfl, by trivial⟩, ?_⟩
      simp only [intOf]; omega

end Go.Proofs.YtbhbacphiinpeaaGreat

/- What 'Branch' of package flow does; what each of these keeps. -/
namespace Go.Proofs.YtbhbacphiinpeaaGreat
open Go.RowKit

theorem fol_ok : ∀ (m : Nat) {q : Wq}, WOk q → WOk (folN m q)
  | 0, q, h => h
  | m + 1, q, h => by
    unfold folN
    split
    · rename_i he
      refine fol_ok m ?_
      have hlt : q.opn - 1 < q.sp.length := by have := h.sp; have := h.opn; omega
      have hm : topQ q ∈ q.sp := by
        unfold topQ
        rw [List.getD_eq_getElem?_getD, List.getElem?_eq_getElem hlt]
        exact List.getElem_mem _
      unfold folQ
      split
      · refine ⟨by simp [sideQ, h.sp], h.opn, h.done, h.sl _ hm, fun p hp => ?_, fun p hp => ?_⟩
        · rcases List.mem_or_eq_of_mem_set hp with hp | rfl
          · exact h.sg p hp
          · exact h.sg (topQ q) hm
        · rcases List.mem_or_eq_of_mem_set hp with hp | rfl
          · exact h.sl p hp
          · exact Nat.zero_lt_succ _
      · exact ⟨h.sp, by have := h.opn; simp only [shutQ]; omega, h.done, mns_lt (h.sg _ hm), h.sg, h.sl⟩
    · exact h

theorem WOk.goOn {q : Wq} (h : WOk q) (pc : Int) : WOk (goOn pc q) := fol_ok _ ⟨h.sp, h.opn, h.done, h.grp, h.sg, h.sl⟩
theorem WOk.exit {q : Wq} (h : WOk q) : WOk (exitQ q) := fol_ok _ ⟨h.sp, h.opn, or_lt16 h.done h.grp, Nat.zero_lt_succ _, h.sg, h.sl⟩
theorem WOk.wait {q : Wq} (h : WOk q) (pc : Int) : WOk (waitQ pc q) := ⟨(h.goOn pc).sp, (h.goOn pc).opn, (h.goOn pc).done, (h.goOn pc).grp, (h.goOn pc).sg, (h.goOn pc).sl⟩
theorem WOk.split {q : Wq} (h : WOk q) {z : Nat} (hz : z < 16) (next join : Int) : WOk (splitQ z next join q) := by
  unfold splitQ
  by_cases ho : q.opn < 3
  · simp only [if_pos ho]
    refine ⟨by simp [h.sp], by dsimp only; omega, h.done, hz, fun p hp => ?_, fun p hp => ?_⟩
    · rcases List.mem_or_eq_of_mem_set hp with hp | rfl
      · exact h.sg p hp
      · exact h.grp
    · rcases List.mem_or_eq_of_mem_set hp with hp | rfl
      · exact h.sl p hp
      · exact mns_lt h.grp
  · simp only [if_neg ho]
    exact ⟨h.sp, h.opn, h.done, hz, h.sg, h.sl⟩
theorem WOk.branch {q : Wq} (h : WOk q) (zs : Nat) (target next join : Int) : WOk (branchQ zs target next join q) := by
  unfold branchQ
  split
  · exact h.goOn _
  split
  · exact h.goOn _
  · exact (h.split (by rw [Nat.and_comm]; exact and_lt16 _ h.grp) _ _).goOn _

theorem MX.putS5 {w : World} {L : XM} {k : List Ins} {J : List Int} {x : QM} {i : Nat} {q : Wq} (h : MX w L k J (qPut x i q)) (hi : i < x.qs.length) (hs : q.sp.length = 3) {s : Nat} (h3 : s < 3) (g l : Nat) (t n j : Int) :
    MX (((((w.setCell ⟨L.bX, oW i + 6 + s * 5, none⟩ (.int .i64 g)).setCell ⟨L.bX, oW i + 6 + s * 5 + 1, none⟩ (.int .i64 t)).setCell ⟨L.bX, oW i + 6 + s * 5 + 2, none⟩ (.int .i64 l)).setCell ⟨L.bX, oW i + 6 + s * 5 + 3, none⟩ (.int .i64 n)).setCell ⟨L.bX, oW i + 6 + s * 5 + 4, none⟩ (.int .i64 j)) L k J (qPut x i { q with sp := q.sp.set s ⟨g, t, l, n, j⟩ }) := by
  obtain ⟨p, hp⟩ : ∃ p, q.sp[s]? = some p := ⟨_, List.getElem?_eq_getElem (by omega)⟩
  have at0 : ∀ p' : Spl, (q.sp.set s p')[s]? = some p' := fun p' => List.getElem?_set_self (by omega)
  have h1 := h.putS hi hs hp (f := 0) (v := .int .i64 g) (p' := { p with group := g }) (by omega) rfl
  have h2 := h1.putS hi (by simp [hs]) (at0 _) (f := 1) (v := .int .i64 t) (p' := { p with group := g, to := t }) (by omega) rfl
  simp only [List.set_set] at h2
  have h3 := h2.putS hi (by simp [hs]) (at0 _) (f := 2) (v := .int .i64 l) (p' := { p with group := g, to := t, later := l }) (by omega) rfl
  simp only [List.set_set] at h3
  have h4 := h3.putS hi (by simp [hs]) (at0 _) (f := 3) (v := .int .i64 n) (p' := { p with group := g, to := t, later := l, next := n }) (by omega) rfl
  simp only [List.set_set] at h4
  have h5 := h4.putS hi (by simp [hs]) (at0 _) (f := 4) (v := .int .i64 j) (p' := ⟨g, t, l, n, j⟩) (by omega) rfl
  simp only [List.set_set] at h5
  exact h5

set_option maxHeartbeats 1000000 in
set_option maxRecDepth 100000 in
theorem branch_any {w : World} {L : XM} {k : List Ins} {J : List Int} {x : QM} {i : Nat} {q : Wq} (h : MX w L k J (qPut x i q)) (hi : i < x.qs.length) (ho : WOk q) (zs : Nat) (hz : zs < 16) (target next join : Int) (hop : zs &&& q.group ≠ 0 → mns q.group (zs &&& q.group) ≠ 0 → q.opn < 3) :
    Calls Tryz.prog 93 #[pW L i, .int .i64 zs, .int .i64 target, .int .i64 next, .int .i64 join] w (FAns w L k J x i (branchQ zs target next join q)) := by
  have H := hyd h
  have HI := hyd hi
  have HO := hyd ho
  obtain ⟨c0, c1, c2, c3, c4, c5⟩ := h.w6 (qPut_at hi q)
  have hand := band hz ho.grp
  have z16 : zs &&& q.group < 16 := and_lt16 _ hz
  obtain ⟨z, Hz⟩ : ∃ z, Hid (zs &&& q.group = z) := ⟨_, rfl⟩
  unfold branchQ
  rw [Hz.out] at hand z16 hop ⊢
  have Hz16 := hyd z16
  have hnot := bnot ho.grp z16
  obtain ⟨o, Hn⟩ : ∃ o, Hid (mns q.group z = o) := ⟨_, rfl⟩
  rw [Hn.out] at hnot hop ⊢
  have hf0 := h.frz (oW i)
  clear h hi ho
  unfold pW
  by_cases z0 : z = 0
  · subst z0
    rw [if_pos rfl]
    go_enter Tryz.func93, Tryz.ntmps93
    go_wp2_with fail
    refine (goOn_any H.out HI.out HO.out next).mono ?_
    rintro e w2 ⟨rfl, hM, hF⟩
    have M2 := hyd hM
    have F2 := hyd hF
    clear hM hF
    go_wp2_with fail
    (try simp only [Exit.inBlock, Exit.then])
    refine bodyPost_ret (results_none rfl _ _ _) rfl ?_
    exact ⟨rfl, M2.out, F2.out⟩
  rw [if_neg z0]
  have zb : ((z : Int) == 0) = false := by simp; omega
  by_cases o0 : o = 0
  · subst o0
    rw [if_pos rfl]
    go_enter Tryz.func93, Tryz.ntmps93
    go_wp2_with fail
    refine (goOn_any H.out HI.out HO.out target).mono ?_
    rintro e w2 ⟨rfl, hM, hF⟩
    have M2 := hyd hM
    have F2 := hyd hF
    clear hM hF
    go_wp2_with fail
    (try simp only [Exit.inBlock, Exit.then])
    refine bodyPost_ret (results_none rfl _ _ _) rfl ?_
    exact ⟨rfl, M2.out, F2.out⟩
  rw [if_neg o0]
  have ob : ((o : Int) == 0) = false := by simp; omega
  have h3 := hop z0 o0
  obtain ⟨j, hj⟩ : ∃ j, q.opn = j := ⟨_, rfl⟩
  rw [hj] at c5 h3
  have Hj := hyd hj
  clear hop hj z0 o0 z16
  have j1 : (0 : Int) ≤ (j : Int) := by omega
  have j2 : (j : Int) < 3 := by omega
  obtain ⟨p, hp⟩ : ∃ p, q.sp[j]? = some p := ⟨_, List.getElem?_eq_getElem (by rw [HO.out.sp]; exact h3)⟩
  obtain ⟨s0, s1, s2, s3, s4⟩ := H.out.s5 (qPut_at HI.out q) hp h3
  have fs0 := H.out.frz (oW i + 6 + j * 5)
  have fs1 := H.out.frz (oW i + 6 + j * 5 + 1)
  have fs2 := H.out.frz (oW i + 6 + j * 5 + 2)
  have fs3 := H.out.frz (oW i + 6 + j * 5 + 3)
  have fs4 := H.out.frz (oW i + 6 + j * 5 + 4)
  go_enter Tryz.func93, Tryz.ntmps93
  go_wp2_with fail
  go_region
  have M2 := hyd ((H.out.putS5 HI.out HO.out.sp h3 q.group o q.to next join).drew)
  have F2 : Hid (∀ B, Fr B [L.bX] w (((((w.setCell ⟨L.bX, oW i + 6 + j * 5, none⟩ (.int .i64 q.group)).setCell ⟨L.bX, oW i + 6 + j * 5 + 1, none⟩ (.int .i64 q.to)).setCell ⟨L.bX, oW i + 6 + j * 5 + 2, none⟩ (.int .i64 o)).setCell ⟨L.bX, oW i + 6 + j * 5 + 3, none⟩ (.int .i64 next)).setCell ⟨L.bX, oW i + 6 + j * 5 + 4, none⟩ (.int .i64 join)).drew) := fun B => ((((((Fr.refl B [L.bX] w).set (by simp) _).set (by simp) _).set (by simp) _).set (by simp) _).set (by simp) _).drew
  generalize (((((w.setCell ⟨L.bX, oW i + 6 + j * 5, none⟩ (.int .i64 q.group)).setCell ⟨L.bX, oW i + 6 + j * 5 + 1, none⟩ (.int .i64 q.to)).setCell ⟨L.bX, oW i + 6 + j * 5 + 2, none⟩ (.int .i64 o)).setCell ⟨L.bX, oW i + 6 + j * 5 + 3, none⟩ (.int .i64 next)).setCell ⟨L.bX, oW i + 6 + j * 5 + 4, none⟩ (.int .i64 join)).drew = w2 at M2 F2 ⊢
  clear c0 c1 c2 c3 c4 c5 s0 s1 s2 s3 s4 fs0 fs1 fs2 fs3 fs4 hf0
  obtain ⟨c0, c1, c2, c3, c4, c5⟩ := M2.out.w6 (qPut_at HI.out _)
  dsimp only at c0 c1 c2 c3 c4 c5
  rw [Hj.out] at c5
  have f0 := M2.out.frz (oW i)
  have f2 := M2.out.frz (oW i + 2)
  have f5 := M2.out.frz (oW i + 5)
  go_wp2_with fail
  have hs2 : (q.sp.set j ⟨q.group, q.to, o, next, join⟩).length = 3 := by rw [List.length_set]; exact HO.out.sp
  have M3 := hyd (((M2.out.put5 HI.out hs2 (j + 1)).put0 HI.out hs2 z).put2 HI.out hs2 join)
  have esp : Hid (splitQ z next join q = { q with sp := q.sp.set j ⟨q.group, q.to, o, next, join⟩, opn := j + 1, group := z, to := join }) := by
    unfold Hid splitQ
    rw [Hj.out, if_pos h3, if_pos h3, Hn.out]
  have O3 := hyd (HO.out.split Hz16.out next join)
  rw [esp.out] at O3
  refine (goOn_any M3.out HI.out O3.out target).mono ?_
  rintro e w3 ⟨rfl, hM, hF⟩
  have M4 := hyd hM
  have F4 := hyd hF
  clear hM hF
  go_wp2_with fail
  go_end0
  exact ⟨rfl, by rw [esp.out]; exact M4.out, fun B => ((((F2.out B).set (by simp) _).set (by simp) _).set (by simp) _).trans (F4.out B)⟩

end Go.Proofs.YtbhbacphiinpeaaGreat

