/- Mk1 Mm Mn: joined. -/
import Derived.Test.YtbhbacphiinpeaaZ13
import Derived.Deep.LoopGhost

/- What 'Zeros' of package cells answers. -/
namespace Go.Proofs.Ytbhbacphiinpeaa
open Go.RowKit

def zQ (x : QM) (bs r m : Nat) : Nat := maskOf fun l => m.testBit l && rgA x (bs + l) r == 0
def zTo (x : QM) (bs r l : Nat) : Nat := maskOf fun j => decide (j < l) && rgA x (bs + j) r == 0

theorem pow_lane {l : Nat} (h : l < 4) : wrap64 ((2 : Int) ^ l) = ((2 ^ l : Nat) : Int) := by
  have := pow_seg (q := 4 * l) (by omega)
  rw [show 4 * l / 4 = l by omega] at this
  exact this
theorem or_lane {z l : Nat} (hz : z < 16) (h : l < 4) : _root_.Go.bits .or .i64 (z : Int) (wrap64 ((2 : Int) ^ l)) = ((z ||| 2 ^ l : Nat) : Int) := by
  rw [pow_lane h]
  exact bor hz (Nat.pow_lt_pow_right (a := 2) (m := l) (n := 4) (by omega) h)

theorem zTo_zero (x : QM) (bs r : Nat) : zTo x bs r 0 = 0 := by
  refine mask_ext (maskOf_lt _) (by omega) fun l hl => ?_
  unfold zTo
  rw [maskOf_bit _ hl]; simp
theorem zTo_yes {x : QM} {bs r l : Nat} (hl : l < 4) (h : rgA x (bs + l) r = 0) : zTo x bs r l ||| 2 ^ l = zTo x bs r (l + 1) := by
  refine mask_ext (or_lt16 (maskOf_lt _) (Nat.pow_lt_pow_right (a := 2) (m := l) (n := 4) (by omega) hl)) (maskOf_lt _) fun j hj => ?_
  unfold zTo
  rw [Nat.testBit_or, maskOf_bit _ hj, maskOf_bit _ hj, Nat.testBit_two_pow]
  by_cases e : l = j
  · subst e; simp [h]
  · have e1 : decide (j < l + 1) = decide (j < l) := by simp; omega
    rw [e1]; simp [e]
theorem zTo_no {x : QM} {bs r l : Nat} (h : rgA x (bs + l) r ≠ 0) : zTo x bs r l = zTo x bs r (l + 1) := by
  unfold zTo
  refine mask_ext (maskOf_lt _) (maskOf_lt _) fun j hj => ?_
  rw [maskOf_bit _ hj, maskOf_bit _ hj]
  by_cases e : l = j
  · subst e; simp [h]
  · have e1 : decide (j < l + 1) = decide (j < l) := by simp; omega
    rw [e1]
theorem zTo_all {x : QM} {bs r m : Nat} : zTo x bs r 4 &&& m = zQ x bs r m := by
  refine mask_ext (and_lt16 _ (maskOf_lt _)) (maskOf_lt _) fun j hj => ?_
  unfold zTo zQ
  rw [Nat.testBit_and, maskOf_bit _ hj, maskOf_bit _ hj]
  simp [hj, Bool.and_comm]

set_option maxHeartbeats 1000000 in
set_option maxRecDepth 100000 in
theorem zeros_any {w : World} {L : XM} {k : List Ins} {J : List Int} {x : QM} (h : MX w L k J x) (r bs m : Nat) (hr : r < 4) (hbs : bs ≤ 12) (hm : m < 16) :
    Calls Try.prog 70 #[pC L, .int .i64 r, .int .i64 bs, .int .i64 m] w fun e w' => e = .returned (.int .i64 (zQ x bs r m)) ∧ Below w.heap.size w w' := by
  have H := hyd h
  clear h
  unfold pC
  go_enter Try.func70, Try.ntmps70
  go_wp2_with fail
  go_loopw [9, 10] (fun zv lv wr => ∃ (l : Nat), l ≤ 4 ∧ lv = .int .i64 l ∧ zv = .int .i64 (zTo x bs r l) ∧ Hid (Below w.heap.size w wr)) (fun _ lv _ => 4 - (intOf lv).toNat)
  case atStart => exact ⟨0, by omega, rfl, by rw [zTo_zero]; rfl, Below.refl _ _⟩
  case round =>
    obtain ⟨l, hl4, rfl, rfl, B⟩ := hrel
    have hz16 : Hid (zTo x bs r l < 16) := maskOf_lt _
    by_cases hl : l < 4
    · have l1 : (0 : Int) ≤ (l : Int) := by omega
      have l2 : (l : Int) < 4 := by omega
      have hq := hyd (get_any (H.out.up B.out) (bs + l) r (by omega) hr)
      rw [Int.natCast_add] at hq
      obtain ⟨v, Hv⟩ : ∃ v, Hid (rgA x (bs + l) r = v) := ⟨_, rfl⟩
      rw [Hv.out] at hq
      go_wp2_with fail
      refine hq.out.mono ?_
      rintro e w4 ⟨rfl, rfl⟩
      by_cases hv : v = 0
      · subst hv
        go_wp2_with fail
        refine ⟨⟨l + 1, by omega, rfl, ?_, B⟩, ?_⟩
        · rw [or_lane hz16.out hl, zTo_yes hl Hv.out]
        · simp only [intOf]; omega
      · have hvb : (v == 0) = false := by simpa using hv
        go_wp2_with fail
        refine ⟨⟨l + 1, by omega, rfl, ?_, B⟩, ?_⟩
        · rw [zTo_no (by rw [Hv.out]; exact hv)]
        · simp only [intOf]; omega
    · have : l = 4 := by omega
      subst this
      have hb := band hz16.out hm
      rw [zTo_all] at hb
      go_wp2_with fail
      go_ret
      exact ⟨rfl, B.out⟩

end Go.Proofs.Ytbhbacphiinpeaa

/- What the looks of package flow answer: Group, Pc, Done, Ready, InSplit, ended; the cells of a warp. -/
namespace Go.Proofs.Ytbhbacphiinpeaa
open Go.RowKit

def oW (i : Nat) : Nat := 102 + i * 21
def pW (L : XM) (i : Nat) : Value := .pointer (some ⟨L.bX, oW i, none⟩)

/-- The first six cells of a warp. -/
theorem MX.w6 {w : World} {L : XM} {k : List Ins} {J : List Int} {x : QM} (h : MX w L k J x) {i : Nat} {q : Wq} (hq : x.qs[i]? = some q) :
    w.cell? ⟨L.bX, oW i, none⟩ = some (.int .i64 q.group) ∧ w.cell? ⟨L.bX, oW i + 1, none⟩ = some (.int .i64 q.pc) ∧ w.cell? ⟨L.bX, oW i + 2, none⟩ = some (.int .i64 q.to) ∧
    w.cell? ⟨L.bX, oW i + 3, none⟩ = some (.int .i64 q.done) ∧ w.cell? ⟨L.bX, oW i + 4, none⟩ = some (.bool q.waits) ∧ w.cell? ⟨L.bX, oW i + 5, none⟩ = some (.int .i64 q.opn) := by
  refine ⟨?_, ?_, ?_, ?_, ?_, ?_⟩
  · exact h.warp hq (j := 0) (by omega)
  · exact h.warp hq (j := 1) (by omega)
  · exact h.warp hq (j := 2) (by omega)
  · exact h.warp hq (j := 3) (by omega)
  · exact h.warp hq (j := 4) (by omega)
  · exact h.warp hq (j := 5) (by omega)

theorem split_at {q : Wq} {s : Nat} {p : Spl} (hp : q.sp[s]? = some p) {f : Nat} (hf : f < 5) : q.vals[6 + s * 5 + f]? = p.vals[f]? := by
  unfold Wq.vals
  rw [List.getElem?_append_right (by simp; omega), show 6 + s * 5 + f - [Value.int .i64 q.group, .int .i64 q.pc, .int .i64 q.to, .int .i64 q.done, .bool q.waits, .int .i64 q.opn].length = s * 5 + f by simp; omega]
  exact flatMap_at (fun x _ => spl_len x) hp hf

/-- The five cells of a split. -/
theorem MX.s5 {w : World} {L : XM} {k : List Ins} {J : List Int} {x : QM} (h : MX w L k J x) {i : Nat} {q : Wq} (hq : x.qs[i]? = some q) {s : Nat} {p : Spl} (hp : q.sp[s]? = some p) (hs : s < 3) :
    w.cell? ⟨L.bX, oW i + 6 + s * 5, none⟩ = some (.int .i64 p.group) ∧ w.cell? ⟨L.bX, oW i + 6 + s * 5 + 1, none⟩ = some (.int .i64 p.to) ∧ w.cell? ⟨L.bX, oW i + 6 + s * 5 + 2, none⟩ = some (.int .i64 p.later) ∧
    w.cell? ⟨L.bX, oW i + 6 + s * 5 + 3, none⟩ = some (.int .i64 p.next) ∧ w.cell? ⟨L.bX, oW i + 6 + s * 5 + 4, none⟩ = some (.int .i64 p.join) := by
  have gen : ∀ f, f < 5 → w.cell? ⟨L.bX, oW i + 6 + s * 5 + f, none⟩ = p.vals[f]? := fun f hf => by
    have := h.warp hq (j := 6 + s * 5 + f) (by omega)
    rw [split_at hp hf] at this
    rw [← this]
    unfold oW
    congr 2
    omega
  exact ⟨gen 0 (by omega), gen 1 (by omega), gen 2 (by omega), gen 3 (by omega), gen 4 (by omega)⟩

set_option maxHeartbeats 400000 in
theorem group_any {w : World} {L : XM} {k : List Ins} {J : List Int} {x : QM} (h : MX w L k J x) {i : Nat} {q : Wq} (hq : x.qs[i]? = some q) :
    Calls Try.prog 61 #[pW L i] w fun e w' => e = .returned (.int .i64 q.group) ∧ w' = w := by
  obtain ⟨c0, c1, c2, c3, c4, c5⟩ := h.w6 hq
  clear h hq
  unfold pW
  go_enter Try.func61, Try.ntmps61
  go_wp2
  go_ret
  exact ⟨rfl, rfl⟩

set_option maxHeartbeats 400000 in
theorem pc_any {w : World} {L : XM} {k : List Ins} {J : List Int} {x : QM} (h : MX w L k J x) {i : Nat} {q : Wq} (hq : x.qs[i]? = some q) :
    Calls Try.prog 60 #[pW L i] w fun e w' => e = .returned (.int .i64 q.pc) ∧ w' = w := by
  obtain ⟨c0, c1, c2, c3, c4, c5⟩ := h.w6 hq
  clear h hq
  unfold pW
  go_enter Try.func60, Try.ntmps60
  go_wp2
  go_ret
  exact ⟨rfl, rfl⟩

set_option maxHeartbeats 400000 in
theorem wdone_any {w : World} {L : XM} {k : List Ins} {J : List Int} {x : QM} (h : MX w L k J x) {i : Nat} {q : Wq} (hq : x.qs[i]? = some q) :
    Calls Try.prog 77 #[pW L i] w fun e w' => e = .returned (.bool (decide (q.group = 0))) ∧ w' = w := by
  obtain ⟨c0, c1, c2, c3, c4, c5⟩ := h.w6 hq
  clear h hq
  unfold pW
  by_cases h0 : q.group = 0
  · rw [h0] at c0 ⊢
    go_enter Try.func77, Try.ntmps77
    go_wp2
    go_ret
    exact ⟨rfl, rfl⟩
  · have hb : ((q.group : Int) == 0) = false := by simp; omega
    have hd : decide (q.group = 0) = false := by simpa using h0
    rw [hd]
    generalize (q.group : Int) = g at hb c0
    go_enter Try.func77, Try.ntmps77
    go_wp2
    go_ret
    exact ⟨rfl, rfl⟩

set_option maxHeartbeats 400000 in
theorem wready_any {w : World} {L : XM} {k : List Ins} {J : List Int} {x : QM} (h : MX w L k J x) {i : Nat} {q : Wq} (hq : x.qs[i]? = some q) :
    Calls Try.prog 59 #[pW L i] w fun e w' => e = .returned (.bool (rdyQ q)) ∧ w' = w := by
  obtain ⟨c0, c1, c2, c3, c4, c5⟩ := h.w6 hq
  clear h hq
  unfold pW
  by_cases h0 : q.group = 0
  · have hr : rdyQ q = false := by simp [rdyQ, h0]
    rw [hr]
    rw [h0] at c0
    go_enter Try.func59, Try.ntmps59
    go_wp2
    go_ret
    exact ⟨rfl, rfl⟩
  · have hb : ((q.group : Int) == 0) = false := by simp; omega
    have hb' : ((q.group : Int) != 0) = true := by simp; omega
    have hr : rdyQ q = !q.waits := by simp [rdyQ, h0]
    rw [hr]
    clear hb
    generalize (q.group : Int) = g at hb' c0
    go_enter Try.func59, Try.ntmps59
    go_wp2
    go_ret
    exact ⟨rfl, rfl⟩

set_option maxHeartbeats 400000 in
theorem inSplit_any {w : World} {L : XM} {k : List Ins} {J : List Int} {x : QM} (h : MX w L k J x) {i : Nat} {q : Wq} (hq : x.qs[i]? = some q) :
    Calls Try.prog 73 #[pW L i] w fun e w' => e = .returned (.bool (decide (0 < q.opn))) ∧ w' = w := by
  obtain ⟨c0, c1, c2, c3, c4, c5⟩ := h.w6 hq
  clear h hq
  unfold pW
  go_enter Try.func73, Try.ntmps73
  go_wp2
  go_ret
  exact ⟨by simp, rfl⟩

set_option maxHeartbeats 400000 in
theorem ended_any {w : World} {L : XM} {k : List Ins} {J : List Int} {x : QM} (h : MX w L k J x) {i : Nat} {q : Wq} (hq : x.qs[i]? = some q) :
    Calls Try.prog 82 #[pW L i] w fun e w' => e = .returned (.bool (decide (endQ q))) ∧ Below w.heap.size w w' := by
  obtain ⟨c0, c1, c2, c3, c4, c5⟩ := h.w6 hq
  clear h hq
  unfold pW
  by_cases h0 : q.group = 0
  · have hr : decide (endQ q) = true := by simp [endQ, h0]
    rw [hr]
    rw [h0] at c0
    go_enter Try.func82, Try.ntmps82
    go_wp2_with fail
    go_quiet (fail)
    generalize hw : World.drewN w _ = w3
    have hB : Below w.heap.size w w3 := by rw [← hw]; exact ⟨rfl, rfl, rfl, Nat.le_refl _, fun _ _ => rfl⟩
    clear hw
    go_wp2
    go_ret
    exact ⟨rfl, hB⟩
  · have hb : ((q.group : Int) == 0) = false := by simp; omega
    have hr : decide (endQ q) = (q.pc == q.to) := by
      by_cases e : q.pc = q.to <;> simp [endQ, h0, e]
    rw [hr]
    generalize (q.group : Int) = g at hb c0
    go_enter Try.func82, Try.ntmps82
    go_wp2_with fail
    go_quiet (fail)
    generalize hw : World.drewN w _ = w3
    have hB : Below w.heap.size w w3 := by rw [← hw]; exact ⟨rfl, rfl, rfl, Nat.le_refl _, fun _ _ => rfl⟩
    clear hw
    go_wp2
    go_ret
    exact ⟨rfl, hB⟩

end Go.Proofs.Ytbhbacphiinpeaa

/- What 'follow' of package flow does. -/
namespace Go.Proofs.Ytbhbacphiinpeaa
open Go.RowKit

theorem MX.setG {w : World} {L : XM} {k : List Ins} {J : List Int} {x : QM} (h : MX w L k J x) {i : Nat} {q : Wq} (hq : x.qs[i]? = some q) (hs : q.sp.length = 3) :
    (∀ v : Nat, MX (w.setCell ⟨L.bX, oW i, none⟩ (.int .i64 v)) L k J (qPut x i { q with group := v })) ∧ (∀ v : Int, MX (w.setCell ⟨L.bX, oW i + 1, none⟩ (.int .i64 v)) L k J (qPut x i { q with pc := v })) ∧
    (∀ v : Int, MX (w.setCell ⟨L.bX, oW i + 2, none⟩ (.int .i64 v)) L k J (qPut x i { q with to := v })) ∧ (∀ v : Nat, MX (w.setCell ⟨L.bX, oW i + 3, none⟩ (.int .i64 v)) L k J (qPut x i { q with done := v })) ∧
    (∀ v : Bool, MX (w.setCell ⟨L.bX, oW i + 4, none⟩ (.bool v)) L k J (qPut x i { q with waits := v })) ∧ (∀ v : Nat, MX (w.setCell ⟨L.bX, oW i + 5, none⟩ (.int .i64 v)) L k J (qPut x i { q with opn := v })) := by
  refine ⟨fun v => h.setQ hq (j := 0) (by omega) rfl hs, fun v => h.setQ hq (j := 1) (by omega) rfl hs, fun v => h.setQ hq (j := 2) (by omega) rfl hs, fun v => h.setQ hq (j := 3) (by omega) rfl hs, fun v => h.setQ hq (j := 4) (by omega) rfl hs, fun v => h.setQ hq (j := 5) (by omega) rfl hs⟩

theorem split_set {q : Wq} {s : Nat} {p p' : Spl} (hp : q.sp[s]? = some p) {f : Nat} (hf : f < 5) {v : Value} (e : p.vals.set f v = p'.vals) : q.vals.set (6 + s * 5 + f) v = ({ q with sp := q.sp.set s p' } : Wq).vals := by
  unfold Wq.vals
  rw [List.set_append_right _ _ (by simp; omega), show 6 + s * 5 + f - [Value.int .i64 q.group, .int .i64 q.pc, .int .i64 q.to, .int .i64 q.done, .bool q.waits, .int .i64 q.opn].length = s * 5 + f by simp; omega, flatMap_set (fun x _ => spl_len x) hp hf e]

theorem MX.setS5 {w : World} {L : XM} {k : List Ins} {J : List Int} {x : QM} (h : MX w L k J x) {i : Nat} {q : Wq} (hq : x.qs[i]? = some q) (hs : q.sp.length = 3) {s : Nat} {p p' : Spl} (hp : q.sp[s]? = some p) {f : Nat} (hf : f < 5) {v : Value} (e : p.vals.set f v = p'.vals) :
    MX (w.setCell ⟨L.bX, oW i + 6 + s * 5 + f, none⟩ v) L k J (qPut x i { q with sp := q.sp.set s p' }) := by
  have hs3 : s < 3 := by have := (List.getElem?_eq_some_iff.1 hp).1; omega
  have := h.setQ hq (j := 6 + s * 5 + f) (by omega) (split_set hp hf e) (by simp [hs])
  rw [show oW i + 6 + s * 5 + f = 102 + i * 21 + (6 + s * 5 + f) by unfold oW; omega]
  exact this

theorem qPut_at {x : QM} {i : Nat} (hi : i < x.qs.length) (q : Wq) : (qPut x i q).qs[i]? = some q := by
  show (x.qs.set i q)[i]? = some q
  rw [List.getElem?_set_self hi]
theorem qPut_put (x : QM) (i : Nat) (q q' : Wq) : qPut (qPut x i q) i q' = qPut x i q' := by
  unfold qPut; simp [List.set_set]

theorem MX.put0 {w : World} {L : XM} {k : List Ins} {J : List Int} {x : QM} {i : Nat} {q : Wq} (h : MX w L k J (qPut x i q)) (hi : i < x.qs.length) (hs : q.sp.length = 3) (v : Nat) : MX (w.setCell ⟨L.bX, oW i, none⟩ (.int .i64 v)) L k J (qPut x i { q with group := v }) := by
  have := (h.setG (qPut_at hi q) hs).1 v
  rwa [qPut_put] at this
theorem MX.put1 {w : World} {L : XM} {k : List Ins} {J : List Int} {x : QM} {i : Nat} {q : Wq} (h : MX w L k J (qPut x i q)) (hi : i < x.qs.length) (hs : q.sp.length = 3) (v : Int) : MX (w.setCell ⟨L.bX, oW i + 1, none⟩ (.int .i64 v)) L k J (qPut x i { q with pc := v }) := by
  have := (h.setG (qPut_at hi q) hs).2.1 v
  rwa [qPut_put] at this
theorem MX.put2 {w : World} {L : XM} {k : List Ins} {J : List Int} {x : QM} {i : Nat} {q : Wq} (h : MX w L k J (qPut x i q)) (hi : i < x.qs.length) (hs : q.sp.length = 3) (v : Int) : MX (w.setCell ⟨L.bX, oW i + 2, none⟩ (.int .i64 v)) L k J (qPut x i { q with to := v }) := by
  have := (h.setG (qPut_at hi q) hs).2.2.1 v
  rwa [qPut_put] at this
theorem MX.put3 {w : World} {L : XM} {k : List Ins} {J : List Int} {x : QM} {i : Nat} {q : Wq} (h : MX w L k J (qPut x i q)) (hi : i < x.qs.length) (hs : q.sp.length = 3) (v : Nat) : MX (w.setCell ⟨L.bX, oW i + 3, none⟩ (.int .i64 v)) L k J (qPut x i { q with done := v }) := by
  have := (h.setG (qPut_at hi q) hs).2.2.2.1 v
  rwa [qPut_put] at this
theorem MX.put4 {w : World} {L : XM} {k : List Ins} {J : List Int} {x : QM} {i : Nat} {q : Wq} (h : MX w L k J (qPut x i q)) (hi : i < x.qs.length) (hs : q.sp.length = 3) (v : Bool) : MX (w.setCell ⟨L.bX, oW i + 4, none⟩ (.bool v)) L k J (qPut x i { q with waits := v }) := by
  have := (h.setG (qPut_at hi q) hs).2.2.2.2.1 v
  rwa [qPut_put] at this
theorem MX.put5 {w : World} {L : XM} {k : List Ins} {J : List Int} {x : QM} {i : Nat} {q : Wq} (h : MX w L k J (qPut x i q)) (hi : i < x.qs.length) (hs : q.sp.length = 3) (v : Nat) : MX (w.setCell ⟨L.bX, oW i + 5, none⟩ (.int .i64 v)) L k J (qPut x i { q with opn := v }) := by
  have := (h.setG (qPut_at hi q) hs).2.2.2.2.2 v
  rwa [qPut_put] at this
theorem MX.putS {w : World} {L : XM} {k : List Ins} {J : List Int} {x : QM} {i : Nat} {q : Wq} (h : MX w L k J (qPut x i q)) (hi : i < x.qs.length) (hs : q.sp.length = 3) {s : Nat} {p p' : Spl} (hp : q.sp[s]? = some p) {f : Nat} (hf : f < 5) {v : Value} (e : p.vals.set f v = p'.vals) :
    MX (w.setCell ⟨L.bX, oW i + 6 + s * 5 + f, none⟩ v) L k J (qPut x i { q with sp := q.sp.set s p' }) := by
  have := h.setS5 (qPut_at hi q) hs hp hf e
  rwa [qPut_put] at this

structure FolInv (w wr : World) (L : XM) (k : List Ins) (J : List Int) (x : QM) (i : Nat) (q qr : Wq) (r : Nat) : Prop where
  mx : MX wr L k J (qPut x i qr)
  fr : ∀ B, Fr B [L.bX] w wr
  fol : fol qr = fol q
  mu : mu qr = r
  sp : qr.sp.length = 3
  opn : qr.opn ≤ 3
  done : qr.done < 16
  grp : ∀ p ∈ qr.sp, p.group < 16

theorem box5 {w : World} {B : Nat} {a b c d e : Value} {t : TypeId} (h : w.heap[B]? = some (.cells #[a, b, c, d, e] t)) : w.cell? ⟨B, 0, none⟩ = some a ∧ w.cell? ⟨B, 1, none⟩ = some b ∧ w.cell? ⟨B, 2, none⟩ = some c ∧ w.cell? ⟨B, 3, none⟩ = some d ∧ w.cell? ⟨B, 4, none⟩ = some e := by
  refine ⟨?_, ?_, ?_, ?_, ?_⟩ <;> (rw [cell_of_row w B _ _ t _ h]; rfl)

theorem top_at {q : Wq} (hs : q.sp.length = 3) {j : Nat} (hj : q.opn = j + 1) (h3 : q.opn ≤ 3) : q.sp[j]? = some (topQ q) := by
  unfold topQ
  rw [hj, Nat.add_sub_cancel, List.getD_eq_getElem?_getD, List.getElem?_eq_getElem (by omega)]; rfl

set_option maxHeartbeats 1000000 in
set_option maxRecDepth 100000 in
theorem follow_any {w : World} {L : XM} {k : List Ins} {J : List Int} {x : QM} {i : Nat} {q : Wq} (h : MX w L k J (qPut x i q)) (hi : i < x.qs.length) (hs : q.sp.length = 3) (ho : q.opn ≤ 3) (hd : q.done < 16) (hg : ∀ p ∈ q.sp, p.group < 16) :
    Calls Try.prog 78 #[pW L i] w fun e w' => e = .returned (.tuple #[]) ∧ MX w' L k J (qPut x i (fol q)) ∧ ∀ B, Fr B [L.bX] w w' := by
  have I0 : Hid (FolInv w w L k J x i q q (mu q)) := ⟨h, fun B => Fr.refl _ _ _, rfl, rfl, hs, ho, hd, hg⟩
  have HI := hyd hi
  have hbx : Hid (L.bX < w.heap.size) := h.lt (.inl rfl)
  clear h hs ho hd hg hi
  unfold pW
  go_enter Try.func78, Try.ntmps78
  go_wp2_with fail
  go_loopg [2] (mu q) (fun r _ wr => ∃ qr, Hid (FolInv w wr L k J x i q qr r))
  case atStart => exact ⟨q, I0⟩
  case round =>
    obtain ⟨qr, I⟩ := hrel
    have hQ := hyd (qPut_at HI.out qr)
    by_cases he : endQ qr
    · by_cases hp : 0 < qr.opn
      · obtain ⟨j, hj⟩ : ∃ j, qr.opn = j + 1 := ⟨qr.opn - 1, by omega⟩
        have Hj := hyd hj
        have hj3 : j < 3 := by have := I.out.opn; omega
        have j1 : (0 : Int) ≤ (j : Int) := by omega
        have j2 : (j : Int) < 3 := by omega
        have htop := hyd (top_at I.out.sp hj I.out.opn)
        have hE := hyd he
        clear hj hp he
        go_wp2_with fail
        refine (ended_any I.out.mx hQ.out).mono ?_
        rw [show decide (endQ qr) = true by simpa using hE.out]
        rintro e w2 ⟨rfl, hb2⟩
        have M2 := hyd (I.out.mx.up hb2)
        have F2 : Hid (∀ B, Fr B [L.bX] w w2) := fun B => (I.out.fr B).trans (Fr.of_below hb2)
        clear hb2
        obtain ⟨c0, c1, c2, c3, c4, c5⟩ := M2.out.w6 hQ.out
        rw [Hj.out] at c5
        obtain ⟨s0, s1, s2, s3, s4⟩ := M2.out.s5 hQ.out htop.out hj3
        have hwj : IntKind.i64.wrap (j : Int) = (j : Int) := wrap_nat (by omega)
        have MA := hyd (M2.out.alloc (.cells #[.int .i64 0, .int .i64 0, .int .i64 0, .int .i64 0, .int .i64 0] 89))
        obtain ⟨-, -, -, -, -, a5⟩ := MA.out.w6 hQ.out
        rw [Hj.out] at a5
        obtain ⟨b0, b1, b2, b3, b4⟩ := MA.out.s5 hQ.out htop.out hj3
        go_wp2_with fail
        go_region
        have hb2 : L.bX < w2.heap.size := M2.out.lt (.inl rfl)
        have X3 : Hid ((w2.alloc (.cells #[.int .i64 (topQ qr).group, .int .i64 (topQ qr).to, .int .i64 (topQ qr).later, .int .i64 (topQ qr).next, .int .i64 (topQ qr).join] 89)).drew.heap[w2.heap.size]? = some (.cells #[.int .i64 (topQ qr).group, .int .i64 (topQ qr).to, .int .i64 (topQ qr).later, .int .i64 (topQ qr).next, .int .i64 (topQ qr).join] 89)) := heap_alloc_new w2 _
        have M3 := hyd ((M2.out.alloc (.cells #[.int .i64 (topQ qr).group, .int .i64 (topQ qr).to, .int .i64 (topQ qr).later, .int .i64 (topQ qr).next, .int .i64 (topQ qr).join] 89)).drew)
        have F3 : Hid (∀ B, Fr B [L.bX] w ((w2.alloc (.cells #[.int .i64 (topQ qr).group, .int .i64 (topQ qr).to, .int .i64 (topQ qr).later, .int .i64 (topQ qr).next, .int .i64 (topQ qr).join] 89)).drew)) := fun B => ((F2.out B).alloc _).drew
        generalize (w2.alloc (.cells #[.int .i64 (topQ qr).group, .int .i64 (topQ qr).to, .int .i64 (topQ qr).later, .int .i64 (topQ qr).next, .int .i64 (topQ qr).join] 89)).drew = w3 at X3 M3 F3 ⊢
        clear c0 c1 c2 c3 c4 c5 s0 s1 s2 s3 s4 MA a5 b0 b1 b2 b3 b4 M2 F2
        obtain ⟨c0, c1, c2, c3, c4, c5⟩ := M3.out.w6 hQ.out
        rw [Hj.out] at c5
        obtain ⟨s0, s1, s2, s3, s4⟩ := M3.out.s5 hQ.out htop.out hj3
        obtain ⟨t0, t1, t2, t3, t4⟩ := box5 X3.out
        have f0 := M3.out.frz (oW i)
        have f1 := M3.out.frz (oW i + 1)
        have f2 := M3.out.frz (oW i + 2)
        have f5 := M3.out.frz (oW i + 5)
        have fs := M3.out.frz (oW i + 6 + j * 5 + 2)
        by_cases hl : (topQ qr).later = 0
        · have hlb : (((topQ qr).later : Int) != 0) = false := by simp; omega
          have hgn := bnot (I.out.grp _ (List.mem_of_getElem? htop.out)) I.out.done
          go_wp2_with fail
          have M4 := hyd (M3.out.put5 HI.out I.out.sp j)
          have F4 : Hid (∀ B, Fr B [L.bX] w (w3.setCell ⟨L.bX, oW i + 5, none⟩ (.int .i64 (j : Int)))) := fun B => (F3.out B).set (by simp) _
          have X4 : Hid ((w3.setCell ⟨L.bX, oW i + 5, none⟩ (.int .i64 (j : Int))).heap[w2.heap.size]? = some (.cells #[.int .i64 (topQ qr).group, .int .i64 (topQ qr).to, .int .i64 (topQ qr).later, .int .i64 (topQ qr).next, .int .i64 (topQ qr).join] 89)) := (Below.heap_setCell _ _ _ _ (fun e => by dsimp only at e; omega)).trans X3.out
          generalize w3.setCell ⟨L.bX, oW i + 5, none⟩ (.int .i64 (j : Int)) = w4 at M4 F4 X4 ⊢
          clear c0 c1 c2 c3 c4 c5 s0 s1 s2 s3 s4 t0 t1 t2 t3 t4 f0 f1 f2 f5 fs M3 F3 X3
          obtain ⟨c0, c1, c2, c3, c4, c5⟩ := M4.out.w6 (qPut_at HI.out _)
          dsimp only at c0 c1 c2 c3 c4 c5
          obtain ⟨t0, t1, t2, t3, t4⟩ := box5 X4.out
          have f0 := M4.out.frz (oW i)
          go_region
          have M5 := hyd ((M4.out.put0 HI.out I.out.sp (mns (topQ qr).group qr.done)).drew)
          have F5 : Hid (∀ B, Fr B [L.bX] w (w4.setCell ⟨L.bX, oW i, none⟩ (.int .i64 (mns (topQ qr).group qr.done : Nat))).drew) := fun B => ((F4.out B).set (by simp) _).drew
          have X5 : Hid ((w4.setCell ⟨L.bX, oW i, none⟩ (.int .i64 (mns (topQ qr).group qr.done : Nat))).drew.heap[w2.heap.size]? = some (.cells #[.int .i64 (topQ qr).group, .int .i64 (topQ qr).to, .int .i64 (topQ qr).later, .int .i64 (topQ qr).next, .int .i64 (topQ qr).join] 89)) := (Below.heap_setCell _ _ _ _ (fun e => by dsimp only at e; omega)).trans X4.out
          generalize (w4.setCell ⟨L.bX, oW i, none⟩ (.int .i64 (mns (topQ qr).group qr.done : Nat))).drew = w5 at M5 F5 X5 ⊢
          clear c0 c1 c2 c3 c4 c5 t0 t1 t2 t3 t4 f0 M4 F4 X4
          obtain ⟨c0, c1, c2, c3, c4, c5⟩ := M5.out.w6 (qPut_at HI.out _)
          dsimp only at c0 c1 c2 c3 c4 c5
          obtain ⟨t0, t1, t2, t3, t4⟩ := box5 X5.out
          have f1 := M5.out.frz (oW i + 1)
          have f2 := M5.out.frz (oW i + 2)
          go_wp2_with fail
          have e : folQ qr = { qr with opn := j, group := mns (topQ qr).group qr.done, pc := (topQ qr).join, to := (topQ qr).to } := by
            unfold folQ; rw [if_neg (by simpa using hl)]; unfold shutQ; rw [Hj.out]; rfl
          go_roundg (mu (folQ qr))
          case measure => have := mu_fol (q := qr) (by rw [Hj.out]; omega) (by rw [I.out.sp]; exact I.out.opn); have := I.out.mu; omega
          case rel =>
            refine ⟨folQ qr, ⟨?_, fun B => ((F5.out B).set (by simp) _).set (by simp) _, ?_, rfl, ?_, ?_, ?_, ?_⟩⟩
            · rw [e]; exact (M5.out.put1 HI.out I.out.sp (topQ qr).join).put2 HI.out I.out.sp (topQ qr).to
            · rw [← fol_more hE.out (by rw [Hj.out]; omega) (by rw [I.out.sp]; exact I.out.opn)]; exact I.out.fol
            · rw [e]; exact I.out.sp
            · rw [e]; dsimp only; omega
            · rw [e]; exact I.out.done
            · rw [e]; exact I.out.grp
        · have hlb : (((topQ qr).later : Int) != 0) = true := by simp; omega
          go_wp2_with fail
          go_region
          have M4 := hyd ((M3.out.putS HI.out I.out.sp htop.out (f := 2) (v := .int .i64 0) (p' := { topQ qr with later := 0 }) (by omega) rfl).drew)
          have F4 : Hid (∀ B, Fr B [L.bX] w (w3.setCell ⟨L.bX, oW i + 6 + j * 5 + 2, none⟩ (.int .i64 0)).drew) := fun B => ((F3.out B).set (by simp) _).drew
          have X4 : Hid ((w3.setCell ⟨L.bX, oW i + 6 + j * 5 + 2, none⟩ (.int .i64 0)).drew.heap[w2.heap.size]? = some (.cells #[.int .i64 (topQ qr).group, .int .i64 (topQ qr).to, .int .i64 (topQ qr).later, .int .i64 (topQ qr).next, .int .i64 (topQ qr).join] 89)) := (Below.heap_setCell _ _ _ _ (fun e => by dsimp only at e; omega)).trans X3.out
          generalize (w3.setCell ⟨L.bX, oW i + 6 + j * 5 + 2, none⟩ (.int .i64 0)).drew = w4 at M4 F4 X4 ⊢
          clear c0 c1 c2 c3 c4 c5 s0 s1 s2 s3 s4 t0 t1 t2 t3 t4 f0 f1 f2 f5 fs M3 F3 X3
          obtain ⟨c0, c1, c2, c3, c4, c5⟩ := M4.out.w6 (qPut_at HI.out _)
          dsimp only at c0 c1 c2 c3 c4 c5
          obtain ⟨t0, t1, t2, t3, t4⟩ := box5 X4.out
          have f0 := M4.out.frz (oW i)
          have f1 := M4.out.frz (oW i + 1)
          have f2 := M4.out.frz (oW i + 2)
          go_wp2_with fail
          have e : folQ qr = { qr with sp := qr.sp.set j { topQ qr with later := 0 }, group := (topQ qr).later, pc := (topQ qr).next, to := (topQ qr).join } := by
            unfold folQ; rw [if_pos hl]; unfold sideQ; rw [Hj.out]; rfl
          have hs4 : (qr.sp.set j { topQ qr with later := 0 }).length = 3 := by rw [List.length_set]; exact I.out.sp
          go_roundg (mu (folQ qr))
          case measure => have := mu_fol (q := qr) (by rw [Hj.out]; omega) (by rw [I.out.sp]; exact I.out.opn); have := I.out.mu; omega
          case rel =>
            refine ⟨folQ qr, ⟨?_, fun B => (((F4.out B).set (by simp) _).set (by simp) _).set (by simp) _, ?_, rfl, ?_, ?_, ?_, ?_⟩⟩
            · rw [e]; exact ((M4.out.put0 HI.out hs4 (topQ qr).later).put1 HI.out hs4 (topQ qr).next).put2 HI.out hs4 (topQ qr).join
            · rw [← fol_more hE.out (by rw [Hj.out]; omega) (by rw [I.out.sp]; exact I.out.opn)]; exact I.out.fol
            · rw [e]; exact hs4
            · rw [e]; exact I.out.opn
            · rw [e]; exact I.out.done
            · rw [e]
              intro p hp
              rcases List.mem_or_eq_of_mem_set hp with hp | rfl
              · exact I.out.grp p hp
              · exact I.out.grp (topQ qr) (List.mem_of_getElem? htop.out)
      · have h0 : qr.opn = 0 := by omega
        have hE := hyd he
        have hst := hyd (fol_stop (q := qr) (fun e => hp e.2))
        clear he hp
        go_wp2_with fail
        refine (ended_any I.out.mx hQ.out).mono ?_
        rw [show decide (endQ qr) = true by simpa using hE.out]
        rintro e w2 ⟨rfl, hb2⟩
        have M2 := hyd (I.out.mx.up hb2)
        have F2 : Hid (∀ B, Fr B [L.bX] w w2) := fun B => (I.out.fr B).trans (Fr.of_below hb2)
        clear hb2
        obtain ⟨c0, c1, c2, c3, c4, c5⟩ := M2.out.w6 hQ.out
        rw [h0] at c5
        go_wp2_with fail
        go_end0
        refine ⟨rfl, ?_, F2.out⟩
        rw [← I.out.fol, hst.out]; exact M2.out
    · have hE := hyd he
      have hst := hyd (fol_stop (q := qr) (fun e => he e.1))
      clear he
      go_wp2_with fail
      refine (ended_any I.out.mx hQ.out).mono ?_
      rw [show decide (endQ qr) = false by simpa using hE.out]
      rintro e w2 ⟨rfl, hb2⟩
      have M2 := hyd (I.out.mx.up hb2)
      have F2 : Hid (∀ B, Fr B [L.bX] w w2) := fun B => (I.out.fr B).trans (Fr.of_below hb2)
      clear hb2
      go_wp2_with fail
      go_end0
      refine ⟨rfl, ?_, F2.out⟩
      rw [← I.out.fol, hst.out]; exact M2.out

end Go.Proofs.Ytbhbacphiinpeaa

