/- Rc3 Rc4: joined. -/
import Derived.Test.YtbhbacphiinpeaaGreatZ31

/- What the document's 'does' does, if 'run' does as it should with what is left of the budget. -/
namespace Go.Proofs.YtbhbacphiinpeaaGreat
open Go.RowKit

theorem doneAll_snoc {ts : List Thr} {g : List Nat} {i t : Nat} (h : g[i]? = some t) : doneAll ts (g.take (i + 1)) = (doneAll ts (g.take i)).set t { (doneAll ts (g.take i)).getD t thr0 with done := true } := by
  unfold doneAll
  rw [List.take_add_one, h]
  simp

/-- What 'does' answers and does. -/
def DoesAns (w : World) (L : RM) (bP B : Nat) (k : List Ins) (J : List Int) (vW : Value) (bud : Nat) (warp : Int) (q : Pl × Int) (e : Ending) (w' : World) : Prop :=
  e = .returned (.int .i64 q.2) ∧ (∃ vL', PlayAt w' L bP B k J vW bud warp vL' q.1) ∧ Fr B (L.X bP) w w'

set_option maxHeartbeats 1000000 in
set_option maxRecDepth 100000 in
theorem does_jump {w : World} {L : RM} {bP B : Nat} {k : List Ins} {J : List Int} {vW : Value} {bud : Nat} {warp : Int} {vL : Value} {p : Pl} (rn : Pl → List Nat → Int → Int → Pl) (h : PlayAt w L bP B k J vW bud warp vL p) (h4 : Reg4 p.ts) {vg : Value} {g : List Nat} (hg : GAt w (L.X bP) vg g) (hlt : ∀ t ∈ g, t < p.ts.length) (hlen : g.length ≤ 4) {pc : Nat} {x : Ins} (hx : k[pc]? = some x) (hk40 : k.length ≤ 40) (ho : x.o = 12) :
    Calls Tryz.prog 81 #[.pointer (some ⟨bP, 0, none⟩), vg, .int .i64 pc] w (DoesAns w L bP B k J vW bud warp (doesP k J rn p g pc)) := by
  have H := hyd h
  have H4 := hyd h4
  have HG := hyd hg
  have HLt := hyd hlt
  have HXl := hyd h.lt
  have hx' : Hid (k[((pc : Nat) : Int).toNat]? = some x) := by unfold Hid; simpa using hx
  obtain ⟨ao, cap, rfl⟩ := hg.slice
  obtain ⟨c0, -⟩ := h.cells
  obtain ⟨m0, -⟩ := h.core.cells
  obtain ⟨b0, b1, b2, b3⟩ := flat_at hx
  have hpk := (List.getElem?_eq_some_iff.1 hx).1
  have d0 := (h.core.rK.cellAt (pc * 4) (by omega)).trans b0
  have d1 := (h.core.rK.cellAt (pc * 4 + 1) (by omega)).trans b1
  have d2 := (h.core.rK.cellAt (pc * 4 + 2) (by omega)).trans b2
  have d3 := (h.core.rK.cellAt (pc * 4 + 3) (by omega)).trans b3
  have p1 : (0 : Int) ≤ (pc : Int) := by omega
  have p2 : (pc : Int) < (k.length : Int) := by omega
  have p3 : (k.length : Int) ≤ 40 := by omega
  clear b0 b1 b2 b3 hx h h4 hg hlt
  obtain ⟨n, Hn⟩ : ∃ n, Hid (g.length = n) := ⟨_, rfl⟩
  rw [Hn.out] at hlen ⊢
  have hn2 : (n : Int) ≤ 4 := by omega
  obtain ⟨x0, x1, x2, x3, -⟩ := blk_cells (heap_alloc_new w (.cells #[.int .i64 x.o, .int .i64 x.a, .int .i64 x.b, .int .i64 x.c] 92))
  have P1 := hyd (H.out.alloc (.cells #[.int .i64 x.o, .int .i64 x.a, .int .i64 x.b, .int .i64 x.c] 92))
  have F1 := hyd ((Fr.refl B (L.X bP) w).alloc (.cells #[.int .i64 x.o, .int .i64 x.a, .int .i64 x.b, .int .i64 x.c] 92))
  have G1 := hyd (HG.out.fr F1.out)
  have hq : Hid (doesP k J rn p g pc = (p, x.b)) := by unfold Hid; rw [does_some J rn p g hx'.out, if_neg (by omega), if_pos ho]
  have t0 : (x.o == 0) = false := beq_eq_false_iff_ne.2 (by omega)
  have s12 : (x.o == 12) = true := by rw [ho]; rfl
  clear ho
  go_enter Tryz.func81, Tryz.ntmps81
  go_wp2
  go_ret
  rw [hq.out]
  exact ⟨rfl, ⟨vL, P1.out⟩, F1.out⟩

set_option maxHeartbeats 1000000 in
set_option maxRecDepth 100000 in
theorem does_each {w : World} {L : RM} {bP B : Nat} {k : List Ins} {J : List Int} {vW : Value} {bud : Nat} {warp : Int} {vL : Value} {p : Pl} (rn : Pl → List Nat → Int → Int → Pl) (h : PlayAt w L bP B k J vW bud warp vL p) (h4 : Reg4 p.ts) {vg : Value} {g : List Nat} (hg : GAt w (L.X bP) vg g) (hlt : ∀ t ∈ g, t < p.ts.length) (hlen : g.length ≤ 4) {pc : Nat} {x : Ins} (hx : k[pc]? = some x) (hk40 : k.length ≤ 40) {nk : Int} (hok : okB nk x = true) (ho : isOwn x.o) (hseg : p.segs ≤ 100000) (hml : p.mem.length ≤ 32) :
    Calls Tryz.prog 81 #[.pointer (some ⟨bP, 0, none⟩), vg, .int .i64 pc] w (DoesAns w L bP B k J vW bud warp (doesP k J rn p g pc)) := by
  have H := hyd h
  have H4 := hyd h4
  have HG := hyd hg
  have HLt := hyd hlt
  have HXl := hyd h.lt
  have hx' : Hid (k[((pc : Nat) : Int).toNat]? = some x) := by unfold Hid; simpa using hx
  obtain ⟨ao, cap, rfl⟩ := hg.slice
  obtain ⟨c0, -⟩ := h.cells
  obtain ⟨m0, -⟩ := h.core.cells
  obtain ⟨b0, b1, b2, b3⟩ := flat_at hx
  have hpk := (List.getElem?_eq_some_iff.1 hx).1
  have d0 := (h.core.rK.cellAt (pc * 4) (by omega)).trans b0
  have d1 := (h.core.rK.cellAt (pc * 4 + 1) (by omega)).trans b1
  have d2 := (h.core.rK.cellAt (pc * 4 + 2) (by omega)).trans b2
  have d3 := (h.core.rK.cellAt (pc * 4 + 3) (by omega)).trans b3
  have p1 : (0 : Int) ≤ (pc : Int) := by omega
  have p2 : (pc : Int) < (k.length : Int) := by omega
  have p3 : (k.length : Int) ≤ 40 := by omega
  clear b0 b1 b2 b3 hx h h4 hg hlt
  obtain ⟨n, Hn⟩ : ∃ n, Hid (g.length = n) := ⟨_, rfl⟩
  rw [Hn.out] at hlen ⊢
  have hn2 : (n : Int) ≤ 4 := by omega
  obtain ⟨x0, x1, x2, x3, -⟩ := blk_cells (heap_alloc_new w (.cells #[.int .i64 x.o, .int .i64 x.a, .int .i64 x.b, .int .i64 x.c] 92))
  have P1 := hyd (H.out.alloc (.cells #[.int .i64 x.o, .int .i64 x.a, .int .i64 x.b, .int .i64 x.c] 92))
  have F1 := hyd ((Fr.refl B (L.X bP) w).alloc (.cells #[.int .i64 x.o, .int .i64 x.a, .int .i64 x.b, .int .i64 x.c] 92))
  have G1 := hyd (HG.out.fr F1.out)
  have hq : Hid (doesP k J rn p g pc = (eachP p g pc x, (pc : Int) + 1)) := by unfold isOwn at ho; unfold Hid; rw [does_some J rn p g hx'.out, if_neg (by omega), if_neg (by omega), if_neg (by omega), if_neg (by omega)]
  have hxx : Hid (k[pc]? = some x) := by unfold Hid; have := hx'.out; simpa using this
  have ho' := ho
  unfold isOwn at ho'
  have t0 : (x.o == 0) = false := beq_eq_false_iff_ne.2 (by omega)
  have t12 : (x.o == 12) = false := beq_eq_false_iff_ne.2 (by omega)
  have t13 : (x.o == 13) = false := beq_eq_false_iff_ne.2 (by omega)
  have t14 : (x.o == 14) = false := beq_eq_false_iff_ne.2 (by omega)
  clear ho'
  have Ho := hyd ho
  clear ho
  go_enter Tryz.func81, Tryz.ntmps81
  go_wp2_with fail
  refine (each_any P1.out H4.out (vg := .slice ao n cap) (by rw [← Hn.out]; exact G1.out) HLt.out (by rw [Hn.out]; exact hlen) hxx.out hok Ho.out hseg hml).mono ?_
  rintro e w2 ⟨rfl, hP2, hF2⟩
  have K := hyd (And.intro hP2 (F1.out.trans hF2))
  clear hP2 hF2
  go_wp2
  go_ret
  rw [hq.out]
  exact ⟨rfl, ⟨vL, K.out.1⟩, K.out.2⟩

set_option maxHeartbeats 1000000 in
set_option maxRecDepth 100000 in
theorem does_wait0 {w : World} {L : RM} {bP B : Nat} {k : List Ins} {J : List Int} {vW : Value} {bud : Nat} {warp : Int} {vL : Value} {p : Pl} (rn : Pl → List Nat → Int → Int → Pl) (h : PlayAt w L bP B k J vW bud warp vL p) (h4 : Reg4 p.ts) {vg : Value} {g : List Nat} (hg : GAt w (L.X bP) vg g) (hlt : ∀ t ∈ g, t < p.ts.length) (hlen : g.length ≤ 4) {pc : Nat} {x : Ins} (hx : k[pc]? = some x) (hk40 : k.length ≤ 40) (ho : x.o = 14) (hop : p.opn = 0) :
    Calls Tryz.prog 81 #[.pointer (some ⟨bP, 0, none⟩), vg, .int .i64 pc] w (DoesAns w L bP B k J vW bud warp (doesP k J rn p g pc)) := by
  have H := hyd h
  have H4 := hyd h4
  have HG := hyd hg
  have HLt := hyd hlt
  have HXl := hyd h.lt
  have hx' : Hid (k[((pc : Nat) : Int).toNat]? = some x) := by unfold Hid; simpa using hx
  obtain ⟨ao, cap, rfl⟩ := hg.slice
  obtain ⟨c0, -⟩ := h.cells
  obtain ⟨m0, -⟩ := h.core.cells
  obtain ⟨b0, b1, b2, b3⟩ := flat_at hx
  have hpk := (List.getElem?_eq_some_iff.1 hx).1
  have d0 := (h.core.rK.cellAt (pc * 4) (by omega)).trans b0
  have d1 := (h.core.rK.cellAt (pc * 4 + 1) (by omega)).trans b1
  have d2 := (h.core.rK.cellAt (pc * 4 + 2) (by omega)).trans b2
  have d3 := (h.core.rK.cellAt (pc * 4 + 3) (by omega)).trans b3
  have p1 : (0 : Int) ≤ (pc : Int) := by omega
  have p2 : (pc : Int) < (k.length : Int) := by omega
  have p3 : (k.length : Int) ≤ 40 := by omega
  clear b0 b1 b2 b3 hx h h4 hg hlt
  obtain ⟨n, Hn⟩ : ∃ n, Hid (g.length = n) := ⟨_, rfl⟩
  rw [Hn.out] at hlen ⊢
  have hn2 : (n : Int) ≤ 4 := by omega
  obtain ⟨x0, x1, x2, x3, -⟩ := blk_cells (heap_alloc_new w (.cells #[.int .i64 x.o, .int .i64 x.a, .int .i64 x.b, .int .i64 x.c] 92))
  have P1 := hyd (H.out.alloc (.cells #[.int .i64 x.o, .int .i64 x.a, .int .i64 x.b, .int .i64 x.c] 92))
  have F1 := hyd ((Fr.refl B (L.X bP) w).alloc (.cells #[.int .i64 x.o, .int .i64 x.a, .int .i64 x.b, .int .i64 x.c] 92))
  have G1 := hyd (HG.out.fr F1.out)
  have hq : Hid (doesP k J rn p g pc = ({ p with waits := true, at0 := (pc : Int) + 1 }, (pc : Int) + 1)) := by unfold Hid; rw [does_some J rn p g hx'.out, if_neg (by omega), if_neg (by omega), if_neg (by omega), if_pos ho, if_neg (by omega)]
  have t0 : (x.o == 0) = false := beq_eq_false_iff_ne.2 (by omega)
  have t12 : (x.o == 12) = false := beq_eq_false_iff_ne.2 (by omega)
  have t13 : (x.o == 13) = false := beq_eq_false_iff_ne.2 (by omega)
  have s14 : (x.o == 14) = true := by rw [ho]; rfl
  clear ho
  obtain ⟨e0, -, -, -, -, -, -, -, e9, -, e11, e12⟩ := P1.out.cells
  rw [hop] at e9
  have f11 := P1.out.frozen 11
  have f12 := P1.out.frozen 12
  have hlog : Hid (∀ g, vL.ownBlock = some g → g ≠ bP) := fun g hg => (P1.out.ne.2.2.2.2.2 g hg).1
  have Hop := hyd hop
  clear hop
  go_enter Tryz.func81, Tryz.ntmps81
  go_wp2
  go_ret
  rw [hq.out]
  have P2 := P1.out.set (i := 11) (v := .bool true) (p' := { p with waits := true }) (vL' := vL) rfl P1.out.log hlog.out rfl rfl rfl
  have P3 := P2.set (i := 12) (v := .int .i64 ((pc : Int) + 1)) (p' := { p with waits := true, at0 := (pc : Int) + 1 }) (vL' := vL) rfl P2.log hlog.out rfl rfl rfl
  exact ⟨rfl, ⟨vL, P3⟩, (F1.out.set (by simp [RM.X]) _).set (by simp [RM.X]) _⟩

set_option maxHeartbeats 1000000 in
set_option maxRecDepth 100000 in
theorem does_wait1 {w : World} {L : RM} {bP B : Nat} {k : List Ins} {J : List Int} {vW : Value} {bud : Nat} {warp : Int} {vL : Value} {p : Pl} (rn : Pl → List Nat → Int → Int → Pl) (h : PlayAt w L bP B k J vW bud warp vL p) (h4 : Reg4 p.ts) {vg : Value} {g : List Nat} (hg : GAt w (L.X bP) vg g) (hlt : ∀ t ∈ g, t < p.ts.length) (hlen : g.length ≤ 4) {pc : Nat} {x : Ins} (hx : k[pc]? = some x) (hk40 : k.length ≤ 40) (ho : x.o = 14) (hop : 0 < p.opn) (hop2 : p.opn ≤ 2000) (hne : g ≠ []) :
    Calls Tryz.prog 81 #[.pointer (some ⟨bP, 0, none⟩), vg, .int .i64 pc] w (DoesAns w L bP B k J vW bud warp (doesP k J rn p g pc)) := by
  have H := hyd h
  have H4 := hyd h4
  have HG := hyd hg
  have HLt := hyd hlt
  have HXl := hyd h.lt
  have hx' : Hid (k[((pc : Nat) : Int).toNat]? = some x) := by unfold Hid; simpa using hx
  obtain ⟨ao, cap, rfl⟩ := hg.slice
  obtain ⟨c0, -⟩ := h.cells
  obtain ⟨m0, -⟩ := h.core.cells
  obtain ⟨b0, b1, b2, b3⟩ := flat_at hx
  have hpk := (List.getElem?_eq_some_iff.1 hx).1
  have d0 := (h.core.rK.cellAt (pc * 4) (by omega)).trans b0
  have d1 := (h.core.rK.cellAt (pc * 4 + 1) (by omega)).trans b1
  have d2 := (h.core.rK.cellAt (pc * 4 + 2) (by omega)).trans b2
  have d3 := (h.core.rK.cellAt (pc * 4 + 3) (by omega)).trans b3
  have p1 : (0 : Int) ≤ (pc : Int) := by omega
  have p2 : (pc : Int) < (k.length : Int) := by omega
  have p3 : (k.length : Int) ≤ 40 := by omega
  clear b0 b1 b2 b3 hx h h4 hg hlt
  obtain ⟨n, Hn⟩ : ∃ n, Hid (g.length = n) := ⟨_, rfl⟩
  rw [Hn.out] at hlen ⊢
  have hn2 : (n : Int) ≤ 4 := by omega
  obtain ⟨x0, x1, x2, x3, -⟩ := blk_cells (heap_alloc_new w (.cells #[.int .i64 x.o, .int .i64 x.a, .int .i64 x.b, .int .i64 x.c] 92))
  have P1 := hyd (H.out.alloc (.cells #[.int .i64 x.o, .int .i64 x.a, .int .i64 x.b, .int .i64 x.c] 92))
  have F1 := hyd ((Fr.refl B (L.X bP) w).alloc (.cells #[.int .i64 x.o, .int .i64 x.a, .int .i64 x.b, .int .i64 x.c] 92))
  have G1 := hyd (HG.out.fr F1.out)
  have hq : Hid (doesP k J rn p g pc = (faultP p 3 pc ((g.headD 0 : Nat) : Int), (pc : Int) + 1)) := by unfold Hid; rw [does_some J rn p g hx'.out, if_neg (by omega), if_neg (by omega), if_neg (by omega), if_pos ho, if_pos hop]
  have t0 : (x.o == 0) = false := beq_eq_false_iff_ne.2 (by omega)
  have t12 : (x.o == 12) = false := beq_eq_false_iff_ne.2 (by omega)
  have t13 : (x.o == 13) = false := beq_eq_false_iff_ne.2 (by omega)
  have s14 : (x.o == 14) = true := by rw [ho]; rfl
  clear ho
  obtain ⟨e0, -, -, -, -, -, -, -, e9, -⟩ := P1.out.cells
  have hop3 : (0 : Int) < (p.opn : Int) := by omega
  obtain ⟨t, ht⟩ : ∃ t, g[0]? = some t := ⟨_, List.getElem?_eq_getElem (List.length_pos_iff.2 hne)⟩
  have hn1 : 0 < n := by rw [← Hn.out]; exact List.length_pos_iff.2 hne
  have hn3 : (0 : Int) < (n : Int) := by omega
  have hhd : Hid (g.headD 0 = t) := by
    cases g with
    | nil => exact absurd rfl hne
    | cons a l => simp at ht; exact ht
  obtain ⟨bg, hao, hbg, hcg⟩ := G1.out.cell (by rw [Hn.out]; exact hn1)
  subst hao
  have cg := hcg 0 t ht
  clear hcg ht hne
  go_enter Tryz.func81, Tryz.ntmps81
  go_wp2_with fail
  refine (fault_any P1.out 3 pc t).mono ?_
  rintro e w2 ⟨rfl, hP2, hF2⟩
  have K := hyd (And.intro hP2 (F1.out.trans hF2))
  clear hP2 hF2
  go_wp2
  go_ret
  rw [hq.out, hhd.out]
  exact ⟨rfl, ⟨vL, K.out.1⟩, K.out.2⟩

set_option maxHeartbeats 1000000 in
set_option maxRecDepth 100000 in
theorem does_exit {w : World} {L : RM} {bP B : Nat} {k : List Ins} {J : List Int} {vW : Value} {bud : Nat} {warp : Int} {vL : Value} {p : Pl} (rn : Pl → List Nat → Int → Int → Pl) (h : PlayAt w L bP B k J vW bud warp vL p) (h4 : Reg4 p.ts) {vg : Value} {g : List Nat} (hg : GAt w (L.X bP) vg g) (hlt : ∀ t ∈ g, t < p.ts.length) (hlen : g.length ≤ 4) {pc : Nat} {x : Ins} (hx : k[pc]? = some x) (hk40 : k.length ≤ 40) (ho : x.o = 0) :
    Calls Tryz.prog 81 #[.pointer (some ⟨bP, 0, none⟩), vg, .int .i64 pc] w (DoesAns w L bP B k J vW bud warp (doesP k J rn p g pc)) := by
  have H := hyd h
  have H4 := hyd h4
  have HG := hyd hg
  have HLt := hyd hlt
  have HXl := hyd h.lt
  have hx' : Hid (k[((pc : Nat) : Int).toNat]? = some x) := by unfold Hid; simpa using hx
  obtain ⟨ao, cap, rfl⟩ := hg.slice
  obtain ⟨c0, -⟩ := h.cells
  obtain ⟨m0, -⟩ := h.core.cells
  obtain ⟨b0, b1, b2, b3⟩ := flat_at hx
  have hpk := (List.getElem?_eq_some_iff.1 hx).1
  have d0 := (h.core.rK.cellAt (pc * 4) (by omega)).trans b0
  have d1 := (h.core.rK.cellAt (pc * 4 + 1) (by omega)).trans b1
  have d2 := (h.core.rK.cellAt (pc * 4 + 2) (by omega)).trans b2
  have d3 := (h.core.rK.cellAt (pc * 4 + 3) (by omega)).trans b3
  have p1 : (0 : Int) ≤ (pc : Int) := by omega
  have p2 : (pc : Int) < (k.length : Int) := by omega
  have p3 : (k.length : Int) ≤ 40 := by omega
  clear b0 b1 b2 b3 hx h h4 hg hlt
  obtain ⟨n, Hn⟩ : ∃ n, Hid (g.length = n) := ⟨_, rfl⟩
  rw [Hn.out] at hlen ⊢
  have hn2 : (n : Int) ≤ 4 := by omega
  obtain ⟨x0, x1, x2, x3, -⟩ := blk_cells (heap_alloc_new w (.cells #[.int .i64 x.o, .int .i64 x.a, .int .i64 x.b, .int .i64 x.c] 92))
  have P1 := hyd (H.out.alloc (.cells #[.int .i64 x.o, .int .i64 x.a, .int .i64 x.b, .int .i64 x.c] 92))
  have F1 := hyd ((Fr.refl B (L.X bP) w).alloc (.cells #[.int .i64 x.o, .int .i64 x.a, .int .i64 x.b, .int .i64 x.c] 92))
  have G1 := hyd (HG.out.fr F1.out)
  have hq : Hid (doesP k J rn p g pc = ({ p with ts := doneAll p.ts g }, (pc : Int) + 1)) := by unfold Hid; rw [does_some J rn p g hx'.out, if_pos ho]
  have s0 : (x.o == 0) = true := by rw [ho]; rfl
  clear ho
  obtain ⟨m, Hm⟩ : ∃ m, Hid (p.ts.length = m) := ⟨_, rfl⟩
  go_enter Tryz.func81, Tryz.ntmps81
  go_wp2_with fail
  go_loopw [8] (fun iv wr => ∃ (i : Nat) (ts : List Thr), i ≤ n ∧ iv = .int .i64 i ∧ ts = doneAll p.ts (g.take i) ∧ PlayAt wr L bP B k J vW bud warp vL { p with ts := ts } ∧ Fr B (L.X bP) w wr) (fun iv _ => n - (intOf iv).toNat)
  case atStart => exact ⟨0, p.ts, Nat.zero_le _, rfl, by simp [doneAll], P1.out, F1.out⟩
  case round =>
    obtain ⟨i, ts, hin, rfl, hts, hP, hF⟩ := hrel
    have HT := hyd hts
    have P2 := hyd hP
    have F2 := hyd hF
    clear hts hP hF c0 m0 d0 d1 d2 d3 x0 x1 x2 x3
    by_cases hil : i < n
    · obtain ⟨t, ht⟩ : ∃ t, g[i]? = some t := ⟨_, List.getElem?_eq_getElem (by rw [Hn.out]; exact hil)⟩
      obtain ⟨k1, k2, -⟩ := doneAll_keeps (g.take i) p.ts
      have htm : t < p.ts.length := HLt.out t (List.mem_of_getElem? ht)
      have hl : ts.length = p.ts.length := by rw [HT.out]; exact k1
      have R4 : Hid (Reg4 ts) := by rw [HT.out]; exact k2 H4.out
      obtain ⟨th, hth⟩ : ∃ th, ts[t]? = some th := ⟨_, List.getElem?_eq_getElem (by rw [hl]; exact htm)⟩
      obtain ⟨c0, -⟩ := P2.out.cells
      obtain ⟨-, -, c2, -⟩ := P2.out.core.cells
      have cd := P2.out.core.cellT R4.out hth (j := 5) (by omega)
      rw [vals_done (R4.out th (List.mem_of_getElem? hth))] at cd
      have fz := P2.out.core.rT.frozenAt (t * 6 + 5)
      dsimp only at c2
      rw [hl, Hm.out] at c2
      obtain ⟨bg, hao, -, hcg⟩ := (HG.out.fr F2.out).cell (by rw [Hn.out]; omega)
      subst hao
      have cg := hcg i t ht
      have hE := hyd (doneAll_snoc (ts := p.ts) ht)
      rw [← HT.out, getD_at hth] at hE
      have HL := hyd hl
      have Hth := hyd hth
      have hmm : t < m := by rw [← Hm.out]; exact htm
      have t1 : (0 : Int) ≤ (t : Int) := by omega
      have t2 : (t : Int) < (m : Int) := by omega
      have i1 : (0 : Int) ≤ (i : Int) := by omega
      have i2 : (i : Int) < (n : Int) := by omega
      have C5 := hyd (P2.out.core.drew.setT R4.out Hth.out (j := 5) (v := .bool true) (th' := { th with done := true }) (by omega) (vals_setDone (R4.out th (List.mem_of_getElem? Hth.out)) true))
      have hne := hyd P2.out.ne
      clear hcg ht hth hl htm k1 k2
      go_wp2_with fail
      go_region
      go_wp2
      go_roundw
      case rel =>
        refine ⟨i + 1, ts.set t { th with done := true }, by omega, by go_num, hE.out.symm, ?_, F2.out.drew.set (by simp [RM.X]) _⟩
        exact P2.out.drew.into C5.out (Below.heap_setCell _ _ _ _ (fun e => hne.out.2.2.2.1 e.symm)) (fun g' hg' => Below.heap_setCell _ _ _ _ (hne.out.2.2.2.2.2 g' hg').2.2.2.2.1)
      case measure => simp [intOf] <;> omega
    · have hin' : i = g.length := by rw [Hn.out]; omega
      have e : Hid (ts = doneAll p.ts g) := by have := HT.out; rw [hin', take_all] at this; exact this
      go_wp2
      go_ret
      rw [hq.out, ← e.out]
      exact ⟨rfl, ⟨vL, P2.out⟩, F2.out⟩

end Go.Proofs.YtbhbacphiinpeaaGreat

/- What the document's 'does' does, whatever the instruction; what 'run' does. -/
namespace Go.Proofs.YtbhbacphiinpeaaGreat
open Go.RowKit

set_option maxHeartbeats 1000000 in
set_option maxRecDepth 100000 in
theorem does_zero {w : World} {L : RM} {bP B : Nat} {k : List Ins} {J : List Int} {vW : Value} {bud : Nat} {warp : Int} {vL : Value} {p : Pl} (rn : Pl → List Nat → Int → Int → Pl) (h : PlayAt w L bP B k J vW bud warp vL p) (h4 : Reg4 p.ts) {vg : Value} {g : List Nat} (hg : GAt w (L.X bP) vg g) (hlt : ∀ t ∈ g, t < p.ts.length) (hlen : g.length ≤ 4) {pc : Nat} {x : Ins} (hx : k[pc]? = some x) (hk40 : k.length ≤ 40) {f : Nat} (hrn : rn = runP k J bud f) (HR : RunOk L bP B k J vW bud warp f) (h16 : p.ts.length ≤ 16) (h32 : p.mem.length ≤ 32) (hcnt : Cnt bud p) (hopn : p.opn + 1 ≤ p.steps) (hbud : bud ≤ 2000) (hf : bud ≤ p.steps + f) (hk : chk k = (0, 0)) (hJ : JoinsAre k J) (ho : x.o = 13) :
    Calls Tryz.prog 81 #[.pointer (some ⟨bP, 0, none⟩), vg, .int .i64 pc] w (DoesAns w L bP B k J vW bud warp (doesP k J rn p g pc)) := by
  have H := hyd h
  have H4 := hyd h4
  have HG := hyd hg
  have HLt := hyd hlt
  have HXl := hyd h.lt
  have hx' : Hid (k[((pc : Nat) : Int).toNat]? = some x) := by unfold Hid; simpa using hx
  obtain ⟨ao, cap, rfl⟩ := hg.slice
  obtain ⟨c0, -⟩ := h.cells
  obtain ⟨m0, -⟩ := h.core.cells
  obtain ⟨b0, b1, b2, b3⟩ := flat_at hx
  have hpk := (List.getElem?_eq_some_iff.1 hx).1
  have d0 := (h.core.rK.cellAt (pc * 4) (by omega)).trans b0
  have d1 := (h.core.rK.cellAt (pc * 4 + 1) (by omega)).trans b1
  have d2 := (h.core.rK.cellAt (pc * 4 + 2) (by omega)).trans b2
  have d3 := (h.core.rK.cellAt (pc * 4 + 3) (by omega)).trans b3
  have p1 : (0 : Int) ≤ (pc : Int) := by omega
  have p2 : (pc : Int) < (k.length : Int) := by omega
  have p3 : (k.length : Int) ≤ 40 := by omega
  clear b0 b1 b2 b3 hx h h4 hg hlt
  obtain ⟨n, Hn⟩ : ∃ n, Hid (g.length = n) := ⟨_, rfl⟩
  rw [Hn.out] at hlen ⊢
  have hn2 : (n : Int) ≤ 4 := by omega
  obtain ⟨x0, x1, x2, x3, -⟩ := blk_cells (heap_alloc_new w (.cells #[.int .i64 x.o, .int .i64 x.a, .int .i64 x.b, .int .i64 x.c] 92))
  have P1 := hyd (H.out.alloc (.cells #[.int .i64 x.o, .int .i64 x.a, .int .i64 x.b, .int .i64 x.c] 92))
  have F1 := hyd ((Fr.refl B (L.X bP) w).alloc (.cells #[.int .i64 x.o, .int .i64 x.a, .int .i64 x.b, .int .i64 x.c] 92))
  have G1 := hyd (HG.out.fr F1.out)
  subst hrn
  have hq : Hid (doesP k J (runP k J bud f) p g pc = partsP J (runP k J bud f) p g pc x) := by unfold Hid; rw [does_some J _ p g hx'.out, if_neg (by omega), if_neg (by omega), if_pos ho]
  have hxx : Hid (k[pc]? = some x) := by unfold Hid; have := hx'.out; simpa using this
  have t0 : (x.o == 0) = false := beq_eq_false_iff_ne.2 (by omega)
  have t12 : (x.o == 12) = false := beq_eq_false_iff_ne.2 (by omega)
  have s13 : (x.o == 13) = true := by rw [ho]; rfl
  have Ho := hyd ho
  clear ho
  go_enter Tryz.func81, Tryz.ntmps81
  go_wp2_with fail
  refine (parts_any HR P1.out H4.out h16 h32 hcnt hopn hbud hf (vg := .slice ao n cap) (by rw [← Hn.out]; exact G1.out) HLt.out (by rw [Hn.out]; exact hlen) hxx.out hk hJ Ho.out).mono ?_
  rintro e w2 ⟨rfl, hP2, hF2⟩
  have K := hyd (And.intro hP2 (F1.out.trans hF2))
  clear hP2 hF2
  go_wp2
  go_ret
  rw [hq.out]
  exact ⟨rfl, K.out.1, K.out.2⟩

theorem does_any {w : World} {L : RM} {bP B : Nat} {k : List Ins} {J : List Int} {vW : Value} {bud : Nat} {warp : Int} {vL : Value} {p : Pl} {f : Nat} (HR : RunOk L bP B k J vW bud warp f) (h : PlayAt w L bP B k J vW bud warp vL p) (h4 : Reg4 p.ts) (h16 : p.ts.length ≤ 16) (h32 : p.mem.length ≤ 32) (hcnt : Cnt bud p) (hopn : p.opn + 1 ≤ p.steps) (hbud : bud ≤ 2000) (hf : bud ≤ p.steps + f)
    {vg : Value} {g : List Nat} (hg : GAt w (L.X bP) vg g) (hne : g ≠ []) (hlt : ∀ t ∈ g, t < p.ts.length) (hlen : g.length ≤ 4) {pc : Nat} (hpc : pc < k.length) (hk : chk k = (0, 0)) (hJ : JoinsAre k J) :
    Calls Tryz.prog 81 #[.pointer (some ⟨bP, 0, none⟩), vg, .int .i64 pc] w (DoesAns w L bP B k J vW bud warp (doesP k J (runP k J bud f) p g pc)) := by
  obtain ⟨x, hx⟩ : ∃ x, k[pc]? = some x := ⟨_, List.getElem?_eq_getElem hpc⟩
  obtain ⟨-, hk1, hk2, hok⟩ := chk_zero (l := k) (by rw [hk])
  have hokx := hok pc x hx
  have hsteps := hcnt.steps
  have hsegs := hcnt.segs
  by_cases h0 : x.o = 0
  · exact does_exit _ h h4 hg hlt hlen hx hk2 h0
  by_cases h12 : x.o = 12
  · exact does_jump _ h h4 hg hlt hlen hx hk2 h12
  by_cases h13 : x.o = 13
  · exact does_zero _ h h4 hg hlt hlen hx hk2 rfl HR h16 h32 hcnt hopn hbud hf hk hJ h13
  by_cases h14 : x.o = 14
  · by_cases hop : p.opn = 0
    · exact does_wait0 _ h h4 hg hlt hlen hx hk2 h14 hop
    · exact does_wait1 _ h h4 hg hlt hlen hx hk2 h14 (by omega) (by omega) hne
  · refine does_each _ h h4 hg hlt hlen hx hk2 hokx ?_ (by omega) h32
    unfold isOwn
    unfold okB at hokx
    rw [if_neg (by omega)] at hokx
    by_cases hl : 1 ≤ x.o ∧ x.o ≤ 11
    · exact hl
    · rw [if_neg (by omega), if_neg (by omega), if_neg (by omega), if_neg (by omega), if_neg (by omega), if_neg (by omega)] at hokx
      cases hokx

end Go.Proofs.YtbhbacphiinpeaaGreat

