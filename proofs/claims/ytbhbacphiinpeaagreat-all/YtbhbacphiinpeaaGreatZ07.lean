/- X4 Opn: joined. -/
import Derived.Test.YtbhbacphiinpeaaGreatZ06
import Derived.ProofKit
import Derived.SizedLaws
import Derived.Deep.Slices

/- What 'plays' answers of the kinds 1 and 2, and what 'Codes' answers. -/
namespace Go.Proofs.YtbhbacphiinpeaaGreat
open Go.RowKit

/-- The slice v, as the world w has it, reads as the steps l. -/
def SeesO (w : World) (v : Value) (l : List Opv) : Prop :=
  l.length ≤ 1466015503700 ∧ (∀ o ∈ l, OpOk w o) ∧ ((l = [] ∧ ∃ ao cap, v = .slice ao 0 cap) ∨
    ∃ b off cap, v = .slice (some ⟨b, off, none⟩) l.length cap ∧ b < w.heap.size ∧ ∀ (i : Nat) o, l[i]? = some o →
      w.cell? ⟨b, off + i * 7, none⟩ = some (.int .i64 o.k) ∧ w.cell? ⟨b, off + i * 7 + 1, none⟩ = some (.int .i64 o.a) ∧ w.cell? ⟨b, off + i * 7 + 2, none⟩ = some (.int .i64 o.b) ∧ w.cell? ⟨b, off + i * 7 + 3, none⟩ = some (.int .i64 o.c) ∧
      w.cell? ⟨b, off + i * 7 + 4, none⟩ = some (.string o.s) ∧ w.cell? ⟨b, off + i * 7 + 5, none⟩ = some (.slice o.la o.ln o.lc) ∧ w.cell? ⟨b, off + i * 7 + 6, none⟩ = some (.slice o.ka o.kn o.kc))

/-- Is a step's kind among the first j of the kinds 1 and 2? -/
def inB (k : Int) (j : Nat) : Bool := if j = 0 then false else if j = 1 then k == 1 else (k == 1 || k == 2)

theorem inv0 (w : World) : Inv (w.alloc (.cells #[.slice none 0 0, .slice none 0 0, .slice none 0 0, .slice none 0 0] 34)) (w.heap.size + 1) w.heap.size [] :=
  ⟨.slice none 0 0, heap_alloc_new w _, World.ownsRow_nil _ _ _ _, fun g hg => by simp [Value.ownBlock] at hg, by omega, fun e he => by simp at he⟩

set_option maxHeartbeats 2000000 in
set_option maxRecDepth 100000 in
theorem plays_at (v : Value) (n : Nat) (l : List Opv) (ao : Option Addr) (cap kb kcap : Nat) (hv : v = .slice ao n cap) (hn : n = l.length) (hm : n ≤ 1466015503700) (w : World) (hok : ∀ o ∈ l, OpOk w o) (hkb : kb < w.heap.size)
    (hk0 : w.cell? ⟨kb, 0, none⟩ = some (.int .i64 1)) (hk1 : w.cell? ⟨kb, 1, none⟩ = some (.int .i64 2))
    (hc : n = 0 ∨ ∃ b off, ao = some ⟨b, off, none⟩ ∧ b < w.heap.size ∧ ∀ (i : Nat) o, l[i]? = some o →
      w.cell? ⟨b, off + i * 7, none⟩ = some (.int .i64 o.k) ∧ w.cell? ⟨b, off + i * 7 + 1, none⟩ = some (.int .i64 o.a) ∧ w.cell? ⟨b, off + i * 7 + 2, none⟩ = some (.int .i64 o.b) ∧ w.cell? ⟨b, off + i * 7 + 3, none⟩ = some (.int .i64 o.c) ∧
      w.cell? ⟨b, off + i * 7 + 4, none⟩ = some (.string o.s) ∧ w.cell? ⟨b, off + i * 7 + 5, none⟩ = some (.slice o.la o.ln o.lc) ∧ w.cell? ⟨b, off + i * 7 + 6, none⟩ = some (.slice o.ka o.kn o.kc)) :
    Calls Tryz.prog 9 #[v, .slice (some ⟨kb, 0, none⟩) 2 kcap] w fun e w' => e = .returned (.bool true) ∧ Below w.heap.size w w' := by
  subst hv
  have Hn := hyd hn
  have Hok := hyd hok
  have Hc := hyd hc
  have HI0 := hyd (inv0 w)
  clear hn hok hc
  have hm2 : (n : Int) ≤ 1466015503700 := by omega
  go_enter Tryz.func9, Tryz.ntmps9
  go_wp2_with fail
  go_loopw [6] (fun i wr => ∃ k : Nat, ∃ es, k ≤ n ∧ i = .int .i64 k ∧ Inv wr wr.heap.size w.heap.size es ∧ es.length ≤ k ∧ Below w.heap.size w wr) (fun i _ => n - (intOf i).toNat)
  case atStart => exact ⟨0, [], Nat.zero_le _, rfl, HI0.out.wide (by simp), Nat.le_refl _, (Below.refl _ w).alloc (Nat.le_refl _) _⟩
  case round =>
    obtain ⟨k, es, hk, rfl, hI, hes, hb⟩ := hrel
    have HI := hyd hI
    clear hI
    by_cases hkn : k < n
    · obtain ⟨o, ho⟩ : ∃ o, l[k]? = some o := ⟨_, List.getElem?_eq_getElem (by rw [← Hn.out]; exact hkn)⟩
      obtain ⟨b, off, hao, hblt, hcell⟩ : ∃ b off, ao = some ⟨b, off, none⟩ ∧ b < w.heap.size ∧ ∀ (i : Nat) o, l[i]? = some o →
          w.cell? ⟨b, off + i * 7, none⟩ = some (.int .i64 o.k) ∧ w.cell? ⟨b, off + i * 7 + 1, none⟩ = some (.int .i64 o.a) ∧ w.cell? ⟨b, off + i * 7 + 2, none⟩ = some (.int .i64 o.b) ∧ w.cell? ⟨b, off + i * 7 + 3, none⟩ = some (.int .i64 o.c) ∧
          w.cell? ⟨b, off + i * 7 + 4, none⟩ = some (.string o.s) ∧ w.cell? ⟨b, off + i * 7 + 5, none⟩ = some (.slice o.la o.ln o.lc) ∧ w.cell? ⟨b, off + i * 7 + 6, none⟩ = some (.slice o.ka o.kn o.kc) := by
        rcases Hc.out with h0 | h
        · omega
        · exact h
      subst hao
      have HOk := hyd (Hok.out o (List.mem_of_getElem? ho))
      have HC := hyd (hcell k o ho)
      clear hcell ho
      have i1 : (0 : Int) ≤ (k : Int) := by omega
      have i2 : (k : Int) < (n : Int) := by omega
      have hbw : b < wr.heap.size := Nat.lt_of_lt_of_le hblt hb.size
      have hkw : kb < wr.heap.size := Nat.lt_of_lt_of_le hkb hb.size
      go_wp2_with fail
      go_loopw [7, 8] (fun t j wx => ∃ q : Nat, q ≤ 2 ∧ t = .bool (inB o.k q) ∧ j = .int .i64 q ∧ Below wr.heap.size wr wx) (fun _ j _ => 2 - (intOf j).toNat)
      case atStart => exact ⟨0, by omega, rfl, rfl, Below.refl _ _⟩
      case round =>
        obtain ⟨q, hq, rfl, rfl, hbx⟩ := hrel
        have c0 := (hbx.cell (p := ⟨b, off + k * 7, none⟩) hbw).trans ((hb.cell (p := ⟨b, off + k * 7, none⟩) hblt).trans HC.out.1)
        have k0 := (hbx.cell (p := ⟨kb, 0, none⟩) hkw).trans ((hb.cell (p := ⟨kb, 0, none⟩) hkb).trans hk0)
        have k1 := (hbx.cell (p := ⟨kb, 1, none⟩) hkw).trans ((hb.cell (p := ⟨kb, 1, none⟩) hkb).trans hk1)
        have hq3 : q = 0 ∨ q = 1 ∨ q = 2 := by omega
        clear hk0 hk1
        rcases hq3 with hq3 | hq3 | hq3
        · subst hq3
          rw [show inB o.k 0 = false from rfl]
          clear hq k1
          go_wp2_with fail
          go_quiet (fail)
          go_wp2
          go_roundw
          case rel => exact ⟨1, by omega, rfl, rfl, below_drewN hbx _⟩
          case measure => simp [intOf]
        · subst hq3
          clear hq k0
          by_cases h1 : o.k = 1
          · rw [show inB o.k 1 = true by simp [inB, h1]]
            have Hk := hyd h1
            clear h1
            go_wp2_with fail
            go_quiet (fail)
            go_wp2
            go_roundw
            case rel => exact ⟨2, by omega, by simp [inB, Hk.out], rfl, below_drewN hbx _⟩
            case measure => simp [intOf]
          · rw [show inB o.k 1 = false by simp [inB, h1]]
            have Hk := hyd h1
            clear h1
            go_wp2_with fail
            go_quiet (fail)
            go_wp2
            go_roundw
            case rel => exact ⟨2, by omega, by simp [inB, Hk.out], rfl, below_drewN hbx _⟩
            case measure => simp [intOf]
        · subst hq3
          clear hq k0 k1
          by_cases h1 : o.k = 1 ∨ o.k = 2
          · rw [show inB o.k 2 = true by rcases h1 with h1 | h1 <;> simp [inB, h1]]
            have c1 := (hbx.cell (p := ⟨b, off + k * 7 + 1, none⟩) hbw).trans ((hb.cell (p := ⟨b, off + k * 7 + 1, none⟩) hblt).trans HC.out.2.1)
            have c2 := (hbx.cell (p := ⟨b, off + k * 7 + 2, none⟩) hbw).trans ((hb.cell (p := ⟨b, off + k * 7 + 2, none⟩) hblt).trans HC.out.2.2.1)
            have c3 := (hbx.cell (p := ⟨b, off + k * 7 + 3, none⟩) hbw).trans ((hb.cell (p := ⟨b, off + k * 7 + 3, none⟩) hblt).trans HC.out.2.2.2.1)
            have c4 := (hbx.cell (p := ⟨b, off + k * 7 + 4, none⟩) hbw).trans ((hb.cell (p := ⟨b, off + k * 7 + 4, none⟩) hblt).trans HC.out.2.2.2.2.1)
            have c5 := (hbx.cell (p := ⟨b, off + k * 7 + 5, none⟩) hbw).trans ((hb.cell (p := ⟨b, off + k * 7 + 5, none⟩) hblt).trans HC.out.2.2.2.2.2.1)
            have c6 := (hbx.cell (p := ⟨b, off + k * 7 + 6, none⟩) hbw).trans ((hb.cell (p := ⟨b, off + k * 7 + 6, none⟩) hblt).trans HC.out.2.2.2.2.2.2)
            have Hk := hyd h1
            clear h1
            have HB2 : Hid (Below w.heap.size w wr) := hb.trans (hbx.mono hb.size)
            have HI2 := hyd (HI.out.up hbx)
            have HO2 := hyd (HOk.out.up (Nat.le_refl _) HB2.out)
            go_wp2_with fail
            refine (step_any (o := o) HO2.out Hk.out HI2.out (by omega) hbx.size).mono ?_
            rintro e w3 ⟨rfl, ⟨es3, hI3, hes3⟩, hb3⟩
            have HI3 := hyd hI3
            have HB3 := hyd (HB2.out.trans hb3)
            clear hI3 hb3 c0 c1 c2 c3 c4 c5 c6
            go_wp2_with fail
            refine (looks_any HI3.out (by omega) (Nat.le_refl _)).mono ?_
            rintro e w4 ⟨rfl, hb4⟩
            have HI4 := hyd ((HI3.out.up hb4).wide hb4.size)
            have HB4 := hyd (HB3.out.trans (hb4.mono HB3.out.size))
            clear hb4
            go_wp2
            go_roundw
            case rel => exact ⟨k + 1, es3, by omega, by go_num, HI4.out, by omega, HB4.out⟩
            case measure => simp [intOf]; omega
          · rw [show inB o.k 2 = false by simp only [not_or] at h1; simp [inB, h1.1, h1.2]]
            clear h1
            have HB2 : Hid (Below w.heap.size w wr) := hb.trans (hbx.mono hb.size)
            have HI2 := hyd ((HI.out.up hbx).wide hbx.size)
            go_wp2
            go_roundw
            case rel => exact ⟨k + 1, es, by omega, by go_num, HI2.out, by omega, HB2.out⟩
            case measure => simp [intOf]; omega
    · go_wp2
      go_ret
      exact ⟨rfl, hb⟩

theorem plays_any {w : World} {v : Value} {l : List Opv} {kb kcap : Nat} (h : SeesO w v l) (hkb : kb < w.heap.size) (hk0 : w.cell? ⟨kb, 0, none⟩ = some (.int .i64 1)) (hk1 : w.cell? ⟨kb, 1, none⟩ = some (.int .i64 2)) :
    Calls Tryz.prog 9 #[v, .slice (some ⟨kb, 0, none⟩) 2 kcap] w fun e w' => e = .returned (.bool true) ∧ Below w.heap.size w w' := by
  obtain ⟨hm, hok, h⟩ := h
  rcases h with ⟨rfl, ao, cap, rfl⟩ | ⟨b, off, cap, rfl, hlt, hc⟩
  · exact plays_at _ 0 [] ao cap kb kcap rfl rfl (by omega) w hok hkb hk0 hk1 (.inl rfl)
  · exact plays_at _ l.length l _ cap kb kcap rfl rfl hm w hok hkb hk0 hk1 (.inr ⟨b, off, rfl, hlt, hc⟩)

theorem SeesO.up {w w' : World} {v : Value} {l : List Opv} (h : SeesO w v l) (hb : Below w.heap.size w w') : SeesO w' v l := by
  obtain ⟨hm, hok, h⟩ := h
  refine ⟨hm, fun o ho => (hok o ho).up (Nat.le_refl _) hb, ?_⟩
  rcases h with h | ⟨b, off, cap, rfl, hlt, hc⟩
  · exact .inl h
  · refine .inr ⟨b, off, cap, rfl, Nat.lt_of_lt_of_le hlt hb.size, fun i o ho => ?_⟩
    obtain ⟨c0, c1, c2, c3, c4, c5, c6⟩ := hc i o ho
    exact ⟨(hb.cell hlt).trans c0, (hb.cell hlt).trans c1, (hb.cell hlt).trans c2, (hb.cell hlt).trans c3, (hb.cell hlt).trans c4, (hb.cell hlt).trans c5, (hb.cell hlt).trans c6⟩

set_option maxHeartbeats 400000 in
theorem codes_any {w : World} {v : Value} {l : List Opv} (h : SeesO w v l) :
    Calls Tryz.prog 3 #[v] w fun e w' => e = .returned (.bool true) ∧ Below w.heap.size w w' := by
  have HS := hyd (h.up ((Below.refl _ w).alloc (Nat.le_refl _) (.cells #[.int .i64 1, .int .i64 2] 3)))
  clear h
  go_enter Tryz.func3, Tryz.ntmps3
  go_wp2_with fail
  refine (plays_any HS.out (by simp) (by rw [cell_of_row _ w.heap.size 0 _ 3 (0, 0) (heap_alloc_new w _)]; rfl) (by rw [cell_of_row _ w.heap.size 1 _ 3 (0, 0) (heap_alloc_new w _)]; rfl)).mono ?_
  rintro e w1 ⟨rfl, hb1⟩
  have HB : Hid (Below w.heap.size w w1) := ((Below.refl _ w).alloc (Nat.le_refl _) _).trans (hb1.mono (by simp))
  clear hb1
  go_wp2
  go_ret
  exact ⟨rfl, HB.out⟩

end Go.Proofs.YtbhbacphiinpeaaGreat

/- How a script that came in reads: its steps, their kernels, and how great they can be. -/
namespace Go.Proofs.YtbhbacphiinpeaaGreat
open Go.RowKit

theorem Tryz.cells3 : Tryz.prog.cellsOf 3 = 1 := by kernel_rfl
theorem Tryz.cells9 : Tryz.prog.cellsOf 9 = 1 := by kernel_rfl
theorem Tryz.cells24 : Tryz.prog.cellsOf 24 = 1 := by kernel_rfl
theorem Tryz.cells35 : Tryz.prog.cellsOf 35 = 1 := by kernel_rfl
theorem Tryz.cells92 : Tryz.prog.cellsOf 92 = 4 := by kernel_rfl
theorem Tryz.cells37 : Tryz.prog.cellsOf 37 = 7 := by kernel_rfl
theorem Tryz.bytes92 : Tryz.prog.bytesOf 92 = 32 := by kernel_rfl
theorem Tryz.bytes37 : Tryz.prog.bytesOf 37 = 96 := by kernel_rfl

section
variable {H : Type} {enc : TypeId × Value → H} {w : World} {base : Nat} {spare : Nat → Bool} {held : Bool}

theorem list4 {cs : List Value} (h : cs.length = 4) : ∃ c0 c1 c2 c3, cs = [c0, c1, c2, c3] := by
  match cs, h with
  | [c0, c1, c2, c3], _ => exact ⟨c0, c1, c2, c3, rfl⟩
theorem list7 {cs : List Value} (h : cs.length = 7) : ∃ c0 c1 c2 c3 c4 c5 c6, cs = [c0, c1, c2, c3, c4, c5, c6] := by
  match cs, h with
  | [c0, c1, c2, c3, c4, c5, c6], _ => exact ⟨c0, c1, c2, c3, c4, c5, c6, rfl⟩

theorem some_at {α : Type} {xs : List α} {n j : Nat} (h : xs.length = n) (hj : j < n) : ∃ y, xs[j]? = some y := ⟨_, List.getElem?_eq_getElem (by omega)⟩

/-- The cells of an instruction. -/
theorem trod_ins {fuel : Nat} {cs : List Value} {x : DataW H × List MemPlace} (h : DataW.trod enc Tryz.prog w base spare held fuel 92 cs = some x) : ∃ y : Ins, cs = y.vals := by
  obtain ⟨xs, n, -, -, hl, hlen, hf⟩ := DataW.trod_struct Tryz.underlying92 h
  rw [Tryz.cells92] at hl
  obtain ⟨c0, c1, c2, c3, rfl⟩ := list4 hl
  · clear hl
    have f0 : DataW.trod enc Tryz.prog w base spare held n 3 [c0] = xs[0]? := by
      have e : DataW.trod enc Tryz.prog w base spare held n 3 ((([c0, c1, c2, c3] : List Value).drop 0).take (Tryz.prog.cellsOf 3)) = xs[0]? := hf 0 _ rfl
      rw [Tryz.cells3] at e
      exact e
    have f1 : DataW.trod enc Tryz.prog w base spare held n 3 [c1] = xs[1]? := by
      have e : DataW.trod enc Tryz.prog w base spare held n 3 ((([c0, c1, c2, c3] : List Value).drop 1).take (Tryz.prog.cellsOf 3)) = xs[1]? := hf 1 _ rfl
      rw [Tryz.cells3] at e
      exact e
    have f2 : DataW.trod enc Tryz.prog w base spare held n 3 [c2] = xs[2]? := by
      have e : DataW.trod enc Tryz.prog w base spare held n 3 ((([c0, c1, c2, c3] : List Value).drop 2).take (Tryz.prog.cellsOf 3)) = xs[2]? := hf 2 _ rfl
      rw [Tryz.cells3] at e
      exact e
    have f3 : DataW.trod enc Tryz.prog w base spare held n 3 [c3] = xs[3]? := by
      have e : DataW.trod enc Tryz.prog w base spare held n 3 ((([c0, c1, c2, c3] : List Value).drop 3).take (Tryz.prog.cellsOf 3)) = xs[3]? := hf 3 _ rfl
      rw [Tryz.cells3] at e
      exact e
    obtain ⟨y0, e0⟩ := some_at (j := 0) hlen (by simp)
    obtain ⟨y1, e1⟩ := some_at (j := 1) hlen (by simp)
    obtain ⟨y2, e2⟩ := some_at (j := 2) hlen (by simp)
    obtain ⟨y3, e3⟩ := some_at (j := 3) hlen (by simp)
    rw [e0] at f0
    rw [e1] at f1
    rw [e2] at f2
    rw [e3] at f3
    obtain ⟨z0, g0, -⟩ := DataW.trod_int Tryz.underlying3 f0
    obtain ⟨z1, g1, -⟩ := DataW.trod_int Tryz.underlying3 f1
    obtain ⟨z2, g2, -⟩ := DataW.trod_int Tryz.underlying3 f2
    obtain ⟨z3, g3, -⟩ := DataW.trod_int Tryz.underlying3 f3
    simp only [List.cons.injEq, and_true] at g0 g1 g2 g3
    subst g0
    subst g1
    subst g2
    subst g3
    exact ⟨⟨z0, z1, z2, z3⟩, rfl⟩

theorem add_plain (b off j : Nat) : (⟨b, off, none⟩ : Addr).add j = ⟨b, off + j, none⟩ := by unfold Addr.add; split <;> simp_all
theorem add_block (a : Addr) (j : Nat) : (a.add j).block = a.block := by unfold Addr.add; split <;> rfl
theorem add_spot (a : Addr) (j : Nat) (h : (a.add j).spot = none) (hj : j = 0) : a.spot = none := by subst hj; simpa [Addr.add] using h

theorem weights_all {P : Program} {e : TypeId} : ∀ {l : List (DataW H)} {d : DataW H}, d ∈ l → ∀ n ∈ d.weights P e, n ∈ DataW.weightsAll P e l
  | d0 :: l, d, hd, n, hn => by
    simp only [DataW.weightsAll, List.mem_append]
    rcases List.mem_cons.1 hd with rfl | hd
    · exact .inl hn
    · exact .inr (weights_all hd n hn)

/-- A slice of instructions that came in. -/
theorem trod_sees {fuel : Nat} {v : Value} {x : DataW H × List MemPlace} (hfull : ∀ b, spare b = true) (h : DataW.trod enc Tryz.prog w base spare held fuel 35 [v] = some x) (hR : ∀ n ∈ x.1.weights Tryz.prog 35, n ≤ reachBytes) :
    ∃ ao kn kc l, v = .slice ao kn kc ∧ (∀ n cap, Value.slice ao kn kc = .slice none n cap → cap = 0) ∧ l.length ≤ 4398046511103 ∧ Sees w (.slice ao kn kc) l := by
  rcases Go.Deep.open_slice Tryz.underlying35 h with ⟨h0, -⟩ | ⟨a, len, cap, m, n, D, Pl, h0, -, hl, -, hm, rfl, hel⟩
  · simp only [List.cons.injEq, and_true] at h0
    subst h0
    exact ⟨none, 0, 0, [], rfl, (fun n cap e => by cases e; rfl), by simp, by simp, .inl ⟨rfl, none, 0, rfl⟩⟩
  · simp only [List.cons.injEq, and_true] at h0
    subst h0
    rw [hfull] at hm
    simp only [if_true] at hm
    subst hm
    have hw := hR ((len + (m - len)) * 32) (by simp [DataW.weights, Tryz.underlying35, Tryz.bytes92])
    have hlen : len ≤ 4398046511103 := by unfold reachBytes at hw; omega
    rw [Tryz.cells92] at hel
    have hel2 : ∀ i, i < len → ∃ y : Ins, ∀ j, j < 4 → w.cell? ((a.add (i * 4)).add j) = y.vals[j]? := fun i hi => by
      obtain ⟨cs', h1, h2⟩ := hel i (by omega)
      obtain ⟨y, rfl⟩ := trod_ins h2
      exact ⟨y, (World.cells?_some h1).2.2⟩
    refine ⟨some a, len, m, ?_⟩
    by_cases hz : len = 0
    · subst hz
      exact ⟨[], rfl, (fun n cap e => by cases e), by simp, by simp, .inl ⟨rfl, some a, m, rfl⟩⟩
    · obtain ⟨b, off, spot⟩ := a
      have hs : spot = none := by
        obtain ⟨y, hy⟩ := hel2 0 (by omega)
        have := World.cell?_spot ((hy 0 (by omega)).trans (show y.vals[0]? = some (.int .i64 y.o) from rfl))
        simpa [Addr.add] using this
      subst hs
      haveI : Inhabited Ins := ⟨⟨0, 0, 0, 0⟩⟩
      obtain ⟨f, hf⟩ := Go.Deep.choose_lt hel2
      refine ⟨(List.range len).map f, rfl, (fun n cap e => by cases e), by simpa using hlen, by simp; omega, .inr ⟨b, off, m, by simp, ?_, fun i y hy => ?_⟩⟩
      · have h1 := (hf 0 (by omega) 0 (by omega)).trans (show (f 0).vals[0]? = some (.int .i64 (f 0).o) from rfl)
        have := World.block_lt_of_cell? w _ h1
        simpa [add_block] using this
      · have hi : i < len := by have := (List.getElem?_eq_some_iff.1 hy).1; simpa using this
        have hy2 : f i = y := by simpa [List.getElem?_map, List.getElem?_range hi] using hy
        subst hy2
        have key := hf i hi
        simp only [add_plain] at key
        exact ⟨key 0 (by omega), key 1 (by omega), key 2 (by omega), key 3 (by omega)⟩

/-- The cells of a step. -/
theorem trod_op {fuel : Nat} {cs : List Value} {x : DataW H × List MemPlace} (hfull : ∀ b, spare b = true) (h : DataW.trod enc Tryz.prog w base spare held fuel 37 cs = some x) (hR : ∀ n ∈ x.1.weights Tryz.prog 37, n ≤ reachBytes) :
    ∃ o : Opv, cs = [.int .i64 o.k, .int .i64 o.a, .int .i64 o.b, .int .i64 o.c, .string o.s, .slice o.la o.ln o.lc, .slice o.ka o.kn o.kc] ∧ OpOk w o := by
  obtain ⟨xs, n, -, hx, hl, hlen, hf⟩ := DataW.trod_struct Tryz.underlying37 h
  rw [Tryz.cells37] at hl
  have hR2 : ∀ (j : Nat) (y : DataW H × List MemPlace) (t : TypeId), xs[j]? = some y → ([3, 3, 3, 3, 9, 24, 35] : List TypeId)[j]? = some t → ∀ k ∈ y.1.weights Tryz.prog t, k ≤ reachBytes := fun j y t hy ht k hk => by
    refine hR k ?_
    rw [hx]
    simp only [DataW.weights, Tryz.underlying37]
    exact DataW.weights_mem_each (ts := [3, 3, 3, 3, 9, 24, 35]) (j := j) ht (by rw [List.getElem?_map, hy]; rfl) k hk
  obtain ⟨c0, c1, c2, c3, c4, c5, c6, rfl⟩ := list7 hl
  · clear hl
    have f0 : DataW.trod enc Tryz.prog w base spare held n 3 [c0] = xs[0]? := by
      have e : DataW.trod enc Tryz.prog w base spare held n 3 ((([c0, c1, c2, c3, c4, c5, c6] : List Value).drop 0).take (Tryz.prog.cellsOf 3)) = xs[0]? := hf 0 _ rfl
      rw [Tryz.cells3] at e
      exact e
    have f1 : DataW.trod enc Tryz.prog w base spare held n 3 [c1] = xs[1]? := by
      have e : DataW.trod enc Tryz.prog w base spare held n 3 ((([c0, c1, c2, c3, c4, c5, c6] : List Value).drop 1).take (Tryz.prog.cellsOf 3)) = xs[1]? := hf 1 _ rfl
      rw [Tryz.cells3] at e
      exact e
    have f2 : DataW.trod enc Tryz.prog w base spare held n 3 [c2] = xs[2]? := by
      have e : DataW.trod enc Tryz.prog w base spare held n 3 ((([c0, c1, c2, c3, c4, c5, c6] : List Value).drop 2).take (Tryz.prog.cellsOf 3)) = xs[2]? := hf 2 _ rfl
      rw [Tryz.cells3] at e
      exact e
    have f3 : DataW.trod enc Tryz.prog w base spare held n 3 [c3] = xs[3]? := by
      have e : DataW.trod enc Tryz.prog w base spare held n 3 ((([c0, c1, c2, c3, c4, c5, c6] : List Value).drop 3).take (Tryz.prog.cellsOf 3)) = xs[3]? := hf 3 _ rfl
      rw [Tryz.cells3] at e
      exact e
    have f4 : DataW.trod enc Tryz.prog w base spare held n 9 [c4] = xs[4]? := by
      have e : DataW.trod enc Tryz.prog w base spare held n 9 ((([c0, c1, c2, c3, c4, c5, c6] : List Value).drop 4).take (Tryz.prog.cellsOf 9)) = xs[4]? := hf 4 _ rfl
      rw [Tryz.cells9] at e
      exact e
    have f5 : DataW.trod enc Tryz.prog w base spare held n 24 [c5] = xs[5]? := by
      have e : DataW.trod enc Tryz.prog w base spare held n 24 ((([c0, c1, c2, c3, c4, c5, c6] : List Value).drop 5).take (Tryz.prog.cellsOf 24)) = xs[5]? := hf 5 _ rfl
      rw [Tryz.cells24] at e
      exact e
    have f6 : DataW.trod enc Tryz.prog w base spare held n 35 [c6] = xs[6]? := by
      have e : DataW.trod enc Tryz.prog w base spare held n 35 ((([c0, c1, c2, c3, c4, c5, c6] : List Value).drop 6).take (Tryz.prog.cellsOf 35)) = xs[6]? := hf 6 _ rfl
      rw [Tryz.cells35] at e
      exact e
    obtain ⟨y0, e0⟩ := some_at (j := 0) hlen (by simp)
    obtain ⟨y1, e1⟩ := some_at (j := 1) hlen (by simp)
    obtain ⟨y2, e2⟩ := some_at (j := 2) hlen (by simp)
    obtain ⟨y3, e3⟩ := some_at (j := 3) hlen (by simp)
    obtain ⟨y4, e4⟩ := some_at (j := 4) hlen (by simp)
    obtain ⟨y5, e5⟩ := some_at (j := 5) hlen (by simp)
    obtain ⟨y6, e6⟩ := some_at (j := 6) hlen (by simp)
    rw [e0] at f0
    rw [e1] at f1
    rw [e2] at f2
    rw [e3] at f3
    rw [e4] at f4
    rw [e5] at f5
    rw [e6] at f6
    obtain ⟨z0, g0, -⟩ := DataW.trod_int Tryz.underlying3 f0
    obtain ⟨z1, g1, -⟩ := DataW.trod_int Tryz.underlying3 f1
    obtain ⟨z2, g2, -⟩ := DataW.trod_int Tryz.underlying3 f2
    obtain ⟨z3, g3, -⟩ := DataW.trod_int Tryz.underlying3 f3
    obtain ⟨s, g4, hs, -⟩ := DataW.trod_string Tryz.underlying9 f4
    have hsz : s.size ≤ 140737488355328 := by
      have h1 := hR2 4 y4 9 e4 rfl s.data.toList.length (by rw [hs]; simp [DataW.weights])
      have h2 : s.data.toList.length = s.size := by simp
      unfold reachBytes at h1
      omega
    obtain ⟨ka, kn, kc, l, g6, hp, hl, hsee⟩ := trod_sees hfull f6 (hR2 6 y6 35 e6 rfl)
    obtain ⟨la, ln, lc, g5⟩ : ∃ a l c, c5 = .slice a l c := by
      rcases Go.Deep.open_slice Tryz.underlying24 f5 with ⟨h0, -⟩ | ⟨a, len, cap, m, n, D, Pl, h0, -⟩
      · simp only [List.cons.injEq, and_true] at h0
        exact ⟨_, _, _, h0⟩
      · simp only [List.cons.injEq, and_true] at h0
        exact ⟨_, _, _, h0⟩
    simp only [List.cons.injEq, and_true] at g0 g1 g2 g3 g4
    exact ⟨⟨z0, z1, z2, z3, s, la, ln, lc, ka, kn, kc⟩, by rw [g0, g1, g2, g3, g4, g5, g6], hsz, hp, l, hl, hsee⟩

/-- A script that came in. -/
theorem trod_script {fuel : Nat} {v : Value} {x : DataW H × List MemPlace} (hfull : ∀ b, spare b = true) (h : DataW.trod enc Tryz.prog w base spare held fuel 22 [v] = some x) (hR : ∀ n ∈ x.1.weights Tryz.prog 22, n ≤ reachBytes) : ∃ l, SeesO w v l := by
  rcases Go.Deep.open_slice Tryz.underlying22 h with ⟨h0, -⟩ | ⟨a, len, cap, m, n, D, Pl, h0, -, hl, -, hm, rfl, hel⟩
  · simp only [List.cons.injEq, and_true] at h0
    subst h0
    exact ⟨[], by simp, fun o ho => by simp at ho, .inl ⟨rfl, none, 0, rfl⟩⟩
  · simp only [List.cons.injEq, and_true] at h0
    subst h0
    rw [hfull] at hm
    simp only [if_true] at hm
    subst hm
    have hw := hR ((len + (m - len)) * 96) (by simp [DataW.weights, Tryz.underlying22, Tryz.bytes37])
    have hlen : len ≤ 1466015503700 := by unfold reachBytes at hw; omega
    rw [Tryz.cells37] at hel
    have hel2 : ∀ i, i < len → ∃ o : Opv, (∀ j, j < 7 → w.cell? ((a.add (i * 7)).add j) = [Value.int .i64 o.k, .int .i64 o.a, .int .i64 o.b, .int .i64 o.c, .string o.s, .slice o.la o.ln o.lc, .slice o.ka o.kn o.kc][j]?) ∧ OpOk w o := fun i hi => by
      obtain ⟨cs', h1, h2⟩ := hel i (by omega)
      obtain ⟨o, rfl, ho⟩ := trod_op hfull h2 (fun k hk => hR k (by
        simp only [DataW.weights, Tryz.underlying22]
        refine List.mem_cons_of_mem _ (List.mem_append_left _ (weights_all (List.mem_map.2 ⟨i, List.mem_range.2 hi, rfl⟩) k hk))))
      exact ⟨o, (World.cells?_some h1).2.2, ho⟩
    by_cases hz : len = 0
    · subst hz
      exact ⟨[], by simp, fun o ho => by simp at ho, .inl ⟨rfl, some a, m, rfl⟩⟩
    · obtain ⟨b, off, spot⟩ := a
      have hs : spot = none := by
        obtain ⟨o, hy, -⟩ := hel2 0 (by omega)
        have := World.cell?_spot ((hy 0 (by omega)).trans rfl)
        simpa [Addr.add] using this
      subst hs
      haveI : Inhabited Opv := ⟨⟨0, 0, 0, 0, ByteArray.empty, none, 0, 0, none, 0, 0⟩⟩
      obtain ⟨f, hf⟩ := Go.Deep.choose_lt hel2
      refine ⟨(List.range len).map f, by simpa using hlen, fun o ho => ?_, .inr ⟨b, off, m, by simp, ?_, fun i y hy => ?_⟩⟩
      · obtain ⟨i, hi, rfl⟩ := List.mem_map.1 ho
        exact (hf i (List.mem_range.1 hi)).2
      · have h1 := ((hf 0 (by omega)).1 0 (by omega)).trans rfl
        have := World.block_lt_of_cell? w _ h1
        simpa [add_block] using this
      · have hi : i < len := by have := (List.getElem?_eq_some_iff.1 hy).1; simpa using this
        have hy2 : f i = y := by simpa [List.getElem?_map, List.getElem?_range hi] using hy
        subst hy2
        have key := (hf i hi).1
        simp only [add_plain] at key
        exact ⟨key 0 (by omega), key 1 (by omega), key 2 (by omega), key 3 (by omega), key 4 (by omega), key 5 (by omega), key 6 (by omega)⟩

end
end Go.Proofs.YtbhbacphiinpeaaGreat

