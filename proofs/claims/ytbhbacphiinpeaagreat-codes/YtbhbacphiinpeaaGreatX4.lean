/- What 'plays' answers of the kinds 1 and 2, and what 'Codes' answers. -/
import Derived.Test.YtbhbacphiinpeaaGreatX3
namespace Go.Proofs.YtbhbacphiinpeaaGreat
open Go.RowKit

/-- The slice v, as the world w has it, reads as the steps l. -/
def SeesO (w : World) (v : Value) (l : List Opv) : Prop :=
  l.length ≤ 1466015503700 ∧ (∀ o ∈ l, OpOk w o) ∧ ((l = [] ∧ ∃ ao cap, v = .slice ao 0 cap) ∨
    ∃ b off cap, v = .slice (some ⟨b, off, none⟩) l.length cap ∧ b < w.heap.size ∧ ∀ (i : Nat) o, l[i]? = some o →
      w.cell? ⟨b, off + i * 7, none⟩ = some (.int .i64 o.k) ∧ w.cell? ⟨b, off + i * 7 + 1, none⟩ = some (.int .i64 o.a) ∧ w.cell? ⟨b, off + i * 7 + 2, none⟩ = some (.int .i64 o.b) ∧ w.cell? ⟨b, off + i * 7 + 3, none⟩ = some (.int .i64 o.c) ∧
      w.cell? ⟨b, off + i * 7 + 4, none⟩ = some (.string o.s) ∧ w.cell? ⟨b, off + i * 7 + 5, none⟩ = some (.slice o.la o.ln o.lc) ∧ w.cell? ⟨b, off + i * 7 + 6, none⟩ = some (.slice o.ka o.kn o.kc))

/-- Is a step's kind among the first j of the kinds 1 and 2? -/
def inB (k : Int) (j : Nat) : Bool := if j = 0 then false else if j = 1 then k == 1 else (k == 1 || k == 2)

theorem inv0 (w : World) : Inv (w.alloc (.cells #[.slice none 0 0, .slice none 0 0, .slice none 0 0, .slice none 0 0] 34)) (w.heap.size + 1) w.heap.size [] :=
  ⟨.slice none 0 0, heap_alloc_new w _, World.ownsRow_nil _ _ _ _, fun g hg => by simp [Value.ownBlock] at hg, by omega, fun e he => by simp at he⟩

set_option maxHeartbeats 2000000 in
set_option maxRecDepth 100000 in
theorem plays_at (v : Value) (n : Nat) (l : List Opv) (ao : Option Addr) (cap kb kcap : Nat) (hv : v = .slice ao n cap) (hn : n = l.length) (hm : n ≤ 1466015503700) (w : World) (hok : ∀ o ∈ l, OpOk w o) (hkb : kb < w.heap.size)
    (hk0 : w.cell? ⟨kb, 0, none⟩ = some (.int .i64 1)) (hk1 : w.cell? ⟨kb, 1, none⟩ = some (.int .i64 2))
    (hc : n = 0 ∨ ∃ b off, ao = some ⟨b, off, none⟩ ∧ b < w.heap.size ∧ ∀ (i : Nat) o, l[i]? = some o →
      w.cell? ⟨b, off + i * 7, none⟩ = some (.int .i64 o.k) ∧ w.cell? ⟨b, off + i * 7 + 1, none⟩ = some (.int .i64 o.a) ∧ w.cell? ⟨b, off + i * 7 + 2, none⟩ = some (.int .i64 o.b) ∧ w.cell? ⟨b, off + i * 7 + 3, none⟩ = some (.int .i64 o.c) ∧
      w.cell? ⟨b, off + i * 7 + 4, none⟩ = some (.string o.s) ∧ w.cell? ⟨b, off + i * 7 + 5, none⟩ = some (.slice o.la o.ln o.lc) ∧ w.cell? ⟨b, off + i * 7 + 6, none⟩ = some (.slice o.ka o.kn o.kc)) :
    Calls Tryz.prog 9 #[v, .slice (some ⟨kb, 0, none⟩) 2 kcap] w fun e w' => e = .returned (.bool true) ∧ Below w.heap.size w w' := by
  subst hv
  have Hn := hyd hn
  have Hok := hyd hok
  have Hc := hyd hc
  have HI0 := hyd (inv0 w)
  clear hn hok hc
  have hm2 : (n : Int) ≤ 1466015503700 := by omega
  go_enter Tryz.func9, Tryz.ntmps9
  go_wp2_with fail
  go_loopw [6] (fun i wr => ∃ k : Nat, ∃ es, k ≤ n ∧ i = .int .i64 k ∧ Inv wr wr.heap.size w.heap.size es ∧ es.length ≤ k ∧ Below w.heap.size w wr) (fun i _ => n - (intOf i).toNat)
  case atStart => exact ⟨0, [], Nat.zero_le _, rfl, HI0.out.wide (by simp), Nat.le_refl _, (Below.refl _ w).alloc (Nat.le_refl _) _⟩
  case round =>
    obtain ⟨k, es, hk, rfl, hI, hes, hb⟩ := hrel
    have HI := hyd hI
    clear hI
    by_cases hkn : k < n
    · obtain ⟨o, ho⟩ : ∃ o, l[k]? = some o := ⟨_, List.getElem?_eq_getElem (by rw [← Hn.out]; exact hkn)⟩
      obtain ⟨b, off, hao, hblt, hcell⟩ : ∃ b off, ao = some ⟨b, off, none⟩ ∧ b < w.heap.size ∧ ∀ (i : Nat) o, l[i]? = some o →
          w.cell? ⟨b, off + i * 7, none⟩ = some (.int .i64 o.k) ∧ w.cell? ⟨b, off + i * 7 + 1, none⟩ = some (.int .i64 o.a) ∧ w.cell? ⟨b, off + i * 7 + 2, none⟩ = some (.int .i64 o.b) ∧ w.cell? ⟨b, off + i * 7 + 3, none⟩ = some (.int .i64 o.c) ∧
          w.cell? ⟨b, off + i * 7 + 4, none⟩ = some (.string o.s) ∧ w.cell? ⟨b, off + i * 7 + 5, none⟩ = some (.slice o.la o.ln o.lc) ∧ w.cell? ⟨b, off + i * 7 + 6, none⟩ = some (.slice o.ka o.kn o.kc) := by
        rcases Hc.out with h0 | h
        · omega
        · exact h
      subst hao
      have HOk := hyd (Hok.out o (List.mem_of_getElem? ho))
      have HC := hyd (hcell k o ho)
      clear hcell ho
      have i1 : (0 : Int) ≤ (k : Int) := by omega
      have i2 : (k : Int) < (n : Int) := by omega
      have hbw : b < wr.heap.size := Nat.lt_of_lt_of_le hblt hb.size
      have hkw : kb < wr.heap.size := Nat.lt_of_lt_of_le hkb hb.size
      go_wp2_with fail
      go_loopw [7, 8] (fun t j wx => ∃ q : Nat, q ≤ 2 ∧ t = .bool (inB o.k q) ∧ j = .int .i64 q ∧ Below wr.heap.size wr wx) (fun _ j _ => 2 - (intOf j).toNat)
      case atStart => exact ⟨0, by omega, rfl, rfl, Below.refl _ _⟩
      case round =>
        obtain ⟨q, hq, rfl, rfl, hbx⟩ := hrel
        have c0 := (hbx.cell (p := ⟨b, off + k * 7, none⟩) hbw).trans ((hb.cell (p := ⟨b, off + k * 7, none⟩) hblt).trans HC.out.1)
        have k0 := (hbx.cell (p := ⟨kb, 0, none⟩) hkw).trans ((hb.cell (p := ⟨kb, 0, none⟩) hkb).trans hk0)
        have k1 := (hbx.cell (p := ⟨kb, 1, none⟩) hkw).trans ((hb.cell (p := ⟨kb, 1, none⟩) hkb).trans hk1)
        have hq3 : q = 0 ∨ q = 1 ∨ q = 2 := by omega
        clear hk0 hk1
        rcases hq3 with hq3 | hq3 | hq3
        · subst hq3
          rw [show inB o.k 0 = false from rfl]
          clear hq k1
          go_wp2_with fail
          go_quiet (fail)
          go_wp2
          go_roundw
          case rel => exact ⟨1, by omega, rfl, rfl, below_drewN hbx _⟩
          case measure => simp [intOf]
        · subst hq3
          clear hq k0
          by_cases h1 : o.k = 1
          · rw [show inB o.k 1 = true by simp [inB, h1]]
            have Hk := hyd h1
            clear h1
            go_wp2_with fail
            go_quiet (fail)
            go_wp2
            go_roundw
            case rel => exact ⟨2, by omega, by simp [inB, Hk.out], rfl, below_drewN hbx _⟩
            case measure => simp [intOf]
          · rw [show inB o.k 1 = false by simp [inB, h1]]
            have Hk := hyd h1
            clear h1
            go_wp2_with fail
            go_quiet (fail)
            go_wp2
            go_roundw
            case rel => exact ⟨2, by omega, by simp [inB, Hk.out], rfl, below_drewN hbx _⟩
            case measure => simp [intOf]
        · subst hq3
          clear hq k0 k1
          by_cases h1 : o.k = 1 ∨ o.k = 2
          · rw [show inB o.k 2 = true by rcases h1 with h1 | h1 <;> simp [inB, h1]]
            have c1 := (hbx.cell (p := ⟨b, off + k * 7 + 1, none⟩) hbw).trans ((hb.cell (p := ⟨b, off + k * 7 + 1, none⟩) hblt).trans HC.out.2.1)
            have c2 := (hbx.cell (p := ⟨b, off + k * 7 + 2, none⟩) hbw).trans ((hb.cell (p := ⟨b, off + k * 7 + 2, none⟩) hblt).trans HC.out.2.2.1)
            have c3 := (hbx.cell (p := ⟨b, off + k * 7 + 3, none⟩) hbw).trans ((hb.cell (p := ⟨b, off + k * 7 + 3, none⟩) hblt).trans HC.out.2.2.2.1)
            have c4 := (hbx.cell (p := ⟨b, off + k * 7 + 4, none⟩) hbw).trans ((hb.cell (p := ⟨b, off + k * 7 + 4, none⟩) hblt).trans HC.out.2.2.2.2.1)
            have c5 := (hbx.cell (p := ⟨b, off + k * 7 + 5, none⟩) hbw).trans ((hb.cell (p := ⟨b, off + k * 7 + 5, none⟩) hblt).trans HC.out.2.2.2.2.2.1)
            have c6 := (hbx.cell (p := ⟨b, off + k * 7 + 6, none⟩) hbw).trans ((hb.cell (p := ⟨b, off + k * 7 + 6, none⟩) hblt).trans HC.out.2.2.2.2.2.2)
            have Hk := hyd h1
            clear h1
            have HB2 : Hid (Below w.heap.size w wr) := hb.trans (hbx.mono hb.size)
            have HI2 := hyd (HI.out.up hbx)
            have HO2 := hyd (HOk.out.up (Nat.le_refl _) HB2.out)
            go_wp2_with fail
            refine (step_any (o := o) HO2.out Hk.out HI2.out (by omega) hbx.size).mono ?_
            rintro e w3 ⟨rfl, ⟨es3, hI3, hes3⟩, hb3⟩
            have HI3 := hyd hI3
            have HB3 := hyd (HB2.out.trans hb3)
            clear hI3 hb3 c0 c1 c2 c3 c4 c5 c6
            go_wp2_with fail
            refine (looks_any HI3.out (by omega) (Nat.le_refl _)).mono ?_
            rintro e w4 ⟨rfl, hb4⟩
            have HI4 := hyd ((HI3.out.up hb4).wide hb4.size)
            have HB4 := hyd (HB3.out.trans (hb4.mono HB3.out.size))
            clear hb4
            go_wp2
            go_roundw
            case rel => exact ⟨k + 1, es3, by omega, by go_num, HI4.out, by omega, HB4.out⟩
            case measure => simp [intOf]; omega
          · rw [show inB o.k 2 = false by simp only [not_or] at h1; simp [inB, h1.1, h1.2]]
            clear h1
            have HB2 : Hid (Below w.heap.size w wr) := hb.trans (hbx.mono hb.size)
            have HI2 := hyd ((HI.out.up hbx).wide hbx.size)
            go_wp2
            go_roundw
            case rel => exact ⟨k + 1, es, by omega, by go_num, HI2.out, by omega, HB2.out⟩
            case measure => simp [intOf]; omega
    · go_wp2
      go_ret
      exact ⟨rfl, hb⟩

theorem plays_any {w : World} {v : Value} {l : List Opv} {kb kcap : Nat} (h : SeesO w v l) (hkb : kb < w.heap.size) (hk0 : w.cell? ⟨kb, 0, none⟩ = some (.int .i64 1)) (hk1 : w.cell? ⟨kb, 1, none⟩ = some (.int .i64 2)) :
    Calls Tryz.prog 9 #[v, .slice (some ⟨kb, 0, none⟩) 2 kcap] w fun e w' => e = .returned (.bool true) ∧ Below w.heap.size w w' := by
  obtain ⟨hm, hok, h⟩ := h
  rcases h with ⟨rfl, ao, cap, rfl⟩ | ⟨b, off, cap, rfl, hlt, hc⟩
  · exact plays_at _ 0 [] ao cap kb kcap rfl rfl (by omega) w hok hkb hk0 hk1 (.inl rfl)
  · exact plays_at _ l.length l _ cap kb kcap rfl rfl hm w hok hkb hk0 hk1 (.inr ⟨b, off, rfl, hlt, hc⟩)

theorem SeesO.up {w w' : World} {v : Value} {l : List Opv} (h : SeesO w v l) (hb : Below w.heap.size w w') : SeesO w' v l := by
  obtain ⟨hm, hok, h⟩ := h
  refine ⟨hm, fun o ho => (hok o ho).up (Nat.le_refl _) hb, ?_⟩
  rcases h with h | ⟨b, off, cap, rfl, hlt, hc⟩
  · exact .inl h
  · refine .inr ⟨b, off, cap, rfl, Nat.lt_of_lt_of_le hlt hb.size, fun i o ho => ?_⟩
    obtain ⟨c0, c1, c2, c3, c4, c5, c6⟩ := hc i o ho
    exact ⟨(hb.cell hlt).trans c0, (hb.cell hlt).trans c1, (hb.cell hlt).trans c2, (hb.cell hlt).trans c3, (hb.cell hlt).trans c4, (hb.cell hlt).trans c5, (hb.cell hlt).trans c6⟩

set_option maxHeartbeats 400000 in
theorem codes_any {w : World} {v : Value} {l : List Opv} (h : SeesO w v l) :
    Calls Tryz.prog 3 #[v] w fun e w' => e = .returned (.bool true) ∧ Below w.heap.size w w' := by
  have HS := hyd (h.up ((Below.refl _ w).alloc (Nat.le_refl _) (.cells #[.int .i64 1, .int .i64 2] 3)))
  clear h
  go_enter Tryz.func3, Tryz.ntmps3
  go_wp2_with fail
  refine (plays_any HS.out (by simp) (by rw [cell_of_row _ w.heap.size 0 _ 3 (0, 0) (heap_alloc_new w _)]; rfl) (by rw [cell_of_row _ w.heap.size 1 _ 3 (0, 0) (heap_alloc_new w _)]; rfl)).mono ?_
  rintro e w1 ⟨rfl, hb1⟩
  have HB : Hid (Below w.heap.size w w1) := ((Below.refl _ w).alloc (Nat.le_refl _) _).trans (hb1.mono (by simp))
  clear hb1
  go_wp2
  go_ret
  exact ⟨rfl, HB.out⟩

end Go.Proofs.YtbhbacphiinpeaaGreat
