/- What 'plays' answers of whatever kinds, if the steps and the looks keep what is to be kept. -/
import Derived.Test.YtbhbacphiinpeaaGreatX3
import Derived.Test.YtbhbacphiinpeaaGreatQ1
namespace Go.Proofs.YtbhbacphiinpeaaGreat
open Go.RowKit

/-- It is one of Go's 64 bit numbers. -/
def I64 (x : Int) : Prop := -9223372036854775808 ≤ x ∧ x ≤ 9223372036854775807

/-- What is known of a step that came in: its text, its kernel, its numbers. -/
def OpOk2 (w : World) (o : Opv) : Prop := (OpOk w o ∧ I64 o.k ∧ I64 o.a ∧ I64 o.b ∧ I64 o.c) ∧ (∀ n cap, Value.slice o.la o.ln o.lc = .slice none n cap → cap = 0) ∧ ∃ z, (z.length ≤ 17592186044415 ∧ ∀ x ∈ z, I64 x) ∧ SeesZ w (.slice o.la o.ln o.lc) z

theorem OpOk2.up {w w' : World} {o : Opv} {B : Nat} (h : OpOk2 w o) (hB : w.heap.size ≤ B) (hb : Below B w w') : OpOk2 w' o := by
  obtain ⟨h1, h2, l, h3, h4⟩ := h
  exact ⟨⟨h1.1.up hB hb, h1.2⟩, h2, l, h3, h4.up hB hb⟩

/-- The cells of the steps l, from (b, off) on. -/
def OpsAt (w : World) (b off : Nat) (l : List Opv) : Prop := ∀ (i : Nat) o, l[i]? = some o →
      w.cell? ⟨b, off + i * 7, none⟩ = some (.int .i64 o.k) ∧ w.cell? ⟨b, off + i * 7 + 1, none⟩ = some (.int .i64 o.a) ∧ w.cell? ⟨b, off + i * 7 + 2, none⟩ = some (.int .i64 o.b) ∧ w.cell? ⟨b, off + i * 7 + 3, none⟩ = some (.int .i64 o.c) ∧
      w.cell? ⟨b, off + i * 7 + 4, none⟩ = some (.string o.s) ∧ w.cell? ⟨b, off + i * 7 + 5, none⟩ = some (.slice o.la o.ln o.lc) ∧ w.cell? ⟨b, off + i * 7 + 6, none⟩ = some (.slice o.ka o.kn o.kc)

/-- The slice v, as the world w has it, reads as the steps l. -/
def SeesO2 (w : World) (v : Value) (l : List Opv) : Prop :=
  l.length ≤ 1466015503700 ∧ (∀ o ∈ l, OpOk2 w o) ∧ ((l = [] ∧ ∃ ao cap, v = .slice ao 0 cap) ∨ ∃ b off cap, v = .slice (some ⟨b, off, none⟩) l.length cap ∧ b < w.heap.size ∧ OpsAt w b off l)

theorem SeesO2.up {w w' : World} {v : Value} {l : List Opv} (h : SeesO2 w v l) (hb : Below w.heap.size w w') : SeesO2 w' v l := by
  obtain ⟨hm, hok, h⟩ := h
  refine ⟨hm, fun o ho => (hok o ho).up (Nat.le_refl _) hb, ?_⟩
  rcases h with h | ⟨b, off, cap, rfl, hlt, hc⟩
  · exact .inl h
  · refine .inr ⟨b, off, cap, rfl, Nat.lt_of_lt_of_le hlt hb.size, fun i o ho => ?_⟩
    obtain ⟨c0, c1, c2, c3, c4, c5, c6⟩ := hc i o ho
    exact ⟨(hb.cell hlt).trans c0, (hb.cell hlt).trans c1, (hb.cell hlt).trans c2, (hb.cell hlt).trans c3, (hb.cell hlt).trans c4, (hb.cell hlt).trans c5, (hb.cell hlt).trans c6⟩

/-- Is a step's kind among the first j of the kinds? -/
def inK (ks : List Int) (k : Int) (j : Nat) : Bool := (ks.take j).any (k == ·)

theorem inK_succ {ks : List Int} {k x : Int} {j : Nat} (h : ks[j]? = some x) : inK ks k (j + 1) = (inK ks k j || k == x) := by
  unfold inK
  rw [List.take_add_one, h]
  simp

theorem inK_all {ks : List Int} {k : Int} {n : Nat} (hn : ks.length = n) : inK ks k n = true ↔ k ∈ ks := by
  unfold inK
  rw [List.take_of_length_le (by omega)]
  simp

/-- What a script keeps from step to step: I w BW k, behind k steps, of the world's object at BW. -/
structure Keeps (ks : List Int) (I : World → Nat → Nat → Prop) : Prop where
  init : ∀ w : World, I (w.alloc (.cells #[.slice none 0 0, .slice none 0 0, .slice none 0 0, .slice none 0 0] 34)) w.heap.size 0
  up : ∀ {w w' : World} {BW k : Nat}, I w BW k → Below w.heap.size w w' → I w' BW k
  more : ∀ {w : World} {BW k : Nat}, I w BW k → I w BW (k + 1)
  step : ∀ {w : World} {BW k : Nat} {o : Opv}, OpOk2 w o → o.k ∈ ks → I w BW k → k ≤ 1466015503700 →
    Calls Tryz.prog 10 #[.pointer (some ⟨BW, 0, none⟩), o.agg] w fun e w' => e = .returned (.bool true) ∧ I w' BW (k + 1) ∧ Below BW w w'
  looks : ∀ {w : World} {BW k : Nat}, I w BW k → k ≤ 1466015503701 → Calls Tryz.prog 11 #[.pointer (some ⟨BW, 1, none⟩)] w fun e w' => e = .returned (.bool true) ∧ Below w.heap.size w w'

set_option maxHeartbeats 2000000 in
set_option maxRecDepth 100000 in
theorem plays_gen_at (ks : List Int) (m : Nat) (I : World → Nat → Nat → Prop) (K : Keeps ks I) (hks : ks.length = m) (hm9 : m ≤ 9) (n : Nat) (l : List Opv) (ao : Option Addr) (cap kb kcap : Nat) (hn : n = l.length) (hm : n ≤ 1466015503700) (w : World) (hok : ∀ o ∈ l, OpOk2 w o) (hkb : kb < w.heap.size)
    (hkk : ∀ (j : Nat) x, ks[j]? = some x → w.cell? ⟨kb, j, none⟩ = some (.int .i64 x))
    (hc : n = 0 ∨ ∃ b off, ao = some ⟨b, off, none⟩ ∧ b < w.heap.size ∧ OpsAt w b off l) :
    Calls Tryz.prog 9 #[.slice ao n cap, .slice (some ⟨kb, 0, none⟩) m kcap] w fun e w' => e = .returned (.bool true) ∧ Below w.heap.size w w' := by
  have Hn := hyd hn
  have Hok := hyd hok
  have Hc := hyd hc
  have HK := hyd K
  have Hks := hyd hks
  have Hkk := hyd hkk
  have HI0 := hyd (K.init w)
  clear hn hok hc K hks hkk
  have hm2 : (n : Int) ≤ 1466015503700 := by omega
  have hm92 : (m : Int) ≤ 9 := by omega
  go_enter Tryz.func9, Tryz.ntmps9
  go_wp2_with fail
  go_loopw [6] (fun i wr => ∃ k : Nat, k ≤ n ∧ i = .int .i64 k ∧ I wr w.heap.size k ∧ Below w.heap.size w wr) (fun i _ => n - (intOf i).toNat)
  case atStart => exact ⟨0, Nat.zero_le _, rfl, HI0.out, (Below.refl _ w).alloc (Nat.le_refl _) _⟩
  case round =>
    obtain ⟨k, hk, rfl, hI, hb⟩ := hrel
    have HI := hyd hI
    clear hI
    by_cases hkn : k < n
    · obtain ⟨o, ho⟩ : ∃ o, l[k]? = some o := ⟨_, List.getElem?_eq_getElem (by rw [← Hn.out]; exact hkn)⟩
      obtain ⟨b, off, hao, hblt, hcell⟩ : ∃ b off, ao = some ⟨b, off, none⟩ ∧ b < w.heap.size ∧ OpsAt w b off l := by
        rcases Hc.out with h0 | h
        · omega
        · exact h
      subst hao
      have HOk := hyd (Hok.out o (List.mem_of_getElem? ho))
      have HC := hyd (hcell k o ho)
      clear hcell ho
      have i1 : (0 : Int) ≤ (k : Int) := by omega
      have i2 : (k : Int) < (n : Int) := by omega
      have hbw : b < wr.heap.size := Nat.lt_of_lt_of_le hblt hb.size
      have hkw : kb < wr.heap.size := Nat.lt_of_lt_of_le hkb hb.size
      go_wp2_with fail
      go_loopw [7, 8] (fun t j wx => ∃ q : Nat, q ≤ m ∧ t = .bool (inK ks o.k q) ∧ j = .int .i64 q ∧ Below wr.heap.size wr wx) (fun _ j _ => m - (intOf j).toNat)
      case atStart => exact ⟨0, by omega, by simp [inK], rfl, Below.refl _ _⟩
      case round =>
        obtain ⟨q, hq, rfl, rfl, hbx⟩ := hrel
        by_cases hqm : q < m
        · obtain ⟨x, hx⟩ : ∃ x, ks[q]? = some x := ⟨_, List.getElem?_eq_getElem (by rw [Hks.out]; exact hqm)⟩
          have c0 := (hbx.cell (p := ⟨b, off + k * 7, none⟩) hbw).trans ((hb.cell (p := ⟨b, off + k * 7, none⟩) hblt).trans HC.out.1)
          have k0 := (hbx.cell (p := ⟨kb, q, none⟩) hkw).trans ((hb.cell (p := ⟨kb, q, none⟩) hkb).trans (Hkk.out q x hx))
          have Hsucc := hyd (inK_succ (k := o.k) hx)
          clear hx
          have q1 : (0 : Int) ≤ (q : Int) := by omega
          have q2 : (q : Int) < (m : Int) := by omega
          rcases Bool.eq_false_or_eq_true (inK ks o.k q) with hin | hin
          · rw [hin] at Hsucc ⊢
            have HT : Hid (inK ks o.k (q + 1) = true) := by rw [Hsucc.out]; rfl
            clear hin Hsucc
            go_wp2_with fail
            go_quiet (fail)
            go_wp2
            go_roundw
            case rel => exact ⟨q + 1, by omega, by rw [HT.out], by go_num, below_drewN hbx _⟩
            case measure => simp [intOf]; omega
          · rw [hin] at Hsucc ⊢
            have HT : Hid (inK ks o.k (q + 1) = (o.k == x)) := by rw [Hsucc.out]; rfl
            clear hin Hsucc
            go_wp2_with fail
            go_quiet (fail)
            go_wp2
            go_roundw
            case rel => exact ⟨q + 1, by omega, by rw [HT.out], by go_num, below_drewN hbx _⟩
            case measure => simp [intOf]; omega
        · have hqe : q = m := by omega
          subst hqe
          rcases Bool.eq_false_or_eq_true (inK ks o.k q) with hin | hin
          · have Hk := hyd ((inK_all Hks.out).1 hin)
            rw [hin]
            clear hin
            have c1 := (hbx.cell (p := ⟨b, off + k * 7 + 1, none⟩) hbw).trans ((hb.cell (p := ⟨b, off + k * 7 + 1, none⟩) hblt).trans HC.out.2.1)
            have c0 := (hbx.cell (p := ⟨b, off + k * 7, none⟩) hbw).trans ((hb.cell (p := ⟨b, off + k * 7, none⟩) hblt).trans HC.out.1)
            have c2 := (hbx.cell (p := ⟨b, off + k * 7 + 2, none⟩) hbw).trans ((hb.cell (p := ⟨b, off + k * 7 + 2, none⟩) hblt).trans HC.out.2.2.1)
            have c3 := (hbx.cell (p := ⟨b, off + k * 7 + 3, none⟩) hbw).trans ((hb.cell (p := ⟨b, off + k * 7 + 3, none⟩) hblt).trans HC.out.2.2.2.1)
            have c4 := (hbx.cell (p := ⟨b, off + k * 7 + 4, none⟩) hbw).trans ((hb.cell (p := ⟨b, off + k * 7 + 4, none⟩) hblt).trans HC.out.2.2.2.2.1)
            have c5 := (hbx.cell (p := ⟨b, off + k * 7 + 5, none⟩) hbw).trans ((hb.cell (p := ⟨b, off + k * 7 + 5, none⟩) hblt).trans HC.out.2.2.2.2.2.1)
            have c6 := (hbx.cell (p := ⟨b, off + k * 7 + 6, none⟩) hbw).trans ((hb.cell (p := ⟨b, off + k * 7 + 6, none⟩) hblt).trans HC.out.2.2.2.2.2.2)
            have HB2 : Hid (Below w.heap.size w wr) := hb.trans (hbx.mono hb.size)
            have HI2 := hyd (HK.out.up HI.out hbx)
            have HO2 := hyd (HOk.out.up (Nat.le_refl _) HB2.out)
            go_wp2_with fail
            refine (HK.out.step (o := o) HO2.out Hk.out HI2.out (by omega)).mono ?_
            rintro e w3 ⟨rfl, hI3, hb3⟩
            have HI3 := hyd hI3
            have HB3 := hyd (HB2.out.trans hb3)
            clear hI3 hb3 c0 c1 c2 c3 c4 c5 c6
            go_wp2_with fail
            refine (HK.out.looks HI3.out (by omega)).mono ?_
            rintro e w4 ⟨rfl, hb4⟩
            have HI4 := hyd (HK.out.up HI3.out hb4)
            have HB4 := hyd (HB3.out.trans (hb4.mono HB3.out.size))
            clear hb4
            go_wp2
            go_roundw
            case rel => exact ⟨k + 1, by omega, by go_num, HI4.out, HB4.out⟩
            case measure => simp [intOf]; omega
          · rw [hin]
            clear hin
            have HB2 : Hid (Below w.heap.size w wr) := hb.trans (hbx.mono hb.size)
            have HI2 := hyd (HK.out.more (HK.out.up HI.out hbx))
            go_wp2
            go_roundw
            case rel => exact ⟨k + 1, by omega, by go_num, HI2.out, HB2.out⟩
            case measure => simp [intOf]; omega
    · go_wp2
      go_ret
      exact ⟨rfl, hb⟩

theorem plays_gen {ks : List Int} {I : World → Nat → Nat → Prop} (K : Keeps ks I) (hm9 : ks.length ≤ 9) {w : World} {v : Value} {l : List Opv} {kb kcap : Nat} (h : SeesO2 w v l) (hkb : kb < w.heap.size) (hkk : ∀ (j : Nat) x, ks[j]? = some x → w.cell? ⟨kb, j, none⟩ = some (.int .i64 x)) :
    Calls Tryz.prog 9 #[v, .slice (some ⟨kb, 0, none⟩) ks.length kcap] w fun e w' => e = .returned (.bool true) ∧ Below w.heap.size w w' := by
  obtain ⟨hm, hok, h⟩ := h
  rcases h with ⟨rfl, ao, cap, rfl⟩ | ⟨b, off, cap, rfl, hlt, hc⟩
  · exact plays_gen_at ks _ I K rfl hm9 0 [] ao cap kb kcap rfl (by omega) w hok hkb hkk (.inl rfl)
  · exact plays_gen_at ks _ I K rfl hm9 l.length l _ cap kb kcap rfl hm w hok hkb hkk (.inr ⟨b, off, rfl, hlt, hc⟩)

end Go.Proofs.YtbhbacphiinpeaaGreat
