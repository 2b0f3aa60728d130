/- What 'hangs' (of loomkeep) answers of the joins of a kernel with one Exit. -/
import Derived.Test.YtbhbacphiinpeaaPa2
namespace Go.Proofs.Ytbhbacphiinpeaa
open Go.RowKit

def toZ (l : List Nat) : List Int := l.map fun (m : Nat) => (m : Int)
theorem toZ_length (l : List Nat) : (toZ l).length = l.length := by simp [toZ]
theorem natVals_z (l : List Nat) : natVals l = zVals (toZ l) := by simp [natVals, zVals, toZ]

theorem meetZ_nat (a b : List Nat) : meetZ (toZ a) (toZ b) = meetL a b := by
  unfold meetZ meetL toZ
  rw [List.find?_map]
  have e : ((fun x => decide (x ∈ b.map fun (m : Nat) => (m : Int))) ∘ fun (m : Nat) => (m : Int)) = fun x => decide (x ∈ b) := by
    funext x
    have e1 : ((x : Nat) : Int) ∈ b.map (fun (m : Nat) => (m : Int)) ↔ x ∈ b := by
      rw [List.mem_map]
      exact ⟨fun ⟨y, h1, h2⟩ => by have : y = x := by omega
                                   rw [← this]; exact h1, fun h => ⟨x, h, rfl⟩⟩
    simp only [Function.comp, decide_eq_decide]
    exact e1
  rw [e]
  cases a.find? (fun x => decide (x ∈ b)) <;> rfl

/-- Two rows of numbers of one's own, met. -/
theorem meet_own {w : World} {g0 g1 c0 c1 n m base0 base1 : Nat} {la lb : List Nat} (hla : la.length = n) (hlb : lb.length = m) (hn : n ≤ 4000) (hm : m ≤ 4000) (h0 : w.ownsRow base0 3 1 (.slice (some ⟨g0, 0, none⟩) n c0) n (natVals la)) (h1 : w.ownsRow base1 3 1 (.slice (some ⟨g1, 0, none⟩) m c1) m (natVals lb)) :
    Calls Try.prog 34 #[.slice (some ⟨g0, 0, none⟩) n c0, .slice (some ⟨g1, 0, none⟩) m c1] w fun e w' => e = .returned (.int .i64 (meetL la lb)) ∧ Below w.heap.size w w' := by
  rw [← meetZ_nat]
  refine meet_some g0 0 g1 0 c0 c1 n m (toZ la) (toZ lb) (by rw [toZ_length, hla]) (by rw [toZ_length, hlb]) (by omega) (by omega) w (h0.lt _ rfl).2 (h1.lt _ rfl).2 (fun i x hx => ?_) (fun i x hx => ?_)
  · have hi := (List.getElem?_eq_some_iff.1 hx).1
    rw [toZ_length, hla] at hi
    rw [Nat.zero_add, h0.cellAt i (by omega), natVals_z]
    exact zVals_at hx
  · have hi := (List.getElem?_eq_some_iff.1 hx).1
    rw [toZ_length, hlb] at hi
    rw [Nat.zero_add, h1.cellAt i (by omega), natVals_z]
    exact zVals_at hx

theorem chain_pos (J : List Int) (f : Nat) (n : Int) (h : 0 ≤ n) : 1 ≤ (chainL J (f + 1) n).length := by
  rw [chainL, if_neg (by omega)]
  simp

theorem chain_le (J : List Int) : ∀ (f : Nat) (n : Int), (chainL J f n).length ≤ f
  | 0, _ => by simp [chainL]
  | f + 1, n => by
    rw [chainL]
    split
    · simp
    · simp only [List.length_cons]
      have := chain_le J f ((J[n.toNat]?).getD (-1))
      omega

set_option maxHeartbeats 2000000 in
set_option maxRecDepth 100000 in
theorem hangs_any {w : World} {b off n b1 o1 : Nat} {k : List Ins} {J : List Int} (cap cap1 : Nat) (h : KAt w b off n k) (hJ : Joined k J) (hb1 : b1 < w.heap.size)
    (hc : ∀ (i : Nat) x, J[i]? = some x → w.cell? ⟨b1, o1 + i, none⟩ = some (.int .i64 x)) :
    Calls Try.prog 14 #[.slice (some ⟨b, off, none⟩) n cap, .slice (some ⟨b1, o1, none⟩) n cap1] w fun e w' => e = .returned (.bool true) ∧ Below w.heap.size w w' := by
  have HK := hyd h
  have HJ := hyd hJ
  have Hc := hyd hc
  have hn40 : n ≤ 40 := h.2.2.1
  have hbw : b < w.heap.size := h.2.2.2.2.1
  have Hl : Hid (J.length = n) := hJ.are.1.trans h.1
  have HJb : Hid (∀ (i : Nat) j, J[i]? = some j → -1 ≤ j ∧ j < n) := fun i j hj => by
    have := hJ.each hj
    rw [h.1] at this
    exact ⟨this.2.1, this.2.2.1⟩
  clear h hJ hc
  have hn2 : (n : Int) ≤ 40 := by omega
  go_enter Try.func14, Try.ntmps14
  go_wp2_with fail
  go_loopw [5] (fun i wr => ∃ d : Nat, d ≤ n ∧ i = .int .i64 d ∧ Below w.heap.size w wr) (fun i _ => n - (intOf i).toNat)
  case atStart => exact ⟨0, Nat.zero_le _, rfl, Below.refl _ _⟩
  case round =>
    obtain ⟨m, hm, rfl, hb⟩ := hrel
    by_cases hmn : m < n
    · have m1 : (0 : Int) ≤ (m : Int) := by omega
      have m2 : (m : Int) < (n : Int) := by omega
      obtain ⟨x, hx⟩ : ∃ x, k[m]? = some x := ⟨_, List.getElem?_eq_getElem (by rw [HK.out.1]; exact hmn)⟩
      obtain ⟨j, hj⟩ : ∃ j, J[m]? = some j := ⟨_, List.getElem?_eq_getElem (by rw [Hl.out]; exact hmn)⟩
      have hxb : 0 ≤ x.b := HK.out.2.2.2.2.2.1 m x hx
      obtain ⟨c0, -, c2, -⟩ := HK.out.2.2.2.2.2.2 m x hx
      have d0 := (hb.cell (p := ⟨b, off + m * 4, none⟩) hbw).trans c0
      have d2 := (hb.cell (p := ⟨b, off + m * 4 + 2, none⟩) hbw).trans c2
      have d3 := (hb.cell (p := ⟨b1, o1 + m, none⟩) hb1).trans (Hc.out m j hj)
      have hnx : nxt k m = if x.o = 0 then [] else if x.o = 12 then [x.b.toNat] else if x.o = 13 then [x.b.toNat, m + 1] else [m + 1] := by unfold nxt; rw [hx]
      have Hnx := hyd hnx
      have Hx := hyd hx
      have Hj := hyd hj
      have hbn : ((x.b.toNat : Nat) : Int) = x.b := by omega
      have Hbn := hyd hbn
      have HB := hyd hb
      clear hx hj hnx hbn c0 c2
      by_cases h0 : x.o = 0
      · have t0 : (x.o == 0) = true := by rw [h0]; rfl
        have ej : j = -1 := by
          have e1 := (HJ.out.one m x Hx.out).1 h0
          have e2 := HJ.out.last e1
          rw [Hj.out] at e2
          injection e2
        subst ej
        clear h0
        go_wp2
        go_roundw
        case rel => exact ⟨m + 1, by omega, by go_num, HB.out⟩
        case measure => simp [intOf]; omega
      have hlt : Hid (m + 1 < k.length) := by
        have e1 : m + 1 ≠ k.length := fun e => h0 ((HJ.out.one m x Hx.out).2 e)
        have e2 := HK.out.1
        show m + 1 < k.length
        omega
      have t0 : (x.o == 0) = false := beq_eq_false_iff_ne.2 h0
      have H0 := hyd h0
      clear h0
      by_cases h12 : x.o = 12
      · have t1 : (x.o == 12) = true := by rw [h12]; rfl
        have ej : j = x.b := by
          have e1 := HJ.out.next hlt.out (m := x.b.toNat) (by rw [Hnx.out, if_neg H0.out, if_pos h12])
          rw [Hj.out, Hbn.out] at e1
          injection e1
        subst ej
        clear h12
        go_wp2
        go_roundw
        case rel => exact ⟨m + 1, by omega, by go_num, HB.out⟩
        case measure => simp [intOf]; omega
      have t1 : (x.o == 12) = false := beq_eq_false_iff_ne.2 h12
      have H12 := hyd h12
      clear h12
      by_cases h13 : x.o = 13
      · have t2 : (x.o == 13) = true := by rw [h13]; rfl
        have HM : Hid (j = meetL (chainL J (n + 1) x.b) (chainL J (n + 1) ((m : Int) + 1))) := by
          have e1 := HJ.out.meets hlt.out (a := x.b.toNat) (b := m + 1) (by rw [Hnx.out, if_neg H0.out, if_neg H12.out, if_pos h13])
          rw [Hj.out, Hbn.out, HK.out.1] at e1
          injection e1
        have hbl : x.b < n := by
          have e1 := HJ.out.closed m x.b.toNat (by rw [HK.out.1]; exact hmn) (by rw [Hnx.out, if_neg H0.out, if_neg H12.out, if_pos h13]; simp)
          rw [HK.out.1] at e1
          omega
        have hml : (m : Int) + 1 < n := by have := hlt.out; rw [HK.out.1] at this; omega
        clear h13
        have Hxb := hyd hxb
        have Hbl := hyd hbl
        have Hml := hyd hml
        clear hxb hbl hml
        go_wp2_with fail
        refine (chain_any b1 o1 cap1 n J Hl.out hn40 HJb.out _ (Nat.lt_of_lt_of_le hb1 hb.size) (fun i y hy => (hb.cell (p := ⟨b1, o1 + i, none⟩) hb1).trans (Hc.out i y hy)) x.b ⟨by have := Hxb.out; omega, Hbl.out⟩).mono ?_
        rintro e w2 ⟨v2, rfl, hown2, hb2⟩
        obtain ⟨L2, HL2⟩ : ∃ L, Hid (chainL J (n + 1) x.b = L) := ⟨_, rfl⟩
        obtain ⟨n2, Hn2⟩ : ∃ q, Hid (L2.length = q) := ⟨_, rfl⟩
        rw [HL2.out, Hn2.out] at hown2
        have q2 : 1 ≤ n2 ∧ n2 ≤ 41 := by
          rw [← Hn2.out, ← HL2.out]
          exact ⟨chain_pos J n x.b Hxb.out, Nat.le_trans (chain_le _ _ _) (by omega)⟩
        obtain ⟨g2, cc2, hv2, -, -⟩ := hown2.form (by omega)
        subst hv2
        have Hown2 := hyd hown2
        have HB2 := hyd (HB.out.trans (hb2.mono HB.out.size))
        have e3 := (hb2.cell (p := ⟨b1, o1 + m, none⟩) (Nat.lt_of_lt_of_le hb1 hb.size)).trans d3
        clear hown2 hb2 d0 d2 d3
        go_wp2_with fail
        refine (chain_any b1 o1 cap1 n J Hl.out hn40 HJb.out _ (Nat.lt_of_lt_of_le hb1 HB2.out.size) (fun i y hy => (HB2.out.cell (p := ⟨b1, o1 + i, none⟩) hb1).trans (Hc.out i y hy)) ((m : Int) + 1) ⟨by omega, Hml.out⟩).mono ?_
        rintro e w3 ⟨v3, rfl, hown3, hb3⟩
        obtain ⟨L3, HL3⟩ : ∃ L, Hid (chainL J (n + 1) ((m : Int) + 1) = L) := ⟨_, rfl⟩
        obtain ⟨n3, Hn3⟩ : ∃ q, Hid (L3.length = q) := ⟨_, rfl⟩
        rw [HL3.out, Hn3.out] at hown3
        have q3 : 1 ≤ n3 ∧ n3 ≤ 41 := by
          rw [← Hn3.out, ← HL3.out]
          exact ⟨chain_pos J n _ (by omega), Nat.le_trans (chain_le _ _ _) (by omega)⟩
        obtain ⟨g3, cc3, hv3, -, -⟩ := hown3.form (by omega)
        subst hv3
        have Hown3 := hyd hown3
        have Hown23 := hyd (Hown2.out.keptB hb3)
        have HB3 := hyd (HB2.out.trans (hb3.mono HB2.out.size))
        have e4 := (hb3.cell (p := ⟨b1, o1 + m, none⟩) (Nat.lt_of_lt_of_le hb1 HB2.out.size)).trans e3
        clear hown3 hb3 e3
        go_wp2_with fail
        refine (meet_own Hn2.out Hn3.out (by omega) (by omega) Hown23.out Hown3.out).mono ?_
        rintro e w4 ⟨rfl, hb4⟩
        have HMM : meetL L2 L3 = j := by rw [← HL2.out, ← HL3.out]; exact HM.out.symm
        rw [HMM]
        have e5 := (hb4.cell (p := ⟨b1, o1 + m, none⟩) (Nat.lt_of_lt_of_le hb1 HB3.out.size)).trans e4
        have HB4 := hyd (HB3.out.trans (hb4.mono HB3.out.size))
        clear hb4 e4 HMM
        go_wp2
        go_roundw
        case rel => exact ⟨m + 1, by omega, by go_num, HB4.out⟩
        case measure => simp [intOf]; omega
      have t2 : (x.o == 13) = false := beq_eq_false_iff_ne.2 h13
      have ej : j = (m : Int) + 1 := by
        have e1 := HJ.out.next hlt.out (m := m + 1) (by rw [Hnx.out, if_neg H0.out, if_neg H12.out, if_neg h13])
        rw [Hj.out] at e1
        injection e1
      subst ej
      clear h13
      go_wp2
      go_roundw
      case rel => exact ⟨m + 1, by omega, by go_num, HB.out⟩
      case measure => simp [intOf]; omega
    · go_wp2
      go_ret
      exact ⟨rfl, hb⟩

end Go.Proofs.Ytbhbacphiinpeaa
