/- What 'Passed' answers, if the program's Joins keeps its contract (JoinsOk). -/
import Derived.Test.YtbhbacphiinpeaaPa5
import Derived.Test.YtbhbacphiinpeaaJo
import Derived.Test.YtbhbacphiinpeaaKr
import Derived.Test.YtbhbacphiinpeaaM8
import Derived.Test.YtbhbacphiinpeaaD
import Derived.Test.YtbhbacphiinpeaaBack
namespace Go.Proofs.Ytbhbacphiinpeaa
open Go.RowKit

/-- 'first' of a row of one's own, from i on. -/
theorem first_own {w : World} {base g n cap i q : Nat} {L : List Nat} (hL : L.length = n) (hn : n ≤ 4000) (hq : i + q = n) (h : w.ownsRow base 3 1 (.slice (some ⟨g, 0, none⟩) n cap) n (natVals L)) (x : Int) (cc : Nat) :
    Calls Try.prog 16 #[.slice (some ⟨g, i, none⟩) q cc, .int .i64 x] w fun e w' => (∃ r, e = .returned (.int .i64 r) ∧ FirstIs (toZ (L.drop i)) x r) ∧ Below w.heap.size w w' := by
  refine first_at_some g i cc q (toZ (L.drop i)) x (by rw [toZ_length, List.length_drop, hL]; omega) (by omega) w (h.lt _ rfl).2 (fun j y hy => ?_)
  obtain ⟨m, h1, rfl⟩ := toZ_at.1 hy
  rw [List.getElem?_drop] at h1
  have hj := (List.getElem?_eq_some_iff.1 h1).1
  rw [hL] at hj
  rw [h.cellAt (i + j) (by omega)]
  exact nat_at h1

set_option maxHeartbeats 4000000 in
set_option maxRecDepth 100000 in
theorem passed_any' (HJ : JoinsOk) {w : World} {v0 v2 : Value} {l cl : List Int} (h0 : SeesI w v0 l) (fr : Int) (hf : -9223372036854775808 ≤ fr ∧ fr ≤ 9223372036854775807) (h2 : SeesI w v2 cl) :
    Calls Try.prog 4 #[v0, .int .i64 fr, v2] w fun e w' => e = .returned (.bool true) ∧ Below w.heap.size w w' := by
  have H := hyd h0
  have H2 := hyd h2
  have HJ' := hyd HJ
  clear h0 h2 HJ
  obtain ⟨K, HK⟩ : ∃ K, Hid (kern l false = K) := ⟨_, rfl⟩
  have Hchk : Hid (chk K = (0, 0)) := by rw [← HK.out]; exact kern_chk l false
  obtain ⟨n, Hn⟩ : ∃ n, Hid (K.length = n) := ⟨_, rfl⟩
  have hn : 2 ≤ n ∧ n ≤ 19 := by have := kern_len l false; rw [HK.out] at this; have := Hn.out; omega
  obtain ⟨hn1, hn2⟩ := hn
  have hn3 : (n : Int) ≤ 19 := by omega
  have hn4 : 2 ≤ (n : Int) := by omega
  have Hdec := hyd (dchk_back Hchk.out)
  obtain ⟨S, HS⟩ : ∃ S, Hid (strOfNums (nums K) = S) := ⟨_, rfl⟩
  have Hsz : Hid (S.size = 4 * n) := by rw [← HS.out, ← Hn.out]; exact back_size K
  rw [HS.out] at Hdec
  go_enter Try.func4, Try.ntmps4
  go_wp2_with fail
  refine (kernel_any false H.out).mono ?_
  rw [HK.out, Hn.out]
  rintro e w1 ⟨vk, rfl, hown1, hb1⟩
  obtain ⟨g, cap, hvk, hg1, hg2⟩ := hown1.form (by omega)
  subst hvk
  have HKA := hyd (kAt_owned Hchk.out Hn.out hown1)
  have Hsee1 : Hid (Sees w1 (.slice (some ⟨g, 0, none⟩) n cap) K) := ownsRow_sees (by rw [Hn.out]; omega) (by rw [Hn.out]; exact hown1)
  have HB1 := hyd hb1
  clear hown1 hb1
  go_wp2_with fail
  refine (Encode_any Hsee1.out).mono ?_
  rw [show encR K = S by unfold encR; rw [Hchk.out]; exact HS.out, Hchk.out]
  rintro e w2 ⟨rfl, hb2⟩
  have HKA2 := hyd (HKA.out.up (Nat.le_refl _) hb2)
  have HB2 := hyd (HB1.out.trans (hb2.mono HB1.out.size))
  clear hb2 HKA Hsee1
  go_wp2_with fail
  refine (HJ'.out S (by have := Hsz.out; omega) w2).mono ?_
  rintro e w3 ⟨v3, J, rfl, hb3, hown3, hyes, -⟩
  rw [Hdec.out.1]
  have hJA := hyes (by rw [Hdec.out.1])
  rw [Hdec.out.2] at hJA
  have HJd : Hid (Joined K J) := by
    have h1 := hJA
    rw [← HK.out] at h1 ⊢
    exact kern_joined l false h1
  have HJl : Hid (J.length = n) := hJA.1.trans Hn.out
  rw [HJl.out] at hown3
  obtain ⟨g3, cap3, hv3, -, -⟩ := hown3.form (by omega)
  subst hv3
  have HKA3 := hyd (HKA2.out.up (Nat.le_refl _) hb3)
  have Hcell3 : Hid (∀ (i : Nat) x, J[i]? = some x → w3.cell? ⟨g3, 0 + i, none⟩ = some (.int .i64 x)) := fun i x hx => by
    have hi := (List.getElem?_eq_some_iff.1 hx).1
    rw [HJl.out] at hi
    rw [Nat.zero_add, hown3.cellAt i (by omega)]
    exact zVals_at hx
  have hg3 : g3 < w3.heap.size := (hown3.lt _ rfl).2
  have HB3 := hyd (HB2.out.trans (hb3.mono HB2.out.size))
  clear hown3 hb3 hyes hJA HKA2
  go_wp2_with fail
  go_loopw [15] (fun i wr => ∃ m : Nat, m ≤ n ∧ i = .int .i64 m ∧ Below w3.heap.size w3 wr) (fun i _ => n - (intOf i).toNat)
  case atStart => exact ⟨0, Nat.zero_le _, rfl, Below.refl _ _⟩
  case round =>
    obtain ⟨m, hm, rfl, hb⟩ := hrel
    by_cases hmn : m < n
    · obtain ⟨j, hj⟩ : ∃ j, J[m]? = some j := ⟨_, List.getElem?_eq_getElem (by rw [HJl.out]; exact hmn)⟩
      have d0 := (hb.cell (p := ⟨g3, m, none⟩) hg3).trans (show w3.cell? ⟨g3, m, none⟩ = some (.int .i64 j) from by have h9 := Hcell3.out m j hj; rw [Nat.zero_add] at h9; exact h9)
      obtain ⟨e1, e2, e3, e4⟩ := HJd.out.each hj
      rw [Hn.out] at e1 e3
      have m1 : (0 : Int) ≤ (m : Int) := by omega
      have m2 : (m : Int) < (n : Int) := by omega
      have t1 : (j == -1) = ((m : Int) == (n : Int) - 1) := by
        rw [Bool.eq_iff_iff]
        simp only [beq_iff_eq]
        rw [e1]
        omega
      have t2 : decide (j < -1) = false := by simp; omega
      have t3 : decide ((n : Int) ≤ j) = false := by simp; omega
      have t4 : (j == (m : Int)) = false := beq_eq_false_iff_ne.2 e4
      clear e1 e2 e3 e4 hj
      go_wp2
      go_roundw
      case rel => exact ⟨m + 1, by omega, by go_num, hb⟩
      case measure => simp [intOf]; omega
    · have HBr := hyd hb
      go_wp2_with fail
      refine (hangs_any cap cap3 (HKA3.out.up (Nat.le_refl _) hb) HJd.out (Nat.lt_of_lt_of_le hg3 hb.size) (fun i x hx => (hb.cell (p := ⟨g3, 0 + i, none⟩) hg3).trans (Hcell3.out i x hx))).mono ?_
      rintro e w4 ⟨rfl, hb4⟩
      have HB4 := hyd (HBr.out.trans (hb4.mono HBr.out.size))
      clear hb4 hb
      go_wp2_with fail
      refine (pick_any fr _ n rfl hf (by omega) (by omega) _).mono ?_
      rintro e w5 ⟨rfl, rfl⟩
      obtain ⟨s, Hs⟩ : ∃ s, Hid (pickN fr n = s) := ⟨_, rfl⟩
      have hsn : s < n := by rw [← Hs.out]; exact pickN_lt _ _ (by omega)
      rw [Hs.out]
      go_wp2_with fail
      refine (walk_any cap (HKA3.out.up (Nat.le_refl _) HB4.out) s hsn (H2.out.up (Nat.le_refl _) (HB3.out.trans (HB4.out.mono HB3.out.size)))).mono ?_
      rintro e w6 ⟨u, P, r, rfl, hown6, hP, hway, hb6⟩
      have HB6 := hyd (HB4.out.trans (hb6.mono HB4.out.size))
      have HBw : Hid (Below w.heap.size w w6) := HB3.out.trans (HB6.out.mono HB3.out.size)
      cases r with
      | false =>
        clear hway hown6
        go_wp2
        go_ret
        exact ⟨rfl, HBw.out⟩
      | true =>
        have HW := hyd (hway rfl)
        obtain ⟨q, Hq⟩ : ∃ q, Hid (P.length = q) := ⟨_, rfl⟩
        rw [Hq.out] at hown6 hP
        obtain ⟨g6, cap6, hv6, -, -⟩ := hown6.form (by omega)
        subst hv6
        have hcap6 : q + 1 ≤ cap6 := by
          rcases hown6.2 with ⟨h0, -⟩ | ⟨g', cap', cur, hv, -, -, hc, -⟩
          · cases h0
          · cases hv; exact hc
        have hg6 : g6 < w6.heap.size := (hown6.lt _ rfl).2
        have Hown6 := hyd hown6
        clear hown6 hway hb6
        have hq2 : (q : Int) ≤ 400 := by omega
        have hcap62 : (q : Int) + 1 ≤ (cap6 : Int) := by omega
        go_wp2_with fail
        go_loopw [19] (fun i wx => ∃ m : Nat, m ≤ q ∧ i = .int .i64 m ∧ Below w6.heap.size w6 wx) (fun i _ => q - (intOf i).toNat)
        case atStart => exact ⟨0, Nat.zero_le _, rfl, Below.refl _ _⟩
        case round =>
          obtain ⟨m, hm6, rfl, hbx⟩ := hrel
          have HBx : Hid (Below w.heap.size w wr) := HBw.out.trans (hbx.mono HBw.out.size)
          by_cases hmq : m < q
          · obtain ⟨a, ha⟩ : ∃ a, (s :: P)[m]? = some a := ⟨_, List.getElem?_eq_getElem (by rw [List.length_cons, Hq.out]; omega)⟩
            obtain ⟨ha1, d, hd, hdl, hfirst⟩ := HJd.out.drawn (by rw [Hn.out]; exact hsn) HW.out (by rw [Hq.out]; exact hmq) ha
            rw [Hn.out] at ha1 hdl
            have Hfirst := hyd hfirst
            have HB63 : Hid (Below w3.heap.size w3 wr) := HB6.out.trans (hbx.mono HB6.out.size)
            have Hownx := hyd (Hown6.out.keptB hbx)
            have d6 : wr.cell? ⟨g6, m, none⟩ = some (.int .i64 (a : Int)) := (Hownx.out.cellAt m (by omega)).trans (nat_at ha)
            have d3 : wr.cell? ⟨g3, a, none⟩ = some (.int .i64 (d : Int)) := (HB63.out.cell (p := ⟨g3, a, none⟩) hg3).trans (show w3.cell? ⟨g3, a, none⟩ = some (.int .i64 (d : Int)) from by have h9 := Hcell3.out a d hd; rw [Nat.zero_add] at h9; exact h9)
            have m1 : (0 : Int) ≤ (m : Int) := by omega
            have m2 : (m : Int) < (q : Int) := by omega
            have a1 : (0 : Int) ≤ (a : Int) := by omega
            have a2 : (a : Int) + 1 < (n : Int) := by omega
            have dd1 : (0 : Int) ≤ (d : Int) := by omega
            have dd2 : (d : Int) < (n : Int) := by omega
            clear ha hd hfirst hdl
            go_wp2_with fail
            refine (first_own (L := s :: P) (n := q + 1) (i := m) (q := q + 1 - m) (by rw [List.length_cons, Hq.out]) (by omega) (by omega) Hownx.out (d : Int) _).mono ?_
            rintro e w7 ⟨⟨z, rfl, hz⟩, hb7⟩
            obtain ⟨z0, hrest⟩ := Hfirst.out z hz
            have Hrest := hyd hrest
            have tz : decide (z < 0) = false := by simp; omega
            have HB7 : Hid (Below w6.heap.size w6 w7) := hbx.trans (hb7.mono hbx.size)
            have HBw7 : Hid (Below w.heap.size w w7) := HBx.out.trans (hb7.mono HBx.out.size)
            have HB73 := hyd (HB63.out.trans (hb7.mono HB63.out.size))
            have Hownx7 := hyd (Hownx.out.keptB hb7)
            have d62 : w7.cell? ⟨g6, m, none⟩ = some (.int .i64 (a : Int)) := (hb7.cell (p := ⟨g6, m, none⟩) (Nat.lt_of_lt_of_le hg6 hbx.size)).trans d6
            have d32 : w7.cell? ⟨g3, a, none⟩ = some (.int .i64 (d : Int)) := (hb7.cell (p := ⟨g3, a, none⟩) (Nat.lt_of_lt_of_le hg3 HB63.out.size)).trans d3
            clear hz hrest hb7 d6 d3 z0
            by_cases hde : d + 1 = n
            · have t5 : ((d : Int) != (n : Int) - 1) = false := by simp; omega
              go_wp2
              go_roundw
              case rel => exact ⟨m + 1, by omega, by go_num, HB7.out⟩
              case measure => simp [intOf]; omega
            · have t5 : ((d : Int) != (n : Int) - 1) = true := by simp; omega
              obtain ⟨y, hy, hyz⟩ := Hrest.out (by rw [Hn.out]; exact hde)
              have Hyz := hyd hyz
              have d33 : w7.cell? ⟨g3, d, none⟩ = some (.int .i64 (y : Int)) := (HB73.out.cell (p := ⟨g3, d, none⟩) hg3).trans (show w3.cell? ⟨g3, d, none⟩ = some (.int .i64 (y : Int)) from by have h9 := Hcell3.out d y hy; rw [Nat.zero_add] at h9; exact h9)
              clear hy hyz
              go_wp2_with fail
              refine (first_own (L := s :: P) (n := q + 1) (i := m) (q := q + 1 - m) (by rw [List.length_cons, Hq.out]) (by omega) (by omega) Hownx7.out (y : Int) _).mono ?_
              rintro e w8 ⟨⟨u, rfl, hu⟩, hb8⟩
              have hzu := Hyz.out u hu
              have tu : decide (u < z) = false := by simp; omega
              have HB8 := hyd (HB7.out.trans (hb8.mono HB7.out.size))
              clear hu hb8 hzu d62 d32 d33
              go_wp2
              go_roundw
              case rel => exact ⟨m + 1, by omega, by go_num, HB8.out⟩
              case measure => simp [intOf]; omega
          · go_wp2
            go_ret
            exact ⟨rfl, HBx.out⟩

end Go.Proofs.Ytbhbacphiinpeaa
