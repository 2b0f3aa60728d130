/- What loomkeep's Spread answers: true. -/
import Derived.Test.YtbhbacphiinpeabBs
import Derived.Test.YtbhbacphiinpeabSb
import Derived.Deep.Cut
namespace Go.Proofs.Ytbhbacphiinpeab
open Go.RowKit

theorem lit_sees {w : World} {b : Nat} {k : List Ins} {cap n : Nat} (h : w.heap[b]? = some (.cells (flat k).toArray 26)) (hn : k.length = n) (hl : n ≤ 40) : Sees w (.slice (some ⟨b, 0, none⟩) n cap) k := by
  subst hn
  refine ⟨by omega, .inr ⟨b, 0, cap, rfl, blk_lt h, fun i x hx => ?_⟩⟩
  obtain ⟨a1, a2, a3, a4⟩ := flat_at hx
  refine ⟨?_, ?_, ?_, ?_⟩
  · rw [cell_of_row w b _ _ 26 _ h, List.getElem?_toArray, Nat.zero_add]; exact a1
  · rw [cell_of_row w b _ _ 26 _ h, List.getElem?_toArray, Nat.zero_add]; exact a2
  · rw [cell_of_row w b _ _ 26 _ h, List.getElem?_toArray, Nat.zero_add]; exact a3
  · rw [cell_of_row w b _ _ 26 _ h, List.getElem?_toArray, Nat.zero_add]; exact a4

theorem Sees.up {w w' : World} {v : Value} {l : List Ins} (h : Sees w v l) (hb : Below w.heap.size w w') : Sees w' v l :=
  h.later hb fun b off cap n hv hn => by
    rcases h.2 with ⟨-, ao, cap', hv'⟩ | ⟨b', off', cap', hv', hlt, -⟩
    · rw [hv'] at hv; cases hv; omega
    · rw [hv'] at hv; cases hv; exact hlt

theorem words_nil : wordsP [] = List.replicate 32 0 := by decide
theorem sees_nil (w : World) : SeesI w (.slice none 0 0) [] := ⟨by simp, fun i x hx => by simp at hx, .inl ⟨rfl, none, 0, rfl⟩⟩

theorem sp_turn {n d c : Nat} (hn : n < 4) (hd : d < 9) (hc : c < 8) (J : List Int) :
    ∃ m' T, turnP (newP (kSp d c) J (1 + n) 0 (wordsP [])) 0 2000 = (m', T, 0) ∧ T.fault = 0 ∧ T.steps = 5 ∧ T.segs = wantP d c (1 + n) := by
  have h := sp_all n hn d hd c hc
  unfold spB at h
  simp only [Bool.and_eq_true, beq_iff_eq] at h
  obtain ⟨⟨⟨h1, h2⟩, h3⟩, -⟩ := h
  have hp : playP (newP (kSp d c) J (n + 1) 0 (List.replicate 32 0)) 0 2000 = playP (newP (kSp d c) [] (n + 1) 0 (List.replicate 32 0)) 0 2000 := by
    unfold playP newP
    exact run_noJ (by intro x hx; simp [kSp] at hx; rcases hx with rfl | rfl | rfl | rfl | rfl <;> simp) J [] _ _ _ _ _ _
  have hr : pickW (readyL (newP (kSp d c) J (n + 1) 0 (List.replicate 32 0)).ws) 0 = 0 := by
    have : (n + 1 + 3) / 4 = 1 := by omega
    simp only [newP, this]; rfl
  rw [Nat.add_comm 1 n, words_nil]
  refine ⟨_, _, by unfold turnP; rw [if_neg (by simp [newP]), if_neg (by omega), hr], ?_, ?_, ?_⟩
  · simp only [turnOf]; rw [show (2000 : Int).toNat = 2000 from rfl, hp]; exact h1
  · simp only [turnOf]; rw [show (2000 : Int).toNat = 2000 from rfl, hp, h2]; rfl
  · simp only [turnOf]; rw [show (2000 : Int).toNat = 2000 from rfl, hp, h3]

theorem mul_le_32 {i d : Nat} (hi : i ≤ 4) (hd : d < 9) : i * d ≤ 32 := Nat.le_trans (Nat.mul_le_mul hi (by omega : d ≤ 8)) (by omega)

theorem want_le (d c : Nat) : ∀ i, wantP d c i ≤ i
  | 0 => Nat.le_refl _
  | i + 1 => by have := want_le d c i; unfold wantP; split <;> omega
theorem seg_ne (i j d c : Nat) : (((i : Int) * (d : Int) + (c : Int)) / 4 != ((j : Int) * (d : Int) + (c : Int)) / 4) = ((i * d + c) / 4 != (j * d + c) / 4) := by
  have e1 : ((i : Int) * (d : Int) + (c : Int)) / 4 = (((i * d + c) / 4 : Nat) : Int) := by push_cast; rfl
  have e2 : ((j : Int) * (d : Int) + (c : Int)) / 4 = (((j * d + c) / 4 : Nat) : Int) := by push_cast; rfl
  rw [e1, e2, Bool.eq_iff_iff, bne_iff_ne, bne_iff_ne]
  generalize (i * d + c) / 4 = a
  generalize (j * d + c) / 4 = b
  omega

set_option maxHeartbeats 4000000 in
theorem spread_any (t : Int) (ht : -9223372036854775808 ≤ t ∧ t ≤ 9223372036854775807) (d : Int) (hd : -9223372036854775808 ≤ d ∧ d ≤ 9223372036854775807) (o : Int) (ho : -9223372036854775808 ≤ o ∧ o ≤ 9223372036854775807) (w : World) :
    Calls Try.prog 4 #[.int .i64 t, .int .i64 d, .int .i64 o] w fun e w' => e = .returned (.bool true) ∧ Below w.heap.size w w' := by
  have b1 := pickN_lt t 4 (by omega)
  have b2 := pickN_lt d 9 (by omega)
  have b3 := pickN_lt o 8 (by omega)
  have Hp := hyd (pick_any t 4 4 rfl ht (by omega) (by omega))
  have Hq := hyd (pick_any d 9 9 rfl hd (by omega) (by omega))
  have Hr := hyd (pick_any o 8 8 rfl ho (by omega) (by omega))
  generalize pickN t 4 = n0 at *
  generalize pickN d 9 = dn at *
  generalize pickN o 8 = cn at *
  clear ht hd ho
  have c1 : (n0 : Int) < 4 := by omega
  have c2 : (dn : Int) < 9 := by omega
  have c3 : (cn : Int) < 8 := by omega
  have z1 : (0 : Int) ≤ (n0 : Int) := by omega
  have z2 : (0 : Int) ≤ (dn : Int) := by omega
  have z3 : (0 : Int) ≤ (cn : Int) := by omega
  have HB := hyd (And.intro b1 (And.intro b2 b3))
  clear b1 b2 b3
  go_enter Try.func4, Try.ntmps4
  go_wp2_with fail
  refine (Hp.out _).mono ?_
  rintro e w1 ⟨rfl, rfl⟩
  go_wp2_with fail
  refine (Hq.out _).mono ?_
  rintro e w2 ⟨rfl, rfl⟩
  go_wp2_with fail
  refine (Hr.out _).mono ?_
  rintro e w3 ⟨rfl, rfl⟩
  go_upto_region 5 with fail
  generalize hw1 : World.alloc w3 _ = w4
  have HK : Hid (Sees w4 (.slice (some ⟨w3.heap.size, 0, none⟩) 5 5) (kSp dn cn)) := by unfold Hid; rw [← hw1]; exact lit_sees (heap_alloc_new w3 _) rfl (by omega)
  have HB4 : Hid (Below w3.heap.size w3 w4) := by unfold Hid; rw [← hw1]; exact (Below.refl _ _).alloc (Nat.le_refl _) _
  clear hw1
  go_wp2_with fail
  refine (words_any (sees_nil w4)).mono ?_
  rintro e w5 ⟨v5, rfl, hO5, hB5⟩
  have HK5 := hyd (HK.out.up hB5)
  have HZ5 := hyd (ownsRow_seesZ (l := wordsP []) (by rw [words_len]; omega) (by rw [words_len]; exact hO5))
  have HB5 := hyd (HB4.out.trans (hB5.mono HB4.out.size))
  clear hO5 hB5 HK HB4
  have HBeg : Hid (Calls Try.prog 9 #[.slice (some ⟨w3.heap.size, 0, none⟩) 5 5, .int .i64 (1 + (n0 : Int)), .int .i64 0, v5] w5 fun e w' => ∃ J, JoinsAre (kSp dn cn) J ∧ PMok (newP (kSp dn cn) J (1 + n0) 0 (wordsP [])) ∧ BegAns w5 (newP (kSp dn cn) J (1 + n0) 0 (wordsP [])) e w') := by
    have h := begun_any HK5.out (sp_chk dn HB.out.2.1 cn HB.out.2.2) HZ5.out (1 + n0) 0 (by omega) (by have := HB.out.1; omega) (by omega) (by rw [words_len]; omega) (by rw [words_len]; omega)
    rw [show (((1 + n0 : Nat)) : Int) = 1 + (n0 : Int) by omega] at h
    exact h
  clear HK5 HZ5
  go_wp2_with fail
  refine HBeg.out.mono ?_
  rintro e w6 ⟨J, -, hok, L, x, rfl, hX, hY, hB6⟩
  obtain ⟨m', T, hT, f1, f2, f3⟩ := sp_turn HB.out.1 HB.out.2.1 HB.out.2.2 J
  have HTr := hyd (turnx_any hX hok 0 2000 hT)
  have HF := hyd (And.intro f1 (And.intro f2 f3))
  have HB6 := hyd (And.intro HB5.out (And.intro hB6 hY))
  clear HBeg hok hX hY hB6 hT f1 f2 f3 HB5
  go_upto_region 10 with fail
  go_loopw [12, 13] (fun wv iv wr => ∃ (i : Nat), i ≤ 1 + n0 ∧ iv = .int .i64 i ∧ wv = .int .i64 (wantP dn cn i : Nat) ∧ wr = w6) (fun _ iv _ => 5 - (intOf iv).toNat)
  case atStart => exact ⟨0, by omega, rfl, rfl, rfl⟩
  case round =>
    obtain ⟨i, hi, rfl, rfl, rfl⟩ := hrel
    have i0 : (0 : Int) ≤ (i : Int) := by omega
    have i5 : (i : Int) ≤ 4 := by omega
    have hwl : (wantP dn cn i : Int) ≤ 4 := by have := want_le dn cn i; omega
    have hw0 : (0 : Int) ≤ (wantP dn cn i : Int) := by omega
    by_cases hin : i < 1 + n0
    · have hin2 : (i : Int) < 1 + (n0 : Int) := by omega
      have m1 : (i : Int) * (dn : Int) ≤ 32 := by have := mul_le_32 (show i ≤ 4 by omega) HB.out.2.1; exact_mod_cast this
      have m0 : (0 : Int) ≤ (i : Int) * (dn : Int) := Int.mul_nonneg i0 z2
      go_wp2_with fail
      go_loopw [14, 15] (fun fv jv wq => ∃ (j : Nat), j ≤ i ∧ jv = .int .i64 j ∧ fv = .bool (freshP dn cn i j) ∧ wq = wr) (fun _ jv _ => 5 - (intOf jv).toNat)
      case atStart => exact ⟨0, by omega, rfl, rfl, rfl⟩
      case round =>
        obtain ⟨j, hj, rfl, rfl, rfl⟩ := hrel
        have j0 : (0 : Int) ≤ (j : Int) := by omega
        have j5 : (j : Int) ≤ 4 := by omega
        by_cases hji : j < i
        · have hji2 : (j : Int) < (i : Int) := by omega
          have m3 : (j : Int) * (dn : Int) ≤ 32 := by have := mul_le_32 (show j ≤ 4 by omega) HB.out.2.1; exact_mod_cast this
          have m2 : (0 : Int) ≤ (j : Int) * (dn : Int) := Int.mul_nonneg j0 z2
          cases hf : freshP dn cn i j with
          | false =>
            go_wp2_with fail
            refine ⟨⟨j + 1, by omega, rfl, by simp [freshP, hf], trivial⟩, ?_⟩
            simp only [intOf]; omega
          | true =>
            go_wp2_with fail
            refine ⟨⟨j + 1, by omega, rfl, by rw [seg_ne]; simp [freshP, hf], trivial⟩, ?_⟩
            simp only [intOf]; omega
        · have hji2 : decide ((j : Int) < (i : Int)) = false := by simp; omega
          have : j = i := by omega
          subst this
          cases hf : freshP dn cn j j with
          | false =>
            go_wp2_with fail
            refine ⟨⟨j + 1, by omega, rfl, by simp [wantP, hf], trivial⟩, ?_⟩
            simp only [intOf]; omega
          | true =>
            go_wp2_with fail
            refine ⟨⟨j + 1, by omega, rfl, by simp [wantP, hf], trivial⟩, ?_⟩
            simp only [intOf]; omega
    · have : i = 1 + n0 := by omega
      subst this
      have hin2 : decide (((1 + n0 : Nat) : Int) < 1 + (n0 : Int)) = false := by simp
      go_wp2_with fail
      refine HTr.out.mono ?_
      rintro e w7 ⟨va, vc, rfl, -, -, hC7, -⟩
      obtain ⟨f1, f2, f3⟩ := HF.out
      rw [f1, f2, f3]
      have HC7 := hyd hC7
      clear hC7 f1 f2 f3
      go_wp2_with fail
      go_ret
      refine ⟨by simp, ?_⟩
      obtain ⟨h5, h6, hy, -, -⟩ := HB6.out
      have s5 := h5.size
      have s6 := h6.size
      have s7 := HC7.out.size
      exact ((h5.trans (h6.mono s5)).trans (HC7.out.below (fun x hx => by simp at hx; subst hx; omega) (by omega))).alloc (by omega) _

end Go.Proofs.Ytbhbacphiinpeab
