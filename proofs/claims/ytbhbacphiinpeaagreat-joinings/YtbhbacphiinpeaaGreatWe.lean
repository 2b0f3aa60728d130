/- What the program's 'Joins' answers: the contract JoinsOk. -/
import Derived.Test.YtbhbacphiinpeaaGreatWd
import Derived.Test.YtbhbacphiinpeaaGreatE
import Derived.Test.YtbhbacphiinpeaaGreatJo
namespace Go.Proofs.YtbhbacphiinpeaaGreat
open Go.RowKit

set_option maxHeartbeats 1000000 in
set_option maxRecDepth 100000 in
theorem ways_any {w : World} {b off n : Nat} {k : List Ins} (cap : Nat) (h : KAt w b off n k) :
    Calls Tryz.prog 50 #[.slice (some ⟨b, off, none⟩) n cap] w fun e w' => ∃ v J, e = .returned v ∧ JoinsAre k J ∧ w'.ownsRow w.heap.size 3 1 v J.length (zVals J) ∧ Below w.heap.size w w' := by
  have HK := hyd h
  obtain ⟨hk, hn1, hn, -⟩ := h
  have Hk := hyd hk
  clear hk
  have hn2 : (n : Int) ≤ 40 := by omega
  obtain ⟨i0, hi, hz0, hz1, hz2⟩ := info_parts Tryz.info3
  go_enter Tryz.func50, Tryz.ntmps50
  go_wp2_with fail
  refine (on_any cap HK.out).mono ?_
  rintro e w1 ⟨g, c, M, rfl, hOn, hM, hb1⟩
  have HOn := hyd hOn
  have HM := hyd hM
  have HB1 := hyd hb1
  clear hOn hM hb1
  go_wp2_with fail
  go_loopw [4, 10] (fun va dv wr => ∃ (d : Nat) (J : List Int), d ≤ n ∧ dv = .int .i64 d ∧ J.length = d ∧ (∀ (i : Nat) j, J[i]? = some j → JoinIs k i j) ∧ wr.ownsRow w1.heap.size 3 1 va J.length (zVals J) ∧ Below w1.heap.size w1 wr) (fun _ dv _ => n - (intOf dv).toNat)
  case atStart => exact ⟨0, [], Nat.zero_le _, rfl, rfl, fun i j hj => by simp at hj, World.ownsRow_nil _ _ _ _, Below.refl _ _⟩
  case round =>
    obtain ⟨d, J, hdn, rfl, hJl, hJ, hown, hb⟩ := hrel
    have HJl := hyd hJl
    have HJ := hyd hJ
    have Hown := hyd hown
    have HB := hyd hb
    have hszw := hb.size
    clear hJl hJ hown hb
    by_cases hlt : d < n
    · have HMr := hyd (HM.out.up (Nat.le_refl _) HB.out)
      have hJ40 : J.length ≤ 40 := by have := HJl.out; omega
      go_wp2_with fail
      refine (first_any c HOn.out HMr.out d hlt).mono ?_
      rintro e w2 ⟨⟨j, rfl, hj⟩, hw2⟩
      subst w2
      have Hj := hyd hj
      clear hj
      go_wp2_with (at_builtin; go_must (refine wpList_append_own _ rfl (.tmp 13) (.tmp 17) 24 rfl w1.heap.size 3 i0 (.int .i64 0) 1 8 Tryz.underlying24 hi hz0 hz1 hz2 rfl (by decide) u4 J.length (zVals J) rfl ?a0 ⟨wr.heap.size, 0, none⟩ 1 1 [.int .i64 j] rfl rfl ?a1 ?a2 ?a3 ?a4 ?a5 ?_))
      case a0 => exact Hown.out.alloc _
      case a1 => exact World.news_of_block (heap_alloc_new wr _)
      case a2 => intro u hu; simp at hu; subst hu; rfl
      case a3 => unfold maxLen; omega
      case a4 => omega
      case a5 => simp; omega
      · intro v3 w3 hown3 hgrow3 _
        have hzs : zVals J ++ [.int .i64 j] = zVals (J ++ [j]) := by simp [zVals]
        rw [hzs] at hown3
        have hb3 : Below w1.heap.size w1 w3 := (HB.out.alloc hszw _).grown hgrow3 (by simp; omega) (fun x hx => (Hown.out.lt x hx).1)
        have HX := hyd (And.intro hown3 hb3)
        clear hown3 hgrow3 hb3 hzs
        go_wp2
        go_roundw
        case rel =>
          refine ⟨d + 1, J ++ [j], by omega, by go_num, by rw [List.length_append, HJl.out]; rfl, fun i z hz => ?_, by rw [List.length_append]; exact HX.out.1, HX.out.2⟩
          by_cases hiJ : i < J.length
          · rw [List.getElem?_append_left hiJ] at hz
            exact HJ.out i z hz
          · rw [List.getElem?_append_right (by omega)] at hz
            have hi0 : i - J.length = 0 := by
              have := (List.getElem?_eq_some_iff.1 hz).1
              simp at this; omega
            rw [hi0] at hz
            simp at hz
            subst hz
            have e : i = d := by have := HJl.out; omega
            rw [e]
            exact Hj.out
        case measure => simp [intOf] <;> omega
    · have hdn' : d = n := by omega
      subst hdn'
      have HBf := hyd (HB1.out.trans (HB.out.mono HB1.out.size))
      have Hf := hyd (owns_down Hown.out HB1.out.size)
      go_wp2
      go_ret
      exact ⟨_, J, rfl, ⟨by rw [HJl.out, Hk.out], HJ.out⟩, Hf.out, HBf.out⟩

set_option maxHeartbeats 400000 in
theorem joinsOk : JoinsOk := by
  intro s hm w
  by_cases h0 : (dchk s).1 = 0
  · have g0 : ((dchk s).1 != 0) = false := by simpa using h0
    obtain ⟨g1, g2, g3⟩ := dec_good h0
    have H0 := hyd h0
    obtain ⟨k, Hk⟩ : ∃ k, Hid (decL s = k) := ⟨_, rfl⟩
    obtain ⟨n, Hn⟩ : ∃ n, Hid (k.length = n) := ⟨_, rfl⟩
    rw [Hk.out] at g1 g2 g3
    rw [Hn.out] at g2 g3
    have Hchk := hyd g1
    have Hd := hyd (dchk_zero h0)
    clear h0 g1
    go_enter Tryz.func29, Tryz.ntmps29
    go_wp2_with fail
    refine (decode_any s hm _).mono ?_
    rw [Hk.out, Hn.out]
    rintro e w1 ⟨v, rfl, hb1, hown1, -⟩
    obtain ⟨g, cap, hv, -, -⟩ := hown1.form (by omega)
    subst hv
    have HK := hyd (kAt_owned Hchk.out Hn.out hown1)
    have HB1 := hyd hb1
    clear hown1 hb1
    go_wp2_with fail
    refine (ways_any cap HK.out).mono ?_
    rintro e w2 ⟨v, J, rfl, hJ, ho, hb2⟩
    have HX := hyd (And.intro hJ (And.intro ho hb2))
    clear hJ ho hb2
    go_wp2
    go_ret3
    refine ⟨_, J, ?_, HB1.out.trans (HX.out.2.2.mono HB1.out.size), owns_down HX.out.2.1 HB1.out.size, fun _ => by rw [Hk.out]; exact HX.out.1, fun h => absurd H0.out h⟩
    rw [Hd.out]
    rfl
  · have g0 : ((dchk s).1 != 0) = true := by simpa using h0
    have H0 := hyd h0
    clear h0
    go_enter Tryz.func29, Tryz.ntmps29
    go_wp2_with fail
    refine (decode_any s hm _).mono ?_
    rintro e w1 ⟨v, rfl, hb1, -, -⟩
    go_wp2
    go_ret3
    exact ⟨_, [], rfl, hb1, World.ownsRow_nil _ _ _ _, fun h => absurd h H0.out, fun _ => ⟨rfl, rfl⟩⟩

end Go.Proofs.YtbhbacphiinpeaaGreat
