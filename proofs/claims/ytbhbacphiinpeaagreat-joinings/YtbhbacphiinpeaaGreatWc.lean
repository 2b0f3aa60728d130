/- What 'onEachWay' answers. -/
import Derived.Test.YtbhbacphiinpeaaGreatWb
import Derived.Test.YtbhbacphiinpeaaGreatWz
namespace Go.Proofs.YtbhbacphiinpeaaGreat
open Go.RowKit

theorem Tryz.infoB4 : (Tryz.prog.info? 4).map (fun i => (i.zero, i.size, i.bytes)) = some (some (.bool false), 1, 1) := by kernel_rfl
theorem Tryz.infoS121 : (Tryz.prog.info? 141).map (fun i => (i.zero, i.size, i.bytes)) = some (some (.slice none 0 0), 1, 24) := by kernel_rfl

/-- The slice at b reads as the rows M. -/
def SeesM (w : World) (b n : Nat) (M : List (List Bool)) : Prop := M.length = n ∧ 1 ≤ n ∧ n ≤ 40 ∧ b < w.heap.size ∧ ∀ (d : Nat) R, M[d]? = some R → ∃ g c, w.cell? ⟨b, d, none⟩ = some (.slice (some ⟨g, 0, none⟩) n c) ∧ SeesB w g n R

theorem SeesM.up {w w' : World} {b n : Nat} {M : List (List Bool)} {B : Nat} (h : SeesM w b n M) (hB : w.heap.size ≤ B) (hb : Below B w w') : SeesM w' b n M := by
  obtain ⟨h1, h2, h3, h4, h5⟩ := h
  refine ⟨h1, h2, h3, Nat.lt_of_lt_of_le h4 hb.size, fun d R hR => ?_⟩
  obtain ⟨g, c, c1, c2⟩ := h5 d R hR
  exact ⟨g, c, (hb.cell (Nat.lt_of_lt_of_le h4 hB)).trans c1, c2.up hB hb⟩

/-- The rows that have been made. -/
def MadeM (w : World) (B n : Nat) (k : List Ins) (M : List (List Bool)) (S : List Value) : Prop :=
  S.length = M.length ∧ ∀ (i : Nat) R, M[i]? = some R → OnRow k i R ∧ ∃ g c, S[i]? = some (.slice (some ⟨g, 0, none⟩) n c) ∧ w.ownsRow B 4 1 (.slice (some ⟨g, 0, none⟩) n c) n (boolVals R)

theorem MadeM.up {w w' : World} {B n : Nat} {k : List Ins} {M : List (List Bool)} {S : List Value} (h : MadeM w B n k M S) (hb : Below w.heap.size w w') : MadeM w' B n k M S :=
  ⟨h.1, fun i R hR => by
    obtain ⟨h1, g, c, h2, h3⟩ := h.2 i R hR
    exact ⟨h1, g, c, h2, h3.keptB hb⟩⟩

theorem MadeM.one {w : World} {B n g c : Nat} {k : List Ins} {M : List (List Bool)} {S : List Value} {R : List Bool} (h : MadeM w B n k M S) (hR : OnRow k M.length R) (ho : w.ownsRow B 4 1 (.slice (some ⟨g, 0, none⟩) n c) n (boolVals R)) :
    MadeM w B n k (M ++ [R]) (S ++ [.slice (some ⟨g, 0, none⟩) n c]) := by
  refine ⟨by simp [h.1], fun i Q hQ => ?_⟩
  by_cases hi : i < M.length
  · rw [List.getElem?_append_left hi] at hQ
    obtain ⟨h1, g', c', h2, h3⟩ := h.2 i Q hQ
    exact ⟨h1, g', c', by rw [List.getElem?_append_left (by rw [h.1]; exact hi)]; exact h2, h3⟩
  · rw [List.getElem?_append_right (by omega)] at hQ
    have hi0 : i - M.length = 0 := by
      have := (List.getElem?_eq_some_iff.1 hQ).1
      simp at this; omega
    rw [hi0] at hQ
    simp at hQ
    subst hQ
    have e : i = M.length := by omega
    subst e
    exact ⟨hR, g, c, by rw [List.getElem?_append_right (by rw [h.1]; omega), h.1]; simp, ho⟩

set_option maxHeartbeats 2000000 in
set_option maxRecDepth 100000 in
theorem on_any {w : World} {b off n : Nat} {k : List Ins} (cap : Nat) (h : KAt w b off n k) :
    Calls Tryz.prog 69 #[.slice (some ⟨b, off, none⟩) n cap] w fun e w' => ∃ g c M, e = .returned (.slice (some ⟨g, 0, none⟩) n c) ∧ On k M ∧ SeesM w' g n M ∧ Below w.heap.size w w' := by
  have HK := hyd h
  obtain ⟨hk, hn1, hn, -⟩ := h
  have Hk := hyd hk
  clear hk
  have hn2 : (n : Int) ≤ 40 := by omega
  obtain ⟨j0, hj, hy0, hy1, hy2⟩ := info_parts Tryz.infoB4
  obtain ⟨i0, hi, hz0, hz1, hz2⟩ := info_parts Tryz.infoS121
  go_enter Tryz.func69, Tryz.ntmps69
  go_wp2_with fail
  refine (without_any cap HK.out (-1)).mono ?_
  rintro e w1 ⟨E, rfl, hE, ho, hb⟩
  have HE := hyd hE
  have HK1 := hyd (HK.out.up (Nat.le_refl _) hb)
  have HEl : Hid (E.length = n) := by rw [hE.1]; exact Hk.out
  have HSE := hyd (seesB_owned hn1 hn HEl.out ho)
  have HB1 := hyd hb
  clear hE ho hb
  go_wp2_with fail
  go_loopw [4, 13] (fun ov dv wr => ∃ (d : Nat) (M : List (List Bool)) (S : List Value), d ≤ n ∧ dv = .int .i64 d ∧ M.length = d ∧ MadeM wr w1.heap.size n k M S ∧ wr.ownsRow w1.heap.size 141 1 ov d S ∧ Below w1.heap.size w1 wr) (fun _ dv _ => n - (intOf dv).toNat)
  case atStart => exact ⟨0, [], [], Nat.zero_le _, rfl, rfl, ⟨rfl, fun i R hR => by simp at hR⟩, World.ownsRow_nil _ _ _ _, Below.refl _ _⟩
  case round =>
    obtain ⟨d, M, S, hdn, rfl, hMl, hM, hown, hb⟩ := hrel
    have HMl := hyd hMl
    have HM := hyd hM
    have Hown := hyd hown
    have HBr := hyd hb
    have hszr := hb.size
    clear hMl hM hown hb
    by_cases hlt : d < n
    · go_wp2_with fail
      refine (without_any cap (HK1.out.up (Nat.le_refl _) HBr.out) (d : Int)).mono ?_
      rintro e w2 ⟨W, rfl, hW, ho2, hb2⟩
      have HW := hyd hW
      have HWl : Hid (W.length = n) := by rw [hW.1]; exact Hk.out
      have HSW := hyd (seesB_owned hn1 hn HWl.out ho2)
      have HM2 := hyd (HM.out.up hb2)
      have Hown2 := hyd (Hown.out.keptB hb2)
      have HB2 := hyd (HBr.out.trans (hb2.mono hszr))
      have hsz2 := HB2.out.size
      have HSE2 := hyd (HSE.out.up (Nat.le_refl _) HB2.out)
      clear hW ho2 hb2 HM Hown
      go_wp2_with fail
      go_loopw [7, 21] (fun rv jv wx => ∃ (j : Nat) (R : List Bool), j ≤ n ∧ jv = .int .i64 j ∧ R.length = j ∧ (∀ (i : Nat) x, R[i]? = some x → x = onB E W d i) ∧ wx.ownsRow w2.heap.size 4 1 rv j (boolVals R) ∧ Below w2.heap.size w2 wx) (fun _ jv _ => n - (intOf jv).toNat)
      case atStart => exact ⟨0, [], Nat.zero_le _, rfl, rfl, fun i x hx => by simp at hx, World.ownsRow_nil _ _ _ _, Below.refl _ _⟩
      case round =>
        obtain ⟨j, R, hjn, rfl, hRl, hR, hrow, hb⟩ := hrel
        have HRl := hyd hRl
        have HR := hyd hR
        have Hrow := hyd hrow
        have HBx := hyd hb
        have hszx := hb.size
        clear hRl hR hrow hb
        by_cases hjl : j < n
        · have HSEx := hyd (HSE2.out.up (Nat.le_refl _) HBx.out)
          have HSWx := hyd (HSW.out.up (Nat.le_refl _) HBx.out)
          have fin : Hid (∀ y, y = onB E W d j → ∀ v3 w3, w3.ownsRow w2.heap.size 4 1 v3 (j + 1) (boolVals R ++ [.bool y]) → Below w2.heap.size w2 w3 → ∃ (j' : Nat) (R' : List Bool), j' ≤ n ∧ (Value.int .i64 ((j : Int) + 1)) = .int .i64 j' ∧ R'.length = j' ∧ (∀ (i : Nat) x, R'[i]? = some x → x = onB E W d i) ∧ w3.ownsRow w2.heap.size 4 1 v3 j' (boolVals R') ∧ Below w2.heap.size w2 w3) := by
            intro y hy v3 w3 ho3 hb3
            refine ⟨j + 1, R ++ [y], by omega, by simp, by simp [HRl.out], fun i x hx => ?_, by rw [bool_snoc]; exact ho3, hb3⟩
            by_cases hil : i < R.length
            · rw [List.getElem?_append_left hil] at hx
              exact HR.out i x hx
            · rw [List.getElem?_append_right (by omega)] at hx
              have hi0 : i - R.length = 0 := by
                have := (List.getElem?_eq_some_iff.1 hx).1
                simp at this; omega
              rw [hi0] at hx
              simp at hx
              subst hx
              have e : i = j := by have := HRl.out; omega
              rw [e]; exact hy
          by_cases hjd : j = d
          · subst hjd
            have g0 : ((j : Int) != (j : Int)) = false := by simp
            have hon : Hid (false = onB E W j j) := by unfold Hid onB; simp
            go_wp2_with (at_builtin; go_must (refine wpList_append_own _ rfl (.tmp 24) (.tmp 39) 141 rfl w2.heap.size 4 j0 (.bool false) 1 1 Tryz.underlying141 hj hy0 hy1 hy2 rfl (by decide) u7 j (boolVals R) rfl ?a0 ⟨wr.heap.size, 0, none⟩ 1 1 [.bool false] rfl rfl ?a1 ?a2 ?a3 ?a4 ?a5 ?_))
            case a0 => exact Hrow.out.alloc _
            case a1 => exact World.news_of_block (heap_alloc_new wr _)
            case a2 => intro u hu; simp at hu; subst hu; rfl
            case a3 => unfold maxLen; omega
            case a4 => omega
            case a5 => simp; omega
            · intro v3 w3 hown3 hgrow3 _
              have hb3 : Below w2.heap.size w2 w3 := (HBx.out.alloc hszx _).grown hgrow3 (by simp; omega) (fun x hx => (Hrow.out.lt x hx).1)
              have HX := hyd (fin.out false hon.out v3 w3 hown3 hb3)
              clear hown3 hgrow3 hb3
              go_wp2
              go_roundw
              case rel => exact HX.out
              case measure => simp [intOf] <;> omega
          · have g0 : ((j : Int) != (d : Int)) = true := by rw [bne_iff_ne]; omega
            have Hjd := hyd hjd
            clear hjd
            cases hm1 : mkd E (j : Int)
            · have hon : Hid (false = onB E W d j) := by unfold Hid onB; rw [hm1]; simp
              go_wp2_with (first | (go_at_call 85; refine (marked_any _ HSEx.out _).mono ?_; rintro e w' ⟨rfl, hw'⟩; subst w'; rw [hm1]) | (at_builtin; go_must (refine wpList_append_own _ rfl (.tmp 24) (.tmp 39) 141 rfl w2.heap.size 4 j0 (.bool false) 1 1 Tryz.underlying141 hj hy0 hy1 hy2 rfl (by decide) u7 j (boolVals R) rfl ?a0 ⟨wr.heap.size, 0, none⟩ 1 1 [.bool false] rfl rfl ?a1 ?a2 ?a3 ?a4 ?a5 ?_)))
              case a0 => exact Hrow.out.alloc _
              case a1 => exact World.news_of_block (heap_alloc_new wr _)
              case a2 => intro u hu; simp at hu; subst hu; rfl
              case a3 => unfold maxLen; omega
              case a4 => omega
              case a5 => simp; omega
              · intro v3 w3 hown3 hgrow3 _
                have hb3 : Below w2.heap.size w2 w3 := (HBx.out.alloc hszx _).grown hgrow3 (by simp; omega) (fun x hx => (Hrow.out.lt x hx).1)
                have HX := hyd (fin.out false hon.out v3 w3 hown3 hb3)
                clear hown3 hgrow3 hb3
                go_wp2
                go_roundw
                case rel => exact HX.out
                case measure => simp [intOf] <;> omega
            · cases hm2 : mkd W (j : Int)
              · have hon : Hid (true = onB E W d j) := by unfold Hid onB; rw [hm1, hm2]; simp [Hjd.out]
                go_wp2_with (first | (go_at_call 85; refine (marked_any n (by first | exact HSEx.out | exact HSWx.out) _).mono ?_; rintro e w' ⟨rfl, hw'⟩; subst w'; first | rw [hm1] | rw [hm2]) | (at_builtin; go_must (refine wpList_append_own _ rfl (.tmp 24) (.tmp 39) 141 rfl w2.heap.size 4 j0 (.bool false) 1 1 Tryz.underlying141 hj hy0 hy1 hy2 rfl (by decide) u7 j (boolVals R) rfl ?a0 ⟨wr.heap.size, 0, none⟩ 1 1 [.bool true] rfl rfl ?a1 ?a2 ?a3 ?a4 ?a5 ?_)))
                case a0 => exact Hrow.out.alloc _
                case a1 => exact World.news_of_block (heap_alloc_new wr _)
                case a2 => intro u hu; simp at hu; subst hu; rfl
                case a3 => unfold maxLen; omega
                case a4 => omega
                case a5 => simp; omega
                · intro v3 w3 hown3 hgrow3 _
                  have hb3 : Below w2.heap.size w2 w3 := (HBx.out.alloc hszx _).grown hgrow3 (by simp; omega) (fun x hx => (Hrow.out.lt x hx).1)
                  have HX := hyd (fin.out true hon.out v3 w3 hown3 hb3)
                  clear hown3 hgrow3 hb3
                  go_wp2
                  go_roundw
                  case rel => exact HX.out
                  case measure => simp [intOf] <;> omega
              · have hon : Hid (false = onB E W d j) := by unfold Hid onB; rw [hm1, hm2]; simp
                go_wp2_with (first | (go_at_call 85; refine (marked_any n (by first | exact HSEx.out | exact HSWx.out) _).mono ?_; rintro e w' ⟨rfl, hw'⟩; subst w'; first | rw [hm1] | rw [hm2]) | (at_builtin; go_must (refine wpList_append_own _ rfl (.tmp 24) (.tmp 39) 141 rfl w2.heap.size 4 j0 (.bool false) 1 1 Tryz.underlying141 hj hy0 hy1 hy2 rfl (by decide) u7 j (boolVals R) rfl ?a0 ⟨wr.heap.size, 0, none⟩ 1 1 [.bool false] rfl rfl ?a1 ?a2 ?a3 ?a4 ?a5 ?_)))
                case a0 => exact Hrow.out.alloc _
                case a1 => exact World.news_of_block (heap_alloc_new wr _)
                case a2 => intro u hu; simp at hu; subst hu; rfl
                case a3 => unfold maxLen; omega
                case a4 => omega
                case a5 => simp; omega
                · intro v3 w3 hown3 hgrow3 _
                  have hb3 : Below w2.heap.size w2 w3 := (HBx.out.alloc hszx _).grown hgrow3 (by simp; omega) (fun x hx => (Hrow.out.lt x hx).1)
                  have HX := hyd (fin.out false hon.out v3 w3 hown3 hb3)
                  clear hown3 hgrow3 hb3
                  go_wp2
                  go_roundw
                  case rel => exact HX.out
                  case measure => simp [intOf] <;> omega
        · have hjn' : j = n := by omega
          subst hjn'
          obtain ⟨g, c, hv, hg1, hg2⟩ := Hrow.out.form (by omega)
          subst hv
          have HRow : Hid (OnRow k d R) := onRow_of HE.out HW.out (by rw [HRl.out, Hk.out]) HR.out
          have HMx := hyd (HM2.out.up HBx.out)
          have Hown3 := hyd (Hown2.out.keptB HBx.out)
          have HBy := hyd (HB2.out.trans (HBx.out.mono hsz2))
          have hszy := HBy.out.size
          clear HM2 Hown2 HBx
          go_wp2_with (at_builtin; go_must (refine wpList_append_own _ rfl (.tmp 42) (.tmp 44) 130 rfl w1.heap.size 141 i0 (.slice none 0 0) 1 24 Tryz.underlying130 hi hz0 hz1 hz2 rfl (by decide) u4 d S rfl ?a0 ⟨wr.heap.size, 0, none⟩ 1 1 [.slice (some ⟨g, 0, none⟩) j c] rfl rfl ?a1 ?a2 ?a3 ?a4 ?a5 ?_))
          case a0 => exact Hown3.out.alloc _
          case a1 => exact World.news_of_block (heap_alloc_new wr _)
          case a2 => intro u hu; simp at hu; subst hu; rfl
          case a3 => unfold maxLen; omega
          case a4 => omega
          case a5 => simp; omega
          · intro v3 w3 hown3 hgrow3 _
            have hb3 : Below w1.heap.size w1 w3 := (HBy.out.alloc hszy _).grown hgrow3 (by simp; omega) (fun x hx => (Hown3.out.lt x hx).1)
            have hM3 : MadeM w3 w1.heap.size j k M S := ⟨HMx.out.1, fun i Q hQ => by
              obtain ⟨h1, g', c', h2, h3⟩ := HMx.out.2 i Q hQ
              exact ⟨h1, g', c', h2, (h3.alloc _).kept hgrow3 (rows_apart h3 Hown3.out (by decide))⟩⟩
            have hr3 : w3.ownsRow w1.heap.size 4 1 (.slice (some ⟨g, 0, none⟩) j c) j (boolVals R) := ((owns_down Hrow.out hsz2).alloc _).kept hgrow3 (rows_apart Hrow.out Hown3.out (by decide))
            have hM4 := hM3.one (R := R) (by rw [HMl.out]; exact HRow.out) hr3
            have HX := hyd (And.intro hM4 (And.intro hown3 hb3))
            clear hown3 hgrow3 hb3 hM3 hr3 hM4
            go_wp2
            go_roundw
            case rel => exact ⟨d + 1, M ++ [R], _, by omega, by go_num, by simp [HMl.out], HX.out.1, HX.out.2.1, HX.out.2.2⟩
            case measure => simp [intOf] <;> omega
    · have hdn' : d = n := by omega
      subst hdn'
      obtain ⟨g, c, hv, hg1, hg2⟩ := Hown.out.form (by omega)
      subst hv
      have HX : Hid (SeesM wr g d M) := ⟨HMl.out, hn1, hn, hg2, fun i R hR => by
        obtain ⟨h1, g', c', h2, h3⟩ := HM.out.2 i R hR
        have hid : i < d := by have := (List.getElem?_eq_some_iff.1 hR).1; rw [HMl.out] at this; exact this
        exact ⟨g', c', (Hown.out.cellAt i (by omega)).trans h2, seesB_owned hn1 hn (by rw [h1.1, Hk.out]) h3⟩⟩
      have HOn : Hid (On k M) := ⟨by rw [HMl.out, Hk.out], fun i R hR => (HM.out.2 i R hR).1⟩
      have HBf := hyd (HB1.out.trans (HBr.out.mono HB1.out.size))
      go_wp2
      go_ret
      exact ⟨g, c, M, rfl, HOn.out, HX.out, HBf.out⟩

end Go.Proofs.YtbhbacphiinpeaaGreat
