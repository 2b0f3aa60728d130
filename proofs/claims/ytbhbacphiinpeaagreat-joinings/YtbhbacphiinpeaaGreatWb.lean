/- What 'endsWithout' answers. -/
import Derived.Test.YtbhbacphiinpeaaGreatWa
namespace Go.Proofs.YtbhbacphiinpeaaGreat
open Go.RowKit

def boolVals (E : List Bool) : List Value := E.map Value.bool
theorem bool_at {E : List Bool} {i : Nat} {x : Bool} (h : E[i]? = some x) : (boolVals E)[i]? = some (.bool x) := by simp [boolVals, List.getElem?_map, h]
theorem bool_set (E : List Bool) (i : Nat) (x : Bool) : (boolVals E).set i (.bool x) = boolVals (E.set i x) := by simp [boolVals, List.map_set]
theorem bool_snoc (E : List Bool) (x : Bool) : boolVals (E ++ [x]) = boolVals E ++ [.bool x] := by simp [boolVals]
theorem bool_none (n : Nat) : boolVals (List.replicate n false) = (madeCells #[Value.bool false] n).toList := by
  rw [toList_madeCells_one]; simp [boolVals]

theorem seesB_owned {w : World} {base g n cap : Nat} {E : List Bool} (h1 : 1 ≤ n) (h2 : n ≤ 40) (hE : E.length = n) (h : w.ownsRow base 4 1 (.slice (some ⟨g, 0, none⟩) n cap) n (boolVals E)) : SeesB w g n E :=
  ⟨hE, h1, h2, (h.lt g rfl).2, fun i x hx => (h.cellAt i (by have := (List.getElem?_eq_some_iff.1 hx).1; omega)).trans (bool_at hx)⟩

set_option maxHeartbeats 2000000 in
set_option maxRecDepth 100000 in
theorem without_any {w : World} {b off n : Nat} {k : List Ins} (cap : Nat) (h : KAt w b off n k) (av : Int) :
    Calls Tryz.prog 84 #[.slice (some ⟨b, off, none⟩) n cap, .int .i64 av] w fun e w' => ∃ E, e = .returned (.slice (some ⟨w.heap.size, 0, none⟩) n n) ∧ Ends k av E ∧ w'.ownsRow w.heap.size 4 1 (.slice (some ⟨w.heap.size, 0, none⟩) n n) n (boolVals E) ∧ Below w.heap.size w w' := by
  obtain ⟨hk, hn1, hn, hcl, hbw, hb0, hc⟩ := h
  have Hk := hyd hk
  have HCl := hyd hcl
  have Hb0 := hyd hb0
  have Hc := hyd hc
  clear hk hcl hb0 hc
  have hn2 : (n : Int) ≤ 40 := by omega
  have hn3 : (1 : Int) ≤ (n : Int) := by omega
  obtain ⟨j0, hj, hy0, hy1, hy2⟩ := info_parts Tryz.info4
  go_enter Tryz.func84, Tryz.ntmps84
  go_wp2_with (at_make; go_must (refine wpList_make_full _ rfl _ _ 141 rfl w.heap.size 4 j0 (.bool false) 1 Tryz.underlying141 hj hy0 hy1 .i64 .i64 _ _ n rfl rfl ?m1 ?m2 ?m3 ?m4 ?m5 ?_))
  case m1 => rfl
  case m2 => rfl
  case m3 => rw [hy2]; omega
  case m4 => unfold maxLen; omega
  case m5 => exact Nat.le_refl _
  · intro w1 hown0 hgrow0
    rw [← bool_none] at hown0
    have hb1 : Below w.heap.size w w1 := (Below.refl _ w).grown hgrow0 (Nat.le_refl _) (fun x hx => by cases hx)
    have HO := hyd hown0
    have HB1 := hyd hb1
    have HS0 : Hid (Sound k av (List.replicate n false)) := by have := sound_none k av; rw [Hk.out] at this; exact this
    clear hown0 hgrow0 hb1
    go_wp2_with fail
    go_loopw [6, 7] (fun gv rv wr => ∃ (r : Nat) (g : Bool) (E : List Bool), r ≤ n ∧ rv = .int .i64 r ∧ gv = .bool g ∧ Sound k av E ∧ (g = true → r ≤ E.count true) ∧ (g = false → Whole k av E) ∧ wr.ownsRow w.heap.size 4 1 (.slice (some ⟨w.heap.size, 0, none⟩) n n) n (boolVals E) ∧ Below w.heap.size w wr) (fun _ rv _ => n - (intOf rv).toNat)
    case atStart => exact ⟨0, true, _, Nat.zero_le _, rfl, rfl, HS0.out, fun _ => Nat.zero_le _, (fun h => by cases h), HO.out, HB1.out⟩
    case round =>
      obtain ⟨r, g, E, hr, rfl, rfl, hS, hg1, hg0, ho, hb⟩ := hrel
      have HS := hyd hS
      have HG1 := hyd hg1
      have HG0 := hyd hg0
      have Ho := hyd ho
      have HB := hyd hb
      clear hS hg1 hg0 ho hb HO HB1 HS0
      cases g
      · go_wp2
        go_ret
        exact ⟨rfl, E, ends_of Hb0.out HS.out (HG0.out (by simp)), Ho.out, HB.out⟩
      · by_cases hrn : r < n
        · have hr2 : (r : Int) < (n : Int) := by omega
          have hr3 : (0 : Int) ≤ (r : Int) := by omega
          go_wp2_with fail
          go_loopw [6, 8] (fun gv nv wx => ∃ (j : Nat) (z : Int) (g : Bool) (E' : List Bool), j ≤ n ∧ nv = .int .i64 z ∧ z = (j : Int) - 1 ∧ gv = .bool g ∧ Sound k av E' ∧ r ≤ E'.count true ∧ (g = true → r + 1 ≤ E'.count true) ∧ (g = false → ∀ (i : Nat) x, j ≤ i → k[i]? = some x → (i : Int) ≠ av → bhd E' x i = true → E'[i]? = some true) ∧ wx.ownsRow w.heap.size 4 1 (.slice (some ⟨w.heap.size, 0, none⟩) n n) n (boolVals E') ∧ Below w.heap.size w wx) (fun _ nv _ => (intOf nv + 1).toNat)
          case atStart =>
            refine ⟨n, (n : Int) - 1, false, E, Nat.le_refl _, by go_num, rfl, rfl, HS.out, HG1.out (by simp), (fun h => by cases h), fun _ i x hi hx => ?_, Ho.out, HB.out⟩
            have := (List.getElem?_eq_some_iff.1 hx).1
            rw [Hk.out] at this
            omega
          case round =>
            obtain ⟨j, z, g, E', hjn, rfl, hz, rfl, hS, hcnt, hg1, hg0, ho, hb⟩ := hrel
            have HS2 := hyd hS
            have HCn := hyd hcnt
            have HG1' := hyd hg1
            have HG0' := hyd hg0
            have Ho2 := hyd ho
            have HB2 := hyd hb
            clear hS hcnt hg1 hg0 ho hb Ho HB HS HG1 HG0
            by_cases hj0 : 0 < j
            · obtain ⟨m, rfl⟩ : ∃ m, j = m + 1 := ⟨j - 1, by omega⟩
              have hzm : z = (m : Int) := by omega
              subst hzm
              clear hz
              have hmn : m < n := by omega
              have m1 : (0 : Int) ≤ (m : Int) := by omega
              have m2 : (m : Int) < (n : Int) := by omega
              obtain ⟨x, hx⟩ : ∃ x, k[m]? = some x := ⟨_, List.getElem?_eq_getElem (by rw [Hk.out]; exact hmn)⟩
              have Hx := hyd hx
              have hEl : E'.length = n := by rw [HS2.out.1, Hk.out]
              obtain ⟨q, hq⟩ : ∃ q, E'[m]? = some q := ⟨_, List.getElem?_eq_getElem (by omega)⟩
              have Hq := hyd hq
              have HEl := hyd hEl
              have ec := (Ho2.out.cellAt m (by omega)).trans (bool_at hq)
              clear hx hq hEl
              -- the round ends without a change
              have stay : Hid ((¬ ((m : Int) ≠ av ∧ q = false ∧ bhd E' x m = true)) → (g = false → ∀ (i : Nat) x, m ≤ i → k[i]? = some x → (i : Int) ≠ av → bhd E' x i = true → E'[i]? = some true)) := by
                intro hno hg i y hi hy hne hbh
                by_cases e : i = m
                · subst e
                  have e2 := Hx.out.symm.trans hy
                  cases e2
                  cases q
                  · exact absurd ⟨hne, rfl, hbh⟩ hno
                  · exact Hq.out
                · exact HG0'.out hg i y (by omega) hy hne hbh
              by_cases hav : (m : Int) = av
              · have g0 : ((m : Int) != av) = false := by rw [hav]; simp
                have Hav := hyd hav
                clear hav
                go_wp2
                go_roundw
                case rel => exact ⟨m, (m : Int) - 1, g, E', by omega, by go_num, rfl, rfl, HS2.out, HCn.out, HG1'.out, stay.out fun h => h.1 Hav.out, Ho2.out, HB2.out⟩
                case measure => simp [intOf] <;> omega
              · have g0 : ((m : Int) != av) = true := by simpa using hav
                have Hav := hyd hav
                clear hav
                cases q
                · obtain ⟨c0, c1, c2, c3⟩ := Hc.out m x Hx.out
                  have d0 := (HB2.out.cell (p := ⟨b, off + m * 4, none⟩) hbw).trans c0
                  have d1 := (HB2.out.cell (p := ⟨b, off + m * 4 + 1, none⟩) hbw).trans c1
                  have d2 := (HB2.out.cell (p := ⟨b, off + m * 4 + 2, none⟩) hbw).trans c2
                  have d3 := (HB2.out.cell (p := ⟨b, off + m * 4 + 3, none⟩) hbw).trans c3
                  clear c0 c1 c2 c3
                  go_wp2_with fail
                  refine (behind_any n (seesB_owned hn1 hn HEl.out Ho2.out) x m hmn).mono ?_
                  rintro e w2 ⟨rfl, hb2⟩
                  have Ho3 := hyd (Ho2.out.keptB hb2)
                  have HB3 := hyd (HB2.out.trans (hb2.mono HB2.out.size))
                  clear hb2 d0 d1 d2 d3 ec
                  cases hbh : bhd E' x m
                  · go_wp2
                    go_roundw
                    case rel => exact ⟨m, (m : Int) - 1, g, E', by omega, by go_num, rfl, rfl, HS2.out, HCn.out, HG1'.out, stay.out (fun h => by rw [hbh] at h; cases h.2.2), Ho3.out, HB3.out⟩
                    case measure => simp [intOf] <;> omega
                  · have ec2 := (Ho3.out.cellAt m (by omega)).trans (bool_at Hq.out)
                    have fz2 := Ho3.out.frozenAt m
                    have o2 := (Ho3.out.stored m (.bool true)).1
                    rw [bool_set] at o2
                    have HX := hyd (And.intro o2 (HB3.out.setCell (p := ⟨w.heap.size, m, none⟩) (Nat.le_refl _) (.bool true)))
                    clear o2
                    go_wp2
                    go_roundw
                    case rel =>
                      have hc1 := count_set Hq.out
                      have hc2 := HCn.out
                      exact ⟨m, (m : Int) - 1, true, E'.set m true, by omega, by go_num, rfl, rfl, sound_set HS2.out Hx.out (Hb0.out m x Hx.out) Hav.out hbh, by omega, fun _ => by omega, (fun h => by cases h), HX.out.1, HX.out.2⟩
                    case measure => simp [intOf] <;> omega
                · go_wp2
                  go_roundw
                  case rel => exact ⟨m, (m : Int) - 1, g, E', by omega, by go_num, rfl, rfl, HS2.out, HCn.out, HG1'.out, stay.out (fun h => by cases h.2.1), Ho2.out, HB2.out⟩
                  case measure => simp [intOf] <;> omega
            · have hj00 : j = 0 := by omega
              subst hj00
              have hzz : z = -1 := by omega
              subst hzz
              clear hz
              go_wp2
              go_roundw
              case rel => exact ⟨r + 1, g, E', by omega, by go_num, rfl, HS2.out, HG1'.out, fun h i x hx => HG0'.out h i x (Nat.zero_le _) hx, Ho2.out, HB2.out⟩
              case measure => simp [intOf] <;> omega
        · have hrn' : r = n := by omega
          subst hrn'
          go_wp2
          go_ret
          exact ⟨rfl, E, ends_of Hb0.out HS.out (whole_of_count HS.out.1 (by rw [Hk.out]; exact HG1.out (by simp))), Ho.out, HB.out⟩

end Go.Proofs.YtbhbacphiinpeaaGreat
