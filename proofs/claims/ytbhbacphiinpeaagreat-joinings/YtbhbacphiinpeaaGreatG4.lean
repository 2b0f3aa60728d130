/- The join is one; what the document's 'Joins' answers. -/
import Derived.Test.YtbhbacphiinpeaaGreatG3
import Derived.Test.YtbhbacphiinpeaaGreatRE
namespace Go.Proofs.YtbhbacphiinpeaaGreat
open Go.RowKit

theorem way_split {k : List Ins} {wo : Int} : ∀ {p : List Nat} {n d : Nat}, IsWay k wo n p → d ∈ p → ∃ p', IsWay k wo d p' ∧ p'.length < p.length
  | m :: p, n, d, h, hd => by
    obtain ⟨h1, h2, h3⟩ := h
    rcases List.mem_cons.1 hd with rfl | hd
    · exact ⟨p, h3, by simp⟩
    · obtain ⟨p', h4, h5⟩ := way_split h3 hd
      exact ⟨p', h4, by simp; omega⟩

theorem way_avoid {k : List Ins} {wo : Int} : ∀ {p : List Nat} {n d : Nat}, IsWay k wo n p → d ∉ p → IsWay k (d : Int) n p
  | [], n, d, h, _ => h
  | m :: p, n, d, h, hd => by
    obtain ⟨h1, h2, h3⟩ := h
    have hm : m ≠ d := fun e => hd (by simp [e])
    exact ⟨h1, by omega, way_avoid h3 fun h => hd (by simp [h])⟩

theorem psd_mem {k : List Ins} {wo : Int} {n d : Nat} {p : List Nat} (h : Psd k n d) (hw : IsWay k wo n p) : d ∈ p := by
  by_cases hd : d ∈ p
  · exact hd
  · exact absurd ⟨p, way_avoid hw hd⟩ h.2

/-- Two instructions of which each way from the one comes by the other do not both lead to an Exit. -/
theorem psd_two {k : List Ins} {wo : Int} {d e : Nat} (h1 : Psd k d e) (h2 : Psd k e d) : ∀ (m : Nat) (p : List Nat), p.length ≤ m → ¬ IsWay k wo d p
  | 0, p, hl, hw => by
    have := psd_mem h1 hw
    have hp : p = [] := List.eq_nil_of_length_eq_zero (by omega)
    rw [hp] at this
    simp at this
  | m + 1, p, hl, hw => by
    obtain ⟨p2, hw2, hl2⟩ := way_split hw (psd_mem h1 hw)
    obtain ⟨p3, hw3, hl3⟩ := way_split hw2 (psd_mem h2 hw2)
    exact psd_two h1 h2 m p3 (by omega) hw3

theorem first_one {k : List Ins} {wo : Int} {n d e : Nat} (hr : Rch k wo n) (h1 : IsFirst k n d) (h2 : IsFirst k n e) : d = e := by
  by_cases hde : d = e
  · exact hde
  · obtain ⟨p, hp⟩ := hr
    have a := h1.2.2 e h2.1 h2.2.1 (fun x => hde x.symm)
    have b := h2.2.2 d h1.1 h1.2.1 hde
    obtain ⟨p2, hp2, -⟩ := way_split hp (psd_mem h1.2.1 hp)
    exact absurd hp2 (psd_two a b p2.length p2 (Nat.le_refl _))

theorem join_one {k : List Ins} {n : Nat} {i j : Int} (h1 : JoinIs k n i) (h2 : JoinIs k n j) : i = j := by
  rcases h1 with ⟨hr, rfl⟩ | ⟨hr, ⟨d, hd, rfl⟩ | ⟨hd, rfl⟩⟩
  · rcases h2 with ⟨_, rfl⟩ | ⟨hr2, _⟩
    · rfl
    · exact absurd hr2 hr
  · rcases h2 with ⟨hr2, _⟩ | ⟨_, ⟨e, he, rfl⟩ | ⟨he, rfl⟩⟩
    · exact absurd hr hr2
    · rw [first_one hr hd he]
    · exact absurd ⟨d, hd⟩ he
  · rcases h2 with ⟨hr2, _⟩ | ⟨_, ⟨e, he, rfl⟩ | ⟨he, rfl⟩⟩
    · exact absurd hr hr2
    · exact absurd ⟨e, he⟩ hd
    · rfl

/-- The joins of a kernel, by their numbers. -/
def JoinsAre (k : List Ins) (J : List Int) : Prop := J.length = k.length ∧ ∀ (i : Nat) j, J[i]? = some j → JoinIs k i j

theorem joins_one {k : List Ins} {I J : List Int} (h1 : JoinsAre k I) (h2 : JoinsAre k J) : I = J := by
  apply List.ext_getElem?
  intro i
  by_cases hi : i < k.length
  · obtain ⟨a, e1⟩ : ∃ a, I[i]? = some a := ⟨_, List.getElem?_eq_getElem (by rw [h1.1]; exact hi)⟩
    obtain ⟨b, e2⟩ : ∃ b, J[i]? = some b := ⟨_, List.getElem?_eq_getElem (by rw [h2.1]; exact hi)⟩
    rw [e1, e2, join_one (h1.2 i _ e1) (h2.2 i _ e2)]
  · rw [List.getElem?_eq_none (by rw [h1.1]; omega), List.getElem?_eq_none (by rw [h2.1]; omega)]

def intVals (l : List Int) : List Value := l.map fun m => Value.int .i64 m
theorem int_snoc (L : List Int) (m : Int) : intVals (L ++ [m]) = intVals L ++ [.int .i64 m] := by simp [intVals]

theorem dec_good {s : ByteArray} (h : (dchk s).1 = 0) : chk (decL s) = (0, 0) ∧ 1 ≤ (decL s).length ∧ (decL s).length ≤ 40 := by
  unfold decL
  rw [if_pos h]
  unfold dchk at h
  by_cases h2 : s.size % 4 ≠ 0 ∨ 160 < s.size
  · rw [if_pos h2] at h; simp at h
  · rw [if_neg h2] at h
    obtain ⟨h3, h4, h5, -⟩ := chk_zero h
    exact ⟨h3, h4, h5⟩

theorem kAt_owned {w : World} {base g n cap : Nat} {k : List Ins} (hk : chk k = (0, 0)) (hn : k.length = n) (h : w.ownsRow base 92 4 (.slice (some ⟨g, 0, none⟩) n cap) n (flat k)) : KAt w g 0 n k := by
  obtain ⟨-, h1, h2, h3⟩ := chk_zero (by rw [hk])
  refine ⟨hn, by omega, by omega, closed_chk hk, (h.lt g rfl).2, fun i x hx => ?_, fun i x hx => ?_⟩
  · have := okB_bd (by omega) (h3 i x hx)
    exact this.2.2.1.1
  · have hi : i < n := by have := (List.getElem?_eq_some_iff.1 hx).1; omega
    obtain ⟨a0, a1, a2, a3⟩ := flat_at hx
    simp only [Nat.zero_add]
    exact ⟨(h.cellAt (i * 4) (by omega)).trans a0, (h.cellAt (i * 4 + 1) (by omega)).trans a1, (h.cellAt (i * 4 + 2) (by omega)).trans a2, (h.cellAt (i * 4 + 3) (by omega)).trans a3⟩

theorem owns_down {w : World} {base base' : Nat} {e : TypeId} {size : Nat} {v : Value} {n : Nat} {xs : List Value} (h : w.ownsRow base e size v n xs) (hb : base' ≤ base) : w.ownsRow base' e size v n xs := by
  refine ⟨h.1, ?_⟩
  rcases h.2 with h2 | ⟨g, cap, cur, hv, hg, r⟩
  · exact .inl h2
  · exact .inr ⟨g, cap, cur, hv, by omega, r⟩

set_option maxHeartbeats 1000000 in
set_option maxRecDepth 100000 in
theorem rjoins_yes (s : ByteArray) (hm : s.size ≤ 140737488355328) (h0 : (dchk s).1 = 0) (w : World) :
    Calls Tryz.prog 30 #[.string s] w fun e w' => ∃ v J, e = .returned (.tuple #[v, .int .i64 0, .int .i64 0]) ∧ JoinsAre (decL s) J ∧ w'.ownsRow w.heap.size 3 1 v J.length (intVals J) ∧ Below w.heap.size w w' := by
  obtain ⟨g1, g2, g3⟩ := dec_good h0
  obtain ⟨k, Hk⟩ : ∃ k, Hid (decL s = k) := ⟨_, rfl⟩
  obtain ⟨n, Hn⟩ : ∃ n, Hid (k.length = n) := ⟨_, rfl⟩
  rw [Hk.out] at g1 g2 g3 ⊢
  rw [Hn.out] at g2 g3
  have Hchk := hyd g1
  have hd : Hid (dchk s = (0, 0)) := by
    unfold decL at Hk
    rw [if_pos h0] at Hk
    have e : dchk s = chk (unp s (s.size / 4)) := by
      unfold dchk
      unfold dchk at h0
      by_cases h2 : s.size % 4 ≠ 0 ∨ 160 < s.size
      · rw [if_pos h2] at h0; simp at h0
      · rw [if_neg h2]
    rw [e, Hk.out]
    exact Hchk.out
  clear g1 h0
  have hn2 : (n : Int) ≤ 40 := by omega
  obtain ⟨i0, hi, hz0, hz1, hz2⟩ := info_parts Tryz.info3
  go_enter Tryz.func30, Tryz.ntmps30
  go_wp2_with fail
  refine (rdecode_any s hm _).mono ?_
  rw [hd.out, Hk.out, Hn.out]
  rintro e w1 ⟨v, rfl, hb1, hown1⟩
  obtain ⟨g, cap, hv, -, -⟩ := hown1.form (by omega)
  subst hv
  have HK := hyd (kAt_owned Hchk.out Hn.out hown1)
  have HB1 := hyd hb1
  clear hown1 hb1
  go_wp2_with fail
  go_loopw [8, 9] (fun va dv wr => ∃ (d : Nat) (J : List Int), d ≤ n ∧ dv = .int .i64 d ∧ J.length = d ∧ (∀ (i : Nat) j, J[i]? = some j → JoinIs k i j) ∧ wr.ownsRow w1.heap.size 3 1 va J.length (intVals J) ∧ Below w1.heap.size w1 wr) (fun _ dv _ => n - (intOf dv).toNat)
  case atStart => exact ⟨0, [], Nat.zero_le _, rfl, rfl, fun i j hj => by simp at hj, World.ownsRow_nil _ _ _ _, Below.refl _ _⟩
  case round =>
    obtain ⟨d, J, hdn, rfl, hJl, hJ, hown, hb⟩ := hrel
    have HJl := hyd hJl
    have HJ := hyd hJ
    have Hown := hyd hown
    have hb' := HB1.out.trans (hb.mono HB1.out.size)
    clear hJl hJ hown
    by_cases hlt : d < n
    · go_wp2_with fail
      refine (join_any cap (HK.out.up (Nat.le_refl _) hb) d hlt).mono ?_
      rintro e w2 ⟨⟨j, rfl, hj⟩, hb2⟩
      have Hj := hyd hj
      have Hown2 := hyd (Hown.out.keptB hb2)
      have HB2 := hyd (hb.trans (hb2.mono hb.size))
      have hszw : w1.heap.size ≤ w2.heap.size := Nat.le_trans hb.size hb2.size
      have hJ40 : J.length ≤ 40 := by have := HJl.out; omega
      clear hj hb2
      go_wp2_with (at_builtin; go_must (refine wpList_append_own _ rfl (.tmp 30) (.tmp 32) 24 rfl w1.heap.size 3 i0 (.int .i64 0) 1 8 Tryz.underlying24 hi hz0 hz1 hz2 rfl (by decide) u8 J.length (intVals J) rfl ?a0 ⟨w2.heap.size, 0, none⟩ 1 1 [.int .i64 j] rfl rfl ?a1 ?a2 ?a3 ?a4 ?a5 ?_))
      case a0 => exact Hown2.out.alloc _
      case a1 => exact World.news_of_block (heap_alloc_new w2 _)
      case a2 => intro u hu; simp at hu; subst hu; rfl
      case a3 => unfold maxLen; omega
      case a4 => omega
      case a5 => simp; omega
      · intro v3 w3 hown3 hgrow3 _
        rw [← int_snoc] at hown3
        have hb3 : Below w1.heap.size w1 w3 := (HB2.out.alloc HB2.out.size _).grown hgrow3 (by simp; omega) (fun x hx => (Hown2.out.lt x hx).1)
        have HX := hyd (And.intro hown3 hb3)
        clear hown3 hgrow3 hb3
        go_wp2
        go_roundw
        case rel =>
          refine ⟨d + 1, J ++ [j], by omega, by go_num, by rw [List.length_append, HJl.out]; rfl, fun i z hz => ?_, by rw [List.length_append]; exact HX.out.1, HX.out.2⟩
          by_cases hiJ : i < J.length
          · rw [List.getElem?_append_left hiJ] at hz
            exact HJ.out i z hz
          · rw [List.getElem?_append_right (by omega)] at hz
            have hi0 : i - J.length = 0 := by
              have := (List.getElem?_eq_some_iff.1 hz).1
              simp at this; omega
            rw [hi0] at hz
            simp at hz
            subst hz
            have e : i = d := by have := HJl.out; omega
            rw [e]
            exact Hj.out
        case measure => simp [intOf]; omega
    · have hdn' : d = n := by omega
      subst hdn'
      go_wp2
      go_ret3
      exact ⟨_, J, rfl, ⟨by rw [HJl.out, Hn.out], HJ.out⟩, owns_down Hown.out HB1.out.size, hb'⟩

set_option maxHeartbeats 400000 in
theorem rjoins_no (s : ByteArray) (hm : s.size ≤ 140737488355328) (h0 : (dchk s).1 ≠ 0) (w : World) :
    Calls Tryz.prog 30 #[.string s] w fun e w' => e = .returned (.tuple #[.slice none 0 0, .int .i64 (dchk s).1, .int .i64 (dchk s).2]) ∧ Below w.heap.size w w' := by
  have g0 : ((dchk s).1 != 0) = true := by simpa using h0
  clear h0
  go_enter Tryz.func30, Tryz.ntmps30
  go_wp2_with fail
  refine (rdecode_any s hm _).mono ?_
  rintro e w1 ⟨v, rfl, hb1, -⟩
  go_wp2
  go_ret3
  exact ⟨rfl, hb1⟩

end Go.Proofs.YtbhbacphiinpeaaGreat
