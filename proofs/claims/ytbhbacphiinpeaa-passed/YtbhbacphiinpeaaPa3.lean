/- What 'walk' (of loomkeep) answers. -/
import Derived.Test.YtbhbacphiinpeaaPa1
import Derived.Test.YtbhbacphiinpeaaG3
namespace Go.Proofs.Ytbhbacphiinpeaa
open Go.RowKit

/-- A way from n that has come to m. -/
def Trail (k : List Ins) : Nat → List Nat → Nat → Prop
  | n, [], m => n = m
  | n, a :: p, m => a ∈ nxt k n ∧ Trail k a p m

theorem Trail.snoc {k : List Ins} : ∀ {p : List Nat} {n m a : Nat}, Trail k n p m → a ∈ nxt k m → Trail k n (p ++ [a]) a
  | [], n, m, a, h, ha => by
    have e : n = m := h
    subst e
    exact ⟨ha, rfl⟩
  | _ :: _, n, m, a, h, ha => ⟨h.1, Trail.snoc h.2 ha⟩

theorem Trail.way {k : List Ins} : ∀ {p : List Nat} {n m : Nat}, Trail k n p m → isEnd k m → IsWay k (-1) n p
  | [], n, m, h, he => by
    have e : n = m := h
    subst e
    exact he
  | _ :: _, n, m, h, he => ⟨h.1, by omega, Trail.way h.2 he⟩

theorem owns_sliceN {w : World} {base : Nat} {t : TypeId} {sz n : Nat} {v : Value} {xs : List Value} (h : w.ownsRow base t sz v n xs) : ∃ ao cap, v = .slice ao n cap := by
  rcases h.2 with ⟨rfl, h0⟩ | ⟨g, cap, cur, rfl, -⟩
  · exact ⟨none, 0, by rw [h0]⟩
  · exact ⟨_, cap, rfl⟩

theorem SeesI.up {w w' : World} {v : Value} {l : List Int} {B : Nat} (h : SeesI w v l) (hB : w.heap.size ≤ B) (hb : Below B w w') : SeesI w' v l := by
  obtain ⟨h1, h2, h⟩ := h
  refine ⟨h1, h2, ?_⟩
  rcases h with h0 | ⟨b, off, cap, rfl, hlt, hc⟩
  · exact .inl h0
  · exact .inr ⟨b, off, cap, rfl, Nat.lt_of_lt_of_le hlt hb.size, fun i x hx => (hb.cell (Nat.lt_of_lt_of_le hlt hB)).trans (hc i x hx)⟩

theorem SeesI.slice {w : World} {v : Value} {l : List Int} (h : SeesI w v l) : ∃ ao cap, v = .slice ao l.length cap := by
  obtain ⟨-, -, h⟩ := h
  rcases h with ⟨rfl, ao, cap, rfl⟩ | ⟨b, off, cap, rfl, -⟩
  · exact ⟨ao, cap, rfl⟩
  · exact ⟨_, cap, rfl⟩

set_option maxHeartbeats 2000000 in
set_option maxRecDepth 100000 in
theorem walk_any {w : World} {b off n : Nat} {k : List Ins} (cap : Nat) (h : KAt w b off n k) (s : Nat) (hs : s < n) {v : Value} {cl : List Int} (hv : SeesI w v cl) :
    Calls Try.prog 15 #[.slice (some ⟨b, off, none⟩) n cap, .int .i64 s, v] w fun e w' => ∃ u P, ∃ r : Bool, e = .returned (.tuple #[u, .bool r]) ∧ w'.ownsRow w.heap.size 3 1 u (P.length + 1) (natVals (s :: P)) ∧ P.length ≤ 400 ∧ (r = true → IsWay k (-1) s P) ∧ Below w.heap.size w w' := by
  have HK := hyd h
  have HV := hyd hv
  obtain ⟨ca, cc, hvs⟩ := hv.slice
  obtain ⟨cn, Hcn⟩ : ∃ cn, Hid (cl.length = cn) := ⟨_, rfl⟩
  rw [Hcn.out] at hvs
  subst hvs
  have hcn2 : (cn : Int) ≤ 9223372036854775807 := by have := hv.1; have := Hcn.out; omega
  have hn40 : n ≤ 40 := h.2.2.1
  have hbw : b < w.heap.size := h.2.2.2.2.1
  clear h hv
  have hn2 : (n : Int) ≤ 40 := by omega
  obtain ⟨i0, hi, hz0, hz1, hz2⟩ := info_parts Try.infoQ3
  go_enter Try.func15, Try.ntmps15
  go_wp2_with fail
  go_loopg [8, 9, 10] 399 (fun r va nv cv wr => ∃ (c m : Nat) (P : List Nat), (∃ ao vc, va = .slice ao (P.length + 1) vc) ∧ nv = .int .i64 m ∧ cv = .int .i64 c ∧ m < n ∧ c ≤ P.length ∧ P.length + r = 399 ∧ Trail k s P m ∧ wr.ownsRow w.heap.size 3 1 va (P.length + 1) (natVals (s :: P)) ∧ Below w.heap.size w wr)
  case atStart =>
    refine ⟨0, s, [], ⟨_, _, rfl⟩, rfl, rfl, hs, by simp, by simp, rfl, ?_, (Below.refl _ w).alloc (Nat.le_refl _) _⟩
    exact World.ownsRow_lit (base := w.heap.size) (e := 3) (size := 1) w #[.int .i64 s] 1 (Nat.le_refl _) (by decide) rfl
  case round =>
    obtain ⟨c, m, P, ⟨ao, vc, rfl⟩, rfl, rfl, hmn, hcP, hPr, htr, hown, hb⟩ := hrel
    obtain ⟨q, HP⟩ : ∃ q, Hid (P.length = q) := ⟨_, rfl⟩
    rw [HP.out] at hown hPr hcP ⊢
    have Htr := hyd htr
    have Hown := hyd hown
    have HB := hyd hb
    clear htr hown
    have hq2 : (q : Int) ≤ 399 := by omega
    have hc2 : (c : Int) ≤ 399 := by omega
    have m1 : (0 : Int) ≤ (m : Int) := by omega
    have m2 : (m : Int) < (n : Int) := by omega
    by_cases hg : gk = 0
    · have hq : q = 399 := by omega
      subst hq
      go_wp2
      go_ret2
      exact ⟨_, P, false, rfl, by rw [HP.out]; exact Hown.out, by rw [HP.out]; omega, (fun h => by cases h), HB.out⟩
    obtain ⟨r, hr⟩ : ∃ r, gk = r + 1 := ⟨gk - 1, by omega⟩
    have hq3 : (q : Int) ≤ 398 := by omega
    obtain ⟨x, hx⟩ : ∃ x, k[m]? = some x := ⟨_, List.getElem?_eq_getElem (by rw [HK.out.1]; exact hmn)⟩
    have hxb : 0 ≤ x.b := HK.out.2.2.2.2.2.1 m x hx
    obtain ⟨c0, -, c2, -⟩ := HK.out.2.2.2.2.2.2 m x hx
    have d0 := (hb.cell (p := ⟨b, off + m * 4, none⟩) hbw).trans c0
    have d2 := (hb.cell (p := ⟨b, off + m * 4 + 2, none⟩) hbw).trans c2
    have hnx : nxt k m = if x.o = 0 then [] else if x.o = 12 then [x.b.toNat] else if x.o = 13 then [x.b.toNat, m + 1] else [m + 1] := by unfold nxt; rw [hx]
    have Hnx := hyd hnx
    have Hx := hyd hx
    have hbn : ((x.b.toNat : Nat) : Int) = x.b := by omega
    have Hbn := hyd hbn
    clear hx hnx hbn c0 c2 hb hxb
    by_cases h0 : x.o = 0
    · have t0 : (x.o == 0) = true := by rw [h0]; rfl
      have Hend := hyd (show isEnd k m from ⟨x, Hx.out, h0⟩)
      clear h0
      go_wp2
      go_ret2
      exact ⟨_, P, true, rfl, by rw [HP.out]; exact Hown.out, by rw [HP.out]; omega, fun _ => Htr.out.way Hend.out, HB.out⟩
    have t0 : (x.o == 0) = false := beq_eq_false_iff_ne.2 h0
    have H0 := hyd h0
    clear h0
    by_cases h12 : x.o = 12
    · have t1 : (x.o == 12) = true := by rw [h12]; rfl
      have H12 := hyd h12
      clear h12
      go_wp2_with (at_builtin; go_must (refine wpList_append_own _ rfl (.tmp 58) (.tmp 60) 22 rfl w.heap.size 3 i0 (.int .i64 0) 1 8 Try.underlying22 hi hz0 hz1 hz2 rfl (by decide) (.slice ao (q + 1) vc) (q + 1) (natVals (s :: P)) rfl ?a0 ⟨wr.heap.size, 0, none⟩ 1 1 [.int .i64 x.b] rfl rfl ?a1 ?a2 ?a3 ?a4 ?a5 ?_))
      case a0 => exact Hown.out.alloc _
      case a1 => exact World.news_of_block (heap_alloc_new wr _)
      case a2 => intro u hu; simp at hu; subst hu; rfl
      case a3 => unfold maxLen; omega
      case a4 => omega
      case a5 => have := HB.out.size; simp; omega
      · intro v3 w3 hown3 hgrow3 _
        have eI : (x.b : Int) = ((x.b.toNat : Nat) : Int) := by first | rfl | exact Hbn.out | exact Hbn.out.symm | omega
        rw [eI, ← nat_snoc] at hown3
        have hb3 : Below w.heap.size w w3 := (HB.out.alloc HB.out.size _).grown hgrow3 (by have := HB.out.size; simp; omega) (fun x hx => (Hown.out.lt x hx).1)
        have HX := hyd (And.intro hown3 hb3)
        have Hm := hyd (show x.b.toNat ∈ nxt k m from by rw [Hnx.out, if_neg H0.out, if_pos H12.out]; simp)
        clear hown3 hgrow3 hb3
        go_wp2
        go_roundg r
        case measure => omega
        case rel =>
          refine ⟨c, x.b.toNat, P ++ [x.b.toNat], by rw [List.length_append, HP.out]; exact owns_sliceN HX.out.1, by first | rfl | go_num | exact congrArg (Value.int .i64) Hbn.out.symm | exact congrArg (Value.int .i64) Hbn.out, by go_num, HK.out.2.2.2.1 m _ (by rw [HK.out.1]; exact hmn) Hm.out |> fun h => by rw [HK.out.1] at h; exact h, by rw [List.length_append, HP.out]; simp; omega, by rw [List.length_append, HP.out]; simp; omega, Htr.out.snoc Hm.out, ?_, HX.out.2⟩
          rw [List.length_append, HP.out]
          exact HX.out.1
    have t1 : (x.o == 12) = false := beq_eq_false_iff_ne.2 h12
    have H12 := hyd h12
    clear h12
    by_cases h13 : x.o = 13
    · have t2 : (x.o == 13) = true := by rw [h13]; rfl
      have H13 := hyd h13
      clear h13
      have HV2 := hyd (HV.out.up (Nat.le_refl _) HB.out)
      go_wp2_with fail
      refine (at_any HV2.out c (by omega)).mono ?_
      rintro e w2 ⟨⟨y, rfl, hy1, hy2⟩, rfl⟩
      by_cases hyy : (Int.tmod y 2 != 0) = true
      · have t5 := hyy
        clear hyy
        go_wp2_with (at_builtin; go_must (refine wpList_append_own _ rfl (.tmp 58) (.tmp 60) 22 rfl w.heap.size 3 i0 (.int .i64 0) 1 8 Try.underlying22 hi hz0 hz1 hz2 rfl (by decide) (.slice ao (q + 1) vc) (q + 1) (natVals (s :: P)) rfl ?a0 ⟨w2.heap.size, 0, none⟩ 1 1 [.int .i64 x.b] rfl rfl ?a1 ?a2 ?a3 ?a4 ?a5 ?_))
        case a0 => exact Hown.out.alloc _
        case a1 => exact World.news_of_block (heap_alloc_new w2 _)
        case a2 => intro u hu; simp at hu; subst hu; rfl
        case a3 => unfold maxLen; omega
        case a4 => omega
        case a5 => have := HB.out.size; simp; omega
        · intro v3 w3 hown3 hgrow3 _
          have eI : (x.b : Int) = ((x.b.toNat : Nat) : Int) := by first | rfl | exact Hbn.out | exact Hbn.out.symm | omega
          rw [eI, ← nat_snoc] at hown3
          have hb3 : Below w.heap.size w w3 := (HB.out.alloc HB.out.size _).grown hgrow3 (by have := HB.out.size; simp; omega) (fun x hx => (Hown.out.lt x hx).1)
          have HX := hyd (And.intro hown3 hb3)
          have Hm := hyd (show x.b.toNat ∈ nxt k m from by rw [Hnx.out, if_neg H0.out, if_neg H12.out, if_pos H13.out]; simp)
          clear hown3 hgrow3 hb3
          go_wp2
          go_roundg r
          case measure => omega
          case rel =>
            refine ⟨(c + 1), x.b.toNat, P ++ [x.b.toNat], by rw [List.length_append, HP.out]; exact owns_sliceN HX.out.1, by first | rfl | go_num | exact congrArg (Value.int .i64) Hbn.out.symm | exact congrArg (Value.int .i64) Hbn.out, by go_num, HK.out.2.2.2.1 m _ (by rw [HK.out.1]; exact hmn) Hm.out |> fun h => by rw [HK.out.1] at h; exact h, by rw [List.length_append, HP.out]; simp; omega, by rw [List.length_append, HP.out]; simp; omega, Htr.out.snoc Hm.out, ?_, HX.out.2⟩
            rw [List.length_append, HP.out]
            exact HX.out.1
      · have t5 : (Int.tmod y 2 != 0) = false := by simpa using hyy
        clear hyy
        by_cases hcc : cn ≤ c
        · have t6 : decide ((cn : Int) ≤ (c : Int)) = true := by simpa using hcc
          go_wp2_with (at_builtin; go_must (refine wpList_append_own _ rfl (.tmp 58) (.tmp 60) 22 rfl w.heap.size 3 i0 (.int .i64 0) 1 8 Try.underlying22 hi hz0 hz1 hz2 rfl (by decide) (.slice ao (q + 1) vc) (q + 1) (natVals (s :: P)) rfl ?a0 ⟨w2.heap.size, 0, none⟩ 1 1 [.int .i64 x.b] rfl rfl ?a1 ?a2 ?a3 ?a4 ?a5 ?_))
          case a0 => exact Hown.out.alloc _
          case a1 => exact World.news_of_block (heap_alloc_new w2 _)
          case a2 => intro u hu; simp at hu; subst hu; rfl
          case a3 => unfold maxLen; omega
          case a4 => omega
          case a5 => have := HB.out.size; simp; omega
          · intro v3 w3 hown3 hgrow3 _
            have eI : (x.b : Int) = ((x.b.toNat : Nat) : Int) := by first | rfl | exact Hbn.out | exact Hbn.out.symm | omega
            rw [eI, ← nat_snoc] at hown3
            have hb3 : Below w.heap.size w w3 := (HB.out.alloc HB.out.size _).grown hgrow3 (by have := HB.out.size; simp; omega) (fun x hx => (Hown.out.lt x hx).1)
            have HX := hyd (And.intro hown3 hb3)
            have Hm := hyd (show x.b.toNat ∈ nxt k m from by rw [Hnx.out, if_neg H0.out, if_neg H12.out, if_pos H13.out]; simp)
            clear hown3 hgrow3 hb3
            go_wp2
            go_roundg r
            case measure => omega
            case rel =>
              refine ⟨(c + 1), x.b.toNat, P ++ [x.b.toNat], by rw [List.length_append, HP.out]; exact owns_sliceN HX.out.1, by first | rfl | go_num | exact congrArg (Value.int .i64) Hbn.out.symm | exact congrArg (Value.int .i64) Hbn.out, by go_num, HK.out.2.2.2.1 m _ (by rw [HK.out.1]; exact hmn) Hm.out |> fun h => by rw [HK.out.1] at h; exact h, by rw [List.length_append, HP.out]; simp; omega, by rw [List.length_append, HP.out]; simp; omega, Htr.out.snoc Hm.out, ?_, HX.out.2⟩
              rw [List.length_append, HP.out]
              exact HX.out.1
        · have t6 : decide ((cn : Int) ≤ (c : Int)) = false := by simpa using hcc
          go_wp2_with (at_builtin; go_must (refine wpList_append_own _ rfl (.tmp 58) (.tmp 60) 22 rfl w.heap.size 3 i0 (.int .i64 0) 1 8 Try.underlying22 hi hz0 hz1 hz2 rfl (by decide) (.slice ao (q + 1) vc) (q + 1) (natVals (s :: P)) rfl ?a0 ⟨w2.heap.size, 0, none⟩ 1 1 [.int .i64 ((m : Int) + 1)] rfl rfl ?a1 ?a2 ?a3 ?a4 ?a5 ?_))
          case a0 => exact Hown.out.alloc _
          case a1 => exact World.news_of_block (heap_alloc_new w2 _)
          case a2 => intro u hu; simp at hu; subst hu; rfl
          case a3 => unfold maxLen; omega
          case a4 => omega
          case a5 => have := HB.out.size; simp; omega
          · intro v3 w3 hown3 hgrow3 _
            have eI : (((m : Int) + 1) : Int) = (((m + 1) : Nat) : Int) := by first | rfl | exact Hbn.out | exact Hbn.out.symm | omega
            rw [eI, ← nat_snoc] at hown3
            have hb3 : Below w.heap.size w w3 := (HB.out.alloc HB.out.size _).grown hgrow3 (by have := HB.out.size; simp; omega) (fun x hx => (Hown.out.lt x hx).1)
            have HX := hyd (And.intro hown3 hb3)
            have Hm := hyd (show (m + 1) ∈ nxt k m from by rw [Hnx.out, if_neg H0.out, if_neg H12.out, if_pos H13.out]; simp)
            clear hown3 hgrow3 hb3
            go_wp2
            go_roundg r
            case measure => omega
            case rel =>
              refine ⟨(c + 1), (m + 1), P ++ [(m + 1)], by rw [List.length_append, HP.out]; exact owns_sliceN HX.out.1, by first | rfl | go_num | exact congrArg (Value.int .i64) Hbn.out.symm | exact congrArg (Value.int .i64) Hbn.out, by go_num, HK.out.2.2.2.1 m _ (by rw [HK.out.1]; exact hmn) Hm.out |> fun h => by rw [HK.out.1] at h; exact h, by rw [List.length_append, HP.out]; simp; omega, by rw [List.length_append, HP.out]; simp; omega, Htr.out.snoc Hm.out, ?_, HX.out.2⟩
              rw [List.length_append, HP.out]
              exact HX.out.1
    have t2 : (x.o == 13) = false := beq_eq_false_iff_ne.2 h13
    have H13 := hyd h13
    clear h13
    go_wp2_with (at_builtin; go_must (refine wpList_append_own _ rfl (.tmp 58) (.tmp 60) 22 rfl w.heap.size 3 i0 (.int .i64 0) 1 8 Try.underlying22 hi hz0 hz1 hz2 rfl (by decide) (.slice ao (q + 1) vc) (q + 1) (natVals (s :: P)) rfl ?a0 ⟨wr.heap.size, 0, none⟩ 1 1 [.int .i64 ((m : Int) + 1)] rfl rfl ?a1 ?a2 ?a3 ?a4 ?a5 ?_))
    case a0 => exact Hown.out.alloc _
    case a1 => exact World.news_of_block (heap_alloc_new wr _)
    case a2 => intro u hu; simp at hu; subst hu; rfl
    case a3 => unfold maxLen; omega
    case a4 => omega
    case a5 => have := HB.out.size; simp; omega
    · intro v3 w3 hown3 hgrow3 _
      have eI : (((m : Int) + 1) : Int) = (((m + 1) : Nat) : Int) := by first | rfl | exact Hbn.out | exact Hbn.out.symm | omega
      rw [eI, ← nat_snoc] at hown3
      have hb3 : Below w.heap.size w w3 := (HB.out.alloc HB.out.size _).grown hgrow3 (by have := HB.out.size; simp; omega) (fun x hx => (Hown.out.lt x hx).1)
      have HX := hyd (And.intro hown3 hb3)
      have Hm := hyd (show (m + 1) ∈ nxt k m from by rw [Hnx.out, if_neg H0.out, if_neg H12.out, if_neg H13.out]; simp)
      clear hown3 hgrow3 hb3
      go_wp2
      go_roundg r
      case measure => omega
      case rel =>
        refine ⟨c, (m + 1), P ++ [(m + 1)], by rw [List.length_append, HP.out]; exact owns_sliceN HX.out.1, by first | rfl | go_num | exact congrArg (Value.int .i64) Hbn.out.symm | exact congrArg (Value.int .i64) Hbn.out, by go_num, HK.out.2.2.2.1 m _ (by rw [HK.out.1]; exact hmn) Hm.out |> fun h => by rw [HK.out.1] at h; exact h, by rw [List.length_append, HP.out]; simp; omega, by rw [List.length_append, HP.out]; simp; omega, Htr.out.snoc Hm.out, ?_, HX.out.2⟩
        rw [List.length_append, HP.out]
        exact HX.out.1

end Go.Proofs.Ytbhbacphiinpeaa
