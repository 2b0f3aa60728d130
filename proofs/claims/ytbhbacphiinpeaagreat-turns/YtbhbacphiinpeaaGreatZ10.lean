/- G3 G4: joined. -/
import Derived.Test.YtbhbacphiinpeaaGreatZ09
import Derived.Deep.RegionHeld3
import Derived.Test.YtbhbacphiinpeaaGreatZ05

/- What the document's 'passed' and 'Join' answer. -/
namespace Go.Proofs.YtbhbacphiinpeaaGreat
open Go.RowKit

/-- Each way from n to an Exit comes by d, another instruction. -/
def Psd (k : List Ins) (n d : Nat) : Prop := n ≠ d ∧ ¬ Rch k (d : Int) n

/-- d is the first of the instructions that stand on each way from n to an Exit. -/
def IsFirst (k : List Ins) (n d : Nat) : Prop := d < k.length ∧ Psd k n d ∧ ∀ x, x < k.length → Psd k n x → x ≠ d → Psd k d x

/-- The join of n, as the document's answer has it. -/
def JoinIs (k : List Ins) (n : Nat) (j : Int) : Prop :=
  (¬ Rch k (-1) n ∧ j = -1) ∨ (Rch k (-1) n ∧ ((∃ d : Nat, IsFirst k n d ∧ j = (d : Int)) ∨ ((¬ ∃ d, IsFirst k n d) ∧ j = -1)))

/-- A kernel in memory whose ways stay within it. -/
def KAt (w : World) (b off n : Nat) (k : List Ins) : Prop := k.length = n ∧ 1 ≤ n ∧ n ≤ 40 ∧ Closed k ∧ b < w.heap.size ∧ (∀ (i : Nat) x, k[i]? = some x → 0 ≤ x.b) ∧
  ∀ (i : Nat) x, k[i]? = some x → w.cell? ⟨b, off + i * 4, none⟩ = some (.int .i64 x.o) ∧ w.cell? ⟨b, off + i * 4 + 1, none⟩ = some (.int .i64 x.a) ∧ w.cell? ⟨b, off + i * 4 + 2, none⟩ = some (.int .i64 x.b) ∧ w.cell? ⟨b, off + i * 4 + 3, none⟩ = some (.int .i64 x.c)

theorem KAt.up {w w' : World} {b off n : Nat} {k : List Ins} {B : Nat} (h : KAt w b off n k) (hB : w.heap.size ≤ B) (hb : Below B w w') : KAt w' b off n k := by
  obtain ⟨h1, h2, h3, h4, h5, h6, h7⟩ := h
  have hbB : b < B := Nat.lt_of_lt_of_le h5 hB
  refine ⟨h1, h2, h3, h4, Nat.lt_of_lt_of_le h5 hb.size, h6, fun i x hx => ?_⟩
  obtain ⟨c0, c1, c2, c3⟩ := h7 i x hx
  exact ⟨(hb.cell hbB).trans c0, (hb.cell hbB).trans c1, (hb.cell hbB).trans c2, (hb.cell hbB).trans c3⟩

theorem reaches_any {w : World} {b off n : Nat} {k : List Ins} (cap : Nat) (h : KAt w b off n k) (s : Nat) (hs : s < n) (wo : Int) :
    Calls Tryz.prog 71 #[.slice (some ⟨b, off, none⟩) n cap, .int .i64 s, .int .i64 wo] w fun e w' => (∃ r : Bool, e = .returned (.bool r) ∧ (r = true ↔ Rch k wo s)) ∧ Below w.heap.size w w' := by
  obtain ⟨h1, h2, h3, h4, h5, h6, h7⟩ := h
  exact reaches_at b off n cap s k h1 h2 h3 h4 hs wo w h5 h6 h7

set_option maxHeartbeats 400000 in
theorem passed_any {w : World} {b off n : Nat} {k : List Ins} (cap : Nat) (h : KAt w b off n k) (s : Nat) (hs : s < n) (d : Nat) :
    Calls Tryz.prog 72 #[.slice (some ⟨b, off, none⟩) n cap, .int .i64 s, .int .i64 d] w fun e w' => (∃ r : Bool, e = .returned (.bool r) ∧ (r = true ↔ Psd k s d)) ∧ Below w.heap.size w w' := by
  have H := hyd h
  clear h
  by_cases hsd : s = d
  · subst hsd
    have g0 : ((s : Int) != (s : Int)) = false := by simp
    go_enter Tryz.func72, Tryz.ntmps72
    go_wp2_with fail
    refine (reaches_any cap H.out s hs _).mono ?_
    rintro e w1 ⟨⟨r, rfl, hr⟩, hb⟩
    have HR := hyd hr
    clear hr
    go_wp2
    go_ret
    exact ⟨⟨false, rfl, by simp [Psd]⟩, hb⟩
  · have g0 : ((s : Int) != (d : Int)) = true := by
      rw [bne_iff_ne]; omega
    have Hsd := hyd hsd
    clear hsd
    go_enter Tryz.func72, Tryz.ntmps72
    go_wp2_with fail
    refine (reaches_any cap H.out s hs _).mono ?_
    rintro e w1 ⟨⟨r, rfl, hr⟩, hb⟩
    have HR := hyd hr
    clear hr
    go_wp2
    go_ret
    refine ⟨⟨!r, rfl, ?_⟩, hb⟩
    have h1 := HR.out
    unfold Psd
    cases r
    · simp at h1; simp [Hsd.out, h1]
    · simp at h1; simp [h1]

/-- The instructions below d by which each way from n comes. -/
def AllTo (k : List Ins) (n d : Nat) (A : List Nat) : Prop := A.Nodup ∧ ∀ x, x ∈ A ↔ x < d ∧ Psd k n x

theorem AllTo.begin (k : List Ins) (n : Nat) : AllTo k n 0 [] := ⟨by simp, fun x => by simp⟩
theorem AllTo.yes {k : List Ins} {n d : Nat} {A : List Nat} (h : AllTo k n d A) (hp : Psd k n d) : AllTo k n (d + 1) (A ++ [d]) := by
  refine ⟨?_, fun x => ?_⟩
  · rw [List.nodup_append]
    refine ⟨h.1, by simp, fun a ha b hb => ?_⟩
    simp at hb
    subst hb
    intro e
    subst e
    have := ((h.2 a).1 ha).1
    omega
  · rw [List.mem_append, h.2 x]
    simp only [List.mem_singleton]
    constructor
    · rintro (⟨h1, h2⟩ | rfl)
      · exact ⟨by omega, h2⟩
      · exact ⟨by omega, hp⟩
    · rintro ⟨h1, h2⟩
      by_cases e : x = d
      · exact .inr e
      · exact .inl ⟨by omega, h2⟩
theorem AllTo.no {k : List Ins} {n d : Nat} {A : List Nat} (h : AllTo k n d A) (hp : ¬ Psd k n d) : AllTo k n (d + 1) A := by
  refine ⟨h.1, fun x => ?_⟩
  rw [h.2 x]
  constructor
  · rintro ⟨h1, h2⟩; exact ⟨by omega, h2⟩
  · rintro ⟨h1, h2⟩
    refine ⟨?_, h2⟩
    by_cases e : x = d
    · subst e; exact absurd h2 hp
    · omega
theorem AllTo.len {k : List Ins} {n d : Nat} {A : List Nat} (h : AllTo k n d A) : A.length ≤ d := nodup_len h.1 fun x hx => ((h.2 x).1 hx).1

/-- The i-th of them is the first. -/
theorem AllTo.first {k : List Ins} {n : Nat} {A : List Nat} {i x : Nat} (h : AllTo k n k.length A) (hx : A[i]? = some x) : IsFirst k n x ↔ ∀ t y, A[t]? = some y → t ≠ i → Psd k x y := by
  have hxA := (h.2 x).1 (List.mem_of_getElem? hx)
  have hinj : ∀ t y, A[t]? = some y → t ≠ i → y ≠ x := fun t y ht hne e => by
    subst e
    obtain ⟨h1, e1⟩ := List.getElem?_eq_some_iff.1 ht
    obtain ⟨h2, e2⟩ := List.getElem?_eq_some_iff.1 hx
    have hp := List.pairwise_iff_getElem.1 h.1
    by_cases hti : t < i
    · exact hp t i h1 h2 hti (e1.trans e2.symm)
    · exact hp i t h2 h1 (by omega) (e2.trans e1.symm)
  constructor
  · rintro ⟨h1, h2, h3⟩ t y ht hne
    have hy := (h.2 y).1 (List.mem_of_getElem? ht)
    exact h3 y hy.1 hy.2 (hinj t y ht hne)
  · intro hall
    refine ⟨hxA.1, hxA.2, fun y hy1 hy2 hne => ?_⟩
    obtain ⟨t, ht⟩ := List.mem_iff_getElem?.1 ((h.2 y).2 ⟨hy1, hy2⟩)
    refine hall t y ht (fun e => hne ?_)
    subst e
    rw [hx] at ht
    exact (Option.some.inj ht).symm

set_option maxHeartbeats 2000000 in
set_option maxRecDepth 100000 in
theorem join_any {w : World} {b off n : Nat} {k : List Ins} (cap : Nat) (h : KAt w b off n k) (s : Nat) (hs : s < n) :
    Calls Tryz.prog 51 #[.slice (some ⟨b, off, none⟩) n cap, .int .i64 s] w fun e w' => (∃ j : Int, e = .returned (.int .i64 j) ∧ JoinIs k s j) ∧ Below w.heap.size w w' := by
  have H := hyd h
  obtain ⟨hk, hn1, hn, -⟩ := h
  have Hk := hyd hk
  clear hk
  have hn2 : (n : Int) ≤ 40 := by omega
  obtain ⟨i0, hi, hz0, hz1, hz2⟩ := info_parts Tryz.info3
  go_enter Tryz.func51, Tryz.ntmps51
  go_wp2_with fail
  refine (reaches_any cap H.out s hs _).mono ?_
  rintro e w1 ⟨⟨r, rfl, hr⟩, hb1⟩
  have HR := hyd hr
  have HB1 := hyd hb1
  clear hr hb1
  cases r
  · go_wp2
    go_ret
    exact ⟨⟨-1, rfl, .inl ⟨by have := HR.out; simpa using this, rfl⟩⟩, HB1.out⟩
  · have HR1 : Hid (Rch k (-1) s) := by have := HR.out; exact this.1 rfl
    clear HR
    go_wp2_with fail
    go_loopw [6, 7] (fun va dv wr => ∃ (d : Nat) (A : List Nat), d ≤ n ∧ dv = .int .i64 d ∧ AllTo k s d A ∧ wr.ownsRow w.heap.size 3 1 va A.length (natVals A) ∧ Below w.heap.size w wr) (fun _ dv _ => n - (intOf dv).toNat)
    case atStart => exact ⟨0, [], Nat.zero_le _, rfl, AllTo.begin k s, World.ownsRow_nil _ _ _ _, HB1.out⟩
    case round =>
      obtain ⟨d, A, hd, rfl, hA, hown, hb⟩ := hrel
      have HA := hyd hA
      have hAl := hA.len
      have Hown := hyd hown
      have hva : ∃ ao c, u6 = .slice ao A.length c := by
        rcases hown.2 with ⟨rfl, h0⟩ | ⟨g, c, cur, rfl, -⟩
        · exact ⟨none, 0, by rw [h0]⟩
        · exact ⟨_, c, rfl⟩
      clear hA hown
      by_cases hdn : d < n
      · go_wp2_with fail
        refine (passed_any cap (H.out.up (Nat.le_refl _) hb) s hs d).mono ?_
        rintro e w2 ⟨⟨r, rfl, hr⟩, hb2⟩
        have HR := hyd hr
        have HB2 := hyd (hb.trans (hb2.mono hb.size))
        have Hown2 := hyd (Hown.out.keptB hb2)
        clear hr hb2
        cases r
        · go_wp2
          go_roundw
          case rel => exact ⟨d + 1, A, by omega, by go_num, HA.out.no (by have := HR.out; simpa using this), Hown2.out, HB2.out⟩
          case measure => simp [intOf]; omega
        · go_wp2_with (at_builtin; go_must (refine wpList_append_own _ rfl (.tmp 29) (.tmp 31) 24 rfl w.heap.size 3 i0 (.int .i64 0) 1 8 Tryz.underlying24 hi hz0 hz1 hz2 rfl (by decide) u6 A.length (natVals A) rfl ?a0 ⟨w2.heap.size, 0, none⟩ 1 1 [.int .i64 d] rfl rfl ?a1 ?a2 ?a3 ?a4 ?a5 ?_))
          case a0 => exact Hown2.out.alloc _
          case a1 => exact World.news_of_block (heap_alloc_new w2 _)
          case a2 => intro u hu; simp at hu; subst hu; rfl
          case a3 => unfold maxLen; omega
          case a4 => omega
          case a5 => have := HB2.out.size; simp; omega
          · intro v3 w3 hown3 hgrow3 _
            rw [← nat_snoc] at hown3
            have hb3 : Below w.heap.size w w3 := (HB2.out.alloc HB2.out.size _).grown hgrow3 (by have := HB2.out.size; simp; omega) (fun x hx => (Hown2.out.lt x hx).1)
            have HX := hyd (And.intro hown3 hb3)
            clear hown3 hgrow3 hb3
            go_wp2
            go_roundw
            case rel => exact ⟨d + 1, A ++ [d], by omega, by go_num, HA.out.yes (by have := HR.out; simpa using this), by rw [List.length_append]; exact HX.out.1, HX.out.2⟩
            case measure => simp [intOf]; omega
      · have hdn' : d = k.length := by rw [Hk.out]; omega
        have HAf : Hid (AllTo k s k.length A) := by rw [← hdn']; exact HA.out
        clear HA hdn'
        obtain ⟨ao, c, hv⟩ := hva
        subst hv
        obtain ⟨q, Hq⟩ : ∃ q, Hid (A.length = q) := ⟨_, rfl⟩
        have hq40 : q ≤ 40 := by rw [← Hq.out]; omega
        have hq2 : (q : Int) ≤ 40 := by omega
        have HA1 := hyd (show wr.ownsRow w.heap.size 3 1 (.slice ao q c) q (natVals A) by have := Hown.out; rwa [Hq.out] at this)
        have HxA : Hid (∀ (t : Nat) y, A[t]? = some y → y < n) := fun t y ht => by have := ((HAf.out.2 y).1 (List.mem_of_getElem? ht)).1; rwa [Hk.out] at this
        clear hAl Hown
        rw [Hq.out]
        go_wp2_with fail
        go_loopw [9] (fun iv wx => ∃ i : Nat, i ≤ q ∧ iv = .int .i64 i ∧ (∀ (t : Nat) x, t < i → A[t]? = some x → ¬ IsFirst k s x) ∧ wx.ownsRow w.heap.size 3 1 (.slice ao q c) q (natVals A) ∧ Below w.heap.size w wx) (fun iv _ => q - (intOf iv).toNat)
        case atStart => exact ⟨0, Nat.zero_le _, rfl, fun t x ht => by omega, HA1.out, hb⟩
        case round =>
          obtain ⟨i, hiq, rfl, hno, ho2, hb2⟩ := hrel
          have HNo := hyd hno
          have HO2 := hyd ho2
          clear hno ho2 HA1 hb
          by_cases hil : i < q
          · obtain ⟨x, hx⟩ : ∃ x, A[i]? = some x := ⟨_, List.getElem?_eq_getElem (by rw [Hq.out]; exact hil)⟩
            have hxn := HxA.out i x hx
            have Hx := hyd hx
            clear hx
            obtain ⟨ga, hga⟩ : ∃ ga, ao = some ⟨ga, 0, none⟩ := by
              rcases HO2.out.2 with ⟨h0, h00⟩ | ⟨g, c, cur, hv, -⟩
              · omega
              · simp only [Value.slice.injEq] at hv; exact ⟨g, hv.1⟩
            subst hga
            have z1 : (i : Int) < (q : Int) := by omega
            have z0 : (0 : Int) ≤ (i : Int) := by omega
            go_wp2_with fail
            go_loopw [10, 11] (fun fv jv wy => ∃ (j : Nat) (f : Bool), j ≤ q ∧ jv = .int .i64 j ∧ fv = .bool f ∧ (f = true ↔ ∀ (t : Nat) y, t < j → A[t]? = some y → t ≠ i → Psd k x y) ∧ wy.ownsRow w.heap.size 3 1 (.slice (some ⟨ga, 0, none⟩) q c) q (natVals A) ∧ Below w.heap.size w wy) (fun _ jv _ => q - (intOf jv).toNat)
            case atStart => exact ⟨0, true, Nat.zero_le _, rfl, rfl, by simp, HO2.out, hb2⟩
            case round =>
              obtain ⟨j, f, hjq, rfl, rfl, hf, ho3, hb3⟩ := hrel
              have HF := hyd hf
              have HO3 := hyd ho3
              have ci := (ho3.cellAt i (by omega)).trans (nat_at Hx.out)
              have hgaw := (ho3.lt ga rfl).2
              clear hf ho3 HO2 hb2
              by_cases hjl : j < q
              · obtain ⟨y, hy⟩ : ∃ y, A[j]? = some y := ⟨_, List.getElem?_eq_getElem (by rw [Hq.out]; exact hjl)⟩
                have cj := (HO3.out.cellAt j (by omega)).trans (nat_at hy)
                have Hy := hyd hy
                clear hy
                have y1 : (j : Int) < (q : Int) := by omega
                have y0 : (0 : Int) ≤ (j : Int) := by omega
                by_cases hij : i = j
                · subst hij
                  have g0 : ((i : Int) != (i : Int)) = false := by simp
                  go_wp2
                  go_roundw
                  case rel =>
                    refine ⟨i + 1, f, by omega, by go_num, rfl, HF.out.trans ⟨fun h t y ht hy hne => h t y (by omega) hy hne, fun h t y ht hy hne => h t y (by omega) hy hne⟩, HO3.out, hb3⟩
                  case measure => simp [intOf]; omega
                · have g0 : ((i : Int) != (j : Int)) = true := by rw [bne_iff_ne]; omega
                  have Hij := hyd hij
                  clear hij
                  have hK := hyd (H.out.up (Nat.le_refl _) hb3)
                  go_wp2_with fail
                  go_region_held3 (fun w' => w'.cell? ⟨ga, i, none⟩ = some (.int .i64 x) ∧ w'.cell? ⟨ga, j, none⟩ = some (.int .i64 y)) (first | go_keep | (go_split_ands; exact ⟨(hbc.cell (p := ⟨ga, i, none⟩) hgaw).trans ci, (hbc.cell (p := ⟨ga, j, none⟩) hgaw).trans cj⟩)) ((go_at_call 72; refine (passed_any cap (hK.out.up (Nat.le_refl _) (Below.refl _ _).drew) x hxn y).mono ?_; rintro e w4 ⟨⟨r, rfl, hr⟩, hbc⟩))
                  have HR := hyd hr
                  have HB4 : Hid (Below w.heap.size w w4) := hb3.trans ((Below.refl _ wr).drew.trans (hbc.mono hb3.size))
                  have HO4 : Hid (w4.ownsRow w.heap.size 3 1 (.slice (some ⟨ga, 0, none⟩) q c) q (natVals A)) := (HO3.out.drew).keptB hbc
                  clear hr hbc ci cj
                  have key : Hid (((f && r) = true) ↔ ∀ (t : Nat) y, t < j + 1 → A[t]? = some y → t ≠ i → Psd k x y) := by
                    rw [Bool.and_eq_true]
                    constructor
                    · rintro ⟨h1, h2⟩ t z ht hz hne
                      by_cases htj : t < j
                      · exact HF.out.1 h1 t z htj hz hne
                      · have e : t = j := by omega
                        subst e
                        have := Hy.out.symm.trans hz
                        cases this
                        exact HR.out.1 h2
                    · intro h
                      exact ⟨HF.out.2 fun t z ht hz hne => h t z (by omega) hz hne, HR.out.2 (h j y (by omega) Hy.out (fun e => Hij.out e.symm))⟩
                  cases f
                  · go_wp2
                    go_roundw
                    case rel => exact ⟨j + 1, false, by omega, by go_num, rfl, by have h := key.out; rwa [Bool.false_and] at h, HO4.out, HB4.out⟩
                    case measure => simp [intOf]; omega
                  · go_wp2
                    go_roundw
                    case rel => exact ⟨j + 1, r, by omega, by go_num, rfl, by have h := key.out; rwa [Bool.true_and] at h, HO4.out, HB4.out⟩
                    case measure => simp [intOf]; omega
              · have hjq' : j = q := by omega
                subst hjq'
                have HFi : Hid (f = true ↔ IsFirst k s x) := by
                  have h1 := HAf.out.first Hx.out
                  have h2 : (∀ (t : Nat) y, t < j → A[t]? = some y → t ≠ i → Psd k x y) ↔ ∀ (t : Nat) y, A[t]? = some y → t ≠ i → Psd k x y :=
                    ⟨fun h t y hy hne => h t y (by have := (List.getElem?_eq_some_iff.1 hy).1; rw [Hq.out] at this; exact this) hy hne, fun h t y _ hy hne => h t y hy hne⟩
                  exact (HF.out.trans h2).trans h1.symm
                cases f
                · go_wp2
                  go_roundw
                  case rel =>
                    refine ⟨i + 1, by omega, by go_num, fun t z ht hz => ?_, HO3.out, hb3⟩
                    by_cases hti : t < i
                    · exact HNo.out t z hti hz
                    · have e : t = i := by omega
                      subst e
                      have e2 := Hx.out.symm.trans hz
                      cases e2
                      intro hF
                      have := HFi.out.2 hF
                      cases this
                  case measure => simp [intOf]; omega
                · go_wp2
                  go_ret
                  exact ⟨⟨x, rfl, .inr ⟨HR1.out, .inl ⟨x, (by have h := HFi.out; simpa using h), rfl⟩⟩⟩, hb3⟩
          · have hiq' : i = q := by omega
            go_wp2
            go_ret
            refine ⟨⟨-1, rfl, .inr ⟨HR1.out, .inr ⟨?_, rfl⟩⟩⟩, hb2⟩
            rintro ⟨d', hd'⟩
            obtain ⟨t, ht⟩ := List.mem_iff_getElem?.1 ((HAf.out.2 d').2 ⟨hd'.1, hd'.2.1⟩)
            exact HNo.out t d' (by have := (List.getElem?_eq_some_iff.1 ht).1; rw [Hq.out] at this; omega) ht hd'

end Go.Proofs.YtbhbacphiinpeaaGreat

/- The join is one; what the document's 'Joins' answers. -/
namespace Go.Proofs.YtbhbacphiinpeaaGreat
open Go.RowKit

theorem way_split {k : List Ins} {wo : Int} : ∀ {p : List Nat} {n d : Nat}, IsWay k wo n p → d ∈ p → ∃ p', IsWay k wo d p' ∧ p'.length < p.length
  | m :: p, n, d, h, hd => by
    obtain ⟨h1, h2, h3⟩ := h
    rcases List.mem_cons.1 hd with rfl | hd
    · exact ⟨p, h3, by simp⟩
    · obtain ⟨p', h4, h5⟩ := way_split h3 hd
      exact ⟨p', h4, by simp; omega⟩

theorem way_avoid {k : List Ins} {wo : Int} : ∀ {p : List Nat} {n d : Nat}, IsWay k wo n p → d ∉ p → IsWay k (d : Int) n p
  | [], n, d, h, _ => h
  | m :: p, n, d, h, hd => by
    obtain ⟨h1, h2, h3⟩ := h
    have hm : m ≠ d := fun e => hd (by simp [e])
    exact ⟨h1, by omega, way_avoid h3 fun h => hd (by simp [h])⟩

theorem psd_mem {k : List Ins} {wo : Int} {n d : Nat} {p : List Nat} (h : Psd k n d) (hw : IsWay k wo n p) : d ∈ p := by
  by_cases hd : d ∈ p
  · exact hd
  · exact absurd ⟨p, way_avoid hw hd⟩ h.2

/-- Two instructions of which each way from the one comes by the other do not both lead to an Exit. -/
theorem psd_two {k : List Ins} {wo : Int} {d e : Nat} (h1 : Psd k d e) (h2 : Psd k e d) : ∀ (m : Nat) (p : List Nat), p.length ≤ m → ¬ IsWay k wo d p
  | 0, p, hl, hw => by
    have := psd_mem h1 hw
    have hp : p = [] := List.eq_nil_of_length_eq_zero (by omega)
    rw [hp] at this
    simp at this
  | m + 1, p, hl, hw => by
    obtain ⟨p2, hw2, hl2⟩ := way_split hw (psd_mem h1 hw)
    obtain ⟨p3, hw3, hl3⟩ := way_split hw2 (psd_mem h2 hw2)
    exact psd_two h1 h2 m p3 (by omega) hw3

theorem first_one {k : List Ins} {wo : Int} {n d e : Nat} (hr : Rch k wo n) (h1 : IsFirst k n d) (h2 : IsFirst k n e) : d = e := by
  by_cases hde : d = e
  · exact hde
  · obtain ⟨p, hp⟩ := hr
    have a := h1.2.2 e h2.1 h2.2.1 (fun x => hde x.symm)
    have b := h2.2.2 d h1.1 h1.2.1 hde
    obtain ⟨p2, hp2, -⟩ := way_split hp (psd_mem h1.2.1 hp)
    exact absurd hp2 (psd_two a b p2.length p2 (Nat.le_refl _))

theorem join_one {k : List Ins} {n : Nat} {i j : Int} (h1 : JoinIs k n i) (h2 : JoinIs k n j) : i = j := by
  rcases h1 with ⟨hr, rfl⟩ | ⟨hr, ⟨d, hd, rfl⟩ | ⟨hd, rfl⟩⟩
  · rcases h2 with ⟨_, rfl⟩ | ⟨hr2, _⟩
    · rfl
    · exact absurd hr2 hr
  · rcases h2 with ⟨hr2, _⟩ | ⟨_, ⟨e, he, rfl⟩ | ⟨he, rfl⟩⟩
    · exact absurd hr hr2
    · rw [first_one hr hd he]
    · exact absurd ⟨d, hd⟩ he
  · rcases h2 with ⟨hr2, _⟩ | ⟨_, ⟨e, he, rfl⟩ | ⟨he, rfl⟩⟩
    · exact absurd hr hr2
    · exact absurd ⟨e, he⟩ hd
    · rfl

/-- The joins of a kernel, by their numbers. -/
def JoinsAre (k : List Ins) (J : List Int) : Prop := J.length = k.length ∧ ∀ (i : Nat) j, J[i]? = some j → JoinIs k i j

theorem joins_one {k : List Ins} {I J : List Int} (h1 : JoinsAre k I) (h2 : JoinsAre k J) : I = J := by
  apply List.ext_getElem?
  intro i
  by_cases hi : i < k.length
  · obtain ⟨a, e1⟩ : ∃ a, I[i]? = some a := ⟨_, List.getElem?_eq_getElem (by rw [h1.1]; exact hi)⟩
    obtain ⟨b, e2⟩ : ∃ b, J[i]? = some b := ⟨_, List.getElem?_eq_getElem (by rw [h2.1]; exact hi)⟩
    rw [e1, e2, join_one (h1.2 i _ e1) (h2.2 i _ e2)]
  · rw [List.getElem?_eq_none (by rw [h1.1]; omega), List.getElem?_eq_none (by rw [h2.1]; omega)]

def intVals (l : List Int) : List Value := l.map fun m => Value.int .i64 m
theorem int_snoc (L : List Int) (m : Int) : intVals (L ++ [m]) = intVals L ++ [.int .i64 m] := by simp [intVals]

theorem dec_good {s : ByteArray} (h : (dchk s).1 = 0) : chk (decL s) = (0, 0) ∧ 1 ≤ (decL s).length ∧ (decL s).length ≤ 40 := by
  unfold decL
  rw [if_pos h]
  unfold dchk at h
  by_cases h2 : s.size % 4 ≠ 0 ∨ 160 < s.size
  · rw [if_pos h2] at h; simp at h
  · rw [if_neg h2] at h
    obtain ⟨h3, h4, h5, -⟩ := chk_zero h
    exact ⟨h3, h4, h5⟩

theorem kAt_owned {w : World} {base g n cap : Nat} {k : List Ins} (hk : chk k = (0, 0)) (hn : k.length = n) (h : w.ownsRow base 92 4 (.slice (some ⟨g, 0, none⟩) n cap) n (flat k)) : KAt w g 0 n k := by
  obtain ⟨-, h1, h2, h3⟩ := chk_zero (by rw [hk])
  refine ⟨hn, by omega, by omega, closed_chk hk, (h.lt g rfl).2, fun i x hx => ?_, fun i x hx => ?_⟩
  · have := okB_bd (by omega) (h3 i x hx)
    exact this.2.2.1.1
  · have hi : i < n := by have := (List.getElem?_eq_some_iff.1 hx).1; omega
    obtain ⟨a0, a1, a2, a3⟩ := flat_at hx
    simp only [Nat.zero_add]
    exact ⟨(h.cellAt (i * 4) (by omega)).trans a0, (h.cellAt (i * 4 + 1) (by omega)).trans a1, (h.cellAt (i * 4 + 2) (by omega)).trans a2, (h.cellAt (i * 4 + 3) (by omega)).trans a3⟩

theorem owns_down {w : World} {base base' : Nat} {e : TypeId} {size : Nat} {v : Value} {n : Nat} {xs : List Value} (h : w.ownsRow base e size v n xs) (hb : base' ≤ base) : w.ownsRow base' e size v n xs := by
  refine ⟨h.1, ?_⟩
  rcases h.2 with h2 | ⟨g, cap, cur, hv, hg, r⟩
  · exact .inl h2
  · exact .inr ⟨g, cap, cur, hv, by omega, r⟩

set_option maxHeartbeats 1000000 in
set_option maxRecDepth 100000 in
theorem rjoins_yes (s : ByteArray) (hm : s.size ≤ 140737488355328) (h0 : (dchk s).1 = 0) (w : World) :
    Calls Tryz.prog 30 #[.string s] w fun e w' => ∃ v J, e = .returned (.tuple #[v, .int .i64 0, .int .i64 0]) ∧ JoinsAre (decL s) J ∧ w'.ownsRow w.heap.size 3 1 v J.length (intVals J) ∧ Below w.heap.size w w' := by
  obtain ⟨g1, g2, g3⟩ := dec_good h0
  obtain ⟨k, Hk⟩ : ∃ k, Hid (decL s = k) := ⟨_, rfl⟩
  obtain ⟨n, Hn⟩ : ∃ n, Hid (k.length = n) := ⟨_, rfl⟩
  rw [Hk.out] at g1 g2 g3 ⊢
  rw [Hn.out] at g2 g3
  have Hchk := hyd g1
  have hd : Hid (dchk s = (0, 0)) := by
    unfold decL at Hk
    rw [if_pos h0] at Hk
    have e : dchk s = chk (unp s (s.size / 4)) := by
      unfold dchk
      unfold dchk at h0
      by_cases h2 : s.size % 4 ≠ 0 ∨ 160 < s.size
      · rw [if_pos h2] at h0; simp at h0
      · rw [if_neg h2]
    rw [e, Hk.out]
    exact Hchk.out
  clear g1 h0
  have hn2 : (n : Int) ≤ 40 := by omega
  obtain ⟨i0, hi, hz0, hz1, hz2⟩ := info_parts Tryz.info3
  go_enter Tryz.func30, Tryz.ntmps30
  go_wp2_with fail
  refine (rdecode_any s hm _).mono ?_
  rw [hd.out, Hk.out, Hn.out]
  rintro e w1 ⟨v, rfl, hb1, hown1⟩
  obtain ⟨g, cap, hv, -, -⟩ := hown1.form (by omega)
  subst hv
  have HK := hyd (kAt_owned Hchk.out Hn.out hown1)
  have HB1 := hyd hb1
  clear hown1 hb1
  go_wp2_with fail
  go_loopw [8, 9] (fun va dv wr => ∃ (d : Nat) (J : List Int), d ≤ n ∧ dv = .int .i64 d ∧ J.length = d ∧ (∀ (i : Nat) j, J[i]? = some j → JoinIs k i j) ∧ wr.ownsRow w1.heap.size 3 1 va J.length (intVals J) ∧ Below w1.heap.size w1 wr) (fun _ dv _ => n - (intOf dv).toNat)
  case atStart => exact ⟨0, [], Nat.zero_le _, rfl, rfl, fun i j hj => by simp at hj, World.ownsRow_nil _ _ _ _, Below.refl _ _⟩
  case round =>
    obtain ⟨d, J, hdn, rfl, hJl, hJ, hown, hb⟩ := hrel
    have HJl := hyd hJl
    have HJ := hyd hJ
    have Hown := hyd hown
    have hb' := HB1.out.trans (hb.mono HB1.out.size)
    clear hJl hJ hown
    by_cases hlt : d < n
    · go_wp2_with fail
      refine (join_any cap (HK.out.up (Nat.le_refl _) hb) d hlt).mono ?_
      rintro e w2 ⟨⟨j, rfl, hj⟩, hb2⟩
      have Hj := hyd hj
      have Hown2 := hyd (Hown.out.keptB hb2)
      have HB2 := hyd (hb.trans (hb2.mono hb.size))
      have hszw : w1.heap.size ≤ w2.heap.size := Nat.le_trans hb.size hb2.size
      have hJ40 : J.length ≤ 40 := by have := HJl.out; omega
      clear hj hb2
      go_wp2_with (at_builtin; go_must (refine wpList_append_own _ rfl (.tmp 30) (.tmp 32) 24 rfl w1.heap.size 3 i0 (.int .i64 0) 1 8 Tryz.underlying24 hi hz0 hz1 hz2 rfl (by decide) u8 J.length (intVals J) rfl ?a0 ⟨w2.heap.size, 0, none⟩ 1 1 [.int .i64 j] rfl rfl ?a1 ?a2 ?a3 ?a4 ?a5 ?_))
      case a0 => exact Hown2.out.alloc _
      case a1 => exact World.news_of_block (heap_alloc_new w2 _)
      case a2 => intro u hu; simp at hu; subst hu; rfl
      case a3 => unfold maxLen; omega
      case a4 => omega
      case a5 => simp; omega
      · intro v3 w3 hown3 hgrow3 _
        rw [← int_snoc] at hown3
        have hb3 : Below w1.heap.size w1 w3 := (HB2.out.alloc HB2.out.size _).grown hgrow3 (by simp; omega) (fun x hx => (Hown2.out.lt x hx).1)
        have HX := hyd (And.intro hown3 hb3)
        clear hown3 hgrow3 hb3
        go_wp2
        go_roundw
        case rel =>
          refine ⟨d + 1, J ++ [j], by omega, by go_num, by rw [List.length_append, HJl.out]; rfl, fun i z hz => ?_, by rw [List.length_append]; exact HX.out.1, HX.out.2⟩
          by_cases hiJ : i < J.length
          · rw [List.getElem?_append_left hiJ] at hz
            exact HJ.out i z hz
          · rw [List.getElem?_append_right (by omega)] at hz
            have hi0 : i - J.length = 0 := by
              have := (List.getElem?_eq_some_iff.1 hz).1
              simp at this; omega
            rw [hi0] at hz
            simp at hz
            subst hz
            have e : i = d := by have := HJl.out; omega
            rw [e]
            exact Hj.out
        case measure => simp [intOf]; omega
    · have hdn' : d = n := by omega
      subst hdn'
      go_wp2
      go_ret3
      exact ⟨_, J, rfl, ⟨by rw [HJl.out, Hn.out], HJ.out⟩, owns_down Hown.out HB1.out.size, hb'⟩

set_option maxHeartbeats 400000 in
theorem rjoins_no (s : ByteArray) (hm : s.size ≤ 140737488355328) (h0 : (dchk s).1 ≠ 0) (w : World) :
    Calls Tryz.prog 30 #[.string s] w fun e w' => e = .returned (.tuple #[.slice none 0 0, .int .i64 (dchk s).1, .int .i64 (dchk s).2]) ∧ Below w.heap.size w w' := by
  have g0 : ((dchk s).1 != 0) = true := by simpa using h0
  clear h0
  go_enter Tryz.func30, Tryz.ntmps30
  go_wp2_with fail
  refine (rdecode_any s hm _).mono ?_
  rintro e w1 ⟨v, rfl, hb1, -⟩
  go_wp2
  go_ret3
  exact ⟨rfl, hb1⟩

end Go.Proofs.YtbhbacphiinpeaaGreat

