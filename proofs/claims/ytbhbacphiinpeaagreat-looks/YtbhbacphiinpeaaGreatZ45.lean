/- Wb Ps Wz: joined. -/
import Derived.Test.YtbhbacphiinpeaaGreatZ44
import Derived.Test.YtbhbacphiinpeaaGreatZ10

/- What 'endsWithout' answers. -/
namespace Go.Proofs.YtbhbacphiinpeaaGreat
open Go.RowKit

def boolVals (E : List Bool) : List Value := E.map Value.bool
theorem bool_at {E : List Bool} {i : Nat} {x : Bool} (h : E[i]? = some x) : (boolVals E)[i]? = some (.bool x) := by simp [boolVals, List.getElem?_map, h]
theorem bool_set (E : List Bool) (i : Nat) (x : Bool) : (boolVals E).set i (.bool x) = boolVals (E.set i x) := by simp [boolVals, List.map_set]
theorem bool_snoc (E : List Bool) (x : Bool) : boolVals (E ++ [x]) = boolVals E ++ [.bool x] := by simp [boolVals]
theorem bool_none (n : Nat) : boolVals (List.replicate n false) = (madeCells #[Value.bool false] n).toList := by
  rw [toList_madeCells_one]; simp [boolVals]

theorem seesB_owned {w : World} {base g n cap : Nat} {E : List Bool} (h1 : 1 ≤ n) (h2 : n ≤ 40) (hE : E.length = n) (h : w.ownsRow base 4 1 (.slice (some ⟨g, 0, none⟩) n cap) n (boolVals E)) : SeesB w g n E :=
  ⟨hE, h1, h2, (h.lt g rfl).2, fun i x hx => (h.cellAt i (by have := (List.getElem?_eq_some_iff.1 hx).1; omega)).trans (bool_at hx)⟩

set_option maxHeartbeats 2000000 in
set_option maxRecDepth 100000 in
theorem without_any {w : World} {b off n : Nat} {k : List Ins} (cap : Nat) (h : KAt w b off n k) (av : Int) :
    Calls Tryz.prog 84 #[.slice (some ⟨b, off, none⟩) n cap, .int .i64 av] w fun e w' => ∃ E, e = .returned (.slice (some ⟨w.heap.size, 0, none⟩) n n) ∧ Ends k av E ∧ w'.ownsRow w.heap.size 4 1 (.slice (some ⟨w.heap.size, 0, none⟩) n n) n (boolVals E) ∧ Below w.heap.size w w' := by
  obtain ⟨hk, hn1, hn, hcl, hbw, hb0, hc⟩ := h
  have Hk := hyd hk
  have HCl := hyd hcl
  have Hb0 := hyd hb0
  have Hc := hyd hc
  clear hk hcl hb0 hc
  have hn2 : (n : Int) ≤ 40 := by omega
  have hn3 : (1 : Int) ≤ (n : Int) := by omega
  obtain ⟨j0, hj, hy0, hy1, hy2⟩ := info_parts Tryz.info4
  go_enter Tryz.func84, Tryz.ntmps84
  go_wp2_with (at_make; go_must (refine wpList_make_full _ rfl _ _ 141 rfl w.heap.size 4 j0 (.bool false) 1 Tryz.underlying141 hj hy0 hy1 .i64 .i64 _ _ n rfl rfl ?m1 ?m2 ?m3 ?m4 ?m5 ?_))
  case m1 => rfl
  case m2 => rfl
  case m3 => rw [hy2]; omega
  case m4 => unfold maxLen; omega
  case m5 => exact Nat.le_refl _
  · intro w1 hown0 hgrow0
    rw [← bool_none] at hown0
    have hb1 : Below w.heap.size w w1 := (Below.refl _ w).grown hgrow0 (Nat.le_refl _) (fun x hx => by cases hx)
    have HO := hyd hown0
    have HB1 := hyd hb1
    have HS0 : Hid (Sound k av (List.replicate n false)) := by have := sound_none k av; rw [Hk.out] at this; exact this
    clear hown0 hgrow0 hb1
    go_wp2_with fail
    go_loopw [6, 7] (fun gv rv wr => ∃ (r : Nat) (g : Bool) (E : List Bool), r ≤ n ∧ rv = .int .i64 r ∧ gv = .bool g ∧ Sound k av E ∧ (g = true → r ≤ E.count true) ∧ (g = false → Whole k av E) ∧ wr.ownsRow w.heap.size 4 1 (.slice (some ⟨w.heap.size, 0, none⟩) n n) n (boolVals E) ∧ Below w.heap.size w wr) (fun _ rv _ => n - (intOf rv).toNat)
    case atStart => exact ⟨0, true, _, Nat.zero_le _, rfl, rfl, HS0.out, fun _ => Nat.zero_le _, (fun h => by cases h), HO.out, HB1.out⟩
    case round =>
      obtain ⟨r, g, E, hr, rfl, rfl, hS, hg1, hg0, ho, hb⟩ := hrel
      have HS := hyd hS
      have HG1 := hyd hg1
      have HG0 := hyd hg0
      have Ho := hyd ho
      have HB := hyd hb
      clear hS hg1 hg0 ho hb HO HB1 HS0
      cases g
      · go_wp2
        go_ret
        exact ⟨rfl, E, ends_of Hb0.out HS.out (HG0.out (by simp)), Ho.out, HB.out⟩
      · by_cases hrn : r < n
        · have hr2 : (r : Int) < (n : Int) := by omega
          have hr3 : (0 : Int) ≤ (r : Int) := by omega
          go_wp2_with fail
          go_loopw [6, 8] (fun gv nv wx => ∃ (j : Nat) (z : Int) (g : Bool) (E' : List Bool), j ≤ n ∧ nv = .int .i64 z ∧ z = (j : Int) - 1 ∧ gv = .bool g ∧ Sound k av E' ∧ r ≤ E'.count true ∧ (g = true → r + 1 ≤ E'.count true) ∧ (g = false → ∀ (i : Nat) x, j ≤ i → k[i]? = some x → (i : Int) ≠ av → bhd E' x i = true → E'[i]? = some true) ∧ wx.ownsRow w.heap.size 4 1 (.slice (some ⟨w.heap.size, 0, none⟩) n n) n (boolVals E') ∧ Below w.heap.size w wx) (fun _ nv _ => (intOf nv + 1).toNat)
          case atStart =>
            refine ⟨n, (n : Int) - 1, false, E, Nat.le_refl _, by go_num, rfl, rfl, HS.out, HG1.out (by simp), (fun h => by cases h), fun _ i x hi hx => ?_, Ho.out, HB.out⟩
            have := (List.getElem?_eq_some_iff.1 hx).1
            rw [Hk.out] at this
            omega
          case round =>
            obtain ⟨j, z, g, E', hjn, rfl, hz, rfl, hS, hcnt, hg1, hg0, ho, hb⟩ := hrel
            have HS2 := hyd hS
            have HCn := hyd hcnt
            have HG1' := hyd hg1
            have HG0' := hyd hg0
            have Ho2 := hyd ho
            have HB2 := hyd hb
            clear hS hcnt hg1 hg0 ho hb Ho HB HS HG1 HG0
            by_cases hj0 : 0 < j
            · obtain ⟨m, rfl⟩ : ∃ m, j = m + 1 := ⟨j - 1, by omega⟩
              have hzm : z = (m : Int) := by omega
              subst hzm
              clear hz
              have hmn : m < n := by omega
              have m1 : (0 : Int) ≤ (m : Int) := by omega
              have m2 : (m : Int) < (n : Int) := by omega
              obtain ⟨x, hx⟩ : ∃ x, k[m]? = some x := ⟨_, List.getElem?_eq_getElem (by rw [Hk.out]; exact hmn)⟩
              have Hx := hyd hx
              have hEl : E'.length = n := by rw [HS2.out.1, Hk.out]
              obtain ⟨q, hq⟩ : ∃ q, E'[m]? = some q := ⟨_, List.getElem?_eq_getElem (by omega)⟩
              have Hq := hyd hq
              have HEl := hyd hEl
              have ec := (Ho2.out.cellAt m (by omega)).trans (bool_at hq)
              clear hx hq hEl
              -- the round ends without a change
              have stay : Hid ((¬ ((m : Int) ≠ av ∧ q = false ∧ bhd E' x m = true)) → (g = false → ∀ (i : Nat) x, m ≤ i → k[i]? = some x → (i : Int) ≠ av → bhd E' x i = true → E'[i]? = some true)) := by
                intro hno hg i y hi hy hne hbh
                by_cases e : i = m
                · subst e
                  have e2 := Hx.out.symm.trans hy
                  cases e2
                  cases q
                  · exact absurd ⟨hne, rfl, hbh⟩ hno
                  · exact Hq.out
                · exact HG0'.out hg i y (by omega) hy hne hbh
              by_cases hav : (m : Int) = av
              · have g0 : ((m : Int) != av) = false := by rw [hav]; simp
                have Hav := hyd hav
                clear hav
                go_wp2
                go_roundw
                case rel => exact ⟨m, (m : Int) - 1, g, E', by omega, by go_num, rfl, rfl, HS2.out, HCn.out, HG1'.out, stay.out fun h => h.1 Hav.out, Ho2.out, HB2.out⟩
                case measure => simp [intOf] <;> omega
              · have g0 : ((m : Int) != av) = true := by simpa using hav
                have Hav := hyd hav
                clear hav
                cases q
                · obtain ⟨c0, c1, c2, c3⟩ := Hc.out m x Hx.out
                  have d0 := (HB2.out.cell (p := ⟨b, off + m * 4, none⟩) hbw).trans c0
                  have d1 := (HB2.out.cell (p := ⟨b, off + m * 4 + 1, none⟩) hbw).trans c1
                  have d2 := (HB2.out.cell (p := ⟨b, off + m * 4 + 2, none⟩) hbw).trans c2
                  have d3 := (HB2.out.cell (p := ⟨b, off + m * 4 + 3, none⟩) hbw).trans c3
                  clear c0 c1 c2 c3
                  go_wp2_with fail
                  refine (behind_any n (seesB_owned hn1 hn HEl.out Ho2.out) x m hmn).mono ?_
                  rintro e w2 ⟨rfl, hb2⟩
                  have Ho3 := hyd (Ho2.out.keptB hb2)
                  have HB3 := hyd (HB2.out.trans (hb2.mono HB2.out.size))
                  clear hb2 d0 d1 d2 d3 ec
                  cases hbh : bhd E' x m
                  · go_wp2
                    go_roundw
                    case rel => exact ⟨m, (m : Int) - 1, g, E', by omega, by go_num, rfl, rfl, HS2.out, HCn.out, HG1'.out, stay.out (fun h => by rw [hbh] at h; cases h.2.2), Ho3.out, HB3.out⟩
                    case measure => simp [intOf] <;> omega
                  · have ec2 := (Ho3.out.cellAt m (by omega)).trans (bool_at Hq.out)
                    have fz2 := Ho3.out.frozenAt m
                    have o2 := (Ho3.out.stored m (.bool true)).1
                    rw [bool_set] at o2
                    have HX := hyd (And.intro o2 (HB3.out.setCell (p := ⟨w.heap.size, m, none⟩) (Nat.le_refl _) (.bool true)))
                    clear o2
                    go_wp2
                    go_roundw
                    case rel =>
                      have hc1 := count_set Hq.out
                      have hc2 := HCn.out
                      exact ⟨m, (m : Int) - 1, true, E'.set m true, by omega, by go_num, rfl, rfl, sound_set HS2.out Hx.out (Hb0.out m x Hx.out) Hav.out hbh, by omega, fun _ => by omega, (fun h => by cases h), HX.out.1, HX.out.2⟩
                    case measure => simp [intOf] <;> omega
                · go_wp2
                  go_roundw
                  case rel => exact ⟨m, (m : Int) - 1, g, E', by omega, by go_num, rfl, rfl, HS2.out, HCn.out, HG1'.out, stay.out (fun h => by cases h.2.1), Ho2.out, HB2.out⟩
                  case measure => simp [intOf] <;> omega
            · have hj00 : j = 0 := by omega
              subst hj00
              have hzz : z = -1 := by omega
              subst hzz
              clear hz
              go_wp2
              go_roundw
              case rel => exact ⟨r + 1, g, E', by omega, by go_num, rfl, HS2.out, HG1'.out, fun h i x hx => HG0'.out h i x (Nat.zero_le _) hx, Ho2.out, HB2.out⟩
              case measure => simp [intOf] <;> omega
        · have hrn' : r = n := by omega
          subst hrn'
          go_wp2
          go_ret
          exact ⟨rfl, E, ends_of Hb0.out HS.out (whole_of_count HS.out.1 (by rw [Hk.out]; exact HG1.out (by simp))), Ho.out, HB.out⟩

end Go.Proofs.YtbhbacphiinpeaaGreat

/- The chain of joins in a kernel with one Exit to which all ways lead: plain lists; nothing of the program is in this text. -/
namespace Go.Proofs.YtbhbacphiinpeaaGreat
open Go.RowKit

theorem way_cat {k : List Ins} {wo wo' : Int} : ∀ {q : List Nat} {n d : Nat} {r p : List Nat}, IsWay k wo n (q ++ d :: r) → (∀ x ∈ q, (x : Int) ≠ wo') → (d : Int) ≠ wo' → IsWay k wo' d p → IsWay k wo' n (q ++ d :: p)
  | [], n, d, r, p, h, _, hd, hp => ⟨h.1, hd, hp⟩
  | m :: q, n, d, r, p, h, hq, hd, hp => ⟨h.1, hq m (by simp), way_cat h.2.2 (fun x hx => hq x (by simp [hx])) hd hp⟩

theorem way_lt {k : List Ins} (hc : Closed k) {wo : Int} : ∀ {p : List Nat} {n : Nat}, n < k.length → IsWay k wo n p → ∀ x ∈ p, x < k.length
  | m :: p, n, hn, h, x, hx => by
    have hm := hc n m hn h.1
    rcases List.mem_cons.1 hx with rfl | hx
    · exact hm
    · exact way_lt hc hm h.2.2 x hx

theorem way_any {k : List Ins} {wo : Int} {n : Nat} {p : List Nat} (h : IsWay k wo n p) : Rch k (-1) n := by
  refine ⟨p, ?_⟩
  induction p generalizing n with
  | nil => exact h
  | cons m p ih => exact ⟨h.1, by omega, ih h.2.2⟩

/-- The first of a list at which P holds. -/
theorem first_at {α : Type} (P : α → Prop) : ∀ {l : List α}, (∃ x ∈ l, P x) → ∃ d q r, l = q ++ d :: r ∧ P d ∧ ∀ x ∈ q, ¬ P x
  | [], ⟨x, hx, _⟩ => by simp at hx
  | y :: l, ⟨x, hx, hp⟩ => by
    by_cases hy : P y
    · exact ⟨y, [], l, rfl, hy, by simp⟩
    · have hx2 : x ∈ l := by
        rcases List.mem_cons.1 hx with rfl | h
        · exact absurd hp hy
        · exact h
      obtain ⟨d, q, r, rfl, h1, h2⟩ := first_at P ⟨x, hx2, hp⟩
      exact ⟨d, y :: q, r, rfl, h1, fun z hz => by
        rcases List.mem_cons.1 hz with rfl | hz
        · exact hy
        · exact h2 z hz⟩

/-- Of the instructions that stand on each way there is a first. -/
theorem first_exists {k : List Ins} (hc : Closed k) {n x : Nat} (hn : n < k.length) (hr : Rch k (-1) n) (hx : Psd k n x) : ∃ d, IsFirst k n d := by
  obtain ⟨p, hp⟩ := hr
  obtain ⟨d, q, r, rfl, h1, h2⟩ := first_at (fun y => Psd k n y) ⟨x, psd_mem hx hp, hx⟩
  refine ⟨d, way_lt hc hn hp d (by simp), h1, fun y hy hpy hne => ⟨fun e => hne e.symm, fun ⟨p2, hp2⟩ => hpy.2 ⟨q ++ d :: p2, ?_⟩⟩⟩
  refine way_cat hp (fun z hz e => h2 z hz ?_) (fun e => hne ?_) hp2
  · have : z = y := by omega
    rw [this]; exact hpy
  · omega

theorem psd_rch {k : List Ins} {n d : Nat} (hr : Rch k (-1) n) (h : Psd k n d) : Rch k (-1) d := by
  obtain ⟨p, hp⟩ := hr
  obtain ⟨p2, hp2, -⟩ := way_split hp (psd_mem h hp)
  exact ⟨p2, hp2⟩

theorem psd_lt {k : List Ins} (hc : Closed k) {n d : Nat} (hn : n < k.length) (hr : Rch k (-1) n) (h : Psd k n d) : d < k.length := by
  obtain ⟨p, hp⟩ := hr
  exact way_lt hc hn hp d (psd_mem h hp)

theorem psd_no_two {k : List Ins} {d e : Nat} (hr : Rch k (-1) d) (h1 : Psd k d e) (h2 : Psd k e d) : False := by
  obtain ⟨p, hp⟩ := hr
  exact psd_two h1 h2 p.length p (Nat.le_refl _) hp

/-- A way has a part behind each of its instructions, which avoids what it avoids. -/
theorem way_split2 {k : List Ins} {wo : Int} {p : List Nat} {n d : Nat} (h : IsWay k wo n p) (hd : d ∈ p) : Rch k wo d := by
  obtain ⟨p', h1, -⟩ := way_split h hd
  exact ⟨p', h1⟩

theorem psd_trans {k : List Ins} {n d e : Nat} (hr : Rch k (-1) n) (h1 : Psd k n d) (h2 : Psd k d e) : Psd k n e := by
  refine ⟨fun e1 => ?_, fun ⟨p, hp⟩ => h2.2 (way_split2 hp (psd_mem h1 hp))⟩
  subst e1
  exact psd_no_two hr h1 h2

/-- A kernel with one Exit, its last instruction, to which a way leads from everywhere; and its joins. -/
structure Joined (k : List Ins) (J : List Int) : Prop where
  closed : Closed k
  pos : 1 ≤ k.length
  one : ∀ (i : Nat) x, k[i]? = some x → (x.o = 0 ↔ i + 1 = k.length)
  all : ∀ n, n < k.length → Rch k (-1) n
  are : JoinsAre k J

theorem Joined.ends {k : List Ins} {J : List Int} (h : Joined k J) {n : Nat} : isEnd k n ↔ n + 1 = k.length := by
  constructor
  · rintro ⟨x, hx, h0⟩
    exact (h.one n x hx).1 h0
  · intro hn
    have hlt : n < k.length := by omega
    exact ⟨k[n], List.getElem?_eq_getElem hlt, (h.one n _ (List.getElem?_eq_getElem hlt)).2 hn⟩

theorem way_end {k : List Ins} {wo : Int} : ∀ {p : List Nat} {n : Nat}, IsWay k wo n p → ∃ e, isEnd k e ∧ (n :: p).getLast? = some e
  | [], n, h => ⟨n, h, rfl⟩
  | m :: p, n, h => by
    obtain ⟨e, h1, h2⟩ := way_end h.2.2
    exact ⟨e, h1, by rw [List.getLast?_cons_cons]; exact h2⟩

theorem Joined.exit {k : List Ins} {J : List Int} (h : Joined k J) {n : Nat} (hn : n + 1 < k.length) : Psd k n (k.length - 1) := by
  refine ⟨by omega, fun ⟨p, hp⟩ => ?_⟩
  obtain ⟨e, h1, h2⟩ := way_end hp
  have he := h.ends.1 h1
  cases p with
  | nil =>
    simp at h2
    omega
  | cons m p =>
    have hm : e ∈ m :: p := by
      rw [List.getLast?_cons_cons] at h2
      exact List.mem_of_getLast? h2
    have key : ∀ {p : List Nat} {n : Nat}, IsWay k ((k.length - 1 : Nat) : Int) n p → ∀ x ∈ p, (x : Int) ≠ ((k.length - 1 : Nat) : Int) := by
      intro p
      induction p with
      | nil => intro n _ x hx; simp at hx
      | cons m p ih =>
        intro n hw x hx
        rcases List.mem_cons.1 hx with rfl | hx
        · exact hw.2.1
        · exact ih hw.2.2 x hx
    exact key hp e hm (by omega)

theorem Joined.noPsd {k : List Ins} {J : List Int} (h : Joined k J) {n x : Nat} (hn : n + 1 = k.length) : ¬ Psd k n x := fun hp => hp.2 ⟨[], h.ends.2 hn⟩

/-- The join of each instruction but the Exit. -/
theorem Joined.join {k : List Ins} {J : List Int} (h : Joined k J) {n : Nat} (hn : n + 1 < k.length) : ∃ d : Nat, J[n]? = some (d : Int) ∧ IsFirst k n d := by
  obtain ⟨j, hj⟩ : ∃ j, J[n]? = some j := ⟨_, List.getElem?_eq_getElem (by rw [h.are.1]; omega)⟩
  have hr := h.all n (by omega)
  rcases h.are.2 n j hj with ⟨h1, -⟩ | ⟨-, ⟨d, hd, rfl⟩ | ⟨hd, -⟩⟩
  · exact absurd hr h1
  · exact ⟨d, hj, hd⟩
  · exact absurd (first_exists h.closed (by omega) hr (h.exit hn)) hd

theorem Joined.last {k : List Ins} {J : List Int} (h : Joined k J) {n : Nat} (hn : n + 1 = k.length) : J[n]? = some (-1) := by
  obtain ⟨j, hj⟩ : ∃ j, J[n]? = some j := ⟨_, List.getElem?_eq_getElem (by rw [h.are.1]; omega)⟩
  rcases h.are.2 n j hj with ⟨-, rfl⟩ | ⟨-, ⟨d, hd, -⟩ | ⟨-, rfl⟩⟩
  · exact hj
  · exact absurd hd.2.1 (h.noPsd hn)
  · exact hj

/-- What Passed asks of each join. -/
theorem Joined.each {k : List Ins} {J : List Int} (h : Joined k J) {n : Nat} {j : Int} (hj : J[n]? = some j) : (j = -1 ↔ n + 1 = k.length) ∧ -1 ≤ j ∧ j < k.length ∧ j ≠ n := by
  have hn : n < k.length := by rw [← h.are.1]; exact (List.getElem?_eq_some_iff.1 hj).1
  by_cases he : n + 1 = k.length
  · have := h.last he
    rw [hj] at this
    cases this
    exact ⟨by simp [he], by omega, by omega, by omega⟩
  · obtain ⟨d, h1, h2⟩ := h.join (n := n) (by omega)
    rw [hj] at h1
    cases h1
    have h3 := h2.1
    have h4 := h2.2.1.1
    exact ⟨⟨fun e => by omega, fun e => absurd e he⟩, by omega, by omega, fun e => h4 (by omega)⟩

/-- Where only one instruction comes next, it is the join. -/
theorem first_next {k : List Ins} {n m : Nat} (hm : nxt k n = [m]) (hlt : m < k.length) (hr : Rch k (-1) n) (he : ¬ isEnd k n) : IsFirst k n m := by
  have hne : n ≠ m := fun e => by
    obtain ⟨p, hp⟩ := hr
    have key : ∀ (p : List Nat), ¬ IsWay k (-1) n p := by
      intro p
      induction p with
      | nil => exact he
      | cons y p ih =>
        rintro ⟨h1, -, h3⟩
        rw [hm] at h1
        simp at h1
        rw [h1, ← e] at h3
        exact ih h3
    exact key p hp
  refine ⟨hlt, ⟨hne, fun ⟨p, hp⟩ => ?_⟩, fun x hx hpx hxm => ⟨fun e => hxm e.symm, fun ⟨p, hp⟩ => hpx.2 ⟨m :: p, by rw [hm]; simp, by omega, hp⟩⟩⟩
  cases p with
  | nil => exact he hp
  | cons y p =>
    obtain ⟨h1, h2, -⟩ := hp
    rw [hm] at h1
    simp at h1
    omega

theorem Joined.next {k : List Ins} {J : List Int} (h : Joined k J) {n m : Nat} (hn : n + 1 < k.length) (hm : nxt k n = [m]) : J[n]? = some (m : Int) := by
  obtain ⟨d, h1, h2⟩ := h.join hn
  have hr := h.all n (by omega)
  have := first_one hr h2 (first_next hm (h.closed n m (by omega) (by rw [hm]; simp)) hr (fun e => by have := h.ends.1 e; omega))
  rw [h1, this]

/-- The chain of joins from n on, f of them at most. -/
def chainL (J : List Int) : Nat → Int → List Nat
  | 0, _ => []
  | f + 1, n => if n < 0 then [] else n.toNat :: chainL J f ((J[n.toNat]?).getD (-1))

theorem chain_take (J : List Int) : ∀ (f F : Nat) (n : Int), f ≤ F → chainL J f n = (chainL J F n).take f
  | 0, F, n, _ => by simp [chainL]
  | f + 1, F + 1, n, h => by
    simp only [chainL]
    by_cases hn : n < 0
    · simp [hn]
    · simp only [hn, if_false, List.take_succ_cons]
      rw [chain_take J f F _ (by omega)]

theorem Joined.chain0 {k : List Ins} {J : List Int} (h : Joined k J) : ∀ (L : Nat) (n : Nat) (F : Nat), n < k.length → (∃ p, IsWay k (-1) n p ∧ p.length ≤ L) → L < F →
    (∀ x, x ∈ chainL J F n ↔ x = n ∨ Psd k n x) ∧ (chainL J F n).Pairwise (Psd k) := by
  intro L
  induction L with
  | zero =>
    rintro n F hn ⟨p, hp, hl⟩ hF
    obtain ⟨f, rfl⟩ : ∃ f, F = f + 1 := ⟨F - 1, by omega⟩
    have e0 : p = [] := List.eq_nil_of_length_eq_zero (by omega)
    subst e0
    have he := h.ends.1 hp
    have h0 : ¬ (n : Int) < 0 := by omega
    have hc : chainL J (f + 1) n = [n] := by
      simp only [chainL, h0, if_false, Int.toNat_natCast, h.last he, Option.getD_some]
      cases f <;> simp [chainL]
    rw [hc]
    exact ⟨fun x => ⟨fun hx => .inl (by simpa using hx), fun hx => by
      rcases hx with rfl | hx
      · simp
      · exact absurd hx (h.noPsd he)⟩, by simp⟩
  | succ L ih =>
    rintro n F hn ⟨p, hp, hl⟩ hF
    obtain ⟨f, rfl⟩ : ∃ f, F = f + 1 := ⟨F - 1, by omega⟩
    have h0 : ¬ (n : Int) < 0 := by omega
    by_cases he : n + 1 = k.length
    · have hc : chainL J (f + 1) n = [n] := by
        simp only [chainL, h0, if_false, Int.toNat_natCast, h.last he, Option.getD_some]
        cases f <;> simp [chainL]
      rw [hc]
      exact ⟨fun x => ⟨fun hx => .inl (by simpa using hx), fun hx => by
        rcases hx with rfl | hx
        · simp
        · exact absurd hx (h.noPsd he)⟩, by simp⟩
    · obtain ⟨d, h1, h2⟩ := h.join (n := n) (by omega)
      have hr := h.all n hn
      obtain ⟨p2, hp2, hl2⟩ := way_split hp (psd_mem h2.2.1 hp)
      obtain ⟨i1, i2⟩ := ih d f h2.1 ⟨p2, hp2, by omega⟩ (by omega)
      have hc : chainL J (f + 1) n = n :: chainL J f d := by
        simp only [chainL, h0, if_false, Int.toNat_natCast, h1, Option.getD_some]
      rw [hc]
      have hmem : ∀ x, x ∈ chainL J f d ↔ Psd k n x := fun x => by
        rw [i1]
        constructor
        · rintro (rfl | hx)
          · exact h2.2.1
          · exact psd_trans hr h2.2.1 hx
        · intro hx
          by_cases hxd : x = d
          · exact .inl hxd
          · exact .inr (h2.2.2 x (psd_lt h.closed hn hr hx) hx hxd)
      exact ⟨fun x => by rw [List.mem_cons, hmem], List.pairwise_cons.2 ⟨fun x hx => (hmem x).1 hx, i2⟩⟩

theorem Joined.chain {k : List Ins} {J : List Int} (h : Joined k J) {n : Nat} (hn : n < k.length) :
    (∀ x, x ∈ chainL J (k.length + 1) n ↔ x = n ∨ Psd k n x) ∧ (chainL J (k.length + 1) n).Pairwise (Psd k) := by
  obtain ⟨p, hp⟩ := h.all n hn
  obtain ⟨h1, h2⟩ := h.chain0 p.length n (p.length + 1 + k.length) hn ⟨p, hp, Nat.le_refl _⟩ (by omega)
  have hnd : (chainL J (p.length + 1 + k.length) n).Nodup := List.Pairwise.imp (fun h => h.1) h2
  have hlen : (chainL J (p.length + 1 + k.length) n).length ≤ k.length := nodup_len hnd fun x hx => by
    rcases (h1 x).1 hx with rfl | hx
    · exact hn
    · exact psd_lt h.closed hn (h.all n hn) hx
  have e : chainL J (k.length + 1) n = chainL J (p.length + 1 + k.length) n := by
    rw [chain_take J (k.length + 1) (p.length + 1 + k.length) n (by omega), List.take_of_length_le (by omega)]
  rw [e]
  exact ⟨h1, h2⟩

theorem Joined.chain_len {k : List Ins} {J : List Int} (h : Joined k J) {n : Nat} (hn : n < k.length) : (chainL J (k.length + 1) n).length ≤ k.length := by
  obtain ⟨h1, h2⟩ := h.chain hn
  exact nodup_len (List.Pairwise.imp (fun h => h.1) h2) fun x hx => by
    rcases (h1 x).1 hx with rfl | hx
    · exact hn
    · exact psd_lt h.closed hn (h.all n hn) hx

/-- The first of the one list that stands in the other. -/
def meetL (a b : List Nat) : Int := match a.find? (fun x => decide (x ∈ b)) with
  | some x => (x : Int)
  | none => -1

/-- Where two instructions may come next, the join is where their chains meet. -/
theorem Joined.meets {k : List Ins} {J : List Int} (h : Joined k J) {n a b : Nat} (hn : n + 1 < k.length) (hm : nxt k n = [a, b]) :
    J[n]? = some (meetL (chainL J (k.length + 1) a) (chainL J (k.length + 1) b)) := by
  obtain ⟨d, h1, h2⟩ := h.join hn
  have hr := h.all n (by omega)
  have ha : a < k.length := h.closed n a (by omega) (by rw [hm]; simp)
  have hb : b < k.length := h.closed n b (by omega) (by rw [hm]; simp)
  obtain ⟨ca, pa⟩ := h.chain ha
  obtain ⟨cb, pb⟩ := h.chain hb
  have hne : ¬ isEnd k n := fun e => by have := h.ends.1 e; omega
  -- what each way passes
  have to : ∀ x, Psd k n x → x ∈ chainL J (k.length + 1) a ∧ x ∈ chainL J (k.length + 1) b := fun x hx => by
    have key : ∀ m, m ∈ nxt k n → x = m ∨ Psd k m x := fun m hmm => by
      by_cases e : x = m
      · exact .inl e
      · exact .inr ⟨fun e2 => e e2.symm, fun ⟨p, hp⟩ => hx.2 ⟨m :: p, hmm, by omega, hp⟩⟩
    exact ⟨(ca x).2 (key a (by rw [hm]; simp)), (cb x).2 (key b (by rw [hm]; simp))⟩
  have back : ∀ x, x ∈ chainL J (k.length + 1) a → x ∈ chainL J (k.length + 1) b → Psd k n x := fun x h3 h4 => by
    have key : ∀ m, m ∈ nxt k n → x = m ∨ Psd k m x := fun m hmm => by
      rw [hm] at hmm
      simp at hmm
      rcases hmm with rfl | rfl
      · exact (ca x).1 h3
      · exact (cb x).1 h4
    have nox : ∀ p, ¬ IsWay k (x : Int) n p := fun p hp => by
      cases p with
      | nil => exact hne hp
      | cons m p =>
        rcases key m hp.1 with e | e
        · exact hp.2.1 (by omega)
        · exact e.2 ⟨p, hp.2.2⟩
    refine ⟨fun e => ?_, fun ⟨p, hp⟩ => nox p hp⟩
    subst e
    obtain ⟨p, hp⟩ := hr
    -- a shortest way from n does not come by n again
    have key2 : ∀ (L : Nat) (p : List Nat), p.length ≤ L → ¬ IsWay k (-1) n p := by
      intro L
      induction L with
      | zero =>
        intro p hl hp
        have : p = [] := List.eq_nil_of_length_eq_zero (by omega)
        subst this
        exact hne hp
      | succ L ih =>
        intro p hl hp
        by_cases hmem : n ∈ p
        · obtain ⟨p2, hp2, hl2⟩ := way_split hp hmem
          exact ih p2 (by omega) hp2
        · exact nox p (way_avoid hp hmem)
    exact key2 p.length p (Nat.le_refl _) hp
  rw [h1]
  unfold meetL
  obtain ⟨da, db⟩ := to d h2.2.1
  cases hf : (chainL J (k.length + 1) a).find? (fun x => decide (x ∈ chainL J (k.length + 1) b)) with
  | none =>
    rw [List.find?_eq_none] at hf
    exact absurd (decide_eq_true db) (hf d da)
  | some c =>
    rw [List.find?_eq_some_iff_append] at hf
    obtain ⟨hcb, l1, bs, e, hno⟩ := hf
    have hcb2 : c ∈ chainL J (k.length + 1) b := of_decide_eq_true hcb
    have hca : c ∈ chainL J (k.length + 1) a := by rw [e]; simp
    have hcd : c = d := by
      by_cases e2 : c = d
      · exact e2
      · have hpc := back c hca hcb2
        have h5 := h2.2.2 c (psd_lt h.closed (by omega) hr hpc) hpc e2
        rw [e] at pa da
        have hdb : d ∈ bs := by
          rcases List.mem_append.1 da with hd | hd
          · have := hno d hd
            simp [db] at this
          · rcases List.mem_cons.1 hd with hd | hd
            · exact absurd hd.symm e2
            · exact hd
        have h6 : Psd k c d := (List.pairwise_cons.1 (List.pairwise_append.1 pa).2.1).1 d hdb
        exact (psd_no_two (psd_rch hr hpc) h6 h5).elim
    simp [hcd]

/-- A way comes by the join, and by the join's join not ahead of it. -/
theorem Joined.way {k : List Ins} {J : List Int} (h : Joined k J) {n d : Nat} {p : List Nat} (hn : n + 1 < k.length) (hp : IsWay k (-1) n p) (hd : J[n]? = some (d : Int)) :
    ∃ q r, p = q ++ d :: r ∧ d ∉ q ∧ ∀ e : Nat, J[d]? = some (e : Int) → e ∉ q ∧ e ≠ d ∧ e ∈ r := by
  obtain ⟨d', h1, h2⟩ := h.join hn
  rw [hd] at h1
  have e1 : d = d' := by have : ((d : Int)) = (d' : Int) := by injection h1
                         omega
  subst e1
  obtain ⟨x, q, r, rfl, hx, hq⟩ := first_at (fun y => y = d) ⟨d, psd_mem h2.2.1 hp, rfl⟩
  subst hx
  have hr := h.all n (by omega)
  refine ⟨q, r, rfl, fun hm => hq x hm rfl, fun e he => ?_⟩
  have hxl : x + 1 < k.length := by
    by_cases hl : x + 1 < k.length
    · exact hl
    · have hx1 := h2.1
      have := h.last (n := x) (by omega)
      rw [he] at this
      injection this with this
      omega
  obtain ⟨e', h3, h4⟩ := h.join hxl
  rw [he] at h3
  have e2 : e = e' := by have : ((e : Int)) = (e' : Int) := by injection h3
                         omega
  subst e2
  have hne : e ≠ x := fun e1 => h4.2.1.1 e1.symm
  have heq : e ∉ q := fun hm => by
    -- then each way from e comes by x
    obtain ⟨q1, q2, rfl⟩ := List.append_of_mem hm
    have hp' : IsWay k (-1) n (q1 ++ e :: (q2 ++ x :: r)) := by simpa using hp
    have h5 : Psd k e x := ⟨hne, fun ⟨p2, hp2⟩ => h2.2.1.2 ⟨q1 ++ e :: p2, way_cat hp' (fun z hz hz2 => hq z (by simp [hz]) (by omega)) (by omega) hp2⟩⟩
    exact psd_no_two (psd_rch hr h2.2.1) h4.2.1 h5
  refine ⟨heq, hne, ?_⟩
  have := psd_mem (psd_trans hr h2.2.1 h4.2.1) hp
  rcases List.mem_append.1 this with h6 | h6
  · exact absurd h6 heq
  · rcases List.mem_cons.1 h6 with h6 | h6
    · exact absurd h6 hne
    · exact h6

end Go.Proofs.YtbhbacphiinpeaaGreat

/- The first instruction on each way, as the program finds it: plain lists. -/
namespace Go.Proofs.YtbhbacphiinpeaaGreat
open Go.RowKit

/-- Do all others on each way from n stand on each way from d? -/
def AheadC (M : List (List Bool)) (n d c : Nat) : Prop := ∀ R, M[c]? = some R → c ≠ d → mkd R n = true → mkd R d = true
def Ahead (M : List (List Bool)) (n d : Nat) : Prop := ∀ c, AheadC M n d c
def Hit (M : List (List Bool)) (n d : Nat) : Prop := ∃ R, M[d]? = some R ∧ mkd R n = true ∧ Ahead M n d

theorem hit_iff {k : List Ins} {M : List (List Bool)} (h : On k M) {n d : Nat} : Hit M n d ↔ (Rch k (-1) n ∧ IsFirst k n d) := by
  have at' : ∀ c, c < k.length → ∃ R, M[c]? = some R ∧ OnRow k c R := fun c hc => by
    have e : M[c]? = some (M[c]'(by rw [h.1]; exact hc)) := List.getElem?_eq_getElem _
    exact ⟨_, e, h.2 c _ e⟩
  constructor
  · rintro ⟨R, hR, hn, ha⟩
    have hd : d < k.length := by rw [← h.1]; exact (List.getElem?_eq_some_iff.1 hR).1
    obtain ⟨hr, hp⟩ := ((h.2 d R hR).2 n).1 ((mkd_nat R n).1 hn)
    refine ⟨hr, hd, hp, fun x hx hpx hne => ?_⟩
    obtain ⟨S, hS, hS2⟩ := at' x hx
    have := ha x S hS hne ((mkd_nat S n).2 ((hS2.2 n).2 ⟨hr, hpx⟩))
    exact ((hS2.2 d).1 ((mkd_nat S d).1 this)).2
  · rintro ⟨hr, hd, hp, hall⟩
    obtain ⟨R, hR, hR2⟩ := at' d hd
    refine ⟨R, hR, (mkd_nat R n).2 ((hR2.2 n).2 ⟨hr, hp⟩), fun c S hS hne hm => ?_⟩
    have hc : c < k.length := by rw [← h.1]; exact (List.getElem?_eq_some_iff.1 hS).1
    have hS2 := h.2 c S hS
    have hpc := ((hS2.2 n).1 ((mkd_nat S n).1 hm)).2
    exact (mkd_nat S d).2 ((hS2.2 d).2 ⟨psd_rch hr hp, hall c hc hpc hne⟩)

theorem join_hit {k : List Ins} {M : List (List Bool)} (h : On k M) {n d : Nat} (hd : Hit M n d) : JoinIs k n (d : Int) := by
  obtain ⟨h1, h2⟩ := (hit_iff h).1 hd
  exact .inr ⟨h1, .inl ⟨d, h2, rfl⟩⟩

theorem join_miss {k : List Ins} {M : List (List Bool)} (h : On k M) {n : Nat} (hd : ∀ d, d < M.length → ¬ Hit M n d) : JoinIs k n (-1) := by
  by_cases hr : Rch k (-1) n
  · refine .inr ⟨hr, .inr ⟨fun ⟨d, hf⟩ => ?_, rfl⟩⟩
    exact hd d (by rw [h.1]; exact hf.1) ((hit_iff h).2 ⟨hr, hf⟩)
  · exact .inl ⟨hr, rfl⟩

end Go.Proofs.YtbhbacphiinpeaaGreat

