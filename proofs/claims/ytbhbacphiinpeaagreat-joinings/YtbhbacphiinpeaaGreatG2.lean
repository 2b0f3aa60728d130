/- What the document's 'reaches' answers. -/
import Derived.Test.YtbhbacphiinpeaaGreatG1
namespace Go.Proofs.YtbhbacphiinpeaaGreat
open Go.RowKit

theorem fold_len (wo : Int) : ∀ (ms : List Nat) (L : List Nat), L.length ≤ (ms.foldl (visit wo) L).length
  | [], L => Nat.le_refl _
  | m :: ms, L => by
    have h := fold_len wo ms (visit wo L m)
    obtain ⟨q, hq⟩ := visit_prefix wo L m
    have h2 : L.length ≤ (visit wo L m).length := by rw [hq]; simp
    exact Nat.le_trans h2 h

theorem set_size (w : World) (a : Addr) (v : Value) : (w.setCell a v).heap.size = w.heap.size := by simp [World.setCell]

set_option maxHeartbeats 2000000 in
set_option maxRecDepth 100000 in
theorem reaches_at (b off n cap s : Nat) (k : List Ins) (hk : k.length = n) (hn1 : 1 ≤ n) (hn : n ≤ 40) (hcl : Closed k) (hs : s < n) (wo : Int) (w : World) (hbw : b < w.heap.size) (hb0 : ∀ (i : Nat) x, k[i]? = some x → 0 ≤ x.b)
    (hc : ∀ (i : Nat) x, k[i]? = some x → w.cell? ⟨b, off + i * 4, none⟩ = some (.int .i64 x.o) ∧ w.cell? ⟨b, off + i * 4 + 1, none⟩ = some (.int .i64 x.a) ∧ w.cell? ⟨b, off + i * 4 + 2, none⟩ = some (.int .i64 x.b) ∧ w.cell? ⟨b, off + i * 4 + 3, none⟩ = some (.int .i64 x.c)) :
    Calls Tryz.prog 71 #[.slice (some ⟨b, off, none⟩) n cap, .int .i64 s, .int .i64 wo] w fun e w' => (∃ r : Bool, e = .returned (.bool r) ∧ (r = true ↔ Rch k wo s)) ∧ Below w.heap.size w w' := by
  have Hk := hyd hk
  have HCl := hyd hcl
  have Hb0 := hyd hb0
  have Hc := hyd hc
  clear hk hcl hb0 hc
  have hn2 : (n : Int) ≤ 40 := by omega
  have s1 : (0 : Int) ≤ (s : Int) := by omega
  have s2 : (s : Int) < (n : Int) := by omega
  obtain ⟨i0, hi, hz0, hz1, hz2⟩ := info_parts Tryz.info3
  obtain ⟨j0, hj, hy0, hy1, hy2⟩ := info_parts Tryz.info4
  go_enter Tryz.func71, Tryz.ntmps71
  go_wp2_with (at_make; go_must (refine wpList_make_full _ rfl _ _ 141 rfl w.heap.size 4 j0 (.bool false) 1 Tryz.underlying141 hj hy0 hy1 .i64 .i64 _ _ n rfl rfl ?m1 ?m2 ?m3 ?m4 ?m5 ?_))
  case m1 => rfl
  case m2 => rfl
  case m3 => rw [hy2]; omega
  case m4 => unfold maxLen; omega
  case m5 => exact Nat.le_refl _
  · intro w1 hseen0 hgrow0
    have hsl : (madeCells #[Value.bool false] n).toList = seenVals n [] := by
      rw [← seen_none]; exact toList_madeCells_one _ n
    rw [hsl] at hseen0
    have hb1 : Below w.heap.size w w1 := (Below.refl _ w).grown hgrow0 (Nat.le_refl _) (fun x hx => by cases hx)
    have hsz1 : w.heap.size < w1.heap.size := (hseen0.lt _ rfl).2
    have hso := hseen0.stored s (.bool true)
    have hcell := (hseen0.cellAt s (by omega)).trans (seen_at [] hs)
    have hfz := hseen0.frozenAt s
    rw [seen_set] at hso
    have HS0 := hyd hseen0
    have Hso := hyd hso.1
    have HB1 := hyd hb1
    clear hseen0 hgrow0 hsl hb1 hso
    go_wp2_with fail
    go_loopw [8, 9] (fun vl iv wr => ∃ (i : Nat) (L : List Nat), i ≤ L.length ∧ iv = .int .i64 i ∧ wr.ownsRow w.heap.size 3 1 vl L.length (natVals L) ∧ wr.ownsRow w.heap.size 4 1 (.slice (some ⟨w.heap.size, 0, none⟩) n n) n (seenVals n L) ∧ Seen k wo s L i ∧ Below w.heap.size w wr) (fun _ iv _ => n - (intOf iv).toNat)
    case atStart =>
      refine ⟨0, [s], by omega, rfl, ?_, ?_, Seen.begin (by rw [Hk.out]; exact hs), ?_⟩
      · have h := World.ownsRow_lit (base := w.heap.size) (e := 3) (size := 1) (w1.setCell ⟨w.heap.size, s, none⟩ (.bool true)) #[.int .i64 s] 1 (by rw [set_size]; omega) (by decide) rfl
        rw [set_size] at h
        exact h
      · exact Hso.out.alloc _
      · exact (HB1.out.setCell (p := ⟨w.heap.size, s, none⟩) (Nat.le_refl _) _).alloc (by rw [set_size]; omega) _
    case round =>
      obtain ⟨i, L, hiL, rfl, hl, hse, hS, hb⟩ := hrel
      have hLn : L.length ≤ n := by have := nodup_len hS.nodup hS.lt; rw [Hk.out] at this; exact this
      obtain ⟨gl, cl, hvl, hgl, hgl2⟩ := hl.form (by have := List.length_pos_of_mem hS.start; omega)
      subst hvl
      have HL := hyd hl
      have HSe := hyd hse
      have HS := hyd hS
      clear hl hse hS hcell hfz HS0 Hso
      by_cases hil : i < L.length
      · obtain ⟨x, hx⟩ : ∃ x, L[i]? = some x := ⟨_, List.getElem?_eq_getElem hil⟩
        have hxn : x < n := by have := HS.out.lt x (List.mem_of_getElem? hx); rwa [Hk.out] at this
        have lc := (HL.out.cellAt i (by omega)).trans (nat_at hx)
        obtain ⟨y, hy⟩ : ∃ y, k[x]? = some y := ⟨_, List.getElem?_eq_getElem (by rw [Hk.out]; exact hxn)⟩
        obtain ⟨c0, -, c2, -⟩ := Hc.out x y hy
        have d0 := (hb.cell (p := ⟨b, off + x * 4, none⟩) hbw).trans c0
        have d2 := (hb.cell (p := ⟨b, off + x * 4 + 2, none⟩) hbw).trans c2
        have hyb := Hb0.out x y hy
        have Hx := hyd hx
        have Hy := hyd hy
        clear hx hy c0 c2
        have x1 : (0 : Int) ≤ (x : Int) := by omega
        have x2 : (x : Int) < (n : Int) := by omega
        have z1 : (i : Int) < (L.length : Int) := by omega
        by_cases he : y.o = 0
        · have t0 : (y.o == 0) = true := by rw [he]; rfl
          have He := hyd he
          clear he
          go_wp2
          go_ret
          exact ⟨⟨true, rfl, by simpa using HS.out.found Hx.out ⟨y, Hy.out, He.out⟩⟩, hb⟩
        · have t0 : (y.o == 0) = false := beq_eq_false_iff_ne.2 he
          have He : Hid (¬ isEnd k x) := fun ⟨y', h1, h2⟩ => by rw [Hy.out] at h1; cases h1; exact he h2
          clear he
          go_wp2_with fail
          refine (next_at b off n cap x y hxn hn hyb wr k Hy.out d0 d2).mono ?_
          rintro e w2 ⟨vm, rfl, hm2, hb2⟩
          obtain ⟨ms, Hms⟩ : ∃ ms, Hid (nxt k x = ms) := ⟨_, rfl⟩
          rw [Hms.out] at hm2
          have hvm : ∃ ao c, vm = .slice ao ms.length c := by
            rcases hm2.2 with ⟨rfl, h0⟩ | ⟨g, c, cur, rfl, -⟩
            · exact ⟨none, 0, by rw [h0]⟩
            · exact ⟨_, c, rfl⟩
          obtain ⟨ma, mc, rfl⟩ := hvm
          obtain ⟨p, Hp⟩ : ∃ p, Hid (ms.length = p) := ⟨_, rfl⟩
          rw [Hp.out] at hm2
          have hp2 : p ≤ 2 := by
            rw [← Hp.out, ← Hms.out]; unfold nxt; rw [Hy.out]; dsimp only
            split
            · simp
            split
            · simp
            split <;> simp
          have hmlt : ∀ m ∈ ms, m < n := fun m hm => by
            have := HCl.out x m (by rw [Hk.out]; exact hxn) (by rw [Hms.out]; exact hm)
            rwa [Hk.out] at this
          have Hmlt := hyd hmlt
          have HM := hyd hm2
          have HL2 := hyd (HL.out.keptB hb2)
          have HSe2 := hyd (HSe.out.keptB hb2)
          have HB2 := hyd (hb.trans (hb2.mono hb.size))
          have hglm : ∀ g, Value.ownBlock (.slice ma p mc) = some g → gl < g := fun g hg => by have := (hm2.lt g hg).1; omega
          have Hglm := hyd hglm
          clear hm2 hmlt hb2 d0 d2 lc hglm
          rw [Hp.out]
          go_wp2_with fail
          go_loopw [8, 11] (fun vl jv wx => ∃ (j : Nat) (L' : List Nat) (g' c' : Nat), j ≤ p ∧ jv = .int .i64 j ∧ L' = (ms.take j).foldl (visit wo) L ∧ vl = .slice (some ⟨g', 0, none⟩) L'.length c' ∧ wx.ownsRow w.heap.size 3 1 vl L'.length (natVals L') ∧ wx.ownsRow w.heap.size 4 1 (.slice (some ⟨w.heap.size, 0, none⟩) n n) n (seenVals n L') ∧
              wx.ownsRow wr.heap.size 3 1 (.slice ma p mc) p (natVals ms) ∧ (∀ g, Value.ownBlock (.slice ma p mc) = some g → g ≠ g') ∧ L'.length ≤ L.length + j ∧ Below w.heap.size w wx) (fun _ jv _ => p - (intOf jv).toNat)
          case atStart => exact ⟨0, L, gl, cl, by omega, rfl, rfl, rfl, HL2.out, HSe2.out, HM.out, fun g hg => by have := Hglm.out g hg; omega, by omega, HB2.out⟩
          case round =>
            obtain ⟨j, L', g', c', hj, rfl, hL', rfl, hl', hse', hm', hne', hlen', hb'⟩ := hrel
            have HL' := hyd hL'
            clear hL'
            by_cases hjp : j < p
            · obtain ⟨m, hm⟩ : ∃ m, ms[j]? = some m := ⟨_, List.getElem?_eq_getElem (by rw [Hp.out]; exact hjp)⟩
              have hmn := Hmlt.out m (List.mem_of_getElem? hm)
              obtain ⟨gm, hgm⟩ : ∃ gm, ma = some ⟨gm, 0, none⟩ := by
                rcases hm'.2 with ⟨h0, h00⟩ | ⟨g, c, cur, hv, -⟩
                · omega
                · simp only [Value.slice.injEq] at hv; exact ⟨g, hv.1⟩
              subst hgm
              have mcell := (hm'.cellAt j (by omega)).trans (nat_at hm)
              have scell := (hse'.cellAt m (by omega)).trans (seen_at L' hmn)
              have sfz := hse'.frozenAt m
              have Hfold := hyd (foldl_snoc (wo := wo) L hm)
              clear hm
              have m1 : (0 : Int) ≤ (m : Int) := by omega
              have m2 : (m : Int) < (n : Int) := by omega
              have j2 : (j : Int) < (p : Int) := by omega
              have hL40 : L'.length ≤ 42 := by omega
              by_cases hw : (m : Int) = wo
              · have g0 : ((m : Int) != wo) = false := by rw [hw]; simp
                have Hv : Hid (visit wo L' m = L') := by unfold visit; rw [if_neg (fun h => h.1 hw)]; exact rfl
                have HX := hyd (And.intro hl' (And.intro hse' hm'))
                clear hw hl' hse' hm' scell sfz
                go_wp2
                go_roundw
                case rel => exact ⟨j + 1, L', g', c', by omega, by go_num, by rw [Hfold.out, ← HL'.out, Hv.out], rfl, HX.out.1, HX.out.2.1, HX.out.2.2, hne', by omega, hb'⟩
                case measure => simp [intOf]; omega
              · have g0 : ((m : Int) != wo) = true := by simpa using hw
                by_cases hin : m ∈ L'
                · have Hv : Hid (visit wo L' m = L') := by unfold visit; rw [if_neg (fun h => h.2 hin)]; exact rfl
                  have hd : decide (m ∈ L') = true := by simpa using hin
                  rw [hd] at scell
                  have HX := hyd (And.intro hl' (And.intro hse' hm'))
                  clear hw hl' hse' hm' sfz hin hd
                  go_wp2
                  go_roundw
                  case rel => exact ⟨j + 1, L', g', c', by omega, by go_num, by rw [Hfold.out, ← HL'.out, Hv.out], rfl, HX.out.1, HX.out.2.1, HX.out.2.2, hne', by omega, hb'⟩
                  case measure => simp [intOf]; omega
                · have Hv : Hid (visit wo L' m = L' ++ [m]) := by unfold visit; rw [if_pos ⟨hw, hin⟩]; exact rfl
                  have hd : decide (m ∈ L') = false := by simpa using hin
                  rw [hd] at scell
                  have hgs : g' ≠ w.heap.size := fun e0 => by
                    rcases rows_apart hl' hse' (by decide) with h | h
                    · simp [Value.ownBlock] at h
                    · exact h (by simp [Value.ownBlock, e0])
                  have hgms : gm ≠ w.heap.size := fun e0 => by
                    rcases rows_apart hm' hse' (by decide) with h | h
                    · simp [Value.ownBlock] at h
                    · exact h (by simp [Value.ownBlock, e0])
                  have hgmg : gm ≠ g' := hne' gm rfl
                  have hgm2 := (hm'.lt gm rfl).2
                  have o1 := owns_setCell hl' (a := ⟨w.heap.size, m, none⟩) (fun g hg => by simp only [Value.ownBlock, Option.some.injEq] at hg; subst hg; exact hgs) (.bool true)
                  have o2 := (hse'.stored m (.bool true)).1
                  rw [seen_set] at o2
                  have o3 := owns_setCell hm' (a := ⟨w.heap.size, m, none⟩) (fun g hg => by simp only [Value.ownBlock, Option.some.injEq] at hg; subst hg; exact hgms) (.bool true)
                  have ob := hb'.setCell (p := ⟨w.heap.size, m, none⟩) (Nat.le_refl _) (.bool true)
                  have hsx : w.heap.size ≤ wr.heap.size := hb'.size
                  have mcell2 : (wr.setCell ⟨w.heap.size, m, none⟩ (.bool true)).cell? ⟨gm, j, none⟩ = some (.int .i64 m) := by
                    rw [World.cell?_of_block (Below.heap_setCell wr ⟨w.heap.size, m, none⟩ (.bool true) gm hgms)]; exact mcell
                  have HX := hyd (And.intro o1 (And.intro o2 (And.intro o3 ob)))
                  clear hw hl' hse' hm' hin hd o1 o2 o3 ob
                  go_wp2_with (at_builtin; go_must (refine wpList_append_lies _ rfl (.tmp 69) (.tmp 74) 24 rfl w.heap.size 3 i0 (.int .i64 0) 1 8 Tryz.underlying24 hi hz0 hz1 hz2 rfl (by decide) (.slice (some ⟨g', 0, none⟩) L'.length c') L'.length (natVals L') rfl ?a0 ⟨wr.heap.size, 0, none⟩ 1 1 [.int .i64 m] rfl rfl ?a1 ?a2 (by omega) ?a3 ?a4 ?a5 (wr.heap.size + 1) ?a6 ?_))
                  case a0 => exact HX.out.1.alloc _
                  case a1 =>
                    have h := World.news_of_block (heap_alloc_new (wr.setCell ⟨w.heap.size, m, none⟩ (.bool true)) (.cells #[.int .i64 m] 3))
                    rw [set_size] at h
                    exact h
                  case a2 => intro u hu; simp at hu; subst hu; rfl
                  case a3 => unfold maxLen; omega
                  case a4 => omega
                  case a5 => simp only [World.size_alloc, set_size]; omega
                  case a6 => simp only [World.size_alloc, set_size]
                  · intro g2 c2 w3 hown3 hgrow3 hat3 _
                    rw [← nat_snoc] at hown3
                    have p2 := (HX.out.2.1.alloc (.cells #[.int .i64 m] 3)).kept hgrow3 (rows_apart HX.out.2.1 HX.out.1 (by decide))
                    have p3 := (HX.out.2.2.1.alloc (.cells #[.int .i64 m] 3)).kept hgrow3 (.inr (by simp [Value.ownBlock]; exact hgmg))
                    have pb : Below w.heap.size w w3 := (HX.out.2.2.2.alloc (by rw [set_size]; exact hsx) _).grown hgrow3 (by simp only [World.size_alloc, set_size]; omega) (fun x hx => (HX.out.1.lt x hx).1)
                    have pne : ∀ g, Value.ownBlock (.slice (some ⟨gm, 0, none⟩) p mc) = some g → g ≠ g2 := fun g hg => by
                      simp only [Value.ownBlock, Option.some.injEq] at hg
                      subst hg
                      rcases hat3 with h3 | h3
                      · simp only [Value.ownBlock, Option.some.injEq] at h3; rw [← h3]; exact hgmg
                      · omega
                    have HY := hyd (And.intro hown3 (And.intro p2 (And.intro p3 (And.intro pne pb))))
                    clear hown3 hgrow3 hat3 p2 p3 pb pne mcell mcell2 scell sfz
                    go_wp2
                    go_roundw
                    case rel => exact ⟨j + 1, L' ++ [m], g2, c2, by omega, by go_num, by rw [Hfold.out, ← HL'.out, Hv.out], by rw [List.length_append]; rfl, by rw [List.length_append]; exact HY.out.1, HY.out.2.1, HY.out.2.2.1, HY.out.2.2.2.1, by rw [List.length_append]; simp; omega, HY.out.2.2.2.2⟩
                    case measure => simp [intOf]; omega
            · have hj' : j = p := by omega
              subst hj'
              rw [List.take_of_length_le (by rw [Hp.out]; exact Nat.le_refl _), ← Hms.out] at HL'
              have HSn : Hid (Seen k wo s L' (i + 1)) := by rw [HL'.out]; exact HS.out.look HCl.out Hx.out He.out
              have HX := hyd (And.intro hl' hse')
              have hil' : i + 1 ≤ L'.length := by
                have hpre : L.length ≤ L'.length := by rw [HL'.out]; exact fold_len wo (nxt k x) L
                omega
              clear hl' hse' hm'
              go_wp2
              go_roundw
              case rel => exact ⟨i + 1, L', hil', by go_num, HX.out.1, HX.out.2, HSn.out, hb'⟩
              case measure => simp [intOf]; omega
      · go_wp2
        go_ret
        exact ⟨⟨false, rfl, by simpa using HS.out.none (by omega)⟩, hb⟩

end Go.Proofs.YtbhbacphiinpeaaGreat
