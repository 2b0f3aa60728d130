/- What 'Coded' answers. -/
import Derived.Test.YtbhbacphiinpeaaM8
import Derived.Test.YtbhbacphiinpeaaD
import Derived.Test.YtbhbacphiinpeaaE
import Derived.Test.YtbhbacphiinpeaaBack
import Derived.Deep.QuietTactic
import Derived.BigQuiet
namespace Go.Proofs.Ytbhbacphiinpeaa
open Go.RowKit

theorem size_x (s : ByteArray) : (s ++ (⟨#[120]⟩ : ByteArray)).size = s.size + 1 := by
  rw [ByteArray.size_append]
  rfl

theorem cells_alloc {w : World} {g : Nat} {xs : List Value} {o : Obj} (hg : g < w.heap.size) (h : ∀ j u, xs[j]? = some u → w.cell? ((⟨g, 0, none⟩ : Addr).add j) = some u) : ∀ j u, xs[j]? = some u → (w.alloc o).cell? ((⟨g, 0, none⟩ : Addr).add j) = some u := by
  intro j u hu
  have e : ((⟨g, 0, none⟩ : Addr).add j).block = g := by unfold Addr.add; split <;> rfl
  rw [((Below.refl w.heap.size w).alloc (Nat.le_refl _) o).cell (by rw [e]; exact hg)]
  exact h j u hu

theorem oneCell_flat (l : List Ins) : ∀ u ∈ flat l, u.oneCell' = true := by
  intro u hu
  obtain ⟨x, -, hx⟩ := List.mem_flatMap.1 hu
  exact oneCell_vals x u hx

set_option maxHeartbeats 2000000 in
set_option maxRecDepth 100000 in
theorem coded_any {w : World} {v : Value} {l : List Int} (h : SeesI w v l) (what : Int) (hw : -9223372036854775808 ≤ what ∧ what ≤ 9223372036854775807) :
    Calls Try.prog 3 #[v, .int .i64 what] w fun e w' => e = .returned (.bool true) ∧ Below w.heap.size w w' := by
  have H := hid h
  clear h
  obtain ⟨K, HK⟩ : ∃ K, Hid (kern l false = K) := ⟨_, rfl⟩
  have Hchk : Hid (chk K = (0, 0)) := by rw [← HK.out]; exact kern_chk l false
  obtain ⟨n, Hn⟩ : ∃ n, Hid (K.length = n) := ⟨_, rfl⟩
  have hn : 2 ≤ n ∧ n ≤ 19 := by have := kern_len l false; rw [HK.out] at this; have := Hn.out; omega
  obtain ⟨hn1, hn2⟩ := hn
  have Hdec := hid (dchk_back Hchk.out)
  obtain ⟨S, HS⟩ : ∃ S, Hid (strOfNums (nums K) = S) := ⟨_, rfl⟩
  have Hsz : Hid (S.size = 4 * n) := by rw [← HS.out, ← Hn.out]; exact back_size K
  have hsz : ((S.size : Int) != 4 * (n : Int)) = false := by have := Hsz.out; rw [this]; simp
  have hsz2 : S.size ≤ 76 := by have := Hsz.out; omega
  rw [HS.out] at Hdec
  go_enter Try.func3, Try.ntmps3
  go_wp2_with fail
  refine (kernel_any false H.out).mono ?_
  rw [HK.out, Hn.out]
  rintro e w1 ⟨vk, rfl, hown1, hb1⟩
  obtain ⟨g, cap, hvk, hg1, hg2⟩ := hown1.form (by omega)
  subst hvk
  have Hown1 := hid hown1
  have Hsee1 : Hid (Sees w1 (.slice (some ⟨g, 0, none⟩) n cap) K) := ownsRow_sees (by rw [Hn.out]; omega) (by rw [Hn.out]; exact hown1)
  clear hown1
  go_wp2_with fail
  refine (Encode_any Hsee1.out).mono ?_
  rw [show encR K = S by unfold encR; rw [Hchk.out]; exact HS.out, Hchk.out]
  rintro e w2 ⟨rfl, hb2⟩
  go_wp2_with fail
  refine (Decode_any S (by omega) w2).mono ?_
  rw [Hdec.out.1, Hdec.out.2, Hn.out]
  rintro e w3 ⟨v3, rfl, hb3, hown3, -⟩
  obtain ⟨g3, cap3, hv3, hg3, hg4⟩ := hown3.form (by omega)
  subst hv3
  have Hown3 := hid hown3
  clear hown3
  go_wp2_with fail
  go_loopw [12] (fun i wr => ∃ k : Nat, k ≤ n ∧ i = .int .i64 k ∧ Below w3.heap.size w3 wr) (fun i _ => n - (intOf i).toNat)
  case atStart => exact ⟨0, Nat.zero_le _, rfl, Below.refl _ _⟩
  case round =>
    obtain ⟨k, hk, rfl, hbr⟩ := hrel
    have hown3r : wr.ownsRow w2.heap.size 31 4 (.slice (some ⟨g3, 0, none⟩) n cap3) n (flat K) := Hown3.out.keptB hbr
    have hb13 : Below w1.heap.size w1 wr := hb2.trans ((hb3.mono hb2.size).trans (hbr.mono (Nat.le_trans hb2.size hb3.size)))
    have hown1r : wr.ownsRow w.heap.size 31 4 (.slice (some ⟨g, 0, none⟩) n cap) n (flat K) := Hown1.out.keptB hb13
    by_cases hkn : k < n
    · obtain ⟨x, hx⟩ : ∃ x, K[k]? = some x := ⟨_, List.getElem?_eq_getElem (by rw [Hn.out]; exact hkn)⟩
      obtain ⟨f0, f1, f2, f3⟩ := flat_at hx
      have c0 := (hown1r.cellAt (k * 4) (by omega)).trans f0
      have c1 := (hown1r.cellAt (k * 4 + 1) (by omega)).trans f1
      have c2 := (hown1r.cellAt (k * 4 + 2) (by omega)).trans f2
      have c3 := (hown1r.cellAt (k * 4 + 3) (by omega)).trans f3
      have d0 := (hown3r.cellAt (k * 4) (by omega)).trans f0
      have d1 := (hown3r.cellAt (k * 4 + 1) (by omega)).trans f1
      have d2 := (hown3r.cellAt (k * 4 + 2) (by omega)).trans f2
      have d3 := (hown3r.cellAt (k * 4 + 3) (by omega)).trans f3
      clear f0 f1 f2 f3 hx hown1r hown3r hb13
      have i1 : (0 : Int) ≤ (k : Int) := by omega
      have i2 : (k : Int) < (n : Int) := by omega
      go_wp2_with fail
      go_quiet (fail)
      go_wp2
      go_roundw
      case rel => exact ⟨k + 1, by omega, by go_num, below_drewN hbr _⟩
      case measure => simp [intOf]; omega
    · have hkn' : k = n := by omega
      subst hkn'
      have hB1 : Below w.heap.size w wr := hb1.trans (hb13.mono hb1.size)
      have HB1 := hid hB1
      have Hr := hid hown1r
      clear hown3r hb13 hbr Hown3 hb3 hb2 hB1 hown1r Hown1 Hsee1
      have hglt : g < wr.heap.size := (Hr.out.lt g rfl).2
      have hsrc : Hid (∀ j u, (flat K)[j]? = some u → wr.cell? ((⟨g, 0, none⟩ : Addr).add j) = some u) := Hr.out.cells (g := g) rfl
      have hfl : (flat K).length = k * 4 := by rw [flat_length, Hn.out]
      have hone : ∀ u ∈ flat K, u.oneCell' = true := oneCell_flat K
      have Hfl := hid hfl
      have Hone := hid hone
      clear hfl hone
      obtain ⟨i0, hi, hz0, hz1, hz2⟩ := info_parts Try.info31
      obtain ⟨p, Hp⟩ : ∃ p, Hid (pickN what k = p) := ⟨_, rfl⟩
      have hp : p < k := by rw [← Hp.out]; exact pickN_lt _ _ (by omega)
      obtain ⟨q, Hq⟩ : ∃ q, Hid (pickN what 200 = q) := ⟨_, rfl⟩
      have hq : q < 200 := by rw [← Hq.out]; exact pickN_lt _ _ (by omega)
      go_wp2_with fail
      refine (pick_any what _ k rfl hw (by omega) (by omega) _).mono ?_
      rw [Hp.out]
      rintro e w4 ⟨rfl, rfl⟩
      go_wp2_with (at_builtin; go_must (refine wpList_append_lies _ rfl _ _ 23 rfl w.heap.size 31 i0 (.agg #[.int .i64 0, .int .i64 0, .int .i64 0, .int .i64 0]) 4 32 Try.underlying23 hi hz0 hz1 hz2 rfl (by decide) (.slice (some ⟨w4.heap.size, 0, none⟩) 0 0) 0 [] rfl ?c0 ⟨g, 0, none⟩ k cap (flat K) rfl ?c1 ?c2 ?c3 (by omega) ?c4 ?c5 ?c6 (w4.heap.size + 1) ?c7 ?_))
      case c0 => exact World.ownsRow_made w4 #[] 0 HB1.out.size (by decide) rfl
      case c1 => exact Hfl.out
      case c2 => exact cells_alloc hglt hsrc.out
      case c3 => exact Hone.out
      case c4 => unfold maxLen; omega
      case c5 => omega
      case c6 => have := HB1.out.size; simp; omega
      case c7 => simp
      · intro gw capw w5 hown5 hgrow5 hat5 _
        have hb45 : Below w4.heap.size w4 w5 := ((Below.refl _ w4).alloc (Nat.le_refl _) _).grown hgrow5 (by simp) (fun x hx => by simp [Value.ownBlock] at hx; omega)
        have hgw : w4.heap.size ≤ gw := by
          rcases hat5 with h5 | h5
          · simp [Value.ownBlock] at h5; omega
          · omega
        obtain ⟨x, hx⟩ : ∃ x, K[p]? = some x := ⟨_, List.getElem?_eq_getElem (by rw [Hn.out]; exact hp)⟩
        have e0 := (hown5.cellAt (p * 4) (by omega)).trans (flat_at hx).1
        have fz := hown5.frozenAt (p * 4)
        obtain ⟨hst1, hst2⟩ := hown5.stored (p * 4) (.int .i64 (15 + (q : Int)))
        rw [← flat_modifyO K p _ (by rw [Hn.out]; exact hp)] at hst1
        have Hsee2 : Hid (Sees (w5.setCell ⟨gw, p * 4, none⟩ (.int .i64 (15 + (q : Int)))) (.slice (some ⟨gw, 0, none⟩) k capw) (K.modify p fun x => { x with o := 15 + (q : Int) })) :=
          have hl2 : (K.modify p fun x => { x with o := 15 + (q : Int) }).length = k := by rw [List.length_modify]; exact Hn.out
          ownsRow_sees (by rw [hl2]; omega) (by rw [hl2]; exact hst1)
        have hb46 := hb45.setCell (p := ⟨gw, p * 4, none⟩) hgw (.int .i64 (15 + (q : Int)))
        have HB46 := hid hb46
        have i1 : (0 : Int) ≤ (p : Int) := by omega
        have i2 : (p : Int) < (k : Int) := by omega
        clear hown5 hgrow5 hat5 hb45 hst1 hst2 hb46 hx
        go_wp2_with fail
        refine (pick_any what _ 200 rfl hw (by omega) (by omega) _).mono ?_
        rw [Hq.out]
        rintro e w6 ⟨rfl, hw6⟩
        subst hw6
        go_wp2_with fail
        refine (Encode_any Hsee2.out).mono ?_
        rw [chk_wrong Hchk.out (by rw [Hn.out]; exact hp) (by omega)]
        rintro e w7 ⟨rfl, hb7⟩
        have hb47 := HB46.out.trans (hb7.mono HB46.out.size)
        have Hb47 := hid hb47
        clear hb7 HB46 Hsee2 e0 fz hb47
        go_wp2_with fail
        refine (Decode_any _ ?_ w7).mono ?_
        · have := size_x S
          omega
        rw [dchk_more (by have := size_x S; have := Hsz.out; omega)]
        rintro e w8 ⟨v8, rfl, hb8, -, -⟩
        have Hb48 := hid (Hb47.out.trans (hb8.mono Hb47.out.size))
        have Hr8 : Hid (w8.ownsRow w.heap.size 31 4 (.slice (some ⟨g, 0, none⟩) k cap) k (flat K)) := Hr.out.keptB Hb48.out
        have hglt8 : g < w8.heap.size := (Hr8.out.lt g rfl).2
        have hsrc8 : Hid (∀ j u, (flat K)[j]? = some u → w8.cell? ((⟨g, 0, none⟩ : Addr).add j) = some u) := Hr8.out.cells (g := g) rfl
        clear hb8 Hb47 hsrc hglt
        have hwz8 : w.heap.size ≤ w8.heap.size := Nat.le_trans HB1.out.size Hb48.out.size
        go_wp2_with (at_builtin; go_must (refine wpList_append_lies _ rfl (.tmp 151) (.tmp 152) 23 rfl w.heap.size 31 i0 (.agg #[.int .i64 0, .int .i64 0, .int .i64 0, .int .i64 0]) 4 32 Try.underlying23 hi hz0 hz1 hz2 rfl (by decide) (.slice (some ⟨w8.heap.size, 0, none⟩) 0 0) 0 [] rfl ?c0 ⟨g, 0, none⟩ k cap (flat K) rfl ?c1 ?c2 ?c3 (by omega) ?c4 ?c5 ?c6 (w8.heap.size + 1) ?c7 ?_))
        case c0 => exact World.ownsRow_made w8 #[] 0 hwz8 (by decide) rfl
        case c1 => exact Hfl.out
        case c2 => exact cells_alloc hglt8 hsrc8.out
        case c3 => exact Hone.out
        case c4 => unfold maxLen; omega
        case c5 => omega
        case c6 => simp; omega
        case c7 => simp
        · intro go capo w9 hown9 hgrow9 hat9 _
          have hb89 : Below w8.heap.size w8 w9 := ((Below.refl _ w8).alloc (Nat.le_refl _) _).grown hgrow9 (by simp) (fun x hx => by simp [Value.ownBlock] at hx; omega)
          have hgo : w8.heap.size ≤ go := by
            rcases hat9 with h5 | h5
            · simp [Value.ownBlock] at h5; omega
            · omega
          have hwz9 : w.heap.size ≤ w9.heap.size := Nat.le_trans hwz8 hb89.size
          have Hown9 := hid hown9
          have Hb89 := hid hb89
          clear hown9 hgrow9 hat9 hb89
          go_wp2_with (at_builtin; go_must (refine wpList_append_lies _ rfl (.tmp 153) (.tmp 155) 23 rfl w.heap.size 31 i0 (.agg #[.int .i64 0, .int .i64 0, .int .i64 0, .int .i64 0]) 4 32 Try.underlying23 hi hz0 hz1 hz2 rfl (by decide) (.slice (some ⟨go, 0, none⟩) k capo) k (flat K) rfl ?d0 ⟨w9.heap.size, 0, none⟩ 1 1 (Ins.vals ⟨1, 0, 0, 0⟩) rfl rfl ?d1 ?d2 (by omega) ?d3 ?d4 ?d5 (w9.heap.size + 1) ?d6 ?_))
          case d0 => exact Hown9.out.alloc _
          case d1 => exact World.news_of_block (heap_alloc_new w9 _)
          case d2 => exact oneCell_vals _
          case d3 => unfold maxLen; omega
          case d4 => omega
          case d5 => simp; omega
          case d6 => simp
          · intro gx capx w10 hown10 hgrow10 hat10 _
            have hb810 : Below w8.heap.size w8 w10 := (Hb89.out.alloc Hb89.out.size _).grown hgrow10 (by have := Hb89.out.size; simp; omega) (fun x hx => by simp [Value.ownBlock] at hx; omega)
            rw [← flat_one, ← flat_append] at hown10
            have Hsee3 : Hid (Sees w10 (.slice (some ⟨gx, 0, none⟩) (k + 1) capx) (K ++ [⟨1, 0, 0, 0⟩])) :=
              have hl3 : (K ++ [(⟨1, 0, 0, 0⟩ : Ins)]).length = k + 1 := by rw [List.length_append, Hn.out]; rfl
              ownsRow_sees (by rw [hl3]; omega) (by rw [hl3]; exact hown10)
            have Hb810 := hid hb810
            clear hown10 hgrow10 hat10 hb810
            go_wp2_with fail
            refine (Encode_any Hsee3.out).mono ?_
            rw [chk_open Hchk.out (by rw [Hn.out]; omega), Hn.out]
            rintro e w11 ⟨rfl, hb11⟩
            have HF := hid (((HB1.out.trans (Hb48.out.mono HB1.out.size)).trans (Hb810.out.mono hwz8)).trans (hb11.mono (Nat.le_trans hwz8 Hb810.out.size)))
            clear hb11
            go_wp2
            go_ret
            exact ⟨rfl, HF.out⟩

end Go.Proofs.Ytbhbacphiinpeaa
