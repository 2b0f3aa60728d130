/- What 'chain' (of loomkeep) answers. -/
import Derived.Test.YtbhbacphiinpeaaPa3
import Derived.Test.YtbhbacphiinpeaaPs
namespace Go.Proofs.Ytbhbacphiinpeaa
open Go.RowKit

set_option maxHeartbeats 1000000 in
set_option maxRecDepth 100000 in
theorem chain_any (b off cap n : Nat) (J : List Int) (hJ : J.length = n) (hn : n ≤ 40) (hJb : ∀ (i : Nat) j, J[i]? = some j → -1 ≤ j ∧ j < n) (w : World) (hb0 : b < w.heap.size)
    (hc : ∀ (i : Nat) x, J[i]? = some x → w.cell? ⟨b, off + i, none⟩ = some (.int .i64 x)) (s : Int) (hs : -1 ≤ s ∧ s < n) :
    Calls Try.prog 35 #[.slice (some ⟨b, off, none⟩) n cap, .int .i64 s] w fun e w' => ∃ v, e = .returned v ∧ w'.ownsRow w.heap.size 3 1 v (chainL J (n + 1) s).length (natVals (chainL J (n + 1) s)) ∧ Below w.heap.size w w' := by
  have HJ := hyd hJ
  have HJb := hyd hJb
  have Hc := hyd hc
  have Hs := hyd hs
  clear hJ hJb hc hs
  have hn2 : (n : Int) ≤ 40 := by omega
  obtain ⟨i0, hi, hz0, hz1, hz2⟩ := info_parts Try.infoQ3
  go_enter Try.func35, Try.ntmps35
  go_wp2_with fail
  go_loopg [1, 5] (n + 1) (fun r cv va wr => ∃ (c : Int) (L : List Nat), cv = .int .i64 c ∧ -1 ≤ c ∧ c < n ∧ L.length + r = n + 1 ∧ chainL J (n + 1) s = L ++ chainL J r c ∧ wr.ownsRow w.heap.size 3 1 va L.length (natVals L) ∧ Below w.heap.size w wr)
  case atStart => exact ⟨s, [], rfl, Hs.out.1, Hs.out.2, by simp, by simp, World.ownsRow_nil _ _ _ _, Below.refl _ _⟩
  case round =>
    obtain ⟨c, L, rfl, hc1, hc2, hLr, hch, hown, hb⟩ := hrel
    obtain ⟨ao, vc, rfl⟩ := owns_sliceN hown
    obtain ⟨m, Hm⟩ : ∃ m, Hid (L.length = m) := ⟨_, rfl⟩
    rw [Hm.out] at hown hLr ⊢
    have Hch := hyd hch
    have Hown := hyd hown
    clear hch hown
    have hm2 : (m : Int) ≤ 41 := by omega
    by_cases hmn : m ≤ n
    · obtain ⟨r, hr⟩ : ∃ r, gk = r + 1 := ⟨gk - 1, by omega⟩
      have g1 : decide ((m : Int) ≤ (n : Int)) = true := by simp; omega
      by_cases hc0 : 0 ≤ c
      · have g2 : decide ((0 : Int) ≤ c) = true := by simpa using hc0
        obtain ⟨d, hd⟩ : ∃ d : Nat, c = (d : Int) := ⟨c.toNat, by omega⟩
        subst hd
        obtain ⟨j, hj⟩ : ∃ j, J[d]? = some j := ⟨_, List.getElem?_eq_getElem (by rw [HJ.out]; omega)⟩
        have Hj := hyd hj
        have hjb := HJb.out d j hj
        have Hjb := hyd hjb
        clear hj hjb
        have hszw := hb.size
        go_wp2_with (at_builtin; go_must (refine wpList_append_own _ rfl (.tmp 15) (.tmp 17) 22 rfl w.heap.size 3 i0 (.int .i64 0) 1 8 Try.underlying22 hi hz0 hz1 hz2 rfl (by decide) (.slice ao m vc) m (natVals L) rfl ?a0 ⟨wr.heap.size, 0, none⟩ 1 1 [.int .i64 d] rfl rfl ?a1 ?a2 ?a3 ?a4 ?a5 ?_))
        case a0 => exact Hown.out.alloc _
        case a1 => exact World.news_of_block (heap_alloc_new wr _)
        case a2 => intro u hu; simp at hu; subst hu; rfl
        case a3 => unfold maxLen; omega
        case a4 => omega
        case a5 => simp; omega
        · intro v3 w3 hown3 hgrow3 _
          rw [← nat_snoc] at hown3
          have hb3 : Below w.heap.size w w3 := (hb.alloc hszw _).grown hgrow3 (by simp; omega) (fun x hx => (Hown.out.lt x hx).1)
          have d0 := (hb3.cell (p := ⟨b, off + d, none⟩) hb0).trans (Hc.out d j Hj.out)
          have HX := hyd (And.intro hown3 hb3)
          clear hown3 hgrow3 hb3
          go_wp2
          go_roundg r
          case measure => omega
          case rel =>
            refine ⟨j, L ++ [d], rfl, Hjb.out.1, Hjb.out.2, ?_, ?_, ?_, HX.out.2⟩
            · rw [List.length_append, Hm.out, List.length_singleton]
              omega
            · have e : chainL J (r + 1) (d : Int) = d :: chainL J r j := by
                rw [chainL, if_neg (by omega), Int.toNat_natCast, Hj.out, Option.getD_some]
              rw [Hch.out, hr, e]
              simp
            · rw [List.length_append, Hm.out]
              exact HX.out.1
      · have g2 : decide ((0 : Int) ≤ c) = false := by simpa using hc0
        have e : chainL J gk c = [] := by rw [hr, chainL, if_pos (by omega)]
        go_wp2
        go_ret
        refine ⟨_, rfl, ?_, hb⟩
        rw [Hch.out, e, List.append_nil, Hm.out]
        exact Hown.out
    · have g1 : decide ((m : Int) ≤ (n : Int)) = false := by simp; omega
      have e : gk = 0 := by omega
      go_wp2
      go_ret
      refine ⟨_, rfl, ?_, hb⟩
      rw [Hch.out, e, chainL, List.append_nil, Hm.out]
      exact Hown.out

end Go.Proofs.Ytbhbacphiinpeaa
