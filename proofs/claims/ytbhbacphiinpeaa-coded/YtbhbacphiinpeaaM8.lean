/- What 'pick' and 'kernel' answer. -/
import Derived.Test.YtbhbacphiinpeaaM7
import Derived.Test.YtbhbacphiinpeaaKern
import Derived.Deep.LoopGhost
namespace Go.Proofs.Ytbhbacphiinpeaa
open Go.RowKit

theorem pickN_neg (c : Int) (n : Nat) (h : c < 0) : ((pickN c n : Nat) : Int) = (-(c + 1)) % (n : Int) := by
  unfold pickN; rw [if_pos h, Int.natCast_emod, Int.toNat_of_nonneg (by omega)]
theorem pickN_pos (c : Int) (n : Nat) (h : 0 ≤ c) : ((pickN c n : Nat) : Int) = c % (n : Int) := by
  unfold pickN; rw [if_neg (by omega), Int.natCast_emod, Int.toNat_of_nonneg (by omega)]
theorem pickN_lt (c : Int) (n : Nat) (h : 0 < n) : pickN c n < n := by
  unfold pickN; split <;> exact Nat.mod_lt _ h

set_option maxHeartbeats 400000 in
theorem pick_any (c m : Int) (n : Nat) (hm : m = (n : Int)) (hc : -9223372036854775808 ≤ c ∧ c ≤ 9223372036854775807) (hn : 1 ≤ n) (hn2 : n ≤ 4611686018427387904) (w : World) :
    Calls Try.prog 12 #[.int .i64 c, .int .i64 m] w fun e w' => e = .returned (.int .i64 (pickN c n : Nat)) ∧ w' = w := by
  subst hm
  have hn3 : (n : Int) ≤ 4611686018427387904 := by omega
  have hn4 : 1 ≤ (n : Int) := by omega
  obtain ⟨hc1, hc2⟩ := hc
  by_cases h : c < 0
  · rw [pickN_neg c n h]
    have h5 : 0 ≤ (-(c + 1)) % (n : Int) ∧ (-(c + 1)) % (n : Int) < (n : Int) := ⟨Int.emod_nonneg _ (by omega), Int.emod_lt_of_pos _ (by omega)⟩
    have hz : ((n : Int) == 0) = false := beq_eq_false_iff_ne.2 (by omega)
    go_enter Try.func12, Try.ntmps12
    go_wp2
    go_ret
    refine ⟨?_, rfl⟩
    show Ending.returned (Value.int .i64 (-(Int.tmod (c + 1) n))) = _
    rw [← Int.neg_tmod, Int.tmod_eq_emod_of_nonneg (by omega)]
  · have h0 : 0 ≤ c := by omega
    rw [pickN_pos c n h0]
    have h5 : 0 ≤ c % (n : Int) ∧ c % (n : Int) < (n : Int) := ⟨Int.emod_nonneg _ (by omega), Int.emod_lt_of_pos _ (by omega)⟩
    have hz : ((n : Int) == 0) = false := beq_eq_false_iff_ne.2 (by omega)
    go_enter Try.func12, Try.ntmps12
    go_wp2
    go_ret
    exact ⟨rfl, rfl⟩

theorem owns_base {w : World} {base base' : Nat} {e : TypeId} {size : Nat} {v : Value} {n : Nat} {xs : List Value} (h : w.ownsRow base e size v n xs) (hb : base' ≤ base) : w.ownsRow base' e size v n xs := by
  refine ⟨h.1, ?_⟩
  rcases h.2 with h2 | ⟨g, cap, cur, hv, hg, r⟩
  · exact .inl h2
  · exact .inr ⟨g, cap, cur, hv, by omega, r⟩

theorem mk0 (w : World) (al : Bool) : Mk (w.alloc (.cells #[.slice none 0 0, .slice none 0 0, .bool false, .bool al] 71)) w.heap.size ⟨[], [], false, al⟩ :=
  ⟨.slice none 0 0, .slice none 0 0, heap_alloc_new w _, World.ownsRow_nil _ _ _ _, World.ownsRow_nil _ _ _ _⟩

set_option maxHeartbeats 1000000 in
set_option maxRecDepth 100000 in
theorem kernel_at (v : Value) (n : Nat) (l : List Int) (al : Bool) (ao : Option Addr) (cap : Nat) (hv : v = .slice ao n cap) (hn : n = l.length) (hm : n ≤ 9223372036854775807) (hbd : ∀ (i : Nat) x, l[i]? = some x → -9223372036854775808 ≤ x ∧ x ≤ 9223372036854775807) (w : World)
    (hc : n = 0 ∨ ∃ b off, ao = some ⟨b, off, none⟩ ∧ b < w.heap.size ∧ ∀ (i : Nat) x, l[i]? = some x → w.cell? ⟨b, off + i, none⟩ = some (.int .i64 x)) :
    Calls Try.prog 9 #[v, .bool al] w fun e w' => ∃ vk, e = .returned vk ∧ w'.ownsRow w.heap.size 31 4 vk (kern l al).length (flat (kern l al)) ∧ Below w.heap.size w w' := by
  subst hv
  have Hn := hid hn
  have Hc := hid hc
  have Hbd := hid hbd
  clear hn hc hbd
  have H0 := hid (mk0 w al)
  have hm2 : (n : Int) ≤ 9223372036854775807 := by omega
  go_enter Try.func9, Try.ntmps9
  go_wp2_with fail
  refine (names_any _ H0.out (by simp)).mono ?_
  rintro e w1 ⟨rfl, hM1, hb1⟩
  have hB1 : Below w.heap.size w w1 := ((Below.refl _ w).alloc (Nat.le_refl _) _).trans hb1
  have HM1 : Hid (Mk w1 w.heap.size (kern0 al)) := hM1
  clear hM1 hb1 H0
  go_wp2_with fail
  go_loopw [6] (fun i wr => ∃ k : Nat, k ≤ n ∧ k ≤ 12 ∧ i = .int .i64 k ∧ Mk wr w.heap.size ((kern0 al).lines (l.take k)) ∧ Below w.heap.size w wr) (fun i _ => 12 - (intOf i).toNat)
  case atStart => exact ⟨0, Nat.zero_le _, Nat.zero_le _, rfl, HM1.out, hB1⟩
  case round =>
    obtain ⟨k, hk, hk12, rfl, hM, hb⟩ := hrel
    have HM := hid hM
    clear hM
    by_cases hkn : k < n
    · by_cases hk2 : k < 12
      · obtain ⟨x, hx⟩ : ∃ x, l[k]? = some x := ⟨_, List.getElem?_eq_getElem (by rw [← Hn.out]; exact hkn)⟩
        obtain ⟨b, off, hao, hblt, hcell⟩ : ∃ b off, ao = some ⟨b, off, none⟩ ∧ b < w.heap.size ∧ ∀ (i : Nat) x, l[i]? = some x → w.cell? ⟨b, off + i, none⟩ = some (.int .i64 x) := by
          rcases Hc.out with h0 | h
          · omega
          · exact h
        subst hao
        have d0 := (hb.cell (p := ⟨b, off + k, none⟩) hblt).trans (hcell k x hx)
        have hxb := Hbd.out k x hx
        have Hx := hid hx
        clear hcell hx
        obtain ⟨hf, hp, hlo⟩ := fineAt l al k hk12
        have hlk := Nat.le_trans (phi_len _) hp
        have Hf := hid hf
        have Hlk := hid hlk
        have Hlo := hid hlo
        clear hf hp hlo hlk
        have g1 : decide ((k : Int) < (n : Int)) = true := by simp; omega
        have g2 : decide ((k : Int) < 12) = true := by simp; omega
        go_wp2_with fail
        refine (pick_any x _ 1099511627776 (by rfl) hxb (by omega) (by omega) _).mono ?_
        rintro e w2 ⟨rfl, rfl⟩
        go_wp2_with fail
        refine (line_any (pickN x 1099511627776) (pickN_lt _ _ (by omega)) HM.out (by have := Hlk.out; omega) (by have := Hlo.out; omega) Hf.out).mono ?_
        rintro e w3 ⟨rfl, hM3, hb3⟩
        have hB3 := hb.trans hb3
        have HM3 : Hid (Mk w3 w.heap.size ((kern0 al).lines (l.take (k + 1)))) := by
          have hkl : k < l.length := by rw [← Hn.out]; exact hkn
          have e1 : l[k] = x := by have := Hx.out; rw [List.getElem?_eq_getElem hkl] at this; exact Option.some.inj this
          rw [List.take_succ_eq_append_getElem hkl, lines_snoc, e1]
          exact hM3
        clear hM3 hb3
        go_wp2
        go_roundw
        case rel => exact ⟨k + 1, by omega, by omega, by go_num, HM3.out, hB3⟩
        case measure => simp [intOf]; omega
      · have HK : Hid (Mk wr w.heap.size (kern1 l al)) := by
          have e : l.take k = l.take 12 := by rw [show k = 12 by omega]
          have h1 := HM.out
          rw [e] at h1
          exact h1
        clear HM
        obtain ⟨hf, hp, hlo⟩ := fineAt l al 12 (Nat.le_refl _)
        have HF : Hid (Fine (kern1 l al) ∧ (kern1 l al).phi ≤ 17) := ⟨hf, hp⟩
        have HO : Hid ((kern1 l al).op.length ≤ 12) := hlo
        clear hf hp hlo
        have g1 : decide ((k : Int) < (n : Int)) = true := by simp; omega
        have g2 : decide ((k : Int) < 12) = false := by simp; omega
        go_wp2_with fail
        go_loopg [29] (kern1 l al).op.length (fun r _ wx => ∃ t, Mk wx w.heap.size t ∧ Fine t ∧ t.phi ≤ 17 ∧ t.closes r = kern2 l al ∧ t.op.length ≤ r ∧ r ≤ 12 ∧ Below w.heap.size w wx)
        case atStart => exact ⟨kern1 l al, HK.out, HF.out.1, HF.out.2, rfl, Nat.le_refl _, HO.out, hb⟩
        case round =>
          obtain ⟨t, hMt, hFt, hpt, hct, hot, hr12, hbt⟩ := hrel
          have HT := hid (And.intro hMt (And.intro hFt (And.intro hpt (And.intro hct hot))))
          obtain ⟨vk, vo, hBB, -, hoo⟩ := hMt
          obtain ⟨-, e1, -⟩ := blk_cells hBB
          obtain ⟨ao2, cap2, hvo⟩ := owns_slice hoo
          subst hvo
          clear hBB hoo hFt hpt hct hot hb HK HF HO
          by_cases h0 : t.op.length = 0
          · rw [h0] at e1
            have HM2 : Hid (Mk wr w.heap.size (kern2 l al)) := by
              obtain ⟨a1, a2, a3, a4, a5⟩ := HT.out
              rw [closes_done h0] at a4
              rw [← a4]
              exact a1
            have hlen2 := kern_len l al
            have HL := hid hlen2.2
            clear h0 HT hlen2
            go_wp2_with fail
            refine (put_any _ _ _ _ HM2.out (by have := HL.out; omega)).mono ?_
            rintro e w4 ⟨rfl, hM4, hb4⟩
            have HM4 := hid hM4
            clear hM4 HM2 e1
            go_wp2_with fail
            refine (put_any _ _ _ _ HM4.out (by rw [put_len]; have := HL.out; omega)).mono ?_
            rintro e w5 ⟨rfl, hM5, hb5⟩
            obtain ⟨vk5, vo5, hB5, hk5, -⟩ := hM5
            obtain ⟨y0, -⟩ := blk_cells hB5
            have HK5 : Hid (w5.ownsRow w.heap.size 31 4 vk5 (kern l al).length (flat (kern l al))) := owns_base hk5 (by omega)
            have HB5 := hid ((hbt.trans hb4).trans hb5)
            clear hB5 hk5 hb4 hb5 HM4
            go_wp2
            go_ret
            exact ⟨vk5, rfl, HK5.out, HB5.out⟩
          · obtain ⟨ops, b, hs⟩ : ∃ ops b, t.op = ops ++ [b] := by
              cases ho : t.op.getLast? with
              | none => have e : t.op = [] := List.getLast?_eq_none_iff.1 ho; rw [e] at h0; simp at h0
              | some b => obtain ⟨ops, hs⟩ := List.getLast?_eq_some_iff.1 ho; exact ⟨ops, b, hs⟩
            have hlen : t.op.length = ops.length + 1 := by rw [hs]; simp
            rw [hlen] at e1
            obtain ⟨r, hr⟩ : ∃ r, gk = r + 1 := ⟨gk - 1, by have := HT.out.2.2.2.2; omega⟩
            have Hs := hid hs
            have Hlen := hid hlen
            have Hr := hid hr
            have hops : ops.length ≤ 900 := by
              obtain ⟨-, a2, a3, -, a5⟩ := HT.out
              omega
            clear h0 hs hlen hr
            have hat : b.at0 < t.k.length := by
              obtain ⟨x, hx, -⟩ := HT.out.2.1.spot b (by rw [Hs.out]; simp)
              exact (List.getElem?_eq_some_iff.1 hx).1
            have Hat := hid hat
            clear hat
            go_wp2_with fail
            refine (close_any false HT.out.1 Hs.out (by have := phi_len t; have := HT.out.2.2.1; omega) hops Hat.out).mono ?_
            rintro e w4 ⟨rfl, hM4, hb4⟩
            have HM4 := hid hM4
            have HB4 := hid (hbt.trans hb4)
            have HC := hid (HT.out.2.1.close Hs.out false)
            clear hM4 hb4 e1
            go_wp2
            go_roundg r
            case measure => have := Hr.out; omega
            case rel =>
              obtain ⟨q1, -, -, q4⟩ := HC.out
              obtain ⟨q5, q6⟩ := q4 (by trivial)
              obtain ⟨-, -, a3, a4, a5⟩ := HT.out
              refine ⟨t.close false, HM4.out, q1, by omega, ?_, by rw [q6]; have := Hr.out; have := Hlen.out; omega, by have := Hr.out; omega, HB4.out⟩
              rw [Hr.out, closes_more (by have := Hlen.out; omega)] at a4
              exact a4
    · have HK : Hid (Mk wr w.heap.size (kern1 l al)) := by
        have e : l.take k = l.take 12 := by rw [List.take_of_length_le (by rw [← Hn.out]; omega), List.take_of_length_le (by rw [← Hn.out]; omega)]
        have h1 := HM.out
        rw [e] at h1
        exact h1
      clear HM
      obtain ⟨hf, hp, hlo⟩ := fineAt l al 12 (Nat.le_refl _)
      have HF : Hid (Fine (kern1 l al) ∧ (kern1 l al).phi ≤ 17) := ⟨hf, hp⟩
      have HO : Hid ((kern1 l al).op.length ≤ 12) := hlo
      clear hf hp hlo
      have g1 : decide ((k : Int) < (n : Int)) = false := by simp; omega
      go_wp2_with fail
      go_loopg [29] (kern1 l al).op.length (fun r _ wx => ∃ t, Mk wx w.heap.size t ∧ Fine t ∧ t.phi ≤ 17 ∧ t.closes r = kern2 l al ∧ t.op.length ≤ r ∧ r ≤ 12 ∧ Below w.heap.size w wx)
      case atStart => exact ⟨kern1 l al, HK.out, HF.out.1, HF.out.2, rfl, Nat.le_refl _, HO.out, hb⟩
      case round =>
        obtain ⟨t, hMt, hFt, hpt, hct, hot, hr12, hbt⟩ := hrel
        have HT := hid (And.intro hMt (And.intro hFt (And.intro hpt (And.intro hct hot))))
        obtain ⟨vk, vo, hBB, -, hoo⟩ := hMt
        obtain ⟨-, e1, -⟩ := blk_cells hBB
        obtain ⟨ao2, cap2, hvo⟩ := owns_slice hoo
        subst hvo
        clear hBB hoo hFt hpt hct hot hb HK HF HO
        by_cases h0 : t.op.length = 0
        · rw [h0] at e1
          have HM2 : Hid (Mk wr w.heap.size (kern2 l al)) := by
            obtain ⟨a1, a2, a3, a4, a5⟩ := HT.out
            rw [closes_done h0] at a4
            rw [← a4]
            exact a1
          have hlen2 := kern_len l al
          have HL := hid hlen2.2
          clear h0 HT hlen2
          go_wp2_with fail
          refine (put_any _ _ _ _ HM2.out (by have := HL.out; omega)).mono ?_
          rintro e w4 ⟨rfl, hM4, hb4⟩
          have HM4 := hid hM4
          clear hM4 HM2 e1
          go_wp2_with fail
          refine (put_any _ _ _ _ HM4.out (by rw [put_len]; have := HL.out; omega)).mono ?_
          rintro e w5 ⟨rfl, hM5, hb5⟩
          obtain ⟨vk5, vo5, hB5, hk5, -⟩ := hM5
          obtain ⟨y0, -⟩ := blk_cells hB5
          have HK5 : Hid (w5.ownsRow w.heap.size 31 4 vk5 (kern l al).length (flat (kern l al))) := owns_base hk5 (by omega)
          have HB5 := hid ((hbt.trans hb4).trans hb5)
          clear hB5 hk5 hb4 hb5 HM4
          go_wp2
          go_ret
          exact ⟨vk5, rfl, HK5.out, HB5.out⟩
        · obtain ⟨ops, b, hs⟩ : ∃ ops b, t.op = ops ++ [b] := by
            cases ho : t.op.getLast? with
            | none => have e : t.op = [] := List.getLast?_eq_none_iff.1 ho; rw [e] at h0; simp at h0
            | some b => obtain ⟨ops, hs⟩ := List.getLast?_eq_some_iff.1 ho; exact ⟨ops, b, hs⟩
          have hlen : t.op.length = ops.length + 1 := by rw [hs]; simp
          rw [hlen] at e1
          obtain ⟨r, hr⟩ : ∃ r, gk = r + 1 := ⟨gk - 1, by have := HT.out.2.2.2.2; omega⟩
          have Hs := hid hs
          have Hlen := hid hlen
          have Hr := hid hr
          have hops : ops.length ≤ 900 := by
            obtain ⟨-, a2, a3, -, a5⟩ := HT.out
            omega
          clear h0 hs hlen hr
          have hat : b.at0 < t.k.length := by
            obtain ⟨x, hx, -⟩ := HT.out.2.1.spot b (by rw [Hs.out]; simp)
            exact (List.getElem?_eq_some_iff.1 hx).1
          have Hat := hid hat
          clear hat
          go_wp2_with fail
          refine (close_any false HT.out.1 Hs.out (by have := phi_len t; have := HT.out.2.2.1; omega) hops Hat.out).mono ?_
          rintro e w4 ⟨rfl, hM4, hb4⟩
          have HM4 := hid hM4
          have HB4 := hid (hbt.trans hb4)
          have HC := hid (HT.out.2.1.close Hs.out false)
          clear hM4 hb4 e1
          go_wp2
          go_roundg r
          case measure => have := Hr.out; omega
          case rel =>
            obtain ⟨q1, -, -, q4⟩ := HC.out
            obtain ⟨q5, q6⟩ := q4 (by trivial)
            obtain ⟨-, -, a3, a4, a5⟩ := HT.out
            refine ⟨t.close false, HM4.out, q1, by omega, ?_, by rw [q6]; have := Hr.out; have := Hlen.out; omega, by have := Hr.out; omega, HB4.out⟩
            rw [Hr.out, closes_more (by have := Hlen.out; omega)] at a4
            exact a4

theorem kernel_any {w : World} {v : Value} {l : List Int} (al : Bool) (h : SeesI w v l) :
    Calls Try.prog 9 #[v, .bool al] w fun e w' => ∃ vk, e = .returned vk ∧ w'.ownsRow w.heap.size 31 4 vk (kern l al).length (flat (kern l al)) ∧ Below w.heap.size w w' := by
  obtain ⟨hm, hbd, h⟩ := h
  rcases h with ⟨rfl, ao, cap, rfl⟩ | ⟨b, off, cap, rfl, hlt, hc⟩
  · exact kernel_at _ 0 [] al ao cap rfl rfl (by omega) hbd w (.inl rfl)
  · exact kernel_at _ l.length l al _ cap rfl rfl hm hbd w (.inr ⟨b, off, rfl, hlt, hc⟩)

end Go.Proofs.Ytbhbacphiinpeaa
