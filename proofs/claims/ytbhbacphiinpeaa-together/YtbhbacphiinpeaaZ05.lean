/- M8 D Back: joined. -/
import Derived.Test.YtbhbacphiinpeaaZ04
import Derived.Deep.LoopGhost
import Derived.Test.YtbhbacphiinpeaaZ01
import Derived.Deep.AppendLies

/- What 'pick' and 'kernel' answer. -/
namespace Go.Proofs.Ytbhbacphiinpeaa
open Go.RowKit

theorem pickN_neg (c : Int) (n : Nat) (h : c < 0) : ((pickN c n : Nat) : Int) = (-(c + 1)) % (n : Int) := by
  unfold pickN; rw [if_pos h, Int.natCast_emod, Int.toNat_of_nonneg (by omega)]
theorem pickN_pos (c : Int) (n : Nat) (h : 0 ≤ c) : ((pickN c n : Nat) : Int) = c % (n : Int) := by
  unfold pickN; rw [if_neg (by omega), Int.natCast_emod, Int.toNat_of_nonneg (by omega)]
theorem pickN_lt (c : Int) (n : Nat) (h : 0 < n) : pickN c n < n := by
  unfold pickN; split <;> exact Nat.mod_lt _ h

set_option maxHeartbeats 400000 in
theorem pick_any (c m : Int) (n : Nat) (hm : m = (n : Int)) (hc : -9223372036854775808 ≤ c ∧ c ≤ 9223372036854775807) (hn : 1 ≤ n) (hn2 : n ≤ 4611686018427387904) (w : World) :
    Calls Try.prog 12 #[.int .i64 c, .int .i64 m] w fun e w' => e = .returned (.int .i64 (pickN c n : Nat)) ∧ w' = w := by
  subst hm
  have hn3 : (n : Int) ≤ 4611686018427387904 := by omega
  have hn4 : 1 ≤ (n : Int) := by omega
  obtain ⟨hc1, hc2⟩ := hc
  by_cases h : c < 0
  · rw [pickN_neg c n h]
    have h5 : 0 ≤ (-(c + 1)) % (n : Int) ∧ (-(c + 1)) % (n : Int) < (n : Int) := ⟨Int.emod_nonneg _ (by omega), Int.emod_lt_of_pos _ (by omega)⟩
    have hz : ((n : Int) == 0) = false := beq_eq_false_iff_ne.2 (by omega)
    go_enter Try.func12, Try.ntmps12
    go_wp2
    go_ret
    refine ⟨?_, rfl⟩
    show Ending.returned (Value.int .i64 (-(Int.tmod (c + 1) n))) = _
    rw [← Int.neg_tmod, Int.tmod_eq_emod_of_nonneg (by omega)]
  · have h0 : 0 ≤ c := by omega
    rw [pickN_pos c n h0]
    have h5 : 0 ≤ c % (n : Int) ∧ c % (n : Int) < (n : Int) := ⟨Int.emod_nonneg _ (by omega), Int.emod_lt_of_pos _ (by omega)⟩
    have hz : ((n : Int) == 0) = false := beq_eq_false_iff_ne.2 (by omega)
    go_enter Try.func12, Try.ntmps12
    go_wp2
    go_ret
    exact ⟨rfl, rfl⟩

theorem owns_base {w : World} {base base' : Nat} {e : TypeId} {size : Nat} {v : Value} {n : Nat} {xs : List Value} (h : w.ownsRow base e size v n xs) (hb : base' ≤ base) : w.ownsRow base' e size v n xs := by
  refine ⟨h.1, ?_⟩
  rcases h.2 with h2 | ⟨g, cap, cur, hv, hg, r⟩
  · exact .inl h2
  · exact .inr ⟨g, cap, cur, hv, by omega, r⟩

theorem mk0 (w : World) (al : Bool) : Mk (w.alloc (.cells #[.slice none 0 0, .slice none 0 0, .bool false, .bool al] 71)) w.heap.size ⟨[], [], false, al⟩ :=
  ⟨.slice none 0 0, .slice none 0 0, heap_alloc_new w _, World.ownsRow_nil _ _ _ _, World.ownsRow_nil _ _ _ _⟩

set_option maxHeartbeats 1000000 in
set_option maxRecDepth 100000 in
theorem kernel_at (v : Value) (n : Nat) (l : List Int) (al : Bool) (ao : Option Addr) (cap : Nat) (hv : v = .slice ao n cap) (hn : n = l.length) (hm : n ≤ 9223372036854775807) (hbd : ∀ (i : Nat) x, l[i]? = some x → -9223372036854775808 ≤ x ∧ x ≤ 9223372036854775807) (w : World)
    (hc : n = 0 ∨ ∃ b off, ao = some ⟨b, off, none⟩ ∧ b < w.heap.size ∧ ∀ (i : Nat) x, l[i]? = some x → w.cell? ⟨b, off + i, none⟩ = some (.int .i64 x)) :
    Calls Try.prog 9 #[v, .bool al] w fun e w' => ∃ vk, e = .returned vk ∧ w'.ownsRow w.heap.size 31 4 vk (kern l al).length (flat (kern l al)) ∧ Below w.heap.size w w' := by
  subst hv
  have Hn := hid hn
  have Hc := hid hc
  have Hbd := hid hbd
  clear hn hc hbd
  have H0 := hid (mk0 w al)
  have hm2 : (n : Int) ≤ 9223372036854775807 := by omega
  go_enter Try.func9, Try.ntmps9
  go_wp2_with fail
  refine (names_any _ H0.out (by simp)).mono ?_
  rintro e w1 ⟨rfl, hM1, hb1⟩
  have hB1 : Below w.heap.size w w1 := ((Below.refl _ w).alloc (Nat.le_refl _) _).trans hb1
  have HM1 : Hid (Mk w1 w.heap.size (kern0 al)) := hM1
  clear hM1 hb1 H0
  go_wp2_with fail
  go_loopw [6] (fun i wr => ∃ k : Nat, k ≤ n ∧ k ≤ 12 ∧ i = .int .i64 k ∧ Mk wr w.heap.size ((kern0 al).lines (l.take k)) ∧ Below w.heap.size w wr) (fun i _ => 12 - (intOf i).toNat)
  case atStart => exact ⟨0, Nat.zero_le _, Nat.zero_le _, rfl, HM1.out, hB1⟩
  case round =>
    obtain ⟨k, hk, hk12, rfl, hM, hb⟩ := hrel
    have HM := hid hM
    clear hM
    by_cases hkn : k < n
    · by_cases hk2 : k < 12
      · obtain ⟨x, hx⟩ : ∃ x, l[k]? = some x := ⟨_, List.getElem?_eq_getElem (by rw [← Hn.out]; exact hkn)⟩
        obtain ⟨b, off, hao, hblt, hcell⟩ : ∃ b off, ao = some ⟨b, off, none⟩ ∧ b < w.heap.size ∧ ∀ (i : Nat) x, l[i]? = some x → w.cell? ⟨b, off + i, none⟩ = some (.int .i64 x) := by
          rcases Hc.out with h0 | h
          · omega
          · exact h
        subst hao
        have d0 := (hb.cell (p := ⟨b, off + k, none⟩) hblt).trans (hcell k x hx)
        have hxb := Hbd.out k x hx
        have Hx := hid hx
        clear hcell hx
        obtain ⟨hf, hp, hlo⟩ := fineAt l al k hk12
        have hlk := Nat.le_trans (phi_len _) hp
        have Hf := hid hf
        have Hlk := hid hlk
        have Hlo := hid hlo
        clear hf hp hlo hlk
        have g1 : decide ((k : Int) < (n : Int)) = true := by simp; omega
        have g2 : decide ((k : Int) < 12) = true := by simp; omega
        go_wp2_with fail
        refine (pick_any x _ 1099511627776 (by rfl) hxb (by omega) (by omega) _).mono ?_
        rintro e w2 ⟨rfl, rfl⟩
        go_wp2_with fail
        refine (line_any (pickN x 1099511627776) (pickN_lt _ _ (by omega)) HM.out (by have := Hlk.out; omega) (by have := Hlo.out; omega) Hf.out).mono ?_
        rintro e w3 ⟨rfl, hM3, hb3⟩
        have hB3 := hb.trans hb3
        have HM3 : Hid (Mk w3 w.heap.size ((kern0 al).lines (l.take (k + 1)))) := by
          have hkl : k < l.length := by rw [← Hn.out]; exact hkn
          have e1 : l[k] = x := by have := Hx.out; rw [List.getElem?_eq_getElem hkl] at this; exact Option.some.inj this
          rw [List.take_succ_eq_append_getElem hkl, lines_snoc, e1]
          exact hM3
        clear hM3 hb3
        go_wp2
        go_roundw
        case rel => exact ⟨k + 1, by omega, by omega, by go_num, HM3.out, hB3⟩
        case measure => simp [intOf]; omega
      · have HK : Hid (Mk wr w.heap.size (kern1 l al)) := by
          have e : l.take k = l.take 12 := by rw [show k = 12 by omega]
          have h1 := HM.out
          rw [e] at h1
          exact h1
        clear HM
        obtain ⟨hf, hp, hlo⟩ := fineAt l al 12 (Nat.le_refl _)
        have HF : Hid (Fine (kern1 l al) ∧ (kern1 l al).phi ≤ 17) := ⟨hf, hp⟩
        have HO : Hid ((kern1 l al).op.length ≤ 12) := hlo
        clear hf hp hlo
        have g1 : decide ((k : Int) < (n : Int)) = true := by simp; omega
        have g2 : decide ((k : Int) < 12) = false := by simp; omega
        go_wp2_with fail
        go_loopg [29] (kern1 l al).op.length (fun r _ wx => ∃ t, Mk wx w.heap.size t ∧ Fine t ∧ t.phi ≤ 17 ∧ t.closes r = kern2 l al ∧ t.op.length ≤ r ∧ r ≤ 12 ∧ Below w.heap.size w wx)
        case atStart => exact ⟨kern1 l al, HK.out, HF.out.1, HF.out.2, rfl, Nat.le_refl _, HO.out, hb⟩
        case round =>
          obtain ⟨t, hMt, hFt, hpt, hct, hot, hr12, hbt⟩ := hrel
          have HT := hid (And.intro hMt (And.intro hFt (And.intro hpt (And.intro hct hot))))
          obtain ⟨vk, vo, hBB, -, hoo⟩ := hMt
          obtain ⟨-, e1, -⟩ := blk_cells hBB
          obtain ⟨ao2, cap2, hvo⟩ := owns_slice hoo
          subst hvo
          clear hBB hoo hFt hpt hct hot hb HK HF HO
          by_cases h0 : t.op.length = 0
          · rw [h0] at e1
            have HM2 : Hid (Mk wr w.heap.size (kern2 l al)) := by
              obtain ⟨a1, a2, a3, a4, a5⟩ := HT.out
              rw [closes_done h0] at a4
              rw [← a4]
              exact a1
            have hlen2 := kern_len l al
            have HL := hid hlen2.2
            clear h0 HT hlen2
            go_wp2_with fail
            refine (put_any _ _ _ _ HM2.out (by have := HL.out; omega)).mono ?_
            rintro e w4 ⟨rfl, hM4, hb4⟩
            have HM4 := hid hM4
            clear hM4 HM2 e1
            go_wp2_with fail
            refine (put_any _ _ _ _ HM4.out (by rw [kput_len]; have := HL.out; omega)).mono ?_
            rintro e w5 ⟨rfl, hM5, hb5⟩
            obtain ⟨vk5, vo5, hB5, hk5, -⟩ := hM5
            obtain ⟨y0, -⟩ := blk_cells hB5
            have HK5 : Hid (w5.ownsRow w.heap.size 31 4 vk5 (kern l al).length (flat (kern l al))) := owns_base hk5 (by omega)
            have HB5 := hid ((hbt.trans hb4).trans hb5)
            clear hB5 hk5 hb4 hb5 HM4
            go_wp2
            go_ret
            exact ⟨vk5, rfl, HK5.out, HB5.out⟩
          · obtain ⟨ops, b, hs⟩ : ∃ ops b, t.op = ops ++ [b] := by
              cases ho : t.op.getLast? with
              | none => have e : t.op = [] := List.getLast?_eq_none_iff.1 ho; rw [e] at h0; simp at h0
              | some b => obtain ⟨ops, hs⟩ := List.getLast?_eq_some_iff.1 ho; exact ⟨ops, b, hs⟩
            have hlen : t.op.length = ops.length + 1 := by rw [hs]; simp
            rw [hlen] at e1
            obtain ⟨r, hr⟩ : ∃ r, gk = r + 1 := ⟨gk - 1, by have := HT.out.2.2.2.2; omega⟩
            have Hs := hid hs
            have Hlen := hid hlen
            have Hr := hid hr
            have hops : ops.length ≤ 900 := by
              obtain ⟨-, a2, a3, -, a5⟩ := HT.out
              omega
            clear h0 hs hlen hr
            have hat : b.at0 < t.k.length := by
              obtain ⟨x, hx, -⟩ := HT.out.2.1.spot b (by rw [Hs.out]; simp)
              exact (List.getElem?_eq_some_iff.1 hx).1
            have Hat := hid hat
            clear hat
            go_wp2_with fail
            refine (close_any false HT.out.1 Hs.out (by have := phi_len t; have := HT.out.2.2.1; omega) hops Hat.out).mono ?_
            rintro e w4 ⟨rfl, hM4, hb4⟩
            have HM4 := hid hM4
            have HB4 := hid (hbt.trans hb4)
            have HC := hid (HT.out.2.1.close Hs.out false)
            clear hM4 hb4 e1
            go_wp2
            go_roundg r
            case measure => have := Hr.out; omega
            case rel =>
              obtain ⟨q1, -, -, q4⟩ := HC.out
              obtain ⟨q5, q6⟩ := q4 (by trivial)
              obtain ⟨-, -, a3, a4, a5⟩ := HT.out
              refine ⟨t.close false, HM4.out, q1, by omega, ?_, by rw [q6]; have := Hr.out; have := Hlen.out; omega, by have := Hr.out; omega, HB4.out⟩
              rw [Hr.out, closes_more (by have := Hlen.out; omega)] at a4
              exact a4
    · have HK : Hid (Mk wr w.heap.size (kern1 l al)) := by
        have e : l.take k = l.take 12 := by rw [List.take_of_length_le (by rw [← Hn.out]; omega), List.take_of_length_le (by rw [← Hn.out]; omega)]
        have h1 := HM.out
        rw [e] at h1
        exact h1
      clear HM
      obtain ⟨hf, hp, hlo⟩ := fineAt l al 12 (Nat.le_refl _)
      have HF : Hid (Fine (kern1 l al) ∧ (kern1 l al).phi ≤ 17) := ⟨hf, hp⟩
      have HO : Hid ((kern1 l al).op.length ≤ 12) := hlo
      clear hf hp hlo
      have g1 : decide ((k : Int) < (n : Int)) = false := by simp; omega
      go_wp2_with fail
      go_loopg [29] (kern1 l al).op.length (fun r _ wx => ∃ t, Mk wx w.heap.size t ∧ Fine t ∧ t.phi ≤ 17 ∧ t.closes r = kern2 l al ∧ t.op.length ≤ r ∧ r ≤ 12 ∧ Below w.heap.size w wx)
      case atStart => exact ⟨kern1 l al, HK.out, HF.out.1, HF.out.2, rfl, Nat.le_refl _, HO.out, hb⟩
      case round =>
        obtain ⟨t, hMt, hFt, hpt, hct, hot, hr12, hbt⟩ := hrel
        have HT := hid (And.intro hMt (And.intro hFt (And.intro hpt (And.intro hct hot))))
        obtain ⟨vk, vo, hBB, -, hoo⟩ := hMt
        obtain ⟨-, e1, -⟩ := blk_cells hBB
        obtain ⟨ao2, cap2, hvo⟩ := owns_slice hoo
        subst hvo
        clear hBB hoo hFt hpt hct hot hb HK HF HO
        by_cases h0 : t.op.length = 0
        · rw [h0] at e1
          have HM2 : Hid (Mk wr w.heap.size (kern2 l al)) := by
            obtain ⟨a1, a2, a3, a4, a5⟩ := HT.out
            rw [closes_done h0] at a4
            rw [← a4]
            exact a1
          have hlen2 := kern_len l al
          have HL := hid hlen2.2
          clear h0 HT hlen2
          go_wp2_with fail
          refine (put_any _ _ _ _ HM2.out (by have := HL.out; omega)).mono ?_
          rintro e w4 ⟨rfl, hM4, hb4⟩
          have HM4 := hid hM4
          clear hM4 HM2 e1
          go_wp2_with fail
          refine (put_any _ _ _ _ HM4.out (by rw [kput_len]; have := HL.out; omega)).mono ?_
          rintro e w5 ⟨rfl, hM5, hb5⟩
          obtain ⟨vk5, vo5, hB5, hk5, -⟩ := hM5
          obtain ⟨y0, -⟩ := blk_cells hB5
          have HK5 : Hid (w5.ownsRow w.heap.size 31 4 vk5 (kern l al).length (flat (kern l al))) := owns_base hk5 (by omega)
          have HB5 := hid ((hbt.trans hb4).trans hb5)
          clear hB5 hk5 hb4 hb5 HM4
          go_wp2
          go_ret
          exact ⟨vk5, rfl, HK5.out, HB5.out⟩
        · obtain ⟨ops, b, hs⟩ : ∃ ops b, t.op = ops ++ [b] := by
            cases ho : t.op.getLast? with
            | none => have e : t.op = [] := List.getLast?_eq_none_iff.1 ho; rw [e] at h0; simp at h0
            | some b => obtain ⟨ops, hs⟩ := List.getLast?_eq_some_iff.1 ho; exact ⟨ops, b, hs⟩
          have hlen : t.op.length = ops.length + 1 := by rw [hs]; simp
          rw [hlen] at e1
          obtain ⟨r, hr⟩ : ∃ r, gk = r + 1 := ⟨gk - 1, by have := HT.out.2.2.2.2; omega⟩
          have Hs := hid hs
          have Hlen := hid hlen
          have Hr := hid hr
          have hops : ops.length ≤ 900 := by
            obtain ⟨-, a2, a3, -, a5⟩ := HT.out
            omega
          clear h0 hs hlen hr
          have hat : b.at0 < t.k.length := by
            obtain ⟨x, hx, -⟩ := HT.out.2.1.spot b (by rw [Hs.out]; simp)
            exact (List.getElem?_eq_some_iff.1 hx).1
          have Hat := hid hat
          clear hat
          go_wp2_with fail
          refine (close_any false HT.out.1 Hs.out (by have := phi_len t; have := HT.out.2.2.1; omega) hops Hat.out).mono ?_
          rintro e w4 ⟨rfl, hM4, hb4⟩
          have HM4 := hid hM4
          have HB4 := hid (hbt.trans hb4)
          have HC := hid (HT.out.2.1.close Hs.out false)
          clear hM4 hb4 e1
          go_wp2
          go_roundg r
          case measure => have := Hr.out; omega
          case rel =>
            obtain ⟨q1, -, -, q4⟩ := HC.out
            obtain ⟨q5, q6⟩ := q4 (by trivial)
            obtain ⟨-, -, a3, a4, a5⟩ := HT.out
            refine ⟨t.close false, HM4.out, q1, by omega, ?_, by rw [q6]; have := Hr.out; have := Hlen.out; omega, by have := Hr.out; omega, HB4.out⟩
            rw [Hr.out, closes_more (by have := Hlen.out; omega)] at a4
            exact a4

theorem kernel_any {w : World} {v : Value} {l : List Int} (al : Bool) (h : SeesI w v l) :
    Calls Try.prog 9 #[v, .bool al] w fun e w' => ∃ vk, e = .returned vk ∧ w'.ownsRow w.heap.size 31 4 vk (kern l al).length (flat (kern l al)) ∧ Below w.heap.size w w' := by
  obtain ⟨hm, hbd, h⟩ := h
  rcases h with ⟨rfl, ao, cap, rfl⟩ | ⟨b, off, cap, rfl, hlt, hc⟩
  · exact kernel_at _ 0 [] al ao cap rfl rfl (by omega) hbd w (.inl rfl)
  · exact kernel_at _ l.length l al _ cap rfl rfl hm hbd w (.inr ⟨b, off, rfl, hlt, hc⟩)

end Go.Proofs.Ytbhbacphiinpeaa

/- What 'Encode' answers. -/
namespace Go.Proofs.Ytbhbacphiinpeaa
open Go.RowKit

theorem Try.info5 : (Try.prog.info? 5).map (fun i => (i.zero, i.size, i.bytes)) = some (some (.int .u8 0), 1, 1) := by kernel_rfl

set_option maxHeartbeats 400000 in
theorem encode_no {w : World} {v : Value} {l : List Ins} (h : Sees w v l) (he : ((chk l).1 != 0) = true) :
    Calls Try.prog 31 #[v] w fun e w' => e = .returned (.tuple #[.string ⟨#[]⟩, .int .i64 (chk l).1, .int .i64 (chk l).2]) ∧ Below w.heap.size w w' := by
  have Hs : Hid (Sees w v l) := h
  clear h
  go_enter Try.func31, Try.ntmps31
  go_wp2_with (go_at_call 44; refine (check_any Hs.out).mono ?_; rintro e w1 ⟨rfl, hb⟩)
  go_ret3
  exact ⟨rfl, hb⟩

set_option maxHeartbeats 400000 in
set_option maxRecDepth 100000 in
theorem encode_yes (b off n cap : Nat) (l : List Ins) (hl : l.length = n) (w : World) (hlt : b < w.heap.size) (he : chk l = (0, 0)) (h1 : 1 ≤ n) (h2 : n ≤ 40) (hok : ∀ (j : Nat) y, l[j]? = some y → okB n y = true) (hsee : Sees w (.slice (some ⟨b, off, none⟩) n cap) l)
    (hc : ∀ (i : Nat) x, l[i]? = some x → w.cell? ⟨b, off + i * 4, none⟩ = some (.int .i64 x.o) ∧ w.cell? ⟨b, off + i * 4 + 1, none⟩ = some (.int .i64 x.a) ∧ w.cell? ⟨b, off + i * 4 + 2, none⟩ = some (.int .i64 x.b) ∧ w.cell? ⟨b, off + i * 4 + 3, none⟩ = some (.int .i64 x.c)) :
    Calls Try.prog 31 #[.slice (some ⟨b, off, none⟩) n cap] w fun e w' => e = .returned (.tuple #[.string (strOfNums (nums l)), .int .i64 0, .int .i64 0]) ∧ Below w.heap.size w w' := by
  have Hs : Hid (Sees w (.slice (some ⟨b, off, none⟩) n cap) l) := hsee
  have Hl : Hid (l.length = n) := hl
  have Hok : Hid (∀ (j : Nat) y, l[j]? = some y → okB n y = true) := hok
  have Hc : Hid (∀ (i : Nat) x, l[i]? = some x → w.cell? ⟨b, off + i * 4, none⟩ = some (.int .i64 x.o) ∧ w.cell? ⟨b, off + i * 4 + 1, none⟩ = some (.int .i64 x.a) ∧ w.cell? ⟨b, off + i * 4 + 2, none⟩ = some (.int .i64 x.b) ∧ w.cell? ⟨b, off + i * 4 + 3, none⟩ = some (.int .i64 x.c)) := hc
  have He : Hid (chk l = (0, 0)) := he
  clear hsee hl hok hc he
  obtain ⟨i0, hi, hz0, hz1, hz2⟩ := info_parts Try.info5
  go_enter Try.func31, Try.ntmps31
  go_wp2_with (go_at_call 44; refine (check_any Hs.out).mono ?_; rw [He.out]; rintro e w1 ⟨rfl, hb1⟩)
  go_loopw [7, 21] (fun v i wr => ∃ k : Nat, k ≤ n ∧ i = .int .i64 k ∧ wr.ownsRow w.heap.size 5 1 v (4 * k) ((nums (l.take k)).map (Value.int .u8)) ∧ Below w.heap.size w wr) (fun _ i _ => n - (intOf i).toNat)
  case atStart => exact ⟨0, Nat.zero_le _, rfl, World.ownsRow_nil _ _ _ _, hb1⟩
  case round =>
    obtain ⟨k, hk, rfl, hown, hb⟩ := hrel
    by_cases hkn : k < n
    · obtain ⟨x, hx⟩ : ∃ x, l[k]? = some x := ⟨_, List.getElem?_eq_getElem (by rw [Hl.out]; exact hkn)⟩
      obtain ⟨c0, c1, c2, c3⟩ := Hc.out k x hx
      have d0 := (hb.cell (p := ⟨b, off + k * 4, none⟩) hlt).trans c0
      have d1 := (hb.cell (p := ⟨b, off + k * 4 + 1, none⟩) hlt).trans c1
      have d2 := (hb.cell (p := ⟨b, off + k * 4 + 2, none⟩) hlt).trans c2
      have d3 := (hb.cell (p := ⟨b, off + k * 4 + 3, none⟩) hlt).trans c3
      obtain ⟨⟨b1, b2⟩, ⟨b3, b4⟩, ⟨b5, b6⟩, ⟨b7, b8⟩⟩ := okB_bd (by omega) (Hok.out k x hx)
      have hsn := nums_snoc hx
      have Hsn : Hid (nums (l.take (k + 1)) = nums (l.take k) ++ x.nums) := hsn
      clear c0 c1 c2 c3 hsn hx
      go_wp2_with (first | (at_builtin; go_must (refine wpList_append_own _ rfl _ _ 102 rfl w.heap.size 5 i0 (.int .u8 0) 1 1 Try.underlying102 hi hz0 hz1 hz2 rfl (by decide) u7 (4 * k) ((nums (l.take k)).map (Value.int .u8)) rfl ?c0 ⟨wr.heap.size + 1, 0, none⟩ 4 4 (x.nums.map (Value.int .u8)) rfl rfl ?c1 ?c2 ?c3 ?c4 ?c5 ?_)) | go_in)
      case c0 => exact (hown.alloc _).alloc _
      case c1 => exact World.news_of_block (heap_alloc2_new wr _ _)
      case c2 => intro u hu; obtain ⟨z, -, rfl⟩ := List.mem_map.1 hu; rfl
      case c3 => unfold maxLen; omega
      case c4 => omega
      case c5 => have := hb.size; simp; omega
      · intro v' w2 hown' hgrow _
        have hb' : Below w.heap.size w w2 := ((hb.alloc hb.size _).alloc (by have := hb.size; simp; omega) _).grown hgrow (by have := hb.size; simp; omega) (fun g hg => (hown.lt g hg).1)
        rw [← List.map_append, ← Hsn.out, show 4 * k + 4 = 4 * (k + 1) by omega] at hown'
        clear hgrow hown d0 d1 d2 d3 b1 b2 b3 b4 b5 b6 b7 b8
        go_wp2
        go_roundw
        case rel => exact ⟨k + 1, by omega, by go_num, hown', hb'⟩
        case measure => simp [intOf]; omega
    · have e : k = n := by omega
      subst e
      rw [List.take_of_length_le (by rw [Hl.out]; exact Nat.le_refl _)] at hown
      obtain ⟨g, cp, hv, -, -⟩ := hown.form (by omega)
      subst hv
      have hcv := run_convert_bytes_arg (P := Try.prog) wr 102 5 Try.underlying102 Try.underlying5 g 0 (4 * k) cp (nums l) (by rw [nums_length, Hl.out]) (fun i hi => by
        rw [Nat.zero_add, hown.cellAt i (by omega), List.getElem?_map, List.getElem?_eq_getElem (by rw [nums_length, Hl.out]; exact hi), List.getD_eq_getElem?_getD, List.getElem?_eq_getElem (by rw [nums_length, Hl.out]; exact hi)]; rfl) 9 Try.underlying9
      clear hown
      go_wp2
      go_ret3
      exact ⟨rfl, hb⟩

/-- For whatever list of instructions the slice reads as. -/
theorem encode_any {w : World} {v : Value} {l : List Ins} (h : Sees w v l) :
    Calls Try.prog 31 #[v] w fun e w' => e = .returned (.tuple #[.string (encR l), .int .i64 (chk l).1, .int .i64 (chk l).2]) ∧ Below w.heap.size w w' := by
  by_cases he : (chk l).1 = 0
  · obtain ⟨h0, h1, h2, h3⟩ := chk_zero he
    have hr : encR l = strOfNums (nums l) := by unfold encR; rw [if_pos he]
    rw [hr, h0]
    obtain ⟨hm, h'⟩ := id h
    rcases h' with ⟨rfl, -⟩ | ⟨b, off, cap, rfl, hlt, hc⟩
    · simp at h1
    · exact encode_yes b off l.length cap l rfl w hlt h0 h1 h2 h3 h hc
  · have hr : encR l = ⟨#[]⟩ := by unfold encR; rw [if_neg he]
    rw [hr]
    exact encode_no h (by simpa using he)

set_option maxHeartbeats 400000 in
theorem Encode_any {w : World} {v : Value} {l : List Ins} (h : Sees w v l) :
    Calls Try.prog 10 #[v] w fun e w' => e = .returned (.tuple #[.string (encR l), .int .i64 (chk l).1, .int .i64 (chk l).2]) ∧ Below w.heap.size w w' := by
  have Hs : Hid (Sees w v l) := h
  clear h
  go_enter Try.func10, Try.ntmps10
  go_wp2_with (go_at_call 31; refine (encode_any Hs.out).mono ?_; rintro e w1 ⟨rfl, hb⟩)
  go_ret3
  exact ⟨rfl, hb⟩

end Go.Proofs.Ytbhbacphiinpeaa

/- What is encoded is decoded: plain lists; nothing of the program is in this text. -/
namespace Go.Proofs.Ytbhbacphiinpeaa
open Go.RowKit

theorem okB_up {n m : Int} {x : Ins} (h : n ≤ m) (hx : okB n x = true) : okB m x = true := by
  unfold okB at hx ⊢
  have hb : bel x.b n = true → bel x.b m = true := fun hb => by
    have := bel_bd hb
    simp [bel]; omega
  repeat' split at hx
  all_goals try (simp only [*, if_true, if_false] at hx ⊢)
  all_goals simp_all

theorem nums_at {l : List Ins} {i : Nat} {x : Ins} (h : l[i]? = some x) : (nums l)[4 * i]? = some x.o ∧ (nums l)[4 * i + 1]? = some x.a ∧ (nums l)[4 * i + 2]? = some x.b ∧ (nums l)[4 * i + 3]? = some x.c := by
  induction l generalizing i with
  | nil => simp at h
  | cons y l ih =>
    have e : nums (y :: l) = y.nums ++ nums l := by simp [nums]
    rw [e]
    have hl : y.nums.length = 4 := rfl
    match i, h with
    | 0, h =>
      simp at h
      subst h
      simp [Ins.nums]
    | i + 1, h =>
      have h' : l[i]? = some x := by simpa using h
      obtain ⟨a0, a1, a2, a3⟩ := ih h'
      refine ⟨?_, ?_, ?_, ?_⟩
      · rw [List.getElem?_append_right (by omega), hl, show 4 * (i + 1) - 4 = 4 * i by omega]; exact a0
      · rw [List.getElem?_append_right (by omega), hl, show 4 * (i + 1) + 1 - 4 = 4 * i + 1 by omega]; exact a1
      · rw [List.getElem?_append_right (by omega), hl, show 4 * (i + 1) + 2 - 4 = 4 * i + 2 by omega]; exact a2
      · rw [List.getElem?_append_right (by omega), hl, show 4 * (i + 1) + 3 - 4 = 4 * i + 3 by omega]; exact a3

theorem byt_str {xs : List Int} {j : Nat} {x : Int} (h : xs[j]? = some x) (h0 : 0 ≤ x) (h1 : x ≤ 255) : byt (strOfNums xs) j = x := by
  unfold byt
  rw [strOfNums_data, List.getD_eq_getElem?_getD, List.getElem?_map, h]
  simp
  omega

theorem unp_back {l : List Ins} (h : ∀ x ∈ l, (0 ≤ x.o ∧ x.o ≤ 255) ∧ (0 ≤ x.a ∧ x.a ≤ 255) ∧ (0 ≤ x.b ∧ x.b ≤ 255) ∧ (0 ≤ x.c ∧ x.c ≤ 255)) : unp (strOfNums (nums l)) l.length = l := by
  apply List.ext_getElem?
  intro i
  by_cases hi : i < l.length
  · have hx : l[i]? = some l[i] := List.getElem?_eq_getElem hi
    obtain ⟨⟨a1, a2⟩, ⟨a3, a4⟩, ⟨a5, a6⟩, ⟨a7, a8⟩⟩ := h l[i] (List.getElem_mem hi)
    obtain ⟨n0, n1, n2, n3⟩ := nums_at hx
    rw [hx]
    simp only [unp, List.getElem?_map, List.getElem?_range hi, Option.map_some, insAt, byt_str n0 a1 a2, byt_str n1 a3 a4, byt_str n2 a5 a6, byt_str n3 a7 a8]
  · rw [List.getElem?_eq_none (by rw [unp_length]; omega), List.getElem?_eq_none (by omega)]

theorem back_size (l : List Ins) : (strOfNums (nums l)).size = 4 * l.length := by rw [strOfNums_size, nums_length]

theorem dchk_back {l : List Ins} (h : chk l = (0, 0)) : dchk (strOfNums (nums l)) = (0, 0) ∧ decL (strOfNums (nums l)) = l := by
  obtain ⟨-, h1, h2, h3⟩ := chk_zero (by rw [h])
  have hb := unp_back (l := l) (fun x hx => by
    obtain ⟨j, hj⟩ := List.mem_iff_getElem?.1 hx
    exact okB_bd (by omega) (h3 j x hj))
  have e1 : dchk (strOfNums (nums l)) = (0, 0) := by
    unfold dchk
    rw [back_size, if_neg (by omega), show 4 * l.length / 4 = l.length by omega, hb, h]
  refine ⟨e1, ?_⟩
  unfold decL
  rw [e1, if_pos rfl, back_size, show 4 * l.length / 4 = l.length by omega, hb]

theorem dchk_more {s : ByteArray} (h : s.size % 4 ≠ 0) : dchk s = (1, 0) := by unfold dchk; rw [if_pos (.inl h)]

/-- One wrong operation. -/
theorem chk_wrong {l : List Ins} (h : chk l = (0, 0)) {i : Nat} (hi : i < l.length) {o : Int} (ho : 14 < o) : chk (l.modify i fun x => { x with o := o }) = (2, (i : Int)) := by
  obtain ⟨-, h1, h2, h3⟩ := chk_zero (by rw [h])
  have hl : (l.modify i fun x => { x with o := o }).length = l.length := by simp
  refine chk_bad (by omega) (by omega) (x := { l[i] with o := o }) ?_ ?_ ?_
  · rw [List.getElem?_modify, List.getElem?_eq_getElem hi]; simp
  · unfold okB
    rw [if_neg (by dsimp only; omega), if_neg (by dsimp only; omega), if_neg (by dsimp only; omega), if_neg (by dsimp only; omega), if_neg (by dsimp only; omega), if_neg (by dsimp only; omega), if_neg (by dsimp only; omega)]
  · intro j y hj hy
    rw [hl]
    rw [List.getElem?_modify] at hy
    have hne : i ≠ j := by omega
    simp [hne] at hy
    exact h3 j y hy

/-- An end that is none. -/
theorem chk_open {l : List Ins} (h : chk l = (0, 0)) (hl : l.length ≤ 39) : chk (l ++ [⟨1, 0, 0, 0⟩]) = (3, (l.length : Int)) := by
  obtain ⟨-, h1, h2, h3⟩ := chk_zero (by rw [h])
  have hn : (l ++ [(⟨1, 0, 0, 0⟩ : Ins)]).length = l.length + 1 := by simp
  have := chk_flow (l := l ++ [⟨1, 0, 0, 0⟩]) (x := ⟨1, 0, 0, 0⟩) (by omega) (by omega) (fun j y hy => by
    rw [hn]
    by_cases hj : j < l.length
    · rw [List.getElem?_append_left hj] at hy
      have hk := h3 j y hy
      have hm : okB ((l.length + 1 : Nat) : Int) y = true := okB_up (by omega) hk
      exact hm
    · rw [List.getElem?_append_right (by omega)] at hy
      have : j - l.length = 0 := by
        have := (List.getElem?_eq_some_iff.1 hy).1
        simp at this; omega
      rw [this] at hy
      simp at hy
      subst hy
      simp [okB, bel]) (by simp) (by decide) (by decide)
  rw [this, hn]
  congr 1
  omega

theorem flat_modifyO : ∀ (l : List Ins) (i : Nat) (n : Int), i < l.length → flat (l.modify i fun x => { x with o := n }) = (flat l).set (i * 4) (.int .i64 n)
  | [], i, n, h => by simp at h
  | x :: l, 0, n, _ => by
    have e : ∀ (y : Ins) (m : List Ins), flat (y :: m) = y.vals ++ flat m := fun y m => by simp [flat]
    rw [List.modify_zero_cons, e, e]
    simp [Ins.vals]
  | x :: l, i + 1, n, h => by
    have e : ∀ (y : Ins) (m : List Ins), flat (y :: m) = y.vals ++ flat m := fun y m => by simp [flat]
    rw [List.modify_succ_cons, e, e, flat_modifyO l i n (by simpa using h), List.set_append_right _ _ (by simp [Ins.vals]; omega)]
    have e2 : (i + 1) * 4 - x.vals.length = i * 4 := by simp [Ins.vals]; omega
    rw [e2]

end Go.Proofs.Ytbhbacphiinpeaa

