/- What 'decoded' answers and keeps. -/
import Derived.Test.YtbhbacphiinpeaaGreatOw
import Derived.Test.YtbhbacphiinpeaaGreatE
import Derived.Test.YtbhbacphiinpeaaGreatRE
import Derived.Test.YtbhbacphiinpeaaGreatX1
import Derived.Lib.SliceRun
namespace Go.Proofs.YtbhbacphiinpeaaGreat
open Go.RowKit

theorem decL_len (s : ByteArray) : (decL s).length ≤ 40 := by
  unfold decL
  by_cases h : (dchk s).1 = 0
  · rw [if_pos h, unp_length]
    unfold dchk at h
    by_cases h2 : s.size % 4 ≠ 0 ∨ 160 < s.size
    · rw [if_pos h2] at h; simp at h
    · omega
  · rw [if_neg h]; simp

set_option maxHeartbeats 1000000 in
set_option maxRecDepth 100000 in
theorem lawdecoded_any {w : World} {B BW : Nat} {es : List Ent} (x0 x1 x2 x3 : Int) (s : ByteArray) (aL : Option Addr) (nL cL : Nat) (aK : Option Addr) (nK cK : Nat) (hs : s.size ≤ 140737488355328) (h : Inv w B BW es) (hes : es.length ≤ 1759218604000) (hB : B ≤ w.heap.size) :
    Calls Tryz.prog 13 #[.pointer (some ⟨BW, 0, none⟩), .agg #[.int .i64 x0, .int .i64 x1, .int .i64 x2, .int .i64 x3, .string s, .slice aL nL cL, .slice aK nK cK]] w fun e w' => e = .returned (.bool true) ∧ (∃ en, Inv w' w'.heap.size BW (es ++ [en])) ∧ Below BW w w' := by
  have H := hyd h
  have hBW : BW < B := by obtain ⟨_, _, _, _, h4, _⟩ := h; exact h4
  clear h
  have HL := hyd (decL_len s)
  have hnilq : ∀ (wx : World) (a : Option Addr) (n c : Nat), (binOp .eql 35 (.slice a n c) (.slice none 0 0)).run Tryz.prog wx = .ok (.bool a.isNone) wx := fun wx a n c => Lib.run_eql_slice_nil (P := Tryz.prog) wx 35 92 a n c 0 0 Tryz.underlying35
  have I0 : Hid (Inv (w.alloc (.cells #[.int .i64 x0, .int .i64 x1, .int .i64 x2, .int .i64 x3, .string s, .slice aL nL cL, .slice aK nK cK] 37)) (w.heap.size + 1) BW es) := (H.out.up ((Below.refl B w).alloc hB _)).wide (by omega)
  go_enter Tryz.func13, Tryz.ntmps13
  go_wp2_with fail
  refine (Decode_any s hs _).mono ?_
  rintro e w1 ⟨v, rfl, hb1, hown1, hnil⟩
  simp only [World.size_alloc] at hb1 hown1
  obtain ⟨n, Hn⟩ : ∃ n, Hid ((decL s).length = n) := ⟨_, rfl⟩
  rw [Hn.out] at hown1
  have hn40 : n ≤ 40 := by rw [← Hn.out]; exact HL.out
  have hv : ∃ ao cap, v = .slice ao n cap := by
    rcases hown1.2 with ⟨rfl, h0⟩ | ⟨g, cap, cur, rfl, -⟩
    · exact ⟨none, 0, by rw [h0]⟩
    · exact ⟨_, cap, rfl⟩
  obtain ⟨va, vcap, rfl⟩ := hv
  have Hown1 := hyd hown1
  have HN := hyd hnil
  have HB1 := hyd hb1
  have d4 : w1.cell? ⟨w.heap.size, 4, none⟩ = some (.string s) := by
    rw [hb1.cell (by simp), cell_of_row _ w.heap.size 4 _ 37 (0, 0) (heap_alloc_new w _)]; rfl
  have hsz1 : w.heap.size + 1 ≤ w1.heap.size := by have := hb1.size; simpa using this
  clear hown1 hnil hb1
  go_wp2_with fail
  refine (rdecode_any s hs _).mono ?_
  rintro e w2 ⟨v2, rfl, hb2, hown2⟩
  rw [Hn.out] at hown2
  have hv2 : ∃ ao cap, v2 = .slice ao n cap := by
    rcases hown2.2 with ⟨rfl, h0⟩ | ⟨g, cap, cur, rfl, -⟩
    · exact ⟨none, 0, by rw [h0]⟩
    · exact ⟨_, cap, rfl⟩
  obtain ⟨va2, vcap2, rfl⟩ := hv2
  have Hown12 := hyd (Hown1.out.keptB hb2)
  have HS1 : Hid (Sees w2 (.slice va n vcap) (decL s)) := ownsRow_sees (by rw [Hn.out]; omega) (by rw [Hn.out]; exact Hown12.out)
  have HS2 : Hid (Sees w2 (.slice va2 n vcap2) (decL s)) := ownsRow_sees (by rw [Hn.out]; omega) (by rw [Hn.out]; exact hown2)
  have HB2 := hyd (HB1.out.trans (hb2.mono hsz1))
  clear hown2 hb2 d4 Hown1
  go_wp2_with fail
  refine (same_any HS1.out HS2.out).mono ?_
  rintro e w3 ⟨rfl, hb3⟩
  have Hown3 := hyd (Hown12.out.keptB hb3)
  have HB3 := hyd (HB2.out.trans (hb3.mono (by have := HB2.out.size; simpa using this)))
  have hsz3 : w.heap.size + 1 ≤ w3.heap.size := by have := HB3.out.size; simpa using this
  have I3 : Hid (Inv w3 (w.heap.size + 1) BW es) := I0.out.up HB3.out
  clear hb3 Hown12 HS1 HS2
  go_wp2_with fail
  refine (own_any I3.out hes hsz3 Hown3.out hn40).mono ?_
  rintro e w4 ⟨rfl, hI4, hb4⟩
  have HI4 := hyd hI4
  have HB4 : Hid (Below BW w w4) := (((Below.refl BW w).alloc (by omega) _).trans (HB3.out.mono (by omega))).trans hb4
  clear hI4 hb4
  by_cases h0 : (dchk s).1 = 0
  · have g0 : ((dchk s).1 == 0) = true := by rw [h0]; rfl
    clear h0
    go_wp2
    go_ret
    exact ⟨rfl, HI4.out, HB4.out⟩
  · have g0 : ((dchk s).1 == 0) = false := beq_eq_false_iff_ne.2 h0
    have hv0 := HN.out h0
    simp only [Value.slice.injEq] at hv0
    obtain ⟨e1, e2, e3⟩ := hv0
    subst e1
    clear h0 e2 e3
    go_wp2
    go_ret
    exact ⟨rfl, HI4.out, HB4.out⟩

end Go.Proofs.YtbhbacphiinpeaaGreat
