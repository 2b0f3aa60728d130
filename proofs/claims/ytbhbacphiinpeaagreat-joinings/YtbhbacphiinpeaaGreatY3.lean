/- A step of each of the kinds 1, 2, 3, with the lists of all three kinds; scripts of the kinds 1, 2 and of the kind 3. -/
import Derived.Test.YtbhbacphiinpeaaGreatY2
import Derived.Test.YtbhbacphiinpeaaGreatJ1
namespace Go.Proofs.YtbhbacphiinpeaaGreat
open Go.RowKit

set_option maxHeartbeats 1000000 in
set_option maxRecDepth 100000 in
theorem decodedG {w : World} {B BW : Nat} {vps : Value} {ei ec eg : List Ent} (x0 x1 x2 x3 : Int) (s : ByteArray) (aL : Option Addr) (nL cL : Nat) (aK : Option Addr) (nK cK : Nat) (hs : s.size ≤ 140737488355328) (h : InvG w B BW vps ei ec eg) (hes : ec.length ≤ 1759218604000) (hB : B ≤ w.heap.size) :
    Calls Tryz.prog 13 #[.pointer (some ⟨BW, 0, none⟩), .agg #[.int .i64 x0, .int .i64 x1, .int .i64 x2, .int .i64 x3, .string s, .slice aL nL cL, .slice aK nK cK]] w fun e w' => e = .returned (.bool true) ∧ (∃ en, InvG w' w'.heap.size BW vps ei (ec ++ [en]) eg) ∧ Below BW w w' := by
  have H := hyd h
  have hBW : BW < B := by obtain ⟨_, _, _, _, h4, _⟩ := h; exact h4
  clear h
  have HL := hyd (decL_len s)
  have hnilq : ∀ (wx : World) (a : Option Addr) (n c : Nat), (binOp .eql 35 (.slice a n c) (.slice none 0 0)).run Tryz.prog wx = .ok (.bool a.isNone) wx := fun wx a n c => Lib.run_eql_slice_nil (P := Tryz.prog) wx 35 92 a n c 0 0 Tryz.underlying35
  have I0 : Hid (InvG (w.alloc (.cells #[.int .i64 x0, .int .i64 x1, .int .i64 x2, .int .i64 x3, .string s, .slice aL nL cL, .slice aK nK cK] 37)) (w.heap.size + 1) BW vps ei ec eg) := (H.out.up ((Below.refl B w).alloc hB _)).wide (by omega)
  go_enter Tryz.func13, Tryz.ntmps13
  go_wp2_with fail
  refine (Decode_any s hs _).mono ?_
  rintro e w1 ⟨v, rfl, hb1, hown1, hnil⟩
  simp only [World.size_alloc] at hb1 hown1
  obtain ⟨n, Hn⟩ : ∃ n, Hid ((decL s).length = n) := ⟨_, rfl⟩
  rw [Hn.out] at hown1
  have hn40 : n ≤ 40 := by rw [← Hn.out]; exact HL.out
  obtain ⟨va, vcap, rfl⟩ := slice_ofN hown1
  have Hown1 := hyd hown1
  have HN := hyd hnil
  have HB1 := hyd hb1
  have d4 : w1.cell? ⟨w.heap.size, 4, none⟩ = some (.string s) := by
    rw [hb1.cell (by simp), cell_of_row _ w.heap.size 4 _ 37 (0, 0) (heap_alloc_new w _)]; rfl
  have hsz1 : w.heap.size + 1 ≤ w1.heap.size := by have := hb1.size; simpa using this
  clear hown1 hnil hb1
  go_wp2_with fail
  refine (rdecode_any s hs _).mono ?_
  rintro e w2 ⟨v2, rfl, hb2, hown2⟩
  rw [Hn.out] at hown2
  obtain ⟨va2, vcap2, rfl⟩ := slice_ofN hown2
  have Hown12 := hyd (Hown1.out.keptB hb2)
  have HS1 : Hid (Sees w2 (.slice va n vcap) (decL s)) := ownsRow_sees (by rw [Hn.out]; omega) (by rw [Hn.out]; exact Hown12.out)
  have HS2 : Hid (Sees w2 (.slice va2 n vcap2) (decL s)) := ownsRow_sees (by rw [Hn.out]; omega) (by rw [Hn.out]; exact hown2)
  have HB2 := hyd (HB1.out.trans (hb2.mono hsz1))
  clear hown2 hb2 d4 Hown1
  go_wp2_with fail
  refine (same_any HS1.out HS2.out).mono ?_
  rintro e w3 ⟨rfl, hb3⟩
  have Hown3 := hyd (Hown12.out.keptB hb3)
  have HB3 := hyd (HB2.out.trans (hb3.mono (by have := HB2.out.size; simpa using this)))
  have hsz3 : w.heap.size + 1 ≤ w3.heap.size := by have := HB3.out.size; simpa using this
  have I3 : Hid (InvG w3 (w.heap.size + 1) BW vps ei ec eg) := I0.out.up HB3.out
  clear hb3 Hown12 HS1 HS2
  go_wp2_with fail
  refine (ownC I3.out hes hsz3 Hown3.out (by omega)).mono ?_
  rintro e w4 ⟨rfl, hI4, hb4⟩
  have HI4 := hyd hI4
  have HB4 : Hid (Below BW w w4) := (((Below.refl BW w).alloc (by omega) _).trans (HB3.out.mono (by omega))).trans hb4
  clear hI4 hb4
  by_cases h0 : (dchk s).1 = 0
  · have g0 : ((dchk s).1 == 0) = true := by rw [h0]; rfl
    clear h0
    go_wp2
    go_ret
    exact ⟨rfl, HI4.out, HB4.out⟩
  · have g0 : ((dchk s).1 == 0) = false := beq_eq_false_iff_ne.2 h0
    have hv0 := HN.out h0
    simp only [Value.slice.injEq] at hv0
    obtain ⟨e1, e2, e3⟩ := hv0
    subst e1
    clear h0 e2 e3
    go_wp2
    go_ret
    exact ⟨rfl, HI4.out, HB4.out⟩

/-- The lists that came out behind k steps, and the machines vps. -/
def InvK (w : World) (BW : Nat) (vps : Value) (k : Nat) : Prop := ∃ ei ec eg, InvG w w.heap.size BW vps ei ec eg ∧ ei.length ≤ k ∧ ec.length ≤ k ∧ eg.length ≤ k

theorem InvK.up {w w' : World} {BW k : Nat} {vps : Value} (h : InvK w BW vps k) (hb : Below w.heap.size w w') : InvK w' BW vps k := by
  obtain ⟨ei, ec, eg, h, hi⟩ := h
  exact ⟨ei, ec, eg, (h.up hb).wide hb.size, hi⟩

theorem InvK.more {w : World} {BW k : Nat} {vps : Value} (h : InvK w BW vps k) : InvK w BW vps (k + 1) := by
  obtain ⟨ei, ec, eg, h, h1, h2, h3⟩ := h
  exact ⟨ei, ec, eg, h, by omega, by omega, by omega⟩

theorem InvK.init (w : World) : InvK (w.alloc (.cells #[.slice none 0 0, .slice none 0 0, .slice none 0 0, .slice none 0 0] 34)) w.heap.size (.slice none 0 0) 0 := by
  have hr : ∀ f : Fam, RowG f (w.alloc (.cells #[.slice none 0 0, .slice none 0 0, .slice none 0 0, .slice none 0 0] 34)) (w.alloc (.cells #[.slice none 0 0, .slice none 0 0, .slice none 0 0, .slice none 0 0] 34)).heap.size w.heap.size (.slice none 0 0) [] :=
    fun f => ⟨World.ownsRow_nil _ _ _ _, fun g hg => by simp [Value.ownBlock] at hg, fun e he => by simp at he⟩
  exact ⟨[], [], [], ⟨_, _, _, heap_alloc_new w _, by simp, hr famI, hr famC, hr famG⟩, by simp, by simp, by simp⟩

theorem InvK.looks {w : World} {BW k : Nat} {vps : Value} (h : InvK w BW vps k) (hk : k ≤ 1466015503701) : Calls Tryz.prog 11 #[.pointer (some ⟨BW, 1, none⟩)] w fun e w' => e = .returned (.bool true) ∧ Below w.heap.size w w' := by
  obtain ⟨ei, ec, eg, h, h1, h2, h3⟩ := h
  exact looksG h (by omega) (by omega) (by omega) (Nat.le_refl _)

set_option maxHeartbeats 1000000 in
set_option maxRecDepth 100000 in
theorem stepG1 {w : World} {BW k : Nat} {vps : Value} (x1 x2 x3 : Int) (s : ByteArray) (la : Option Addr) (ln lc : Nat) (ka : Option Addr) (kn kc : Nat) (l : List Ins)
    (hl : l.length ≤ 4398046511103) (hp : ∀ n cap, Value.slice ka kn kc = .slice none n cap → cap = 0) (hS : Sees w (.slice ka kn kc) l) (h : InvK w BW vps k) :
    Calls Tryz.prog 10 #[.pointer (some ⟨BW, 0, none⟩), .agg #[.int .i64 1, .int .i64 x1, .int .i64 x2, .int .i64 x3, .string s, .slice la ln lc, .slice ka kn kc]] w fun e w' => e = .returned (.bool true) ∧ InvK w' BW vps (k + 1) ∧ Below BW w w' := by
  have H := hyd h
  have HP := hyd hp
  have HS := hyd (hS.up (Nat.le_refl _) ((Below.refl _ w).alloc (Nat.le_refl _) (.cells #[.int .i64 1, .int .i64 x1, .int .i64 x2, .int .i64 x3, .string s, .slice la ln lc, .slice ka kn kc] 37)))
  have hBW : BW < w.heap.size := by obtain ⟨_, _, _, ⟨_, _, _, _, h4, _⟩, _⟩ := h; exact h4
  clear h hp hS
  go_enter Tryz.func10, Tryz.ntmps10
  go_wp2_with fail
  refine (lawcoded_any _ _ _ _ _ _ _ _ _ HS.out HP.out hl ⟨_, _, _, rfl⟩).mono ?_
  rintro e w1 ⟨rfl, hb1⟩
  have HB : Hid (Below w.heap.size w w1) := ((Below.refl _ w).alloc (Nat.le_refl _) _).trans (hb1.mono (by simp))
  clear hb1
  go_wp2
  go_ret
  exact ⟨rfl, (H.out.up HB.out).more, HB.out.mono (by omega)⟩

set_option maxHeartbeats 1000000 in
set_option maxRecDepth 100000 in
theorem stepG2 {w : World} {BW k : Nat} {vps : Value} (x1 x2 x3 : Int) (s : ByteArray) (la : Option Addr) (ln lc : Nat) (ka : Option Addr) (kn kc : Nat)
    (hs : s.size ≤ 140737488355328) (h : InvK w BW vps k) (hk : k ≤ 1466015503700) :
    Calls Tryz.prog 10 #[.pointer (some ⟨BW, 0, none⟩), .agg #[.int .i64 2, .int .i64 x1, .int .i64 x2, .int .i64 x3, .string s, .slice la ln lc, .slice ka kn kc]] w fun e w' => e = .returned (.bool true) ∧ InvK w' BW vps (k + 1) ∧ Below BW w w' := by
  obtain ⟨ei, ec, eg, h, l1, l2, l3⟩ := h
  have hBW : BW < w.heap.size := by obtain ⟨_, _, _, _, h4, _⟩ := h; exact h4
  have H := hyd (h.up ((Below.refl _ w).alloc (Nat.le_refl _) (.cells #[.int .i64 2, .int .i64 x1, .int .i64 x2, .int .i64 x3, .string s, .slice la ln lc, .slice ka kn kc] 37)))
  have Hl := hyd (And.intro l1 (And.intro l2 l3))
  clear h l1 l2 l3
  go_enter Tryz.func10, Tryz.ntmps10
  go_wp2_with fail
  refine (decodedG _ _ _ _ _ _ _ _ _ _ _ hs H.out (by have := Hl.out; omega) (by simp)).mono ?_
  rintro e w1 ⟨rfl, ⟨en, hI⟩, hb1⟩
  have HI := hyd hI
  have HB : Hid (Below BW w w1) := ((Below.refl BW w).alloc (by omega) _).trans hb1
  clear hb1 hI
  go_wp2
  go_ret
  have := Hl.out
  exact ⟨rfl, ⟨_, _, _, HI.out, by omega, by simp; omega, by omega⟩, HB.out⟩

set_option maxHeartbeats 1000000 in
set_option maxRecDepth 100000 in
theorem stepG3 (HJ : JoinsOk) {w : World} {BW k : Nat} {vps : Value} (x1 x2 x3 : Int) (s : ByteArray) (la : Option Addr) (ln lc : Nat) (ka : Option Addr) (kn kc : Nat)
    (hs : s.size ≤ 140737488355328) (h : InvK w BW vps k) (hk : k ≤ 1466015503700) :
    Calls Tryz.prog 10 #[.pointer (some ⟨BW, 0, none⟩), .agg #[.int .i64 3, .int .i64 x1, .int .i64 x2, .int .i64 x3, .string s, .slice la ln lc, .slice ka kn kc]] w fun e w' => e = .returned (.bool true) ∧ InvK w' BW vps (k + 1) ∧ Below BW w w' := by
  obtain ⟨ei, ec, eg, h, l1, l2, l3⟩ := h
  have hBW : BW < w.heap.size := by obtain ⟨_, _, _, _, h4, _⟩ := h; exact h4
  have H := hyd (h.up ((Below.refl _ w).alloc (Nat.le_refl _) (.cells #[.int .i64 3, .int .i64 x1, .int .i64 x2, .int .i64 x3, .string s, .slice la ln lc, .slice ka kn kc] 37)))
  have Hl := hyd (And.intro l1 (And.intro l2 l3))
  have HJ' := hyd HJ
  clear h l1 l2 l3 HJ
  go_enter Tryz.func10, Tryz.ntmps10
  go_wp2_with fail
  refine (joined_any HJ'.out _ _ _ _ _ _ _ _ _ _ _ hs H.out (by have := Hl.out; omega) (by simp)).mono ?_
  rintro e w1 ⟨rfl, ⟨en, hI⟩, hb1⟩
  have HI := hyd hI
  have HB : Hid (Below BW w w1) := ((Below.refl BW w).alloc (by omega) _).trans hb1
  clear hb1 hI
  go_wp2
  go_ret
  have := Hl.out
  exact ⟨rfl, ⟨_, _, _, HI.out, by simp; omega, by omega, by omega⟩, HB.out⟩

/-- Scripts of Encode, Decode. -/
theorem keeps12 : Keeps [1, 2] (fun w BW k => InvK w BW (.slice none 0 0) k) where
  init := InvK.init
  up := InvK.up
  more := InvK.more
  looks := InvK.looks
  step := by
    intro w BW k o ho hk h hk2
    obtain ⟨ok, a, b, c, s, la, ln, lc, ka, kn, kc⟩ := o
    obtain ⟨⟨⟨h1, h2, l, h3, h4⟩, -⟩, -⟩ := ho
    simp only [List.mem_cons, List.not_mem_nil, or_false] at hk
    rcases hk with hk | hk
    · subst hk; exact stepG1 a b c s la ln lc ka kn kc l h3 h2 h4 h
    · subst hk; exact stepG2 a b c s la ln lc ka kn kc h1 h hk2

/-- Scripts of Joins. -/
theorem keeps3 (HJ : JoinsOk) : Keeps [3] (fun w BW k => InvK w BW (.slice none 0 0) k) where
  init := InvK.init
  up := InvK.up
  more := InvK.more
  looks := InvK.looks
  step := by
    intro w BW k o ho hk h hk2
    obtain ⟨ok, a, b, c, s, la, ln, lc, ka, kn, kc⟩ := o
    obtain ⟨⟨⟨h1, -⟩, -⟩, -⟩ := ho
    simp only [List.mem_cons, List.not_mem_nil, or_false] at hk
    subst hk
    exact stepG3 HJ a b c s la ln lc ka kn kc h1 h hk2

end Go.Proofs.YtbhbacphiinpeaaGreat
