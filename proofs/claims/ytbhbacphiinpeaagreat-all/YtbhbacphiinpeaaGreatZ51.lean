/- Y3 Ve Vf: joined. -/
import Derived.Test.YtbhbacphiinpeaaGreatZ08
import Derived.Test.YtbhbacphiinpeaaGreatZ50
import Derived.Test.YtbhbacphiinpeaaGreatZ43

/- A step of each of the kinds 1, 2, 3, with the lists of all three kinds; scripts of the kinds 1, 2 and of the kind 3. -/
namespace Go.Proofs.YtbhbacphiinpeaaGreat
open Go.RowKit

set_option maxHeartbeats 1000000 in
set_option maxRecDepth 100000 in
theorem decodedG {w : World} {B BW : Nat} {vps : Value} {ei ec eg : List Ent} (x0 x1 x2 x3 : Int) (s : ByteArray) (aL : Option Addr) (nL cL : Nat) (aK : Option Addr) (nK cK : Nat) (hs : s.size ≤ 140737488355328) (h : InvG w B BW vps ei ec eg) (hes : ec.length ≤ 1759218604000) (hB : B ≤ w.heap.size) :
    Calls Tryz.prog 13 #[.pointer (some ⟨BW, 0, none⟩), .agg #[.int .i64 x0, .int .i64 x1, .int .i64 x2, .int .i64 x3, .string s, .slice aL nL cL, .slice aK nK cK]] w fun e w' => e = .returned (.bool true) ∧ (∃ en, InvG w' w'.heap.size BW vps ei (ec ++ [en]) eg) ∧ Below BW w w' ∧ Fst BW w w' := by
  have H := hyd h
  have hBW : BW < B := by obtain ⟨_, _, _, _, h4, _⟩ := h; exact h4
  clear h
  have HL := hyd (decL_len s)
  have hnilq : ∀ (wx : World) (a : Option Addr) (n c : Nat), (binOp .eql 35 (.slice a n c) (.slice none 0 0)).run Tryz.prog wx = .ok (.bool a.isNone) wx := fun wx a n c => Lib.run_eql_slice_nil (P := Tryz.prog) wx 35 92 a n c 0 0 Tryz.underlying35
  have I0 : Hid (InvG (w.alloc (.cells #[.int .i64 x0, .int .i64 x1, .int .i64 x2, .int .i64 x3, .string s, .slice aL nL cL, .slice aK nK cK] 37)) (w.heap.size + 1) BW vps ei ec eg) := (H.out.up ((Below.refl B w).alloc hB _)).wide (by omega)
  go_enter Tryz.func13, Tryz.ntmps13
  go_wp2_with fail
  refine (Decode_any s hs _).mono ?_
  rintro e w1 ⟨v, rfl, hb1, hown1, hnil⟩
  simp only [World.size_alloc] at hb1 hown1
  obtain ⟨n, Hn⟩ : ∃ n, Hid ((decL s).length = n) := ⟨_, rfl⟩
  rw [Hn.out] at hown1
  have hn40 : n ≤ 40 := by rw [← Hn.out]; exact HL.out
  obtain ⟨va, vcap, rfl⟩ := slice_ofN hown1
  have Hown1 := hyd hown1
  have HN := hyd hnil
  have HB1 := hyd hb1
  have d4 : w1.cell? ⟨w.heap.size, 4, none⟩ = some (.string s) := by
    rw [hb1.cell (by simp), cell_of_row _ w.heap.size 4 _ 37 (0, 0) (heap_alloc_new w _)]; rfl
  have hsz1 : w.heap.size + 1 ≤ w1.heap.size := by have := hb1.size; simpa using this
  clear hown1 hnil hb1
  go_wp2_with fail
  refine (rdecode_any s hs _).mono ?_
  rintro e w2 ⟨v2, rfl, hb2, hown2⟩
  rw [Hn.out] at hown2
  obtain ⟨va2, vcap2, rfl⟩ := slice_ofN hown2
  have Hown12 := hyd (Hown1.out.keptB hb2)
  have HS1 : Hid (Sees w2 (.slice va n vcap) (decL s)) := ownsRow_sees (by rw [Hn.out]; omega) (by rw [Hn.out]; exact Hown12.out)
  have HS2 : Hid (Sees w2 (.slice va2 n vcap2) (decL s)) := ownsRow_sees (by rw [Hn.out]; omega) (by rw [Hn.out]; exact hown2)
  have HB2 := hyd (HB1.out.trans (hb2.mono hsz1))
  clear hown2 hb2 d4 Hown1
  go_wp2_with fail
  refine (same_any HS1.out HS2.out).mono ?_
  rintro e w3 ⟨rfl, hb3⟩
  have Hown3 := hyd (Hown12.out.keptB hb3)
  have HB3 := hyd (HB2.out.trans (hb3.mono (by have := HB2.out.size; simpa using this)))
  have hsz3 : w.heap.size + 1 ≤ w3.heap.size := by have := HB3.out.size; simpa using this
  have I3 : Hid (InvG w3 (w.heap.size + 1) BW vps ei ec eg) := I0.out.up HB3.out
  clear hb3 Hown12 HS1 HS2
  go_wp2_with fail
  refine (ownC I3.out hes hsz3 Hown3.out (by omega)).mono ?_
  rintro e w4 ⟨rfl, ⟨en, hI4, hN4⟩, hb4, hf4⟩
  have HI4 : Hid (∃ en, InvG w4 w4.heap.size BW vps ei (ec ++ [en]) eg) := ⟨en, hI4⟩
  have HFs : Hid (Fst BW w w4) := Fst.own (B := w.heap.size) (((Below.refl _ w).alloc (Nat.le_refl _) _).trans (HB3.out.mono (Nat.le_succ _))) (Nat.le_refl _) (fun b hb => hf4 b (by omega)) (.inr (.inl rfl))
  have HB4 : Hid (Below BW w w4) := (((Below.refl BW w).alloc (by omega) _).trans (HB3.out.mono (by omega))).trans hb4
  clear hI4 hb4 hN4 hf4
  by_cases h0 : (dchk s).1 = 0
  · have g0 : ((dchk s).1 == 0) = true := by rw [h0]; rfl
    clear h0
    go_wp2
    go_ret
    exact ⟨rfl, HI4.out, HB4.out, HFs.out⟩
  · have g0 : ((dchk s).1 == 0) = false := beq_eq_false_iff_ne.2 h0
    have hv0 := HN.out h0
    simp only [Value.slice.injEq] at hv0
    obtain ⟨e1, e2, e3⟩ := hv0
    subst e1
    clear h0 e2 e3
    go_wp2
    go_ret
    exact ⟨rfl, HI4.out, HB4.out, HFs.out⟩

theorem fst_alloc {BW : Nat} {w w' : World} (o : Obj) (h : Fst BW (w.alloc o) w') : Fst BW w w' := fun b hb hne h1 h2 h3 => by
  have e := Below.heap_alloc w o b hb
  refine (h b (by simp; omega) hne ?_ ?_ ?_).trans e
  · rw [e]; exact h1
  · rw [e]; exact h2
  · rw [e]; exact h3

/-- The lists that came out behind k steps, and the machines vps. -/
def InvK (w : World) (BW : Nat) (vps : Value) (k : Nat) : Prop := ∃ ei ec eg, InvG w w.heap.size BW vps ei ec eg ∧ ei.length ≤ k ∧ ec.length ≤ k ∧ eg.length ≤ k

theorem InvK.up {w w' : World} {BW k : Nat} {vps : Value} (h : InvK w BW vps k) (hb : Below w.heap.size w w') : InvK w' BW vps k := by
  obtain ⟨ei, ec, eg, h, hi⟩ := h
  exact ⟨ei, ec, eg, (h.up hb).wide hb.size, hi⟩

theorem InvK.more {w : World} {BW k : Nat} {vps : Value} (h : InvK w BW vps k) : InvK w BW vps (k + 1) := by
  obtain ⟨ei, ec, eg, h, h1, h2, h3⟩ := h
  exact ⟨ei, ec, eg, h, by omega, by omega, by omega⟩

theorem InvK.init (w : World) : InvK (w.alloc (.cells #[.slice none 0 0, .slice none 0 0, .slice none 0 0, .slice none 0 0] 34)) w.heap.size (.slice none 0 0) 0 := by
  have hr : ∀ f : Fam, RowG f (w.alloc (.cells #[.slice none 0 0, .slice none 0 0, .slice none 0 0, .slice none 0 0] 34)) (w.alloc (.cells #[.slice none 0 0, .slice none 0 0, .slice none 0 0, .slice none 0 0] 34)).heap.size w.heap.size (.slice none 0 0) [] :=
    fun f => ⟨World.ownsRow_nil _ _ _ _, fun g hg => by simp [Value.ownBlock] at hg, fun e he => by simp at he⟩
  exact ⟨[], [], [], ⟨_, _, _, heap_alloc_new w _, by simp, hr famI, hr famC, hr famG⟩, by simp, by simp, by simp⟩

theorem InvK.looks {w : World} {BW k : Nat} {vps : Value} (h : InvK w BW vps k) (hk : k ≤ 1466015503701) : Calls Tryz.prog 11 #[.pointer (some ⟨BW, 1, none⟩)] w fun e w' => e = .returned (.bool true) ∧ Below w.heap.size w w' := by
  obtain ⟨ei, ec, eg, h, h1, h2, h3⟩ := h
  exact looksG h (by omega) (by omega) (by omega) (Nat.le_refl _)

set_option maxHeartbeats 1000000 in
set_option maxRecDepth 100000 in
theorem stepG1 {w : World} {BW : Nat} {vps : Value} {ei ec eg : List Ent} (x1 x2 x3 : Int) (s : ByteArray) (la : Option Addr) (ln lc : Nat) (ka : Option Addr) (kn kc : Nat) (l : List Ins)
    (hl : l.length ≤ 4398046511103) (hp : ∀ n cap, Value.slice ka kn kc = .slice none n cap → cap = 0) (hS : Sees w (.slice ka kn kc) l) (h : InvG w w.heap.size BW vps ei ec eg) :
    Calls Tryz.prog 10 #[.pointer (some ⟨BW, 0, none⟩), .agg #[.int .i64 1, .int .i64 x1, .int .i64 x2, .int .i64 x3, .string s, .slice la ln lc, .slice ka kn kc]] w fun e w' => e = .returned (.bool true) ∧ Stepped w BW vps ei ec eg w' := by
  have H := hyd h
  have HP := hyd hp
  have HS := hyd (hS.up (Nat.le_refl _) ((Below.refl _ w).alloc (Nat.le_refl _) (.cells #[.int .i64 1, .int .i64 x1, .int .i64 x2, .int .i64 x3, .string s, .slice la ln lc, .slice ka kn kc] 37)))
  have hBW : BW < w.heap.size := by obtain ⟨_, _, _, _, h4, _⟩ := h; exact h4
  clear h hp hS
  go_enter Tryz.func10, Tryz.ntmps10
  go_wp2_with fail
  refine (lawcoded_any _ _ _ _ _ _ _ _ _ HS.out HP.out hl ⟨_, _, _, rfl⟩).mono ?_
  rintro e w1 ⟨rfl, hb1⟩
  have HB : Hid (Below w.heap.size w w1) := ((Below.refl _ w).alloc (Nat.le_refl _) _).trans (hb1.mono (by simp))
  clear hb1
  go_wp2
  go_ret
  exact ⟨rfl, [], [], [], by simpa using (H.out.up HB.out).wide HB.out.size, ⟨by simp, by simp, by simp⟩, (fun e he => by simp at he), HB.out.mono (by omega), Fst.of_below HB.out⟩

set_option maxHeartbeats 1000000 in
set_option maxRecDepth 100000 in
theorem stepG2 {w : World} {BW : Nat} {vps : Value} {ei ec eg : List Ent} (x1 x2 x3 : Int) (s : ByteArray) (la : Option Addr) (ln lc : Nat) (ka : Option Addr) (kn kc : Nat)
    (hs : s.size ≤ 140737488355328) (h : InvG w w.heap.size BW vps ei ec eg) (hk : ei.length ≤ 1466015503700 ∧ ec.length ≤ 1466015503700 ∧ eg.length ≤ 1466015503700) :
    Calls Tryz.prog 10 #[.pointer (some ⟨BW, 0, none⟩), .agg #[.int .i64 2, .int .i64 x1, .int .i64 x2, .int .i64 x3, .string s, .slice la ln lc, .slice ka kn kc]] w fun e w' => e = .returned (.bool true) ∧ Stepped w BW vps ei ec eg w' := by
  have hBW : BW < w.heap.size := by obtain ⟨_, _, _, _, h4, _⟩ := h; exact h4
  have H := hyd (h.up ((Below.refl _ w).alloc (Nat.le_refl _) (.cells #[.int .i64 2, .int .i64 x1, .int .i64 x2, .int .i64 x3, .string s, .slice la ln lc, .slice ka kn kc] 37)))
  have Hl := hyd hk
  clear h hk
  go_enter Tryz.func10, Tryz.ntmps10
  go_wp2_with fail
  refine (decodedG _ _ _ _ _ _ _ _ _ _ _ hs H.out (by have := Hl.out; omega) (by simp)).mono ?_
  rintro e w1 ⟨rfl, ⟨en, hI⟩, hb1, hf1⟩
  have HI := hyd hI
  have HB : Hid (Below BW w w1) := ((Below.refl BW w).alloc (by omega) _).trans hb1
  have HFs : Hid (Fst BW w w1) := fst_alloc _ hf1
  clear hb1 hI hf1
  go_wp2
  go_ret
  exact ⟨rfl, [], [en], [], by simpa using HI.out, ⟨by simp, by simp, by simp⟩, (fun e he => by simp at he), HB.out, HFs.out⟩

set_option maxHeartbeats 1000000 in
set_option maxRecDepth 100000 in
theorem stepG3 (HJ : JoinsOk) {w : World} {BW : Nat} {vps : Value} {ei ec eg : List Ent} (x1 x2 x3 : Int) (s : ByteArray) (la : Option Addr) (ln lc : Nat) (ka : Option Addr) (kn kc : Nat)
    (hs : s.size ≤ 140737488355328) (h : InvG w w.heap.size BW vps ei ec eg) (hk : ei.length ≤ 1466015503700 ∧ ec.length ≤ 1466015503700 ∧ eg.length ≤ 1466015503700) :
    Calls Tryz.prog 10 #[.pointer (some ⟨BW, 0, none⟩), .agg #[.int .i64 3, .int .i64 x1, .int .i64 x2, .int .i64 x3, .string s, .slice la ln lc, .slice ka kn kc]] w fun e w' => e = .returned (.bool true) ∧ Stepped w BW vps ei ec eg w' := by
  have hBW : BW < w.heap.size := by obtain ⟨_, _, _, _, h4, _⟩ := h; exact h4
  have H := hyd (h.up ((Below.refl _ w).alloc (Nat.le_refl _) (.cells #[.int .i64 3, .int .i64 x1, .int .i64 x2, .int .i64 x3, .string s, .slice la ln lc, .slice ka kn kc] 37)))
  have Hl := hyd hk
  have HJ' := hyd HJ
  clear h hk HJ
  go_enter Tryz.func10, Tryz.ntmps10
  go_wp2_with fail
  refine (joined_any HJ'.out _ _ _ _ _ _ _ _ _ _ _ hs H.out (by have := Hl.out; omega) (by simp)).mono ?_
  rintro e w1 ⟨rfl, ⟨en, hI, hN⟩, hb1, hf1⟩
  have HI := hyd hI
  have HN : Hid (NewEnt w.heap.size en) := fun g hg => Nat.le_trans (by simp) (hN g hg)
  have HB : Hid (Below BW w w1) := ((Below.refl BW w).alloc (by omega) _).trans hb1
  have HFs : Hid (Fst BW w w1) := fst_alloc _ hf1
  clear hb1 hI hf1 hN
  go_wp2
  go_ret
  exact ⟨rfl, [en], [], [], by simpa using HI.out, ⟨by simp, by simp, by simp⟩, (fun e he => by simp at he; subst he; exact HN.out), HB.out, HFs.out⟩

theorem InvK.stepped {w w' : World} {BW k : Nat} {vps : Value} {ei ec eg : List Ent} (h : Stepped w BW vps ei ec eg w') (h1 : ei.length ≤ k) (h2 : ec.length ≤ k) (h3 : eg.length ≤ k) : InvK w' BW vps (k + 1) ∧ Below BW w w' := by
  obtain ⟨ni, nc, ng, a, ⟨b1, b2, b3⟩, -, c, -⟩ := h
  exact ⟨⟨_, _, _, a, by rw [List.length_append]; omega, by rw [List.length_append]; omega, by rw [List.length_append]; omega⟩, c⟩

/-- Scripts of Encode, Decode. -/
theorem keeps12 : Keeps [1, 2] (fun w BW k => InvK w BW (.slice none 0 0) k) where
  init := InvK.init
  up := InvK.up
  more := InvK.more
  looks := InvK.looks
  step := by
    intro w BW k o ho hk h hk2
    obtain ⟨ok, a, b, c, s, la, ln, lc, ka, kn, kc⟩ := o
    obtain ⟨⟨⟨h1, h2, l, h3, h4⟩, -⟩, -⟩ := ho
    simp only [List.mem_cons, List.not_mem_nil, or_false] at hk
    rcases hk with hk | hk
    · subst hk
      obtain ⟨ei, ec, eg, h, l1, l2, l3⟩ := h
      exact (stepG1 a b c s la ln lc ka kn kc l h3 h2 h4 h).mono fun e w' hh => ⟨hh.1, InvK.stepped hh.2 l1 l2 l3⟩
    · subst hk
      obtain ⟨ei, ec, eg, h, l1, l2, l3⟩ := h
      exact (stepG2 a b c s la ln lc ka kn kc h1 h ⟨by omega, by omega, by omega⟩).mono fun e w' hh => ⟨hh.1, InvK.stepped hh.2 l1 l2 l3⟩

/-- Scripts of Joins. -/
theorem keeps3 (HJ : JoinsOk) : Keeps [3] (fun w BW k => InvK w BW (.slice none 0 0) k) where
  init := InvK.init
  up := InvK.up
  more := InvK.more
  looks := InvK.looks
  step := by
    intro w BW k o ho hk h hk2
    obtain ⟨ok, a, b, c, s, la, ln, lc, ka, kn, kc⟩ := o
    obtain ⟨⟨⟨h1, -⟩, -⟩, -⟩ := ho
    simp only [List.mem_cons, List.not_mem_nil, or_false] at hk
    subst hk
    obtain ⟨ei, ec, eg, h, l1, l2, l3⟩ := h
    exact (stepG3 HJ a b c s la ln lc ka kn kc h1 h ⟨by omega, by omega, by omega⟩).mono fun e w' hh => ⟨hh.1, InvK.stepped hh.2 l1 l2 l3⟩

end Go.Proofs.YtbhbacphiinpeaaGreat

/- What 'step' (of loomlaw) answers and keeps: New, and the steps on a machine. -/
namespace Go.Proofs.YtbhbacphiinpeaaGreat
open Go.RowKit

/-- A script's world behind k steps. -/
def InvN (w : World) (BW k : Nat) : Prop := ∃ vps ei ec eg Ps, InvA w BW vps ei ec eg Ps ∧ ei.length ≤ k ∧ ec.length ≤ k ∧ eg.length ≤ k ∧ Ps.length ≤ k

theorem InvN.up {w w' : World} {BW k : Nat} (h : InvN w BW k) (hb : Below w.heap.size w w') : InvN w' BW k := by
  obtain ⟨vps, ei, ec, eg, Ps, h, hl⟩ := h
  exact ⟨vps, ei, ec, eg, Ps, h.up hb, hl⟩
theorem InvN.more {w : World} {BW k : Nat} (h : InvN w BW k) : InvN w BW (k + 1) := by
  obtain ⟨vps, ei, ec, eg, Ps, h, h1, h2, h3, h4⟩ := h
  exact ⟨vps, ei, ec, eg, Ps, h, by omega, by omega, by omega, by omega⟩
theorem InvN.init (w : World) : InvN (w.alloc (.cells #[.slice none 0 0, .slice none 0 0, .slice none 0 0, .slice none 0 0] 34)) w.heap.size 0 := by
  obtain ⟨ei, ec, eg, h, h1, h2, h3⟩ := InvK.init w
  exact ⟨_, ei, ec, eg, [], InvA.nil h, h1, h2, h3, by simp⟩
theorem InvN.looks {w : World} {BW k : Nat} (h : InvN w BW k) (hk : k ≤ 1466015503701) : Calls Tryz.prog 11 #[.pointer (some ⟨BW, 1, none⟩)] w fun e w' => e = .returned (.bool true) ∧ Below w.heap.size w w' := by
  obtain ⟨vps, ei, ec, eg, Ps, h, h1, h2, h3, -⟩ := h
  exact looksG h.g (by omega) (by omega) (by omega) (Nat.le_refl _)

theorem InvN.stepped {w w' : World} {BW k : Nat} {vps : Value} {ei ec eg : List Ent} {Ps : List (Pw × PM)} (h : InvA w BW vps ei ec eg Ps) (hs : Stepped w BW vps ei ec eg w') (h1 : ei.length ≤ k) (h2 : ec.length ≤ k) (h3 : eg.length ≤ k) (h4 : Ps.length ≤ k) : InvN w' BW (k + 1) ∧ Below BW w w' := by
  obtain ⟨ni, nc, ng, a, ⟨b1, b2, b3⟩, d, c, f⟩ := hs
  exact ⟨⟨_, _, _, _, _, h.step a d f c.size, by rw [List.length_append]; omega, by rw [List.length_append]; omega, by rw [List.length_append]; omega, by omega⟩, c⟩
theorem InvN.kept {w w' : World} {BW k : Nat} {vps : Value} {ei ec eg : List Ent} {Ps : List (Pw × PM)} (hs : Kept w BW vps ei ec eg Ps w') (h1 : ei.length ≤ k) (h2 : ec.length ≤ k) (h3 : eg.length ≤ k) (h4 : Ps.length ≤ k) : InvN w' BW (k + 1) ∧ Below BW w w' := by
  obtain ⟨ni, ng, Ps', a, ⟨b1, b2, b3⟩, c, -⟩ := hs
  exact ⟨⟨_, _, _, _, _, a, by rw [List.length_append]; omega, by omega, by rw [List.length_append]; omega, by omega⟩, c⟩

set_option maxHeartbeats 1000000 in
set_option maxRecDepth 100000 in
theorem stepA4 {w : World} {BW k : Nat} (x1 x2 x3 : Int) (s : ByteArray) (la : Option Addr) (ln lc : Nat) (ka : Option Addr) (kn kc : Nat) (hs : s.size ≤ 140737488355328) {l : List Int} (hl : l.length ≤ 17592186044415) (hp : ∀ n cap, Value.slice la ln lc = .slice none n cap → cap = 0) (hz : SeesZ w (.slice la ln lc) l) (h : InvN w BW k) (hk : k ≤ 1466015503700) :
    Calls Tryz.prog 10 #[.pointer (some ⟨BW, 0, none⟩), .agg #[.int .i64 4, .int .i64 x1, .int .i64 x2, .int .i64 x3, .string s, .slice la ln lc, .slice ka kn kc]] w fun e w' => e = .returned (.bool true) ∧ InvN w' BW (k + 1) ∧ Below BW w w' := by
  obtain ⟨vps, ei, ec, eg, Ps, h, h1, h2, h3, h4⟩ := h
  have HB0 : Hid (Below w.heap.size w (w.alloc (.cells #[.int .i64 4, .int .i64 x1, .int .i64 x2, .int .i64 x3, .string s, .slice la ln lc, .slice ka kn kc] 37))) := (Below.refl _ w).alloc (Nat.le_refl _) _
  have H := hyd (h.up HB0.out)
  have hbw := h.bw
  have Hl := hyd (And.intro h1 (And.intro h2 (And.intro h3 h4)))
  have hq := hyd (made_any H.out (by omega) x1 x2 x3 s la ln lc ka kn kc hs hl hp (hz.up (Nat.le_refl _) HB0.out))
  clear h h1 h2 h3 h4 hz
  go_enter Tryz.func10, Tryz.ntmps10
  go_wp2_with fail
  refine hq.out.mono ?_
  rintro e w1 ⟨rfl, vps', Ps', hA, hll, hb1⟩
  have HA := hyd hA
  have HB : Hid (Below BW w w1) := (HB0.out.mono (Nat.le_of_lt hbw)).trans hb1
  have Hll := hyd hll
  clear hA hb1 hll
  go_wp2
  go_ret
  have := Hl.out
  have := Hll.out
  exact ⟨rfl, ⟨_, _, _, _, _, HA.out, by omega, by omega, by omega, by omega⟩, HB.out⟩

/-- A step on a machine, whatever it is. -/
theorem mach_any {w : World} {BW : Nat} {vps : Value} {ei ec eg : List Ent} {Ps : List (Pw × PM)} (h : InvA w BW vps ei ec eg Ps) (h1 : ei.length ≤ 1759218604000) (h3 : eg.length ≤ 1759218604000) {j : Nat} {P : Pw} {m : PM} (hj : Ps[j]? = some (P, m)) (kd a b c : Int) (hkd : 5 ≤ kd ∧ kd ≤ 9) (s : ByteArray) (la : Option Addr) (ln lc : Nat) (ka : Option Addr) (kn kc : Nat) :
    Calls Tryz.prog 16 #[.pointer (some ⟨BW, 0, none⟩), .agg #[.int .i64 kd, .int .i64 a, .int .i64 b, .int .i64 c, .string s, .slice la ln lc, .slice ka kn kc], .pointer (some ⟨P.bP, 0, none⟩)] w fun e w' => e = .returned (.bool true) ∧ Kept w BW vps ei ec eg Ps w' := by
  have hP := List.mem_of_getElem? hj
  rcases (by omega : kd = 5 ∨ kd = 6 ∨ kd = 7 ∨ kd = 8 ∨ kd = 9) with rfl | rfl | rfl | rfl | rfl
  · exact mach5 h h3 hj a b c s la ln lc ka kn kc
  · exact mach6 h hP a b c s la ln lc ka kn kc
  · exact mach7 h h1 hP a b c s la ln lc ka kn kc
  · exact mach8 h h1 hP a b c s la ln lc ka kn kc
  · exact mach9 h hP a b c s la ln lc ka kn kc

theorem kept_cells {w w' : World} {BW g j pn : Nat} {pc : Nat} {ei ec eg : List Ent} {Ps : List (Pw × PM)} {kd x1 x2 x3 : Int} {s : ByteArray} {la : Option Addr} {ln lc : Nat} {ka : Option Addr} {kn kc ob : Nat} {cur : Array Value} {fr : Nat × Nat} {u : Value} (h : Kept w BW (.slice (some ⟨g, 0, none⟩) pn pc) ei ec eg Ps w')
    (hb : w.heap[ob]? = some (.cells #[.int .i64 kd, .int .i64 x1, .int .i64 x2, .int .i64 x3, .string s, .slice la ln lc, .slice ka kn kc] 37)) (hg : w.heap[g]? = some (.cells cur 41 fr)) (hu : w.cell? ⟨g, j, none⟩ = some u) :
    (w'.cell? ⟨ob, 0, none⟩ = some (.int .i64 kd) ∧ w'.cell? ⟨ob, 1, none⟩ = some (.int .i64 x1) ∧ w'.cell? ⟨ob, 2, none⟩ = some (.int .i64 x2) ∧ w'.cell? ⟨ob, 3, none⟩ = some (.int .i64 x3) ∧ w'.cell? ⟨ob, 4, none⟩ = some (.string s) ∧ w'.cell? ⟨ob, 5, none⟩ = some (.slice la ln lc) ∧ w'.cell? ⟨ob, 6, none⟩ = some (.slice ka kn kc)) ∧ w'.cell? ⟨BW, 0, none⟩ = some (.slice (some ⟨g, 0, none⟩) pn pc) ∧ w'.cell? ⟨g, j, none⟩ = some u := by
  obtain ⟨ni, ng, Ps', a, -, -, f⟩ := h
  obtain ⟨_, _, _, g1, -⟩ := a.g
  have e := (f ob _ _ _ hb (.inl rfl)).trans hb
  refine ⟨⟨?_, ?_, ?_, ?_, ?_, ?_, ?_⟩, ?_, ?_⟩
  · rw [cell_of_row w' ob _ _ 37 _ e]; rfl
  · rw [cell_of_row w' ob _ _ 37 _ e]; rfl
  · rw [cell_of_row w' ob _ _ 37 _ e]; rfl
  · rw [cell_of_row w' ob _ _ 37 _ e]; rfl
  · rw [cell_of_row w' ob _ _ 37 _ e]; rfl
  · rw [cell_of_row w' ob _ _ 37 _ e]; rfl
  · rw [cell_of_row w' ob _ _ 37 _ e]; rfl
  · rw [cell_of_row w' BW 0 _ 34 _ g1]; rfl
  · exact (World.cell?_of_block (a := ⟨g, j, none⟩) (f g _ _ _ hg (.inr rfl))).trans hu

set_option maxHeartbeats 2000000 in
set_option maxRecDepth 100000 in
theorem stepA5 {w : World} {BW k : Nat} (kd x1 x2 x3 : Int) (hkd : 5 ≤ kd ∧ kd ≤ 9) (hx1 : I64 x1) (s : ByteArray) (la : Option Addr) (ln lc : Nat) (ka : Option Addr) (kn kc : Nat) (h : InvN w BW k) (hk : k ≤ 1466015503700) :
    Calls Tryz.prog 10 #[.pointer (some ⟨BW, 0, none⟩), .agg #[.int .i64 kd, .int .i64 x1, .int .i64 x2, .int .i64 x3, .string s, .slice la ln lc, .slice ka kn kc]] w fun e w' => e = .returned (.bool true) ∧ InvN w' BW (k + 1) ∧ Below BW w w' := by
  obtain ⟨vps, ei, ec, eg, Ps, h, h1, h2, h3, h4⟩ := h
  have HB0 : Hid (Below w.heap.size w (w.alloc (.cells #[.int .i64 kd, .int .i64 x1, .int .i64 x2, .int .i64 x3, .string s, .slice la ln lc, .slice ka kn kc] 37))) := (Below.refl _ w).alloc (Nat.le_refl _) _
  have X0 := hyd (heap_alloc_new w (.cells #[.int .i64 kd, .int .i64 x1, .int .i64 x2, .int .i64 x3, .string s, .slice la ln lc, .slice ka kn kc] 37))
  have HA := hyd (h.up HB0.out)
  have hbw := h.bw
  have Hl := hyd (And.intro h1 (And.intro h2 (And.intro h3 h4)))
  have k1 : (kd == 1) = false := by simp; omega
  have k2 : (kd == 2) = false := by simp; omega
  have k3 : (kd == 3) = false := by simp; omega
  have k4 : (kd == 4) = false := by simp; omega
  have k5 : decide (kd < 5) = false := by simp; omega
  have k9 : decide (9 < kd) = false := by simp; omega
  have HK := hyd hkd
  obtain ⟨vi, vc, vg, g1, -⟩ := HA.out.g
  have G1 := hyd g1
  have R1 := hyd HA.out.row
  obtain ⟨pn, Hpn⟩ : ∃ pn, Hid (Ps.length = pn) := ⟨_, rfl⟩
  rw [Hpn.out] at R1 h4
  obtain ⟨pa, pc, hv⟩ := slice_ofM R1.out
  subst hv
  have H := hyd h
  clear h h1 h2 h3 g1 hkd
  go_enter Tryz.func10, Tryz.ntmps10
  go_upto_region 10 with fail
  generalize w.alloc (.cells #[.int .i64 kd, .int .i64 x1, .int .i64 x2, .int .i64 x3, .string s, .slice la ln lc, .slice ka kn kc] 37) = w1 at HB0 X0 HA G1 R1 ⊢
  have c0 : w1.cell? ⟨BW, 0, none⟩ = some (.slice pa pn pc) := by rw [cell_of_row w1 BW 0 _ 34 _ G1.out]; rfl
  have o0 : w1.cell? ⟨w.heap.size, 0, none⟩ = some (.int .i64 kd) := by rw [cell_of_row w1 w.heap.size 0 _ 37 _ X0.out]; rfl
  have o1 : w1.cell? ⟨w.heap.size, 1, none⟩ = some (.int .i64 x1) := by rw [cell_of_row w1 w.heap.size 1 _ 37 _ X0.out]; rfl
  have o2 : w1.cell? ⟨w.heap.size, 2, none⟩ = some (.int .i64 x2) := by rw [cell_of_row w1 w.heap.size 2 _ 37 _ X0.out]; rfl
  have o3 : w1.cell? ⟨w.heap.size, 3, none⟩ = some (.int .i64 x3) := by rw [cell_of_row w1 w.heap.size 3 _ 37 _ X0.out]; rfl
  have o4 : w1.cell? ⟨w.heap.size, 4, none⟩ = some (.string s) := by rw [cell_of_row w1 w.heap.size 4 _ 37 _ X0.out]; rfl
  have o5 : w1.cell? ⟨w.heap.size, 5, none⟩ = some (.slice la ln lc) := by rw [cell_of_row w1 w.heap.size 5 _ 37 _ X0.out]; rfl
  have o6 : w1.cell? ⟨w.heap.size, 6, none⟩ = some (.slice ka kn kc) := by rw [cell_of_row w1 w.heap.size 6 _ 37 _ X0.out]; rfl
  by_cases hp0 : pn = 0
  · subst hp0
    go_wp2_with fail
    go_ret
    have := Hl.out
    exact ⟨rfl, ⟨_, _, _, _, _, HA.out, by omega, by omega, by omega, by omega⟩, HB0.out.mono (Nat.le_of_lt hbw)⟩
  · have hpb : ((pn : Int) == 0) = false := by simp; omega
    obtain ⟨j, hj⟩ : ∃ j, pickN x1 pn = j := ⟨_, rfl⟩
    have hjl : j < pn := by rw [← hj]; exact pickN_lt _ _ (by omega)
    have hpk := hyd (lawpick_any x1 (pn : Int) pn rfl hx1 (by omega) (by omega))
    rw [hj] at hpk
    obtain ⟨⟨P, m⟩, hPj⟩ : ∃ p, Ps[j]? = some p := ⟨_, List.getElem?_eq_getElem (by rw [Hpn.out]; exact hjl)⟩
    have HPj := hyd hPj
    obtain ⟨g, hg⟩ : ∃ g, pa = some ⟨g, 0, none⟩ := by
      rcases R1.out.2 with ⟨h0, h00⟩ | ⟨g, cap', cur, hv, -⟩
      · omega
      · simp only [Value.slice.injEq] at hv; exact ⟨g, hv.1⟩
    subst hg
    have cp : w1.cell? ⟨g, j, none⟩ = some (.pointer (some ⟨P.bP, 0, none⟩)) := by
      rw [R1.out.cellAt j (by omega), List.getElem?_map, hPj]; rfl
    obtain ⟨cur, GR0⟩ := owns_blk R1.out
    have GR := hyd GR0
    clear GR0
    have j1 : (0 : Int) ≤ (j : Int) := by omega
    have j2 : (j : Int) < (pn : Int) := by omega
    have hma := hyd (fun wx (hb : Below w1.heap.size w1 wx) => mach_any (HA.out.up hb) (by have := Hl.out; omega) (by have := Hl.out; omega) HPj.out kd x1 x2 x3 HK.out s la ln lc ka kn kc)
    clear hPj hp0 hj
    go_upto_region 12 with fail
    go_region_held3 (fun w' => (w'.cell? ⟨w.heap.size, 0, none⟩ = some (.int .i64 kd) ∧ w'.cell? ⟨w.heap.size, 1, none⟩ = some (.int .i64 x1) ∧ w'.cell? ⟨w.heap.size, 2, none⟩ = some (.int .i64 x2) ∧ w'.cell? ⟨w.heap.size, 3, none⟩ = some (.int .i64 x3) ∧ w'.cell? ⟨w.heap.size, 4, none⟩ = some (.string s) ∧ w'.cell? ⟨w.heap.size, 5, none⟩ = some (.slice la ln lc) ∧ w'.cell? ⟨w.heap.size, 6, none⟩ = some (.slice ka kn kc)) ∧ w'.cell? ⟨BW, 0, none⟩ = some (.slice (some ⟨g, 0, none⟩) pn pc) ∧ w'.cell? ⟨g, j, none⟩ = some (.pointer (some ⟨P.bP, 0, none⟩))) (first | go_keep | exact kS | exact ⟨⟨o0, o1, o2, o3, o4, o5, o6⟩, c0, cp⟩) (first | (go_at_call 17; refine (hpk.out _).mono ?_; rintro e w2 ⟨rfl, rfl⟩) | (go_at_call 16; refine (hma.out _ (by first | exact (Below.refl _ _).drew | exact (Below.refl _ _))).mono ?_; rintro e w3 ⟨rfl, hk3⟩; have kS := kept_cells hk3 (show w1.drew.heap[w.heap.size]? = _ from X0.out) (show w1.drew.heap[g]? = _ from GR.out) cp))
    have K3 := hyd hk3
    clear hk3 kS
    have HBd : Hid (Below w.heap.size w w1.drew) := HB0.out.drew
    go_wp2_with fail
    go_ret
    have hl := Hl.out
    have hh := InvN.kept (k := k) K3.out hl.1 hl.2.1 hl.2.2.1 hl.2.2.2
    exact ⟨rfl, hh.1, (HBd.out.mono (Nat.le_of_lt hbw)).trans hh.2⟩

/-- Scripts of whatever kinds. -/
theorem keepsN (ks : List Int) (hks : ∀ k ∈ ks, 1 ≤ k ∧ k ≤ 9) : Keeps ks InvN where
  init := InvN.init
  up := InvN.up
  more := InvN.more
  looks := InvN.looks
  step := by
    intro w BW k o ho hk h hk2
    obtain ⟨ok, a, b, c, s, la, ln, lc, ka, kn, kc⟩ := o
    obtain ⟨⟨⟨q1, q2, l, q3, q4⟩, -, i1, -⟩, z1, z, ⟨z2, -⟩, z3⟩ := ho
    have hr := hks _ hk
    dsimp only at hr q1 q2 q3 q4 i1 z1 z2 z3
    by_cases h4 : ok ≤ 3
    · obtain ⟨vps, ei, ec, eg, Ps, h, l1, l2, l3, l4⟩ := h
      rcases (by omega : ok = 1 ∨ ok = 2 ∨ ok = 3) with rfl | rfl | rfl
      · exact (stepG1 a b c s la ln lc ka kn kc l q3 q2 q4 h.g).mono fun e w' hh => ⟨hh.1, InvN.stepped h hh.2 l1 l2 l3 l4⟩
      · exact (stepG2 a b c s la ln lc ka kn kc q1 h.g ⟨by omega, by omega, by omega⟩).mono fun e w' hh => ⟨hh.1, InvN.stepped h hh.2 l1 l2 l3 l4⟩
      · exact (stepG3 joinsOk a b c s la ln lc ka kn kc q1 h.g ⟨by omega, by omega, by omega⟩).mono fun e w' hh => ⟨hh.1, InvN.stepped h hh.2 l1 l2 l3 l4⟩
    · by_cases h5 : ok = 4
      · subst h5
        exact stepA4 a b c s la ln lc ka kn kc q1 z2 z1 z3 h hk2
      · exact stepA5 ok a b c ⟨by omega, hr.2⟩ i1 s la ln lc ka kn kc h hk2

end Go.Proofs.YtbhbacphiinpeaaGreat

/- What News, Turns, Looks and All answer. -/
namespace Go.Proofs.YtbhbacphiinpeaaGreat
open Go.RowKit

theorem kinds_at {w : World} {ks : List Int} {o : Array Value} (h : o = (ks.map (Value.int .i64)).toArray) (j : Nat) (x : Int) (hx : ks[j]? = some x) : (w.alloc (.cells o 3)).cell? ⟨w.heap.size, j, none⟩ = some (.int .i64 x) := by
  rw [cell_of_row _ w.heap.size j _ 3 (0, 0) (heap_alloc_new w _), h]
  simp [hx]

set_option maxHeartbeats 400000 in
theorem lawNews_any {w : World} {v : Value} {l : List Opv} (h : SeesO2 w v l) :
    Calls Tryz.prog 5 #[v] w fun e w' => e = .returned (.bool true) ∧ Below w.heap.size w w' := by
  have HS := hyd (h.up ((Below.refl _ w).alloc (Nat.le_refl _) (.cells #[.int .i64 4, .int .i64 6, .int .i64 7, .int .i64 8, .int .i64 9] 3)))
  have HK := hyd (keepsN [4, 6, 7, 8, 9] (by decide))
  clear h
  go_enter Tryz.func5, Tryz.ntmps5
  go_wp2_with fail
  refine (plays_gen (ks := [4, 6, 7, 8, 9]) HK.out (by decide) HS.out (kb := w.heap.size) (kcap := 5) (by simp) (fun j x hx => kinds_at rfl j x hx)).mono ?_
  rintro e w1 ⟨rfl, hb1⟩
  have HB : Hid (Below w.heap.size w w1) := ((Below.refl _ w).alloc (Nat.le_refl _) _).trans (hb1.mono (by simp))
  clear hb1
  go_wp2
  go_ret
  exact ⟨rfl, HB.out⟩

set_option maxHeartbeats 400000 in
theorem lawTurns_any {w : World} {v : Value} {l : List Opv} (h : SeesO2 w v l) :
    Calls Tryz.prog 6 #[v] w fun e w' => e = .returned (.bool true) ∧ Below w.heap.size w w' := by
  have HS := hyd (h.up ((Below.refl _ w).alloc (Nat.le_refl _) (.cells #[.int .i64 4, .int .i64 5] 3)))
  have HK := hyd (keepsN [4, 5] (by decide))
  clear h
  go_enter Tryz.func6, Tryz.ntmps6
  go_wp2_with fail
  refine (plays_gen (ks := [4, 5]) HK.out (by decide) HS.out (kb := w.heap.size) (kcap := 2) (by simp) (fun j x hx => kinds_at rfl j x hx)).mono ?_
  rintro e w1 ⟨rfl, hb1⟩
  have HB : Hid (Below w.heap.size w w1) := ((Below.refl _ w).alloc (Nat.le_refl _) _).trans (hb1.mono (by simp))
  clear hb1
  go_wp2
  go_ret
  exact ⟨rfl, HB.out⟩

set_option maxHeartbeats 400000 in
theorem lawLooks_any {w : World} {v : Value} {l : List Opv} (h : SeesO2 w v l) :
    Calls Tryz.prog 7 #[v] w fun e w' => e = .returned (.bool true) ∧ Below w.heap.size w w' := by
  have HS := hyd (h.up ((Below.refl _ w).alloc (Nat.le_refl _) (.cells #[.int .i64 4, .int .i64 5, .int .i64 6, .int .i64 7, .int .i64 8, .int .i64 9] 3)))
  have HK := hyd (keepsN [4, 5, 6, 7, 8, 9] (by decide))
  clear h
  go_enter Tryz.func7, Tryz.ntmps7
  go_wp2_with fail
  refine (plays_gen (ks := [4, 5, 6, 7, 8, 9]) HK.out (by decide) HS.out (kb := w.heap.size) (kcap := 6) (by simp) (fun j x hx => kinds_at rfl j x hx)).mono ?_
  rintro e w1 ⟨rfl, hb1⟩
  have HB : Hid (Below w.heap.size w w1) := ((Below.refl _ w).alloc (Nat.le_refl _) _).trans (hb1.mono (by simp))
  clear hb1
  go_wp2
  go_ret
  exact ⟨rfl, HB.out⟩

set_option maxHeartbeats 400000 in
theorem lawAll_any {w : World} {v : Value} {l : List Opv} (h : SeesO2 w v l) :
    Calls Tryz.prog 8 #[v] w fun e w' => e = .returned (.bool true) ∧ Below w.heap.size w w' := by
  have HS := hyd (h.up ((Below.refl _ w).alloc (Nat.le_refl _) (.cells #[.int .i64 1, .int .i64 2, .int .i64 3, .int .i64 4, .int .i64 5, .int .i64 6, .int .i64 7, .int .i64 8, .int .i64 9] 3)))
  have HK := hyd (keepsN [1, 2, 3, 4, 5, 6, 7, 8, 9] (by decide))
  clear h
  go_enter Tryz.func8, Tryz.ntmps8
  go_wp2_with fail
  refine (plays_gen (ks := [1, 2, 3, 4, 5, 6, 7, 8, 9]) HK.out (by decide) HS.out (kb := w.heap.size) (kcap := 9) (by simp) (fun j x hx => kinds_at rfl j x hx)).mono ?_
  rintro e w1 ⟨rfl, hb1⟩
  have HB : Hid (Below w.heap.size w w1) := ((Below.refl _ w).alloc (Nat.le_refl _) _).trans (hb1.mono (by simp))
  clear hb1
  go_wp2
  go_ret
  exact ⟨rfl, HB.out⟩

end Go.Proofs.YtbhbacphiinpeaaGreat

