/- What loomkeep's goes answers of a thread's way: true. -/
import Derived.Test.YtbhbacphiinpeaaTo
namespace Go.Proofs.Ytbhbacphiinpeaa
open Go.RowKit

/-- A way of the kernel from its beginning to its last instruction. -/
structure WayOk (k : List Ins) (tr : List Int) : Prop where
  head : tr[0]? = some 0
  last : tr[tr.length - 1]? = some ((k.length : Int) - 1)
  step : ∀ (i : Nat) a b, tr[i]? = some a → tr[i + 1]? = some b → ∃ (n : Nat) (x : Ins), a = (n : Int) ∧ k[n]? = some x ∧ x.o ≠ 0 ∧ ((x.o = 12 ∧ b = x.b) ∨ (x.o ≠ 12 ∧ b = (n : Int) + 1) ∨ (x.o = 13 ∧ b = x.b))

theorem Pth.head {k : List Ins} {tr : List Int} {s s' : SS} (h : Pth k tr s s') {a : Int} (ha : tr[0]? = some a) : a = (s.pc : Int) := by
  rcases h.parts with ⟨rfl, -⟩ | ⟨y, tr2, rfl, -⟩ | ⟨y, rfl, -⟩
  · simp at ha
  · simp at ha; exact ha.symm
  · simp at ha; exact ha.symm

theorem Pth.steps {k : List Ins} {al : Bool} {ls le : Nat} (hk : KK k al ls le) {tr : List Int} {s s' : SS} (h : Pth k tr s s') : ∀ (i : Nat) a b, tr[i]? = some a → tr[i + 1]? = some b → ∃ (n : Nat) (x : Ins), a = (n : Int) ∧ k[n]? = some x ∧ x.o ≠ 0 ∧ ((x.o = 12 ∧ b = x.b) ∨ (x.o ≠ 12 ∧ b = (n : Int) + 1) ∨ (x.o = 13 ∧ b = x.b)) := by
  induction h using Pth.ind with
  | refl s => intro i a b ha; simp at ha
  | step hx h0 hP ih =>
    rename_i s0 s1 x tr0
    intro i a b ha hb
    cases i with
    | zero =>
      simp at ha hb
      have hb' : tr0[0]? = some b := by simpa using hb
      have e := hP.head hb'
      obtain ⟨y, hy, hy0, hc⟩ := nxt_cases (sstep_nxt hx h0)
      have exy : x = y := Option.some.inj (hx.symm.trans hy)
      subst exy
      refine ⟨s0.pc, x, ha.symm, hx, h0, ?_⟩
      rcases hc with ⟨hj, hm⟩ | ⟨h12, hm⟩
      · have := (hk.jmp hx hj).1
        rcases hj with hj | hj
        · exact .inl ⟨hj, by rw [e, hm]; omega⟩
        · exact .inr (.inr ⟨hj, by rw [e, hm]; omega⟩)
      · exact .inr (.inl ⟨h12, by rw [e, hm]; omega⟩)
    | succ i => exact ih i a b (by simpa using ha) (by simpa using hb)
  | exit hx h0 =>
    intro i a b ha hb
    simp at hb

theorem Pth.wayOk {k : List Ins} {al : Bool} {ls le : Nat} (hk : KK k al ls le) {tr : List Int} {s s' : SS} (h : Pth k tr s s') (h0 : s.pc = 0) (hd : s.t.done = false) (hd' : s'.t.done = true) : WayOk k tr := by
  obtain ⟨u, hu⟩ := h.last hd hd' hk.exit fun s x hx h0 => sstep_done hx h0
  have hl := hk.len
  refine ⟨?_, ?_, h.steps hk⟩
  · obtain ⟨a, ha⟩ : ∃ a, tr[0]? = some a := ⟨_, List.getElem?_eq_getElem (by rw [hu]; simp)⟩
    rw [ha, h.head ha, h0]; rfl
  · rw [hu]
    simp
    omega

set_option maxHeartbeats 4000000 in
set_option maxRecDepth 100000 in
theorem goes_any {w : World} {vk vl : Value} {k : List Ins} {tr : List Int} (hk : Sees w vk k) (hk40 : 1 ≤ k.length ∧ k.length ≤ 40) (hl : SeesZ w vl tr) (ht : tr.length ≤ 100000) (H : WayOk k tr) :
    Calls Try.prog 26 #[vk, vl] w fun e w' => e = .returned (.bool true) ∧ Below w.heap.size w w' := by
  rcases hk.2 with ⟨h0, -⟩ | ⟨bk, ok, ck, rfl, hbk, hck⟩
  · rw [h0] at hk40; simp at hk40
  rcases hl.2 with ⟨h0, -⟩ | ⟨bl, ol, cl, rfl, hbl, hcl⟩
  · have := H.head; rw [h0] at this; simp at this
  have HK := hyd hck
  have HL := hyd hcl
  have HW := hyd H
  obtain ⟨N, HN⟩ : ∃ N, Hid (k.length = N) := ⟨_, rfl⟩
  obtain ⟨m, Hm⟩ : ∃ m, Hid (tr.length = m) := ⟨_, rfl⟩
  have hm1 : 1 ≤ m := by
    rw [← Hm.out]
    have := (List.getElem?_eq_some_iff.1 H.head).1
    omega
  have l0 : w.cell? ⟨bl, ol, none⟩ = some (.int .i64 0) := hcl 0 0 H.head
  have l1 : w.cell? ⟨bl, ol + (m - 1), none⟩ = some (.int .i64 ((N : Int) - 1)) := by
    have := hcl _ _ H.last
    rw [Hm.out, HN.out] at this
    exact this
  rw [HN.out] at hk40
  rw [Hm.out] at ht
  rw [HN.out, Hm.out]
  clear hk hl H hck hcl
  have m1 : (1 : Int) ≤ (m : Int) := by omega
  have m2 : (m : Int) ≤ 100000 := by omega
  have N1 : (1 : Int) ≤ (N : Int) := by omega
  have N2 : (N : Int) ≤ 40 := by omega
  go_enter Try.func26, Try.ntmps26
  go_wp2_with fail
  clear l0 l1
  go_loopw [5] (fun iv wr => ∃ i : Nat, 1 ≤ i ∧ i ≤ m ∧ iv = .int .i64 i ∧ Hid (Below w.heap.size w wr)) (fun iv _ => m + 1 - (intOf iv).toNat)
  case atStart => exact ⟨1, by omega, by omega, rfl, Below.refl _ _⟩
  case round =>
    obtain ⟨i, hi1, hi2, rfl, HBr⟩ := hrel
    have i0 : (1 : Int) ≤ (i : Int) := by omega
    have i1 : (i : Int) ≤ (m : Int) := by omega
    by_cases hi : i < m
    · have i3 : (i : Int) < (m : Int) := by omega
      obtain ⟨a, ha⟩ : ∃ a, tr[i - 1]? = some a := ⟨_, List.getElem?_eq_getElem (by rw [Hm.out]; omega)⟩
      obtain ⟨b, hb⟩ : ∃ b, tr[i]? = some b := ⟨_, List.getElem?_eq_getElem (by rw [Hm.out]; omega)⟩
      obtain ⟨n, x, rfl, hx, h0, hcase⟩ := HW.out.step (i - 1) a b ha (by rw [show i - 1 + 1 = i by omega]; exact hb)
      have hnN : n < N := by rw [← HN.out]; exact (List.getElem?_eq_some_iff.1 hx).1
      have ca : wr.cell? ⟨bl, ol + (i - 1), none⟩ = some (.int .i64 n) := (HBr.out.cell (p := ⟨bl, ol + (i - 1), none⟩) hbl).trans (HL.out _ _ ha)
      have cb : wr.cell? ⟨bl, ol + i, none⟩ = some (.int .i64 b) := (HBr.out.cell (p := ⟨bl, ol + i, none⟩) hbl).trans (HL.out _ _ hb)
      obtain ⟨co, -, cbb, -⟩ := HK.out n x hx
      have co' := (HBr.out.cell (p := ⟨bk, ok + n * 4, none⟩) hbk).trans co
      have cb' := (HBr.out.cell (p := ⟨bk, ok + n * 4 + 2, none⟩) hbk).trans cbb
      obtain ⟨xo, xa, xb, xc⟩ := x
      dsimp only at h0 hcase co' cb'
      clear ha hb hx co cbb
      have n0 : (0 : Int) ≤ (n : Int) := by omega
      have n1 : (n : Int) < (N : Int) := by omega
      by_cases h12 : xo = 12
      · subst h12
        have e : b = xb := by
          rcases hcase with ⟨-, h⟩ | ⟨h, -⟩ | ⟨h, -⟩
          · exact h
          · exact absurd rfl h
          · omega
        subst e
        clear hcase
        go_wp2_with fail
        go_quiet (fail)
        generalize hw : World.drewN wr _ = w3
        have hB : Below wr.heap.size wr w3 := by rw [← hw]; exact ⟨rfl, rfl, rfl, Nat.le_refl _, fun _ _ => rfl⟩
        have HB3 := hyd (HBr.out.trans (hB.mono HBr.out.size))
        clear hw hB
        go_wp2_with fail
        refine ⟨⟨i + 1, by omega, by omega, rfl, HB3⟩, ?_⟩
        simp only [intOf]; omega
      · by_cases h13 : xo = 13
        · subst h13
          by_cases hbn : b = (n : Int) + 1
          · subst hbn
            clear hcase
            go_wp2_with fail
            go_quiet (fail)
            generalize hw : World.drewN wr _ = w3
            have hB : Below wr.heap.size wr w3 := by rw [← hw]; exact ⟨rfl, rfl, rfl, Nat.le_refl _, fun _ _ => rfl⟩
            have HB3 := hyd (HBr.out.trans (hB.mono HBr.out.size))
            clear hw hB
            go_wp2_with fail
            refine ⟨⟨i + 1, by omega, by omega, rfl, HB3⟩, ?_⟩
            simp only [intOf]; omega
          · have e : b = xb := by
              rcases hcase with ⟨h, -⟩ | ⟨-, h⟩ | ⟨-, h⟩
              · omega
              · exact absurd h hbn
              · exact h
            subst e
            clear hcase
            go_wp2_with fail
            go_quiet (fail)
            generalize hw : World.drewN wr _ = w3
            have hB : Below wr.heap.size wr w3 := by rw [← hw]; exact ⟨rfl, rfl, rfl, Nat.le_refl _, fun _ _ => rfl⟩
            have HB3 := hyd (HBr.out.trans (hB.mono HBr.out.size))
            clear hw hB
            go_wp2_with fail
            refine ⟨⟨i + 1, by omega, by omega, rfl, HB3⟩, ?_⟩
            simp only [intOf]; omega
        · have e : b = (n : Int) + 1 := by
            rcases hcase with ⟨h, -⟩ | ⟨-, h⟩ | ⟨h, -⟩
            · exact absurd h h12
            · exact h
            · exact absurd h h13
          subst e
          clear hcase
          go_wp2_with fail
          refine ⟨⟨i + 1, by omega, by omega, rfl, HBr⟩, ?_⟩
          simp only [intOf]; omega
    · have e : i = m := by omega
      subst e
      have c1 : decide ((i : Int) < (i : Int)) = false := by simp
      go_wp2_with fail
      go_ret
      exact ⟨rfl, HBr.out⟩

end Go.Proofs.Ytbhbacphiinpeaa
