/- Groups of threads of a made kernel: a run to its end hangs on its own threads alone. Plain lists; nothing of the program is in this text. -/
import Derived.Test.YtbhbacphiinpeaaTg
namespace Go.Proofs.Ytbhbacphiinpeaa
open Go.RowKit

theorem sums_filter (k : List Ins) (ls le : Nat) (vs : VS) (pc : Nat) (P : Nat → Bool) (g : List Nat) : sums k ls le vs pc (g.filter P) + sums k ls le vs pc (g.filter fun t => !P t) = sums k ls le vs pc g := sumP_filter _ _ _

theorem run_loc {k : List Ins} {J : List Int} {ls le bud first : Nat} (hk : KK k false ls le) (hJ : Joined k J) : ∀ (f : Nat) (g : List Nat) (vs : VS) (n0 opn pc : Nat) (to : Int), g ≠ [] → (g.map (· % 4)).Nodup → (∀ t ∈ g, SInv k false ls le (sv vs pc t) ∧ (vs t).1.name = ((first + t : Nat) : Int)) → Mode k opn pc to → n0 + sums k ls le vs pc g < bud → sums k ls le vs pc g ≤ f →
    ∃ rows pc' vs' wt, Sta k g vs vs' pc pc' rows ∧ EndS k g opn vs' pc' to rows wt ∧ ∀ p, PreD first p g vs n0 opn → Dyn first p (runP k J bud f p g pc to) g vs' rows ∧ (runP k J bud f p g pc to).waits = wt ∧ (wt = true → (runP k J bud f p g pc to).at0 = (pc' : Int)) := by
  intro f
  induction f with
  | zero =>
    intro g vs n0 opn pc to hne hl hi hm hb hf
    obtain ⟨t, ht⟩ : ∃ t, t ∈ g := by
      cases g with
      | nil => exact absurd rfl hne
      | cons u l => exact ⟨u, by simp⟩
    have h1 := sumP_mem (f := fun t => sphi k false ls le (sv vs pc t)) ht
    have h2 := sphi_pos (al := false) (ls := ls) (le := le) (hi t ht).1.pc
    unfold sums at hf
    omega
  | succ F ih =>
    intro g vs n0 opn pc to hne hl hi hm hb hf
    have hal : ∀ t ∈ g, (vs t).1.done = false := fun t ht => (hi t ht).1.done
    have hlive : ∀ p, PreD first p g vs n0 opn → liveL p.ts g = g := fun p hp => by
      unfold liveL
      rw [List.filter_eq_self]
      intro t ht
      unfold isDone
      rw [(hp.loc t ht).1, hal t ht]; rfl
    by_cases hto : (pc : Int) = to
    · refine ⟨[], pc, vs, false, Sta.refl _ _ _ _, .inr ⟨rfl, fun r hr => by simp at hr, .inr ⟨hto.symm, hal⟩⟩, fun p hp => ?_⟩
      have e : runP k J bud (F + 1) p g pc to = p := by
        rw [runP, if_neg (by simp [hp.ends, hp.waits]), if_pos (.inr hto)]
      rw [e]
      exact ⟨Dyn.refl hp, hp.waits, fun h => by simp at h⟩
    obtain ⟨t0, ht0⟩ : ∃ t, t ∈ g := by
      cases g with
      | nil => exact absurd rfl hne
      | cons u l => exact ⟨u, by simp⟩
    have hpc : pc < k.length := (hi t0 ht0).1.pc
    have hnd : g.Nodup := (List.pairwise_map.1 hl).imp fun h e => h (congrArg (· % 4) e)
    have hG : ∀ p, PreD first p g vs n0 opn → Goes bud p g pc to := fun p hp => ⟨hp.ends, hp.waits, hlive p hp, hne, hto, by rw [hp.steps]; omega⟩
    obtain ⟨x, hx⟩ : ∃ x, k[pc]? = some x := ⟨_, List.getElem?_eq_getElem hpc⟩
    have hgl : 1 ≤ g.length := List.length_pos_iff.2 hne
    -- going on
    have on : ∀ (m : Nat) (vs1 : VS) (rows0 : List (Int × Int)), Sta k g vs vs1 pc m rows0 → 1 ≤ rows0.length → NoW k rows0 → (∀ t ∈ g, (vs1 t).1.done = false) → Mode k opn m to →
        (∀ p, PreD first p g vs n0 opn → ∃ q, Dyn first p q g vs1 rows0 ∧ q.waits = false ∧ runP k J bud (F + 1) p g pc to = runP k J bud F q g m to) →
        ∃ rows pc' vs' wt, Sta k g vs vs' pc pc' rows ∧ EndS k g opn vs' pc' to rows wt ∧ ∀ p, PreD first p g vs n0 opn → Dyn first p (runP k J bud (F + 1) p g pc to) g vs' rows ∧ (runP k J bud (F + 1) p g pc to).waits = wt ∧ (wt = true → (runP k J bud (F + 1) p g pc to).at0 = (pc' : Int)) := fun m vs1 rows0 hs h1 hnw hd hmo hst => by
      obtain ⟨i1, s1⟩ := hs.pre hk hl (fun t ht => (hi t ht).1) hd
      obtain ⟨rows, pc', vs', wt, g1, g2, g3⟩ := ih g vs1 (n0 + rows0.length) opn m to hne hl (fun t ht => ⟨i1 t ht, by
        have := (hs.path t ht).name (sstep_name k)
        have e : (vs1 t).1.name = (vs t).1.name := this
        rw [e]; exact (hi t ht).2⟩) hmo (by omega) (by omega)
      refine ⟨rows0 ++ rows, pc', vs', wt, hs.trans hd g1, g2.cons hnw, fun p hp => ?_⟩
      obtain ⟨q, d1, w1, e⟩ := hst p hp
      obtain ⟨d2, w2, a2⟩ := g3 q (d1.pre hp w1)
      rw [e]
      exact ⟨d1.trans d2, w2, a2⟩
    have nw1 : x.o ≠ 14 → NoW k [((pc : Int), ((bits g : Nat) : Int))] := fun h r hr hq => by
      simp at hr
      subst hr
      simp only [Int.toNat_natCast] at hq
      unfold isW at hq
      rw [hx] at hq
      cases hq
      simp at h
    by_cases h0 : x.o = 0
    · have hlast := (hk.exit pc x hx).1 h0
      have hto1 : to = -1 := by
        rcases hm with h | ⟨-, d, rfl, -, h | ⟨h, -⟩⟩
        · exact h.2
        · omega
        · exact absurd h (hJ.noPsd hlast)
      refine ⟨[((pc : Int), ((bits g : Nat) : Int))], pc + 1, fun t => ({ (vs t).1 with done := true }, (vs t).2), false, Sta.one hx hl hne fun t ht => ?_, .inr ⟨rfl, nw1 (by omega), .inl ⟨hto1, by omega, fun t _ => rfl, by simp⟩⟩, fun p hp => ?_⟩
      · rw [sstep_exit (s := sv vs pc t) hx h0]; rfl
      · have e := step_exit (J := J) (F := F) (hG p hp) hx h0 hp.lt
        rw [e]
        refine ⟨⟨(doneAll_keeps g p.ts).1, rfl, fun t ht => ?_, fun _ _ => rfl, rfl, rfl, rfl, rfl, rfl, rfl, fun t ht => ?_⟩, hp.waits, fun h => by simp at h⟩
        · show (doneAll p.ts g).getD t thr0 = _
          rw [doneAll_get, if_neg (fun h => ht h.1)]
        · show (doneAll p.ts g).getD t thr0 = _ ∧ p.mem.getD (first + t) 0 = _
          rw [doneAll_get, if_pos ⟨ht, hp.lt t ht⟩, (hp.loc t ht).1, (hp.loc t ht).2]
          exact ⟨rfl, rfl⟩
    by_cases h12 : x.o = 12
    · obtain ⟨j1, j2, -⟩ := hk.jmp hx (.inl h12)
      refine on x.b.toNat vs _ (Sta.one hx hl hne fun t ht => ?_) (by simp) (nw1 (by omega)) hal (mode_next hk hJ hm hto (nxt_jump hx (.inl h12)) (by omega)) fun p hp => ⟨issuedP p g pc, Dyn.still hp rfl rfl rfl rfl rfl rfl rfl rfl, hp.waits, ?_⟩
      · rw [sstep_jump (s := sv vs pc t) hx h12]; rfl
      · have e := step_jump (J := J) (F := F) (hG p hp) hx h12
        rw [show x.b = ((x.b.toNat : Nat) : Int) by omega] at e
        exact e
    by_cases h13 : x.o = 13
    · obtain ⟨j1, j2, -⟩ := hk.jmp hx (.inr h13)
      have jb : x.b = ((x.b.toNat : Nat) : Int) := by omega
      have hn1 : pc + 1 < k.length := (hk.one hx h0 h12).1
      have zt : ∀ t, zz vs x.a t = true → sstep k (sv vs pc t) = sv vs x.b.toNat t := fun t hz => by
        rw [sstep_zero (s := sv vs pc t) hx h13, if_pos (by simpa [zz, sv] using hz)]; rfl
      have zf : ∀ t, zz vs x.a t = false → sstep k (sv vs pc t) = sv vs (pc + 1) t := fun t hz => by
        rw [sstep_zero (s := sv vs pc t) hx h13, if_neg (by simpa [zz, sv] using hz)]; rfl
      have nb := nxt_jump hx (.inr h13)
      have n1 := nxt_own hx h0 h12
      by_cases c1 : g.filter (fun t => !zz vs x.a t) = []
      · have hz : ∀ t ∈ g, zz vs x.a t = true := fun t ht => by have := List.filter_eq_nil_iff.1 c1 t ht; simpa using this
        refine on x.b.toNat vs _ (Sta.one hx hl hne fun t ht => zt t (hz t ht)) (by simp) (nw1 (by omega)) hal (mode_next hk hJ hm hto nb (by omega)) fun p hp => ⟨issuedP p g pc, Dyn.still hp rfl rfl rfl rfl rfl rfl rfl rfl, hp.waits, ?_⟩
        have e := step_zero_all (J := J) (F := F) (hG p hp) hx h13 (fun t ht => by have := hz t ht; unfold zz at this; unfold isZ; rw [(hp.loc t ht).1]; exact this)
        rw [jb] at e
        exact e
      by_cases c2 : g.filter (zz vs x.a) = []
      · have hz : ∀ t ∈ g, zz vs x.a t = false := fun t ht => by have := List.filter_eq_nil_iff.1 c2 t ht; simpa using this
        refine on (pc + 1) vs _ (Sta.one hx hl hne fun t ht => zf t (hz t ht)) (by simp) (nw1 (by omega)) hal (mode_next hk hJ hm hto n1 hn1) fun p hp => ⟨issuedP p g pc, Dyn.still hp rfl rfl rfl rfl rfl rfl rfl rfl, hp.waits, ?_⟩
        exact step_zero_none (J := J) (F := F) (hG p hp) hx h13 (fun t ht => by have := hz t ht; unfold zz at this; unfold isZ; rw [(hp.loc t ht).1]; exact this)
      obtain ⟨d, hd1, hd2, hA, hpd, hM⟩ := mode_split hk hJ hx h13 hm hto
      have inA : ∀ t, t ∈ g.filter (zz vs x.a) ↔ t ∈ g ∧ zz vs x.a t = true := fun t => List.mem_filter
      have inB : ∀ t, t ∈ g.filter (fun t => !zz vs x.a t) ↔ t ∈ g ∧ zz vs x.a t = false := fun t => by rw [List.mem_filter]; simp
      have lA : ((g.filter (zz vs x.a)).map (· % 4)).Nodup := lanes_sub hl (List.filter_sublist)
      have lB : ((g.filter (fun t => !zz vs x.a t)).map (· % 4)).Nodup := lanes_sub hl (List.filter_sublist)
      have iA : ∀ t ∈ g.filter (zz vs x.a), SInv k false ls le (sv vs x.b.toNat t) ∧ sphi k false ls le (sv vs x.b.toNat t) + 1 ≤ sphi k false ls le (sv vs pc t) := fun t ht => by
        have := sinv_step hk (hi t ((inA t).1 ht).1).1 (x := x) hx h0
        rw [zt t ((inA t).1 ht).2] at this
        exact this
      have iB : ∀ t ∈ g.filter (fun t => !zz vs x.a t), SInv k false ls le (sv vs (pc + 1) t) ∧ sphi k false ls le (sv vs (pc + 1) t) + 1 ≤ sphi k false ls le (sv vs pc t) := fun t ht => by
        have := sinv_step hk (hi t ((inB t).1 ht).1).1 (x := x) hx h0
        rw [zf t ((inB t).1 ht).2] at this
        exact this
      have sA : sums k ls le vs x.b.toNat (g.filter (zz vs x.a)) + _ ≤ sums k ls le vs pc (g.filter (zz vs x.a)) := sumP_lt fun t ht => (iA t ht).2
      have sB : sums k ls le vs (pc + 1) (g.filter (fun t => !zz vs x.a t)) + _ ≤ sums k ls le vs pc (g.filter (fun t => !zz vs x.a t)) := sumP_lt fun t ht => (iB t ht).2
      have sG := sums_filter k ls le vs pc (zz vs x.a) g
      have gA : 1 ≤ (g.filter (zz vs x.a)).length := List.length_pos_iff.2 c2
      have gB : 1 ≤ (g.filter (fun t => !zz vs x.a t)).length := List.length_pos_iff.2 c1
      obtain ⟨rA, pcA, vA, wA, tA, eA, yA⟩ := ih (g.filter (zz vs x.a)) vs (n0 + 1) (opn + 1) x.b.toNat (d : Int) c2 lA (fun t ht => ⟨(iA t ht).1, (hi t ((inA t).1 ht).1).2⟩) (.inr ⟨by omega, d, rfl, aims_next hk hJ hA hpd nb (by omega)⟩) (by omega) (by omega)
      obtain ⟨wfA, nwA, epA, lvA⟩ : wA = false ∧ NoW k rA ∧ d = pcA ∧ ∀ t ∈ g.filter (zz vs x.a), (vA t).1.done = false := by
        rcases eA with ⟨-, h, -⟩ | ⟨h1, h2, h3⟩
        · omega
        · rcases h3 with ⟨h3, -⟩ | ⟨h3, h4⟩
          · omega
          · exact ⟨h1, h2, by omega, h4⟩
      subst epA wfA
      obtain ⟨-, sqA⟩ := tA.pre hk lA (fun t ht => (iA t ht).1) lvA
      obtain ⟨rB, pcB, vB, wB, tB, eB, yB⟩ := ih (g.filter (fun t => !zz vs x.a t)) vs (n0 + 1 + rA.length) (opn + 1) (pc + 1) (d : Int) c1 lB (fun t ht => ⟨(iB t ht).1, (hi t ((inB t).1 ht).1).2⟩) (.inr ⟨by omega, d, rfl, aims_next hk hJ hA hpd n1 hn1⟩) (by omega) (by omega)
      obtain ⟨wfB, nwB, epB, lvB⟩ : wB = false ∧ NoW k rB ∧ d = pcB ∧ ∀ t ∈ g.filter (fun t => !zz vs x.a t), (vB t).1.done = false := by
        rcases eB with ⟨-, h, -⟩ | ⟨h1, h2, h3⟩
        · omega
        · rcases h3 with ⟨h3, -⟩ | ⟨h3, h4⟩
          · omega
          · exact ⟨h1, h2, by omega, h4⟩
      subst epB wfB
      refine on d (fun t => if zz vs x.a t then vA t else vB t) _ (Sta.parts hx h13 hl hne tA tB) (by simp) (fun r hr => ?_) (fun t ht => ?_) hM fun p hp => ?_
      · rcases List.mem_cons.1 hr with rfl | hr
        · exact nw1 (by omega) _ (by simp)
        · rcases List.mem_append.1 hr with hr | hr
          · exact nwA r hr
          · exact nwB r hr
      · cases hz : zz vs x.a t with
        | true => simpa [hz] using lvA t ((inA t).2 ⟨ht, hz⟩)
        | false => simpa [hz] using lvB t ((inB t).2 ⟨ht, hz⟩)
      · obtain ⟨z1, z2⟩ := zz_eq hp x.a
        obtain ⟨dA, vwA, -⟩ := yA { issuedP p g pc with opn := p.opn + 1 } ⟨hp.ends, hp.waits, fun t ht => hp.lt t ((inA t).1 ht).1, hp.ml, hp.m32, fun t ht => hp.loc t ((inA t).1 ht).1, by show p.steps + 1 = _; rw [hp.steps], by show p.opn + 1 = _; rw [hp.opn]⟩
        rw [← jb] at dA vwA
        obtain ⟨qA, hqA⟩ : ∃ qA, runP k J bud F { issuedP p g pc with opn := p.opn + 1 } (g.filter (zz vs x.a)) x.b (d : Int) = qA := ⟨_, rfl⟩
        rw [hqA] at dA vwA
        obtain ⟨dB, vwB, -⟩ := yB qA ⟨dA.ends.trans hp.ends, vwA, fun t ht => by rw [dA.tl]; exact hp.lt t ((inB t).1 ht).1, by rw [dA.tl, dA.ml]; exact hp.ml, by rw [dA.ml]; exact hp.m32, fun t ht => by
          have hnA : t ∉ g.filter (zz vs x.a) := fun h => by
            have h1 := ((inA t).1 h).2
            rw [((inB t).1 ht).2] at h1; simp at h1
          rw [dA.oth t hnA, dA.mo (first + t) (fun u hu e => hnA (by rw [show t = u by omega]; exact hu))]
          exact hp.loc t ((inB t).1 ht).1, by rw [dA.steps]; show p.steps + 1 + _ = _; rw [hp.steps], by rw [dA.opn]; show p.opn + 1 = _; rw [hp.opn]⟩
        have e1 : ((pc + 1 : Nat) : Int) = (pc : Int) + 1 := by omega
        rw [e1] at dB vwB
        obtain ⟨qB, hqB⟩ : ∃ qB, runP k J bud F qA (g.filter (fun t => !zz vs x.a t)) ((pc : Int) + 1) (d : Int) = qB := ⟨_, rfl⟩
        rw [hqB] at dB vwB
        refine ⟨{ qB with opn := qB.opn - 1 }, Dyn.parts (p1 := { issuedP p g pc with opn := p.opn + 1 }) rfl rfl rfl rfl rfl rfl rfl rfl dA dB, vwB, ?_⟩
        exact step_parts (J := J) (F := F) (hG p hp) hx h13 (by rw [z2]; exact c1) (by rw [z1]; exact c2) hd1 (qB := qB) (by rw [z1, z2, hqA]; exact hqB)
    by_cases h14 : x.o = 14
    · have ew := kk_wait hk hx h14
      subst ew
      have hop : opn = 0 ∧ to = -1 := by
        rcases hm with h | ⟨-, d, rfl, -, h | ⟨-, h⟩⟩
        · exact h
        · omega
        · have := h pc hx; omega
      refine ⟨[((pc : Int), ((bits g : Nat) : Int))], pc + 1, vs, true, Sta.one hx hl hne fun t ht => ?_, .inl ⟨rfl, hop.1, hal, pc, [], rfl, hx, rfl, fun r hr => by simp at hr⟩, fun p hp => ?_⟩
      · rw [sstep_wait (s := sv vs pc t) hx h14]; rfl
      · have e := step_wait (J := J) (F := F) (hG p hp) hx h14 (by rw [hp.opn]; exact hop.1)
        rw [e]
        exact ⟨Dyn.still hp rfl rfl rfl rfl rfl rfl rfl rfl, rfl, fun _ => by show (pc : Int) + 1 = _; omega⟩
    · obtain ⟨ho, h9⟩ := kk_own hk hx h0 h12 h13 h14
      have hst : ∀ t ∈ g, sstep k (sv vs pc t) = sv (fun t => ownS x (vs t).1 (vs t).2) (pc + 1) t := fun t ht => by
        rw [sstep_own (s := sv vs pc t) hx ho]; rfl
      refine on (pc + 1) (fun t => ownS x (vs t).1 (vs t).2) _ (Sta.one hx hl hne hst) (by simp) (nw1 h14) (fun t ht => ?_) (mode_next hk hJ hm hto (nxt_own hx h0 h12) (hk.one hx h0 h12).1) fun p hp => ?_
      · have := (sinv_step hk (hi t ht).1 (x := x) hx h0).1.done
        rw [hst t ht] at this
        exact this
      · obtain ⟨dO, wO⟩ := Dyn.own (pc := pc) hp hnd ho fun t ht e => by
          have := (hi t ht).1.r2 (h9 e)
          have h2 := (hi t ht).2
          unfold nv at this
          simp only [sv, Bool.false_eq_true, if_false] at this
          rw [this, h2]
        refine ⟨_, dO, wO, ?_⟩
        have e := step_own (J := J) (F := F) (hG p hp) hx (ownK_o ho)
        have e1 : (pc : Int) + 1 = ((pc + 1 : Nat) : Int) := by omega
        rw [e1] at e
        exact e

end Go.Proofs.Ytbhbacphiinpeaa
