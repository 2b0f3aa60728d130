/- Pq Pr Pv Py: joined. -/
import Derived.Test.YtbhbacphiinpeaaGreatZ11

/- Of the plain machine: a run stays within its kernel; a run to none ends with all done, or the turn ends. -/
namespace Go.Proofs.YtbhbacphiinpeaaGreat
open Go.RowKit

def Stops (p : Pl) (g : List Nat) : Prop := p.ends = true ∨ p.waits = true ∨ liveL p.ts g = []
def FromOk (k : List Ins) (p : Pl) (g : List Nat) (pc : Int) : Prop := (0 ≤ pc ∧ pc < k.length) ∨ Stops p g

theorem live_nil {ts : List Thr} {g : List Nat} : liveL ts g = [] ↔ ∀ t ∈ g, isDone ts t = true := by
  unfold liveL
  rw [List.filter_eq_nil_iff]
  simp

theorem run_stop {k : List Ins} {J : List Int} {bud f : Nat} {p : Pl} {g : List Nat} {pc to : Int} (h : p.ends = true ∨ p.waits = true) : runP k J bud f p g pc to = p := by
  have hh : (p.ends || p.waits) = true := by rcases h with h | h <;> simp [h]
  cases f <;> (unfold runP; rw [if_pos hh])

theorem next_in {k : List Ins} (hk : chk k = (0, 0)) {n : Nat} {x : Ins} (hx : k[n]? = some x) : (x.o ≠ 0 → x.o ≠ 12 → n + 1 < k.length) ∧ (x.o = 12 ∨ x.o = 13 → 0 ≤ x.b ∧ x.b < k.length) := by
  have hn := (List.getElem?_eq_some_iff.1 hx).1
  have hc := closed_chk hk n
  obtain ⟨-, h1, h2, h3⟩ := chk_zero (by rw [hk])
  have hb := (okB_bd (by omega) (h3 n x hx)).2.2.1.1
  have hnx : nxt k n = if x.o = 0 then [] else if x.o = 12 then [x.b.toNat] else if x.o = 13 then [x.b.toNat, n + 1] else [n + 1] := by unfold nxt; rw [hx]
  refine ⟨fun a b => ?_, fun a => ⟨hb, ?_⟩⟩
  · refine hc (n + 1) hn ?_
    rw [hnx, if_neg a, if_neg b]
    split <;> simp
  · have := hc x.b.toNat hn (by
      rw [hnx]
      rcases a with a | a
      · rw [if_neg (by omega), if_pos a]; simp
      · rw [if_neg (by omega), if_neg (by omega), if_pos a]; simp)
    omega

theorem join_in {k : List Ins} {J : List Int} (hJ : JoinsAre k J) {n : Nat} (hn : n < k.length) : J.getD n (-1) = -1 ∨ (0 ≤ J.getD n (-1) ∧ J.getD n (-1) < k.length) := by
  have hl : n < J.length := by rw [hJ.1]; exact hn
  have e : J[n]? = some J[n] := List.getElem?_eq_getElem hl
  have hj := hJ.2 n _ e
  rw [List.getD_eq_getElem?_getD, e]
  simp only [Option.getD_some]
  rcases hj with ⟨-, h⟩ | ⟨-, ⟨d, hd, h⟩ | ⟨-, h⟩⟩
  · exact .inl h
  · right; rw [h]; have := hd.1; omega
  · exact .inl h

/-- Where a group is behind an instruction. -/
theorem does_ok {k : List Ins} {J : List Int} {bud f : Nat} (hk : chk k = (0, 0)) (hJ : JoinsAre k J)
    (ih : ∀ (p : Pl) (g : List Nat) (pc : Int), Reg4 p.ts → (∀ t ∈ g, t < p.ts.length) → FromOk k p g pc → Stops (runP k J bud f p g pc (-1)) g)
    {p : Pl} {g : List Nat} {pc : Nat} (hpc : pc < k.length) (hr : Reg4 p.ts) (hg : ∀ t ∈ g, t < p.ts.length) :
    FromOk k (doesP k J (runP k J bud f) p g (pc : Int)).1 g (doesP k J (runP k J bud f) p g (pc : Int)).2 := by
  obtain ⟨x, hx⟩ : ∃ x, k[pc]? = some x := ⟨_, List.getElem?_eq_getElem hpc⟩
  have hx' : k[((pc : Nat) : Int).toNat]? = some x := by simpa using hx
  obtain ⟨n1, n2⟩ := next_in hk hx
  rw [does_some J _ p g hx']
  split
  · right; right; right
    rw [live_nil]
    intro t ht
    rw [(doneAll_keeps g p.ts).2.2 t]
    simp [ht, hg t ht]
  rename_i h0
  split
  · rename_i h1
    left; exact n2 (.inl h1)
  rename_i h1
  have hn := n1 h0 h1
  split
  · rename_i h2
    have hb := n2 (.inr h2)
    unfold partsP
    split
    · left; exact hb
    split
    · left; dsimp only; omega
    · rename_i e1 e2
      have hj := join_in hJ hpc
      rw [show ((pc : Nat) : Int).toNat = pc by omega]
      dsimp only
      rcases hj with hj | hj
      · rw [hj]
        right
        have hg1 : ∀ t ∈ g.filter (isZ p.ts x.a), t < p.ts.length := fun t ht => hg t (List.mem_filter.1 ht).1
        have hg2 : ∀ t ∈ g.filter (fun t => !isZ p.ts x.a t), t < p.ts.length := fun t ht => hg t (List.mem_filter.1 ht).1
        have s1 := ih { p with opn := p.opn + 1 } (g.filter (isZ p.ts x.a)) x.b hr hg1 (.inl hb)
        have k1 := keep_run k J bud f { p with opn := p.opn + 1 } (g.filter (isZ p.ts x.a)) x.b (-1) hr
        dsimp only at k1
        generalize runP k J bud f { p with opn := p.opn + 1 } (g.filter (isZ p.ts x.a)) x.b (-1) = r1 at s1 k1
        by_cases hend : r1.ends = true ∨ r1.waits = true
        · rw [run_stop hend]
          rcases hend with h | h
          · exact .inl h
          · exact .inr (.inl h)
        · have hl1 : liveL r1.ts (g.filter (isZ p.ts x.a)) = [] := by
            rcases s1 with h | h | h
            · exact absurd (.inl h) hend
            · exact absurd (.inr h) hend
            · exact h
          have s2 := ih r1 (g.filter (fun t => !isZ p.ts x.a t)) ((pc : Int) + 1) k1.1 (fun t ht => by rw [k1.2.1]; exact hg2 t ht) (.inl (by omega))
          have k2 := keep_run k J bud f r1 (g.filter (fun t => !isZ p.ts x.a t)) ((pc : Int) + 1) (-1) k1.1
          generalize runP k J bud f r1 (g.filter (fun t => !isZ p.ts x.a t)) ((pc : Int) + 1) (-1) = r2 at s2 k2
          rcases s2 with h | h | h
          · exact .inl h
          · exact .inr (.inl h)
          · right; right
            rw [live_nil] at hl1 h ⊢
            intro t ht
            cases hz : isZ p.ts x.a t
            · exact h t (List.mem_filter.2 ⟨ht, by simp [hz]⟩)
            · exact k2.2.2.2.1 t (hl1 t (List.mem_filter.2 ⟨ht, hz⟩))
      · left; exact hj
  split
  · split
    · left; dsimp only; omega
    · left; dsimp only; omega
  · left; dsimp only; omega

theorem run_none {k : List Ins} {J : List Int} {bud : Nat} (hk : chk k = (0, 0)) (hJ : JoinsAre k J) : ∀ (f : Nat) (p : Pl) (g : List Nat) (pc : Int), Reg4 p.ts → (∀ t ∈ g, t < p.ts.length) → FromOk k p g pc → Stops (runP k J bud f p g pc (-1)) g
  | 0, p, g, pc, hr, hg, hf => by
    unfold runP
    split
    · rename_i h
      simp only [Bool.or_eq_true] at h
      rcases h with h | h
      · exact .inl h
      · exact .inr (.inl h)
    rename_i h0
    split
    · rename_i h
      rcases hf with hf | hf
      · rcases h with h | h
        · exact .inr (.inr h)
        · omega
      · exact hf
    split
    · exact .inl rfl
    · exact .inl rfl
  | f + 1, p, g, pc, hr, hg, hf => by
    unfold runP
    split
    · rename_i h
      simp only [Bool.or_eq_true] at h
      rcases h with h | h
      · exact .inl h
      · exact .inr (.inl h)
    rename_i h0
    split
    · rename_i h
      rcases hf with hf | hf
      · rcases h with h | h
        · exact .inr (.inr h)
        · omega
      · exact hf
    rename_i h1
    split
    · exact .inl rfl
    · have hpc : 0 ≤ pc ∧ pc < k.length := by
        rcases hf with hf | hf | hf | hf
        · exact hf
        · exact absurd (by simp [hf]) h0
        · exact absurd (by simp [hf]) h0
        · exact absurd (.inl hf) h1
      obtain ⟨n, rfl⟩ : ∃ n : Nat, pc = (n : Int) := ⟨pc.toNat, by omega⟩
      have hgl : ∀ t ∈ liveL p.ts g, t < p.ts.length := fun t ht => hg t (List.mem_filter.1 ht).1
      have ih := run_none (bud := bud) hk hJ f
      have d1 := does_ok hk hJ ih (p := issuedP p (liveL p.ts g) (n : Int)) (g := liveL p.ts g) (pc := n) (by omega) hr hgl
      have kd := keep_does k J (runP k J bud f) (fun p g a b => keep_run k J bud f p g a b) (issuedP p (liveL p.ts g) (n : Int)) (liveL p.ts g) (n : Int) hr
      have hlen : (issuedP p (liveL p.ts g) (n : Int)).ts = p.ts := rfl
      rw [hlen] at kd
      dsimp only
      generalize doesP k J (runP k J bud f) (issuedP p (liveL p.ts g) (n : Int)) (liveL p.ts g) (n : Int) = q at d1 kd ⊢
      have s1 := ih q.1 (liveL p.ts g) q.2 kd.1 (fun t ht => by rw [kd.2.1]; exact hgl t ht) d1
      have kr := keep_run k J bud f q.1 (liveL p.ts g) q.2 (-1) kd.1
      rcases s1 with h | h | h
      · exact .inl h
      · exact .inr (.inl h)
      · right; right
        rw [live_nil] at h ⊢
        intro t ht
        cases hd : isDone p.ts t
        · exact h t (List.mem_filter.2 ⟨ht, by simp [hd]⟩)
        · exact kr.2.2.2.1 t (kd.2.2.2.1 t hd)

end Go.Proofs.YtbhbacphiinpeaaGreat

/- Of the plain machine: what holds of a turn from its beginning to its end; a machine behind a turn. -/
namespace Go.Proofs.YtbhbacphiinpeaaGreat
open Go.RowKit

/-- What holds of a turn that goes on, if each step keeps it. -/
structure Inv1 (k : List Ins) (I : Pl → Prop) : Prop where
  issued : ∀ p g pc, I p → I (issuedP p g pc)
  spent : ∀ p, I p → I { p with st := 3, ends := true }
  done : ∀ p g, I p → I { p with ts := doneAll p.ts g }
  fault : ∀ p pc t, I p → I (faultP p 3 pc t)
  wait : ∀ p (pc : Int), 0 ≤ pc → pc < k.length → I p → I { p with waits := true, at0 := pc }
  each : ∀ p g pc x, I p → I (eachP p g pc x)
  opn : ∀ p n, I p → I { p with opn := n }

theorem cnt_does' {k : List Ins} {J : List Int} {bud F : Nat} {p : Pl} {g : List Nat} {pc : Int} (h : Cnt bud p) (hs : p.steps ≠ bud) (hg : g.length ≤ 4) : Cnt bud (doesP k J (runP k J bud F) (issuedP p (liveL p.ts g) pc) (liveL p.ts g) pc).1 := by
  have hl : (liveL p.ts g).length ≤ 4 := Nat.le_trans (List.length_filter_le _ _) hg
  have h0 : Cnt bud (issuedP p (liveL p.ts g) pc) := ⟨by have := h.steps; simp only [issuedP]; omega, by simp [issuedP, h.log], by have := h.segs; simp only [issuedP]; omega, by have := h.opn; simp only [issuedP]; omega⟩
  have hopn : (issuedP p (liveL p.ts g) pc).opn + 1 ≤ (issuedP p (liveL p.ts g) pc).steps := by have := h.opn; simp only [issuedP]; omega
  have hseg : (issuedP p (liveL p.ts g) pc).segs + 4 ≤ 4 * (issuedP p (liveL p.ts g) pc).steps := by have := h.segs; simp only [issuedP]; omega
  generalize issuedP p (liveL p.ts g) pc = q at h0 hseg hopn
  generalize liveL p.ts g = l at hl
  cases hx : k[pc.toNat]? with
  | none => unfold doesP; rw [hx]; exact h0
  | some x =>
  rw [does_some J _ q l hx]
  split
  · exact ⟨h0.steps, h0.log, h0.segs, h0.opn⟩
  split
  · exact h0
  split
  · unfold partsP
    split
    · exact h0
    split
    · exact h0
    · have hz : ∀ (P : Nat → Bool), (l.filter P).length ≤ 4 := fun P => Nat.le_trans (List.length_filter_le _ _) hl
      have q1 : Cnt bud { q with opn := q.opn + 1 } := ⟨h0.steps, h0.log, h0.segs, hopn⟩
      obtain ⟨c1, e1⟩ := cnt_run k J bud F _ (l.filter (isZ q.ts x.a)) x.b (J.getD pc.toNat (-1)) (hz _) q1
      obtain ⟨c2, e2⟩ := cnt_run k J bud F _ (l.filter (fun t => !isZ q.ts x.a t)) (pc + 1) (J.getD pc.toNat (-1)) (hz _) c1
      exact ⟨c2.steps, c2.log, c2.segs, by have := c2.opn; dsimp only; omega⟩
  split
  · split
    · exact ⟨h0.steps, h0.log, h0.segs, h0.opn⟩
    · exact ⟨h0.steps, h0.log, h0.segs, h0.opn⟩
  · obtain ⟨s1, s2, s3, s4⟩ := segs_each q l pc x
    exact ⟨by rw [s2]; exact h0.steps, by rw [s2, s3]; exact h0.log, by show (eachP q l pc x).segs ≤ 4 * (eachP q l pc x).steps; rw [s2]; omega, by rw [s2, s4]; exact h0.opn⟩

theorem inv_run {k : List Ins} {J : List Int} {bud : Nat} {I : Pl → Prop} (hk : chk k = (0, 0)) (hJ : JoinsAre k J) (hI : Inv1 k I) : ∀ (f : Nat) (p : Pl) (g : List Nat) (pc to : Int), Reg4 p.ts → (∀ t ∈ g, t < p.ts.length) → g.length ≤ 4 → Cnt bud p → bud ≤ p.steps + f → (FromOk k p g pc ∨ pc = to) → I p → I (runP k J bud f p g pc to)
  | 0, p, g, pc, to, _, _, _, hc, hf, _, h => by
    unfold runP
    split
    · exact h
    split
    · exact h
    split
    · exact hI.spent p h
    · rename_i hs
      have := hc.steps
      omega
  | f + 1, p, g, pc, to, hr, hg, hg4, hc, hf, hfr, h => by
    unfold runP
    split
    · exact h
    rename_i h0
    split
    · exact h
    rename_i h1
    split
    · exact hI.spent p h
    rename_i hs
    have hpc : 0 ≤ pc ∧ pc < k.length := by
      rcases hfr with (hf | hf | hf | hf) | hf
      · exact hf
      · exact absurd (by simp [hf]) h0
      · exact absurd (by simp [hf]) h0
      · exact absurd (.inl hf) h1
      · exact absurd (.inr hf) h1
    obtain ⟨n, rfl⟩ : ∃ n : Nat, pc = (n : Int) := ⟨pc.toNat, by omega⟩
    have hgl : ∀ t ∈ liveL p.ts g, t < p.ts.length := fun t ht => hg t (List.mem_filter.1 ht).1
    have hl4 : (liveL p.ts g).length ≤ 4 := Nat.le_trans (List.length_filter_le _ _) hg4
    have hd := does_ok hk hJ (run_none (bud := bud) hk hJ f) (p := issuedP p (liveL p.ts g) (n : Int)) (g := liveL p.ts g) (pc := n) (by omega) hr hgl
    have kd := keep_does k J (runP k J bud f) (fun p g a b => keep_run k J bud f p g a b) (issuedP p (liveL p.ts g) (n : Int)) (liveL p.ts g) (n : Int) hr
    have cd := cnt_does' (k := k) (J := J) (F := f) (pc := (n : Int)) hc hs hg4
    have hst : p.steps + 1 ≤ (doesP k J (runP k J bud f) (issuedP p (liveL p.ts g) (n : Int)) (liveL p.ts g) (n : Int)).1.steps := by have := kd.2.2.2.2; simpa [issuedP] using this
    have hId : I (doesP k J (runP k J bud f) (issuedP p (liveL p.ts g) (n : Int)) (liveL p.ts g) (n : Int)).1 := by
      have hq : I (issuedP p (liveL p.ts g) (n : Int)) := hI.issued p _ _ h
      have hqc : Cnt bud { issuedP p (liveL p.ts g) (n : Int) with opn := (issuedP p (liveL p.ts g) (n : Int)).opn + 1 } := ⟨by have := hc.steps; simp only [issuedP]; omega, by simp [issuedP, hc.log], by have := hc.segs; simp only [issuedP]; omega, by have := hc.opn; simp only [issuedP]; omega⟩
      have hqs : (issuedP p (liveL p.ts g) (n : Int)).steps = p.steps + 1 := rfl
      have hqt : (issuedP p (liveL p.ts g) (n : Int)).ts = p.ts := rfl
      generalize issuedP p (liveL p.ts g) (n : Int) = q at hq hqc hqs hqt
      generalize liveL p.ts g = l at hgl hl4
      obtain ⟨x, hx⟩ : ∃ x, k[n]? = some x := ⟨_, List.getElem?_eq_getElem (by omega)⟩
      obtain ⟨n1, n2⟩ := next_in hk hx
      have hx' : k[((n : Nat) : Int).toNat]? = some x := by simpa using hx
      rw [does_some J _ q l hx']
      split
      · exact hI.done q l hq
      rename_i e0
      split
      · exact hq
      rename_i e1
      have hn := n1 e0 e1
      split
      · rename_i e2
        have hb := n2 (.inr e2)
        unfold partsP
        split
        · exact hq
        split
        · exact hq
        · have hz : ∀ (P : Nat → Bool), (l.filter P).length ≤ 4 := fun P => Nat.le_trans (List.length_filter_le _ _) hl4
          have hm : ∀ (P : Nat → Bool), ∀ t ∈ l.filter P, t < q.ts.length := fun P t ht => by rw [hqt]; exact hgl t (List.mem_filter.1 ht).1
          have hr' : Reg4 q.ts := by rw [hqt]; exact hr
          have i1 := inv_run (bud := bud) hk hJ hI f { q with opn := q.opn + 1 } (l.filter (isZ q.ts x.a)) x.b (J.getD ((n : Nat) : Int).toNat (-1)) hr' (hm _) (hz _) hqc (by dsimp only; omega) (.inl (.inl hb)) (hI.opn _ _ hq)
          have c1 := cnt_run k J bud f { q with opn := q.opn + 1 } (l.filter (isZ q.ts x.a)) x.b (J.getD ((n : Nat) : Int).toNat (-1)) (hz _) hqc
          have k1 := keep_run k J bud f { q with opn := q.opn + 1 } (l.filter (isZ q.ts x.a)) x.b (J.getD ((n : Nat) : Int).toNat (-1)) hr'
          dsimp only at k1
          generalize runP k J bud f { q with opn := q.opn + 1 } (l.filter (isZ q.ts x.a)) x.b (J.getD ((n : Nat) : Int).toNat (-1)) = r1 at i1 c1 k1
          have i2 := inv_run (bud := bud) hk hJ hI f r1 (l.filter (fun t => !isZ q.ts x.a t)) ((n : Int) + 1) (J.getD ((n : Nat) : Int).toNat (-1)) k1.1 (fun t ht => by rw [k1.2.1]; exact hm _ t ht) (hz _) c1.1 (by have := k1.2.2.2.2; omega) (.inl (.inl (by omega))) i1
          exact hI.opn _ _ i2
      split
      · split
        · exact hI.fault q _ _ hq
        · exact hI.wait q _ (by omega) (by omega) hq
      · exact hI.each q l _ x hq
    dsimp only
    generalize doesP k J (runP k J bud f) (issuedP p (liveL p.ts g) (n : Int)) (liveL p.ts g) (n : Int) = q at hd kd cd hId hst ⊢
    exact inv_run (bud := bud) hk hJ hI f q.1 (liveL p.ts g) q.2 to kd.1 (fun t ht => by rw [kd.2.1]; exact hgl t ht) hl4 cd (by omega) (.inl hd) hId

/-- The state and the place of a turn. -/
def StAt (k : List Ins) (p : Pl) : Prop := (p.ends = true → p.st ≠ 0) ∧ (p.ends = false → p.st = 0) ∧ (p.waits = true → 0 ≤ p.at0 ∧ p.at0 < k.length)

theorem stAt_inv (k : List Ins) : Inv1 k (StAt k) where
  issued p g pc h := h
  spent p h := ⟨fun _ => by simp, fun e => by simp at e, h.2.2⟩
  done p g h := h
  fault p pc t h := ⟨fun _ => by simp [faultP], fun e => by simp [faultP] at e, h.2.2⟩
  wait p pc h1 h2 h := ⟨h.1, h.2.1, fun _ => ⟨h1, h2⟩⟩
  each p g pc x h := by
    unfold eachP
    split
    · exact h
    · exact ⟨fun _ => by simp [faultP], fun e => by simp [faultP] at e, h.2.2⟩
  opn p n h := h

/-- What is always so of a machine. -/
structure PMok (m : PM) : Prop where
  chk : chk m.k = (0, 0)
  joins : JoinsAre m.k m.J
  regs : Reg4 m.ts
  n1 : 1 ≤ m.ts.length
  n16 : m.ts.length ≤ 16
  m1 : 1 ≤ m.mem.length
  m32 : m.mem.length ≤ 32
  lenW : m.ws.length = (m.ts.length + 3) / 4
  at0 : ∀ x ∈ m.ws, 0 ≤ x.at0 ∧ x.at0 < m.k.length
  rdy : m.st = 0 → readyL m.ws ≠ []

theorem warp_lt {n i t : Nat} (h : t ∈ warpG n i) : t < n := by
  unfold warpG at h
  rw [List.mem_range'_1] at h
  omega
theorem warp_len (n i : Nat) : (warpG n i).length ≤ 4 := by unfold warpG; simp; omega

theorem begin_cnt (m : PM) (bud : Nat) : Cnt bud ⟨m.ts, m.mem, m.st, 0, 0, 0, 0, 0, [], 0, false, false, 0⟩ := ⟨Nat.zero_le _, rfl, Nat.zero_le _, Nat.le_refl _⟩

theorem ready_mem {ws : List Wrp} {i : Nat} : i ∈ readyL ws ↔ i < ws.length ∧ rdy (ws.getD i wrp0) = true := by
  unfold readyL
  rw [List.mem_filter, List.mem_range]

theorem pick_mem {l : List Nat} (h : l ≠ []) (pick : Int) : pickW l pick ∈ l := by
  unfold pickW
  split
  · rename_i hp
    rw [List.getD_eq_getElem?_getD, List.getElem?_eq_getElem (by omega)]
    exact List.getElem_mem _
  · cases l with
    | nil => exact absurd rfl h
    | cons a l => simp

theorem play_at {m : PM} (h : PMok m) (h0 : m.st = 0) {i : Nat} (hi : i < m.ws.length) (bud : Nat) : StAt m.k (playP m i bud) ∧ Keep ⟨m.ts, m.mem, m.st, 0, 0, 0, 0, 0, [], 0, false, false, 0⟩ (playP m i bud) ∧ Cnt bud (playP m i bud) := by
  have hx : m.ws[i]? = some m.ws[i] := List.getElem?_eq_getElem hi
  have ha := h.at0 m.ws[i] (List.getElem_mem hi)
  have hd : m.ws.getD i wrp0 = m.ws[i] := by rw [List.getD_eq_getElem?_getD, hx]; rfl
  unfold playP
  rw [hd]
  refine ⟨?_, keep_run _ _ _ _ _ _ _ _, (cnt_run m.k m.J bud bud _ _ _ _ (warp_len _ _) (begin_cnt m bud)).1⟩
  refine inv_run h.chk h.joins (stAt_inv m.k) bud _ _ _ _ h.regs (fun t ht => warp_lt ht) (warp_len _ _) (begin_cnt m bud) (by simp) (.inl (.inl ha)) ?_
  exact ⟨fun e => by simp at e, fun _ => h0, fun e => by simp at e⟩

theorem settle_ok {m : PM} (h1 : chk m.k = (0, 0)) (h2 : JoinsAre m.k m.J) (h3 : Reg4 m.ts) (h4 : 1 ≤ m.ts.length) (h5 : m.ts.length ≤ 16) (h6 : 1 ≤ m.mem.length) (h7 : m.mem.length ≤ 32) (h8 : m.ws.length = (m.ts.length + 3) / 4) (h9 : ∀ x ∈ m.ws, 0 ≤ x.at0 ∧ x.at0 < m.k.length) : PMok (settleP m) := by
  unfold settleP
  split
  · exact ⟨h1, h2, h3, h4, h5, h6, h7, h8, h9, fun e => by simp at e⟩
  rename_i hn
  split
  · rename_i hr
    refine ⟨h1, h2, h3, h4, h5, h6, h7, by simp [h8], fun x hx => ?_, fun _ => ?_⟩
    · simp only [List.mem_map] at hx
      obtain ⟨y, hy, rfl⟩ := hx
      exact h9 y hy
    · simp only [List.all_eq_true, Classical.not_forall] at hn
      obtain ⟨x, hx, hd⟩ := hn
      obtain ⟨i, hi⟩ := List.mem_iff_getElem?.1 hx
      have hl := (List.getElem?_eq_some_iff.1 hi).1
      intro e
      have : i ∈ readyL (m.ws.map fun x => { x with waits := false }) := by
        rw [ready_mem]
        refine ⟨by simpa using hl, ?_⟩
        rw [List.getD_eq_getElem?_getD, List.getElem?_map, hi]
        simp [rdy, hd]
      rw [e] at this
      simp at this
  · rename_i hr
    exact ⟨h1, h2, h3, h4, h5, h6, h7, h8, h9, fun _ => hr⟩

theorem turn_ok {m : PM} (h : PMok m) (pick bud : Int) : PMok (turnP m pick bud).1 := by
  unfold turnP
  split
  · exact h
  rename_i h0
  have h0' : m.st = 0 := by omega
  split
  · exact h
  · have hne := h.rdy h0'
    have hi := (ready_mem.1 (pick_mem hne pick)).1
    obtain ⟨s1, k1, -⟩ := play_at h h0' hi bud.toNat
    generalize pickW (readyL m.ws) pick = i at hi s1 k1
    generalize playP m i bud.toNat = p at s1 k1
    obtain ⟨r1, r2, r3, -, -⟩ := k1 h.regs
    dsimp only at r2 r3 ⊢
    have hx : m.ws[i]? = some m.ws[i] := List.getElem?_eq_getElem hi
    have hd : m.ws.getD i wrp0 = m.ws[i] := by rw [List.getD_eq_getElem?_getD, hx]; rfl
    have ha := h.at0 m.ws[i] (List.getElem_mem hi)
    unfold afterP
    dsimp only
    split
    · rename_i he
      exact ⟨h.chk, h.joins, r1, by dsimp only; rw [r2]; exact h.n1, by dsimp only; rw [r2]; exact h.n16, by dsimp only; rw [r3]; exact h.m1, by dsimp only; rw [r3]; exact h.m32, by dsimp only; rw [r2]; exact h.lenW, h.at0, fun e => absurd e (s1.1 he)⟩
    · refine settle_ok h.chk h.joins r1 (by dsimp only; rw [r2]; exact h.n1) (by dsimp only; rw [r2]; exact h.n16) (by dsimp only; rw [r3]; exact h.m1) (by dsimp only; rw [r3]; exact h.m32) (by dsimp only; rw [r2]; simp [h.lenW]) ?_
      intro x hx
      dsimp only at hx ⊢
      rcases List.mem_or_eq_of_mem_set hx with hx | rfl
      · exact h.at0 x hx
      · rw [hd]
        split
        · rename_i hw
          exact s1.2.2 hw
        · exact ha

end Go.Proofs.YtbhbacphiinpeaaGreat

/- Of the plain machine: a run does not hang on its fuel, as long as there is as much as the budget leaves. -/
namespace Go.Proofs.YtbhbacphiinpeaaGreat
open Go.RowKit

theorem parts_fuel {k : List Ins} {J : List Int} {bud f f' : Nat} (ih : ∀ (p : Pl) (g : List Nat) (pc to : Int), Reg4 p.ts → g.length ≤ 4 → Cnt bud p → bud ≤ p.steps + f → bud ≤ p.steps + f' → runP k J bud f p g pc to = runP k J bud f' p g pc to)
    {q : Pl} {l : List Nat} (pc : Int) (x : Ins) (hr : Reg4 q.ts) (hl : l.length ≤ 4) (hc : Cnt bud { q with opn := q.opn + 1 }) (hf : bud ≤ q.steps + f) (hf' : bud ≤ q.steps + f') :
    partsP J (runP k J bud f) q l pc x = partsP J (runP k J bud f') q l pc x := by
  unfold partsP
  split
  · rfl
  split
  · rfl
  · have hz : ∀ (P : Nat → Bool), (l.filter P).length ≤ 4 := fun P => Nat.le_trans (List.length_filter_le _ _) hl
    have e1 := ih { q with opn := q.opn + 1 } (l.filter (isZ q.ts x.a)) x.b (J.getD pc.toNat (-1)) hr (hz _) hc hf hf'
    have c1 := cnt_run k J bud f { q with opn := q.opn + 1 } (l.filter (isZ q.ts x.a)) x.b (J.getD pc.toNat (-1)) (hz _) hc
    have k1 := keep_run k J bud f { q with opn := q.opn + 1 } (l.filter (isZ q.ts x.a)) x.b (J.getD pc.toNat (-1)) hr
    dsimp only at k1
    rw [← e1]
    generalize runP k J bud f { q with opn := q.opn + 1 } (l.filter (isZ q.ts x.a)) x.b (J.getD pc.toNat (-1)) = r1 at c1 k1
    have hs := k1.2.2.2.2
    rw [ih r1 (l.filter (fun t => !isZ q.ts x.a t)) (pc + 1) (J.getD pc.toNat (-1)) k1.1 (hz _) c1.1 (by omega) (by omega)]

theorem does_fuel {k : List Ins} {J : List Int} {bud f f' : Nat} (ih : ∀ (p : Pl) (g : List Nat) (pc to : Int), Reg4 p.ts → g.length ≤ 4 → Cnt bud p → bud ≤ p.steps + f → bud ≤ p.steps + f' → runP k J bud f p g pc to = runP k J bud f' p g pc to)
    {q : Pl} {l : List Nat} (pc : Int) (hr : Reg4 q.ts) (hl : l.length ≤ 4) (hc : Cnt bud { q with opn := q.opn + 1 }) (hf : bud ≤ q.steps + f) (hf' : bud ≤ q.steps + f') :
    doesP k J (runP k J bud f) q l pc = doesP k J (runP k J bud f') q l pc := by
  unfold doesP
  split
  · rfl
  · rw [parts_fuel ih pc _ hr hl hc hf hf']

theorem run_fuel {k : List Ins} {J : List Int} {bud : Nat} : ∀ (f f' : Nat) (p : Pl) (g : List Nat) (pc to : Int), Reg4 p.ts → g.length ≤ 4 → Cnt bud p → bud ≤ p.steps + f → bud ≤ p.steps + f' → runP k J bud f p g pc to = runP k J bud f' p g pc to
  | 0, 0, p, g, pc, to, _, _, _, _, _ => rfl
  | 0, f' + 1, p, g, pc, to, _, _, hc, h, _ => by
    have hs : p.steps = bud := by have := hc.steps; omega
    unfold runP
    rw [if_pos hs, if_pos hs]
  | f + 1, 0, p, g, pc, to, _, _, hc, _, h => by
    have hs : p.steps = bud := by have := hc.steps; omega
    unfold runP
    rw [if_pos hs, if_pos hs]
  | f + 1, f' + 1, p, g, pc, to, hr, hg, hc, h, h' => by
    rw [runP, runP]
    split
    · rfl
    split
    · rfl
    split
    · rfl
    · rename_i hs
      have ih : ∀ (p : Pl) (g : List Nat) (pc to : Int), Reg4 p.ts → g.length ≤ 4 → Cnt bud p → bud ≤ p.steps + f → bud ≤ p.steps + f' → runP k J bud f p g pc to = runP k J bud f' p g pc to := fun p g pc to a b c d e => run_fuel f f' p g pc to a b c d e
      have hl : (liveL p.ts g).length ≤ 4 := Nat.le_trans (List.length_filter_le _ _) hg
      have hq : Cnt bud { issuedP p (liveL p.ts g) pc with opn := (issuedP p (liveL p.ts g) pc).opn + 1 } := ⟨by have := hc.steps; simp only [issuedP]; omega, by simp [issuedP, hc.log], by have := hc.segs; simp only [issuedP]; omega, by have := hc.opn; simp only [issuedP]; omega⟩
      have e1 := does_fuel ih (q := issuedP p (liveL p.ts g) pc) (l := liveL p.ts g) pc hr hl hq (by simp only [issuedP]; omega) (by simp only [issuedP]; omega)
      have kd := keep_does k J (runP k J bud f) (fun p g a b => keep_run k J bud f p g a b) (issuedP p (liveL p.ts g) pc) (liveL p.ts g) pc hr
      have cd := cnt_does' (k := k) (J := J) (F := f) (pc := pc) hc hs hg
      have hst : p.steps + 1 ≤ (doesP k J (runP k J bud f) (issuedP p (liveL p.ts g) pc) (liveL p.ts g) pc).1.steps := by have := kd.2.2.2.2; simpa [issuedP] using this
      dsimp only
      rw [← e1]
      exact ih _ _ _ _ kd.1 hl cd (by omega) (by omega)

end Go.Proofs.YtbhbacphiinpeaaGreat

/- Of the plain machine: its single steps, by the kind of the instruction. -/
namespace Go.Proofs.YtbhbacphiinpeaaGreat
open Go.RowKit

def isOwnP (o : Int) : Prop := 1 ≤ o ∧ o ≤ 11

/-- A group goes on: it has threads that are not done, it stands elsewhere than at its end, and the budget is not spent. -/
structure Goes (bud : Nat) (p : Pl) (g : List Nat) (pc to : Int) : Prop where
  ends : p.ends = false
  waits : p.waits = false
  live : liveL p.ts g = g
  ne : g ≠ []
  pc : pc ≠ to
  steps : p.steps ≠ bud

theorem goes_run {k : List Ins} {J : List Int} {bud F : Nat} {p : Pl} {g : List Nat} {pc to : Int} (h : Goes bud p g pc to) : runP k J bud (F + 1) p g pc to = runP k J bud F (doesP k J (runP k J bud F) (issuedP p g pc) g pc).1 g (doesP k J (runP k J bud F) (issuedP p g pc) g pc).2 to := by
  rw [runP, if_neg (by simp [h.ends, h.waits]), if_neg (by rw [h.live]; rintro (e | e); exact h.ne e; exact h.pc e), if_neg h.steps, h.live]

/-- An operation that threads do one after the other. -/
theorem step_own {k : List Ins} {J : List Int} {bud F : Nat} {p : Pl} {g : List Nat} {pc : Nat} {to : Int} {x : Ins} (h : Goes bud p g pc to) (hx : k[pc]? = some x) (ho : isOwnP x.o) : runP k J bud (F + 1) p g pc to = runP k J bud F (eachP (issuedP p g pc) g pc x) g ((pc : Int) + 1) to := by
  rw [goes_run h, does_some (x := x) J _ _ g (by simpa using hx), if_neg (by unfold isOwnP at ho; omega), if_neg (by unfold isOwnP at ho; omega), if_neg (by unfold isOwnP at ho; omega), if_neg (by unfold isOwnP at ho; omega)]

theorem step_jump {k : List Ins} {J : List Int} {bud F : Nat} {p : Pl} {g : List Nat} {pc : Nat} {to : Int} {x : Ins} (h : Goes bud p g pc to) (hx : k[pc]? = some x) (ho : x.o = 12) : runP k J bud (F + 1) p g pc to = runP k J bud F (issuedP p g pc) g x.b to := by
  rw [goes_run h, does_some (x := x) J _ _ g (by simpa using hx), if_neg (by omega), if_pos ho]

theorem step_exit {k : List Ins} {J : List Int} {bud F : Nat} {p : Pl} {g : List Nat} {pc : Nat} {to : Int} {x : Ins} (h : Goes bud p g pc to) (hx : k[pc]? = some x) (ho : x.o = 0) (hl : ∀ t ∈ g, t < p.ts.length) : runP k J bud (F + 1) p g pc to = { issuedP p g pc with ts := doneAll p.ts g } := by
  rw [goes_run h, does_some (x := x) J _ _ g (by simpa using hx), if_pos ho]
  have hd : liveL (doneAll p.ts g) g = [] := by
    rw [live_nil]
    intro t ht
    rw [(doneAll_keeps g p.ts).2.2 t]
    simp [ht, hl t ht]
  have e : ∀ (f : Nat) (q : Pl), q.ends = false → q.waits = false → liveL q.ts g = [] → runP k J bud f q g ((pc : Int) + 1) to = q := fun f q h1 h2 h3 => by
    cases f <;> (unfold runP; rw [if_neg (by simp [h1, h2]), if_pos (.inl h3)])
  exact e F _ h.ends h.waits hd

theorem step_wait {k : List Ins} {J : List Int} {bud F : Nat} {p : Pl} {g : List Nat} {pc : Nat} {to : Int} {x : Ins} (h : Goes bud p g pc to) (hx : k[pc]? = some x) (ho : x.o = 14) (hop : p.opn = 0) : runP k J bud (F + 1) p g pc to = { issuedP p g pc with waits := true, at0 := (pc : Int) + 1 } := by
  rw [goes_run h, does_some (x := x) J _ _ g (by simpa using hx), if_neg (by omega), if_neg (by omega), if_neg (by omega), if_pos ho, if_neg (by simp only [issuedP]; omega)]
  exact run_stop (.inr rfl)

theorem step_zero_all {k : List Ins} {J : List Int} {bud F : Nat} {p : Pl} {g : List Nat} {pc : Nat} {to : Int} {x : Ins} (h : Goes bud p g pc to) (hx : k[pc]? = some x) (ho : x.o = 13) (hz : ∀ t ∈ g, isZ p.ts x.a t = true) : runP k J bud (F + 1) p g pc to = runP k J bud F (issuedP p g pc) g x.b to := by
  rw [goes_run h, does_some (x := x) J _ _ g (by simpa using hx), if_neg (by omega), if_neg (by omega), if_pos ho]
  unfold partsP
  rw [if_pos (List.filter_eq_nil_iff.2 fun t ht => by simp [issuedP, hz t ht])]

theorem step_zero_none {k : List Ins} {J : List Int} {bud F : Nat} {p : Pl} {g : List Nat} {pc : Nat} {to : Int} {x : Ins} (h : Goes bud p g pc to) (hx : k[pc]? = some x) (ho : x.o = 13) (hz : ∀ t ∈ g, isZ p.ts x.a t = false) : runP k J bud (F + 1) p g pc to = runP k J bud F (issuedP p g pc) g ((pc : Int) + 1) to := by
  rw [goes_run h, does_some (x := x) J _ _ g (by simpa using hx), if_neg (by omega), if_neg (by omega), if_pos ho]
  unfold partsP
  rw [if_neg (fun e => ?_), if_pos (List.filter_eq_nil_iff.2 fun t ht => by simp [issuedP, hz t ht])]
  cases g with
  | nil => exact h.ne rfl
  | cons t g =>
    have := List.filter_eq_nil_iff.1 e t (by simp)
    simp [issuedP, hz t (by simp)] at this

/-- The threads of a group, each turned by F. -/
def onG (g : List Nat) (F : Thr → Thr) (ts : List Thr) : List Thr := ts.mapIdx fun i t => if i ∈ g then F t else t

theorem onG_at (g : List Nat) (F : Thr → Thr) (ts : List Thr) (i : Nat) : (onG g F ts)[i]? = ts[i]?.map fun t => if i ∈ g then F t else t := by
  unfold onG
  rw [List.getElem?_mapIdx]

theorem onG_cons {F : Thr → Thr} {ts : List Thr} {g : List Nat} {t : Nat} (ht : t ∉ g) (hl : t < ts.length) : onG g F (ts.set t (F (ts.getD t thr0))) = onG (t :: g) F ts := by
  apply List.ext_getElem?
  intro i
  rw [onG_at, onG_at, List.getElem?_set]
  by_cases e : t = i
  · subst e
    rw [if_pos rfl, if_pos hl, List.getElem?_eq_getElem hl]
    simp [ht, List.getD_eq_getElem?_getD, List.getElem?_eq_getElem hl]
  · rw [if_neg e]
    cases ts[i]? with
    | none => rfl
    | some y =>
      have : ¬ i = t := fun h => e h.symm
      simp [this]

/-- Operations that work with registers alone. -/
theorem each_regs {x : Ins} {F : Thr → Thr} (h1 : ∀ t mem, oneP x t mem = (0, -1, F t, mem)) : ∀ (g : List Nat) (ts : List Thr) (mem : List Int), g.Nodup → (∀ t ∈ g, t < ts.length) → eachL x g ts mem = (onG g F ts, mem, [], none)
  | [], ts, mem, _, _ => by
    have e : onG [] F ts = ts := by
      apply List.ext_getElem?
      intro i
      rw [onG_at]
      cases ts[i]? <;> simp
    rw [e]
    rfl
  | t :: g, ts, mem, hn, hl => by
    obtain ⟨hn1, hn2⟩ := List.nodup_cons.1 hn
    unfold eachL
    rw [h1]
    rw [if_neg (by simp)]
    dsimp only
    rw [each_regs h1 g (ts.set t (F (ts.getD t thr0))) mem hn2 (fun u hu => by rw [List.length_set]; exact hl u (by simp [hu])), onG_cons hn1 (hl t (by simp))]
    rfl

end Go.Proofs.YtbhbacphiinpeaaGreat

