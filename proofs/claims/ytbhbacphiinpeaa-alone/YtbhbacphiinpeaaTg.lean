/- Groups of threads of a made kernel: a run to its end, the proof. Plain lists; nothing of the program is in this text. -/
import Derived.Test.YtbhbacphiinpeaaTf
namespace Go.Proofs.Ytbhbacphiinpeaa
open Go.RowKit

theorem doneAll_get : ∀ (g : List Nat) (ts : List Thr) (t : Nat), (doneAll ts g).getD t thr0 = if t ∈ g ∧ t < ts.length then { ts.getD t thr0 with done := true } else ts.getD t thr0
  | [], ts, t => by simp [doneAll]
  | u :: g, ts, t => by
    have e : doneAll ts (u :: g) = doneAll (ts.set u { ts.getD u thr0 with done := true }) g := rfl
    rw [e, doneAll_get g, List.length_set, getD_set]
    by_cases h : u = t
    · subst h
      by_cases hl : u < ts.length
      · by_cases hg : u ∈ g <;> simp [hl, hg]
      · simp [hl]
    · have h' : ¬ t = u := fun e => h e.symm
      by_cases hg : t ∈ g <;> simp [h, h', hg]

theorem ownS_name (x : Ins) (t : Thr) (w : Int) : (ownS x t w).1.name = t.name ∧ (ownS x t w).1.done = t.done := by
  unfold ownS
  split
  · exact ⟨(put_same t _ _).2.1, (put_same t _ _).1⟩
  · split
    · exact ⟨rfl, rfl⟩
    · have := one_name x t []
      exact ⟨this.2, this.1⟩

theorem sstep_own {k : List Ins} {s : SS} {x : Ins} (hx : k[s.pc]? = some x) (ho : OwnK x) : sstep k s = ⟨s.pc + 1, (ownS x s.t s.w).1, (ownS x s.t s.w).2⟩ := by
  have := ownK_o ho
  unfold isOwnP at this
  unfold sstep
  rw [hx]
  dsimp only
  rw [if_neg (by omega), if_neg (by omega), if_neg (by omega), if_neg (by omega)]

theorem sstep_jump {k : List Ins} {s : SS} {x : Ins} (hx : k[s.pc]? = some x) (ho : x.o = 12) : sstep k s = ⟨x.b.toNat, s.t, s.w⟩ := by
  unfold sstep; rw [hx]; dsimp only; rw [if_neg (by omega), if_pos ho]
theorem sstep_zero {k : List Ins} {s : SS} {x : Ins} (hx : k[s.pc]? = some x) (ho : x.o = 13) : sstep k s = ⟨if s.t.get x.a = 0 then x.b.toNat else s.pc + 1, s.t, s.w⟩ := by
  unfold sstep; rw [hx]; dsimp only; rw [if_neg (by omega), if_neg (by omega), if_pos ho]
theorem sstep_wait {k : List Ins} {s : SS} {x : Ins} (hx : k[s.pc]? = some x) (ho : x.o = 14) : sstep k s = ⟨s.pc + 1, s.t, s.w⟩ := by
  unfold sstep; rw [hx]; dsimp only; rw [if_neg (by omega), if_neg (by omega), if_neg (by omega), if_pos ho]

theorem kk_wait {k : List Ins} {al : Bool} {ls le : Nat} (hk : KK k al ls le) {n : Nat} {x : Ins} (hx : k[n]? = some x) (ho : x.o = 14) : x = ⟨14, 0, 0, 0⟩ := by
  have hn := (List.getElem?_eq_some_iff.1 hx).1
  have h1 : n + 1 < k.length := by have := hk.exit n x hx; omega
  rcases hk.ins n x hx h1 with ⟨-, rfl⟩ | ⟨-, h⟩
  · exact absurd ho (nmI_o _ _).2.2
  · rcases h with ⟨-, rfl⟩ | h | ⟨-, rfl⟩ | h | h | h | h
    · exact absurd ho (nmI_o _ _).2.2
    · exact absurd ho (pln_o h).2.2.1
    · simp at ho
    · exact h
    · omega
    · omega
    · omega

theorem kk_own {k : List Ins} {ls le : Nat} (hk : KK k false ls le) {n : Nat} {x : Ins} (hx : k[n]? = some x) (h0 : x.o ≠ 0) (h12 : x.o ≠ 12) (h13 : x.o ≠ 13) (h14 : x.o ≠ 14) : OwnK x ∧ (x.o = 9 ∨ x.o = 10 → 0 < n) := by
  have hn := (List.getElem?_eq_some_iff.1 hx).1
  have h1 : n + 1 < k.length := by have := hk.exit n x hx; omega
  rcases hk.ins n x hx h1 with ⟨-, rfl⟩ | ⟨hp, h⟩
  · exact ⟨.inr (.inl rfl), fun e => by simp [nmI] at e⟩
  · refine ⟨?_, fun _ => hp⟩
    rcases h with ⟨-, rfl⟩ | h | ⟨-, rfl⟩ | rfl | h | h | h
    · exact .inr (.inr (.inl rfl))
    · exact .inl h
    · exact .inr (.inr (.inr rfl))
    · simp at h14
    · exact absurd h.1 h13
    · exact absurd h.1 h13
    · exact absurd h h12

theorem nxt_own {k : List Ins} {n : Nat} {x : Ins} (hx : k[n]? = some x) (h0 : x.o ≠ 0) (h12 : x.o ≠ 12) : n + 1 ∈ nxt k n := by
  unfold nxt
  rw [hx]
  dsimp only
  rw [if_neg h0, if_neg h12]
  split <;> simp
theorem nxt_jump {k : List Ins} {n : Nat} {x : Ins} (hx : k[n]? = some x) (hj : isJ x) : x.b.toNat ∈ nxt k n := by
  unfold nxt
  rw [hx]
  dsimp only
  rcases hj with h | h
  · rw [if_neg (by omega), if_pos h]; simp
  · rw [if_neg (by omega), if_neg (by omega), if_pos h]; simp

theorem sstep_name (k : List Ins) (s : SS) : (sstep k s).t.name = s.t.name := by
  unfold sstep
  cases k[s.pc]? with
  | none => rfl
  | some x =>
    dsimp only
    repeat' split
    all_goals first | rfl | exact (ownS_name x _ _).1

/-- The threads that jump at a Zero. -/
def zz (vs : VS) (a : Int) (t : Nat) : Bool := (vs t).1.get a == 0

theorem zz_eq {first : Nat} {p : Pl} {g : List Nat} {vs : VS} {n0 opn : Nat} (h : PreD first p g vs n0 opn) (a : Int) : g.filter (isZ p.ts a) = g.filter (zz vs a) ∧ g.filter (fun t => !isZ p.ts a t) = g.filter (fun t => !zz vs a t) := by
  have key : ∀ t ∈ g, isZ p.ts a t = zz vs a t := fun t ht => by unfold isZ zz; rw [(h.loc t ht).1]
  exact ⟨List.filter_congr key, List.filter_congr fun t ht => by rw [key t ht]⟩

/-- Both sides of a Zero, one behind the other. -/
theorem Sta.parts {k : List Ins} {g : List Nat} {vs vA vB : VS} {pc d : Nat} {x : Ins} {a b : List (Int × Int)} (hx : k[pc]? = some x) (h13 : x.o = 13) (hl : (g.map (· % 4)).Nodup) (hne : g ≠ [])
    (hA : Sta k (g.filter (zz vs x.a)) vs vA x.b.toNat d a) (hB : Sta k (g.filter (fun t => !zz vs x.a t)) vs vB (pc + 1) d b) :
    Sta k g vs (fun t => if zz vs x.a t then vA t else vB t) pc d (((pc : Int), ((bits g : Nat) : Int)) :: (a ++ b)) := by
  have inA : ∀ t, t ∈ g.filter (zz vs x.a) ↔ t ∈ g ∧ zz vs x.a t = true := fun t => List.mem_filter
  have inB : ∀ t, t ∈ g.filter (fun t => !zz vs x.a t) ↔ t ∈ g ∧ zz vs x.a t = false := fun t => by rw [List.mem_filter]; simp
  have lA : ((g.filter (zz vs x.a)).map (· % 4)).Nodup := lanes_sub hl (List.filter_sublist)
  have lB : ((g.filter (fun t => !zz vs x.a t)).map (· % 4)).Nodup := lanes_sub hl (List.filter_sublist)
  constructor
  · intro r hr
    rcases List.mem_cons.1 hr with rfl | hr
    · exact ⟨g, List.Sublist.refl g, hne, rfl⟩
    · rcases List.mem_append.1 hr with hr | hr
      · obtain ⟨g', h1, h2⟩ := hA.rb r hr
        exact ⟨g', h1.trans List.filter_sublist, h2⟩
      · obtain ⟨g', h1, h2⟩ := hB.rb r hr
        exact ⟨g', h1.trans List.filter_sublist, h2⟩
  · intro t ht
    have e0 : wayT t (((pc : Int), ((bits g : Nat) : Int)) :: (a ++ b)) = (pc : Int) :: (wayT t a ++ wayT t b) := by
      rw [← List.singleton_append, wayT_append, wayT_all hl ht, wayT_append]; rfl
    rw [e0]
    have hs := sstep_zero (s := sv vs pc t) (k := k) hx h13
    refine .step (s := sv vs pc t) hx (by omega) ?_
    cases hz : zz vs x.a t with
    | true =>
      have hz' : (sv vs pc t).t.get x.a = 0 := by simpa [zz, sv] using hz
      rw [hs, if_pos hz']
      have tA := (inA t).2 ⟨ht, hz⟩
      have tB : t ∉ g.filter (fun t => !zz vs x.a t) := fun h => by rw [((inB t).1 h).2] at hz; simp at hz
      rw [wayT_none lB (fun u hu e => tB (lane_inj hl ((inB u).1 hu).1 ht e ▸ hu)) hB.rb, List.append_nil]
      have := hA.path t tA
      have e : sv (fun t => if zz vs x.a t then vA t else vB t) d t = sv vA d t := by simp [sv, hz]
      rw [e]
      exact this
    | false =>
      have hz' : ¬ (sv vs pc t).t.get x.a = 0 := by simpa [zz, sv] using hz
      rw [hs, if_neg hz']
      have tB := (inB t).2 ⟨ht, hz⟩
      have tA : t ∉ g.filter (zz vs x.a) := fun h => by rw [((inA t).1 h).2] at hz; simp at hz
      rw [wayT_none lA (fun u hu e => tA (lane_inj hl ((inA u).1 hu).1 ht e ▸ hu)) hA.rb, List.nil_append]
      have := hB.path t tB
      have e : sv (fun t => if zz vs x.a t then vA t else vB t) d t = sv vB d t := by simp [sv, hz]
      rw [e]
      exact this

theorem Dyn.parts {first : Nat} {p p1 qA qB : Pl} {g : List Nat} {P : Nat → Bool} {vA vB : VS} {r : Int × Int} {a b : List (Int × Int)} (h1 : p1.ts = p.ts) (h2 : p1.mem = p.mem) (h3 : p1.st = p.st) (h4 : p1.fault = p.fault) (h5 : p1.opn = p.opn + 1) (h6 : p1.ends = p.ends) (h7 : p1.log = p.log ++ [r]) (h8 : p1.steps = p.steps + 1)
    (hA : Dyn first p1 qA (g.filter P) vA a) (hB : Dyn first qA qB (g.filter (fun t => !P t)) vB b) :
    Dyn first p { qB with opn := qB.opn - 1 } g (fun t => if P t then vA t else vB t) (r :: (a ++ b)) := by
  have inA : ∀ t, t ∈ g.filter P ↔ t ∈ g ∧ P t = true := fun t => List.mem_filter
  have inB : ∀ t, t ∈ g.filter (fun t => !P t) ↔ t ∈ g ∧ P t = false := fun t => by rw [List.mem_filter]; simp
  constructor
  · exact (hB.tl.trans hA.tl).trans (by rw [h1])
  · exact (hB.ml.trans hA.ml).trans (by rw [h2])
  · exact fun t ht => ((hB.oth t (fun h => ht ((inB t).1 h).1)).trans (hA.oth t (fun h => ht ((inA t).1 h).1))).trans (by rw [h1])
  · exact fun c hc => ((hB.mo c (fun t ht => hc t ((inB t).1 ht).1)).trans (hA.mo c (fun t ht => hc t ((inA t).1 ht).1))).trans (by rw [h2])
  · exact (hB.st.trans hA.st).trans h3
  · exact (hB.fault.trans hA.fault).trans h4
  · show qB.opn - 1 = p.opn
    rw [hB.opn, hA.opn, h5]; rfl
  · exact (hB.ends.trans hA.ends).trans h6
  · show qB.log = _
    rw [hB.log, hA.log, h7]; simp
  · show qB.steps = _
    rw [hB.steps, hA.steps, h8]; simp; omega
  · intro t ht
    cases hz : P t with
    | true =>
      have tA := (inA t).2 ⟨ht, hz⟩
      have tB : t ∉ g.filter (fun t => !P t) := fun h => by rw [((inB t).1 h).2] at hz; simp at hz
      show qB.ts.getD t thr0 = _ ∧ qB.mem.getD (first + t) 0 = _
      rw [hB.oth t tB, hB.mo (first + t) (fun u hu e => tB (by rw [show t = u by omega]; exact hu))]
      simpa using hA.loc t tA
    | false =>
      have tB := (inB t).2 ⟨ht, hz⟩
      simpa using hB.loc t tB

/-- An instruction that threads do by themselves. -/
theorem Dyn.own {first : Nat} {p : Pl} {g : List Nat} {vs : VS} {n0 opn pc : Nat} {x : Ins} (hp : PreD first p g vs n0 opn) (hnd : g.Nodup) (ho : OwnK x) (h9 : ∀ t ∈ g, x.o = 9 ∨ x.o = 10 → (vs t).1.get 2 = ((first + t : Nat) : Int)) :
    Dyn first p (eachP (issuedP p g pc) g pc x) g (fun t => ownS x (vs t).1 (vs t).2) [((pc : Int), ((bits g : Nat) : Int))] ∧ (eachP (issuedP p g pc) g pc x).waits = false := by
  obtain ⟨i1, i2, i3, i4, i5, i6⟩ := each_own ho first g p.ts p.mem hnd (fun t ht => ⟨hp.lt t ht, fun e => by rw [(hp.loc t ht).1]; exact h9 t ht e⟩) hp.ml hp.m32
  have e : eachP (issuedP p g pc) g pc x = { issuedP p g pc with ts := (eachL x g p.ts p.mem).1, mem := (eachL x g p.ts p.mem).2.1, segs := p.segs + segC [] (eachL x g p.ts p.mem).2.2.1 } := by
    unfold eachP
    have : (eachL x g (issuedP p g pc).ts (issuedP p g pc).mem).2.2.2 = none := i1
    rw [this]
    rfl
  rw [e]
  refine ⟨⟨i2, i3, i5, i6, rfl, rfl, rfl, rfl, rfl, rfl, fun t ht => ?_⟩, hp.waits⟩
  have := i4 t ht
  rw [(hp.loc t ht).1, (hp.loc t ht).2] at this
  exact this

/-- A step that leaves threads and words. -/
theorem Dyn.still {first : Nat} {p q : Pl} {g : List Nat} {vs : VS} {n0 opn : Nat} {r : Int × Int} (hp : PreD first p g vs n0 opn) (hts : q.ts = p.ts) (hmem : q.mem = p.mem) (hst : q.st = p.st) (hf : q.fault = p.fault) (ho : q.opn = p.opn) (he : q.ends = p.ends) (hlog : q.log = p.log ++ [r]) (hs : q.steps = p.steps + 1) : Dyn first p q g vs [r] :=
  ⟨by rw [hts], by rw [hmem], fun t _ => by rw [hts], fun a _ => by rw [hmem], hst, hf, ho, he, hlog, hs, fun t ht => by rw [hts, hmem]; exact hp.loc t ht⟩

end Go.Proofs.Ytbhbacphiinpeaa
