/- Groups whose threads are alike, in a made kernel in which nothing hangs on a thread's name. Plain lists; nothing of the program is in this text. -/
import Derived.Test.YtbhbacphiinpeaaTp
namespace Go.Proofs.Ytbhbacphiinpeaa
open Go.RowKit

def OwnU (x : Ins) : Prop := Pln x ∨ x = ⟨1, 2, 3, 0⟩ ∨ x = ⟨1, 3, 3, 0⟩ ∨ x = ⟨3, 3, 3, 1⟩

theorem ownU_o {x : Ins} (h : OwnU x) : isOwnP x.o := by
  rcases h with h | rfl | rfl | rfl
  · have := (pln_o h).2.2.2; exact ⟨this.1, this.2⟩
  · exact ⟨by decide, by decide⟩
  · exact ⟨by decide, by decide⟩
  · exact ⟨by decide, by decide⟩

/-- What it does hangs on the registers and word 3 alone. -/
theorem one_uni {x : Ins} (hx : OwnU x) {t : Thr} {mem : List Int} {w : Int} (ha : 3 < mem.length) (hm : mem.length ≤ 32) (h2 : x.o = 9 ∨ x.o = 10 → t.get 2 = 3) (hw : mem.getD 3 0 = w) :
    (oneP x t mem).1 = 0 ∧ (oneP x t mem).2.2.1.regs = (ownS x ⟨0, t.regs, false⟩ w).1.regs ∧ (oneP x t mem).2.2.1.done = t.done ∧ (oneP x t mem).2.2.2.length = mem.length ∧ (oneP x t mem).2.2.2.getD 3 0 = (ownS x ⟨0, t.regs, false⟩ w).2 := by
  have hw3 : W64 ((3 : Int) + 0) = 3 := by unfold W64 wrap64; omega
  obtain ⟨nm, ρ, d⟩ := t
  rcases hx with (rfl | rfl | rfl | rfl | rfl | ⟨v, rfl⟩ | rfl | rfl | rfl) | rfl | rfl | rfl
  · simp [oneP, ownS, Thr.put, Thr.get, ← hw]
  · simp [oneP, ownS, Thr.put, Thr.get, ← hw]
  · simp [oneP, ownS, Thr.put, Thr.get, ← hw]
  · simp [oneP, ownS, Thr.put, Thr.get, ← hw]
  · simp [oneP, ownS, Thr.put, Thr.get, ← hw]
  · simp [oneP, ownS, Thr.put, ← hw]
  · have e : (⟨nm, ρ, d⟩ : Thr).get 2 = 3 := h2 (.inr rfl)
    have hn : ¬ (W64 ((⟨nm, ρ, d⟩ : Thr).get 2 + 0) < 0 ∨ (mem.length : Int) ≤ W64 ((⟨nm, ρ, d⟩ : Thr).get 2 + 0)) := by rw [e, hw3]; omega
    have e1 : oneP ⟨10, 0, 2, 0⟩ ⟨nm, ρ, d⟩ mem = (0, W64 ((⟨nm, ρ, d⟩ : Thr).get 2 + 0), ⟨nm, ρ, d⟩, mem.set (W64 ((⟨nm, ρ, d⟩ : Thr).get 2 + 0)).toNat ((⟨nm, ρ, d⟩ : Thr).get 0)) := by
      simp only [oneP, memP]
      rw [if_neg hn]
      simp
    rw [e1, e, hw3]
    refine ⟨rfl, ?_, rfl, by simp, ?_⟩
    · simp [ownS]
    · show (mem.set 3 _).getD 3 0 = _
      rw [getD_setM, if_pos ⟨rfl, ha⟩]
      simp [ownS, Thr.get]
  · have e : (⟨nm, ρ, d⟩ : Thr).get 2 = 3 := h2 (.inl rfl)
    have hn : ¬ (W64 ((⟨nm, ρ, d⟩ : Thr).get 2 + 0) < 0 ∨ (mem.length : Int) ≤ W64 ((⟨nm, ρ, d⟩ : Thr).get 2 + 0)) := by rw [e, hw3]; omega
    have e1 : oneP ⟨9, 1, 2, 0⟩ ⟨nm, ρ, d⟩ mem = (0, W64 ((⟨nm, ρ, d⟩ : Thr).get 2 + 0), (⟨nm, ρ, d⟩ : Thr).put 1 (mem.getD (W64 ((⟨nm, ρ, d⟩ : Thr).get 2 + 0)).toNat 0), mem) := by
      simp only [oneP, memP]
      rw [if_neg hn]
      simp
    rw [e1, e, hw3]
    have e3 : mem.getD (3 : Int).toNat 0 = w := hw
    rw [e3]
    exact ⟨rfl, by simp [ownS, Thr.put], rfl, rfl, by rw [hw]; simp [ownS]⟩
  · simp [oneP, ownS, Thr.put, Thr.get, ← hw]
  · simp [oneP, ownS, Thr.put, ← hw]
  · simp [oneP, ownS, Thr.put, ← hw]
  · simp [oneP, ownS, Thr.put, Thr.get, ← hw]

/-- Again, with the word that was left. -/
theorem own_again {x : Ins} (hx : OwnU x) (t : Thr) (w : Int) : (ownS x t (ownS x t w).2).1 = (ownS x t w).1 ∧ (ownS x t (ownS x t w).2).2 = (ownS x t w).2 := by
  rcases hx with (rfl | rfl | rfl | rfl | rfl | ⟨v, rfl⟩ | rfl | rfl | rfl) | rfl | rfl | rfl <;> simp [ownS]

theorem each_uni {x : Ins} (hx : OwnU x) (ρ : List Int) (h2 : x.o = 9 ∨ x.o = 10 → ρ.getD 2 0 = 3) : ∀ (g : List Nat) (ts : List Thr) (mem : List Int) (w : Int), g.Nodup → (∀ t ∈ g, t < ts.length ∧ (ts.getD t thr0).regs = ρ) → 3 < mem.length → mem.length ≤ 32 → (mem.getD 3 0 = w ∨ mem.getD 3 0 = (ownS x ⟨0, ρ, false⟩ w).2) →
    (eachL x g ts mem).2.2.2 = none ∧ (eachL x g ts mem).1.length = ts.length ∧ (eachL x g ts mem).2.1.length = mem.length ∧
    (∀ t ∈ g, ((eachL x g ts mem).1.getD t thr0).regs = (ownS x ⟨0, ρ, false⟩ w).1.regs ∧ ((eachL x g ts mem).1.getD t thr0).done = (ts.getD t thr0).done) ∧
    (∀ t, t ∉ g → (eachL x g ts mem).1.getD t thr0 = ts.getD t thr0) ∧ ((g ≠ [] ∨ mem.getD 3 0 = (ownS x ⟨0, ρ, false⟩ w).2) → (eachL x g ts mem).2.1.getD 3 0 = (ownS x ⟨0, ρ, false⟩ w).2)
  | [], ts, mem, w, _, _, _, _, hw => by simp [eachL]
  | t :: g, ts, mem, w, hn, hg, hm, h32, hw => by
    obtain ⟨hn1, hn2⟩ := List.nodup_cons.1 hn
    obtain ⟨ht, hr⟩ := hg t (by simp)
    have key : ∀ w0, mem.getD 3 0 = w0 → (w0 = w ∨ w0 = (ownS x ⟨0, ρ, false⟩ w).2) → (ownS x ⟨0, ρ, false⟩ w0).1 = (ownS x ⟨0, ρ, false⟩ w).1 ∧ (ownS x ⟨0, ρ, false⟩ w0).2 = (ownS x ⟨0, ρ, false⟩ w).2 := fun w0 _ h => by
      rcases h with rfl | rfl
      · exact ⟨rfl, rfl⟩
      · exact own_again hx _ _
    obtain ⟨k1, k2⟩ := key _ rfl hw
    obtain ⟨o1, o2, o3, o4, o5⟩ := one_uni hx (t := ts.getD t thr0) (mem := mem) (w := mem.getD 3 0) hm h32 (fun e => by unfold Thr.get; rw [hr]; exact h2 e) rfl
    rw [hr, k1] at o2
    rw [hr, k2] at o5
    unfold eachL
    rw [if_neg (by rw [o1]; simp)]
    dsimp only
    generalize (oneP x (ts.getD t thr0) mem).2.2.1 = T1 at o2 o3 ⊢
    generalize (oneP x (ts.getD t thr0) mem).2.2.2 = M1 at o4 o5 ⊢
    have ih := each_uni hx ρ h2 g (ts.set t T1) M1 w hn2 (fun u hu => by
      have hne : t ≠ u := fun e => hn1 (e ▸ hu)
      rw [List.length_set, getD_set, if_neg (by simp [hne])]
      exact hg u (by simp [hu])) (by omega) (by omega) (.inr o5)
    obtain ⟨i1, i2, i3, i4, i5, i6⟩ := ih
    refine ⟨i1, by rw [i2, List.length_set], by rw [i3, o4], fun u hu => ?_, fun u hu => ?_, fun _ => i6 (.inr o5)⟩
    · by_cases e : u ∈ g
      · obtain ⟨j1, j2⟩ := i4 u e
        have hne : t ≠ u := fun e2 => hn1 (e2 ▸ e)
        rw [getD_set, if_neg (by simp [hne])] at j2
        exact ⟨j1, j2⟩
      · have eu : u = t := by simpa [e] using hu
        subst eu
        rw [i5 u e, getD_set, if_pos ⟨rfl, ht⟩]
        exact ⟨o2, o3⟩
    · rw [List.mem_cons, not_or] at hu
      rw [i5 u hu.2, getD_set, if_neg (by intro e; exact hu.1 e.1.symm)]

structure UPre (p : Pl) (g : List Nat) (s : SS) : Prop where
  ends : p.ends = false
  waits : p.waits = false
  opn : p.opn = 0
  lt : ∀ t ∈ g, t < p.ts.length
  m4 : 3 < p.mem.length
  m32 : p.mem.length ≤ 32
  loc : ∀ t ∈ g, (p.ts.getD t thr0).regs = s.t.regs ∧ (p.ts.getD t thr0).done = s.t.done
  wd : p.mem.getD 3 0 = s.w

structure UDyn (p q : Pl) (g : List Nat) (s' : SS) (tr : List Int) : Prop where
  tl : q.ts.length = p.ts.length
  ml : q.mem.length = p.mem.length
  oth : ∀ t, t ∉ g → q.ts.getD t thr0 = p.ts.getD t thr0
  st : q.st = p.st
  opn : q.opn = p.opn
  ends : q.ends = p.ends
  log : q.log = p.log ++ tr.map fun v => (v, ((bits g : Nat) : Int))
  steps : q.steps = p.steps + tr.length
  loc : ∀ t ∈ g, (q.ts.getD t thr0).regs = s'.t.regs ∧ (q.ts.getD t thr0).done = s'.t.done
  wd : q.mem.getD 3 0 = s'.w

theorem UDyn.trans {p q r : Pl} {g : List Nat} {s' s'' : SS} {a b : List Int} (h : UDyn p q g s' a) (h' : UDyn q r g s'' b) : UDyn p r g s'' (a ++ b) where
  tl := h'.tl.trans h.tl
  ml := h'.ml.trans h.ml
  oth := fun t ht => (h'.oth t ht).trans (h.oth t ht)
  st := h'.st.trans h.st
  opn := h'.opn.trans h.opn
  ends := h'.ends.trans h.ends
  log := by rw [h'.log, h.log, List.append_assoc, List.map_append]
  steps := by rw [h'.steps, h.steps, List.length_append]; omega
  loc := h'.loc
  wd := h'.wd

theorem UDyn.pre {p q : Pl} {g : List Nat} {s s' : SS} {tr : List Int} (h : UDyn p q g s' tr) (hp : UPre p g s) (hw : q.waits = false) : UPre q g s' :=
  ⟨h.ends.trans hp.ends, hw, h.opn.trans hp.opn, fun t ht => by rw [h.tl]; exact hp.lt t ht, by rw [h.ml]; exact hp.m4, by rw [h.ml]; exact hp.m32, h.loc, h.wd⟩

/-- How a run of threads that are alike ends. -/
def EndU (k : List Ins) (s' : SS) (tr : List Int) (wt : Bool) : Prop :=
  (wt = true ∧ s'.t.done = false ∧ ∃ (w : Nat) (tr0 : List Int), s'.pc = w + 1 ∧ isW k w ∧ tr = tr0 ++ [(w : Int)] ∧ ∀ v ∈ tr0, ¬ isW k v.toNat) ∨
  (wt = false ∧ s'.t.done = true ∧ (∀ v ∈ tr, ¬ isW k v.toNat) ∧ tr ≠ [])

theorem EndU.cons {k : List Ins} {s' : SS} {tr : List Int} {wt : Bool} {v : Int} (hv : ¬ isW k v.toNat) (h : EndU k s' tr wt) : EndU k s' (v :: tr) wt := by
  rcases h with ⟨h1, h2, w, tr0, h3, h4, h5, h6⟩ | ⟨h1, h2, h3, h4⟩
  · exact .inl ⟨h1, h2, w, v :: tr0, h3, h4, by rw [h5]; rfl, fun u hu => by
      rcases List.mem_cons.1 hu with rfl | hu
      · exact hv
      · exact h6 u hu⟩
  · exact .inr ⟨h1, h2, fun u hu => by
      rcases List.mem_cons.1 hu with rfl | hu
      · exact hv
      · exact h3 u hu, by simp⟩

theorem kk_ownU {k : List Ins} {ls le : Nat} (hk : KK k true ls le) {n : Nat} {x : Ins} (hx : k[n]? = some x) (h0 : x.o ≠ 0) (h12 : x.o ≠ 12) (h13 : x.o ≠ 13) (h14 : x.o ≠ 14) : OwnU x ∧ (x.o = 9 ∨ x.o = 10 → 0 < n) := by
  have hn := (List.getElem?_eq_some_iff.1 hx).1
  have h1 : n + 1 < k.length := by have := hk.exit n x hx; omega
  rcases hk.ins n x hx h1 with ⟨-, rfl⟩ | ⟨hp, h⟩
  · exact ⟨.inr (.inl rfl), fun e => by simp [nmI] at e⟩
  · refine ⟨?_, fun _ => hp⟩
    rcases h with ⟨-, rfl⟩ | h | ⟨-, rfl⟩ | rfl | h | h | h
    · exact .inr (.inr (.inl rfl))
    · exact .inl h
    · exact .inr (.inr (.inr rfl))
    · simp at h14
    · exact absurd h.1 h13
    · exact absurd h.1 h13
    · exact absurd h h12

theorem run_uni {k : List Ins} {J : List Int} {ls le bud : Nat} (hk : KK k true ls le) {g : List Nat} (hne : g ≠ []) (hnd : g.Nodup) : ∀ (f : Nat) (p : Pl) (s : SS), UPre p g s → SInv k true ls le s → p.steps + sphi k true ls le s < bud → sphi k true ls le s ≤ f →
    ∃ tr s' wt, Pth k tr s s' ∧ EndU k s' tr wt ∧ UDyn p (runP k J bud f p g (s.pc : Int) (-1)) g s' tr ∧ (runP k J bud f p g (s.pc : Int) (-1)).waits = wt ∧ (wt = true → (runP k J bud f p g (s.pc : Int) (-1)).at0 = (s'.pc : Int)) := by
  intro f
  induction f with
  | zero =>
    intro p s hp hs hb hf
    have := sphi_pos (al := true) (ls := ls) (le := le) hs.pc
    omega
  | succ F ih =>
    intro p s hp hs hb hf
    have hlive : liveL p.ts g = g := by
      unfold liveL
      rw [List.filter_eq_self]
      intro t ht
      unfold isDone
      rw [(hp.loc t ht).2, hs.done]; rfl
    have hG : Goes bud p g s.pc (-1) := ⟨hp.ends, hp.waits, hlive, hne, by omega, by omega⟩
    obtain ⟨x, hx⟩ : ∃ x, k[s.pc]? = some x := ⟨_, List.getElem?_eq_getElem hs.pc⟩
    have nw : x.o ≠ 14 → ¬ isW k ((s.pc : Int)).toNat := fun h hq => by
      simp only [Int.toNat_natCast] at hq
      unfold isW at hq
      rw [hx] at hq
      cases hq
      simp at h
    have zs : ∀ a t, t ∈ g → isZ p.ts a t = (s.t.get a == 0) := fun a t ht => by unfold isZ Thr.get; rw [(hp.loc t ht).1]
    have on : ∀ (q : Pl), x.o ≠ 0 → x.o ≠ 14 → UDyn p q g (sstep k s) [(s.pc : Int)] → q.waits = false → runP k J bud (F + 1) p g (s.pc : Int) (-1) = runP k J bud F q g ((sstep k s).pc : Int) (-1) →
        ∃ tr s' wt, Pth k tr s s' ∧ EndU k s' tr wt ∧ UDyn p (runP k J bud (F + 1) p g (s.pc : Int) (-1)) g s' tr ∧ (runP k J bud (F + 1) p g (s.pc : Int) (-1)).waits = wt ∧ (wt = true → (runP k J bud (F + 1) p g (s.pc : Int) (-1)).at0 = (s'.pc : Int)) := fun q h0 h14 hd hw e => by
      obtain ⟨i1, i2⟩ := sinv_step hk hs hx h0
      have hst := hd.steps
      simp only [List.length_singleton] at hst
      obtain ⟨tr, s', wt, j1, j2, j3, j4, j5⟩ := ih q (sstep k s) (hd.pre hp hw) i1 (by omega) (by omega)
      rw [e]
      exact ⟨(s.pc : Int) :: tr, s', wt, .step hx h0 j1, j2.cons (nw h14), hd.trans j3, j4, j5⟩
    have still : ∀ (m : Nat), sstep k s = ⟨m, s.t, s.w⟩ → UDyn p (issuedP p g s.pc) g (sstep k s) [(s.pc : Int)] := fun m e => by
      rw [e]
      exact ⟨rfl, rfl, fun _ _ => rfl, rfl, rfl, rfl, rfl, rfl, hp.loc, hp.wd⟩
    by_cases h0 : x.o = 0
    · have e := step_exit (J := J) (F := F) hG hx h0 hp.lt
      rw [e]
      refine ⟨[(s.pc : Int)], sstep k s, false, .exit hx h0, .inr ⟨rfl, by rw [sstep_exit hx h0], fun v hv => ?_, by simp⟩, ⟨(doneAll_keeps g p.ts).1, rfl, fun t ht => ?_, rfl, rfl, rfl, rfl, rfl, fun t ht => ?_, ?_⟩, hp.waits, fun h => by simp at h⟩
      · simp at hv; subst hv; exact nw (by omega)
      · show (doneAll p.ts g).getD t thr0 = _
        rw [doneAll_get, if_neg (fun h => ht h.1)]
      · show ((doneAll p.ts g).getD t thr0).regs = _ ∧ ((doneAll p.ts g).getD t thr0).done = _
        rw [doneAll_get, if_pos ⟨ht, hp.lt t ht⟩, sstep_exit hx h0]
        exact ⟨(hp.loc t ht).1, rfl⟩
      · rw [sstep_exit hx h0]; exact hp.wd
    by_cases h12 : x.o = 12
    · obtain ⟨j1, -, -⟩ := hk.jmp hx (.inl h12)
      have es := sstep_jump hx h12
      have e := step_jump (J := J) (F := F) hG hx h12
      rw [show x.b = ((x.b.toNat : Nat) : Int) by omega] at e
      exact on (issuedP p g s.pc) h0 (by omega) (still _ es) hp.waits (by rw [es]; exact e)
    by_cases h13 : x.o = 13
    · obtain ⟨j1, -, -⟩ := hk.jmp hx (.inr h13)
      have es := sstep_zero hx h13
      by_cases hz : s.t.get x.a = 0
      · rw [if_pos hz] at es
        have e := step_zero_all (J := J) (F := F) hG hx h13 (fun t ht => by rw [zs _ t ht, hz]; rfl)
        rw [show x.b = ((x.b.toNat : Nat) : Int) by omega] at e
        exact on (issuedP p g s.pc) h0 (by omega) (still _ es) hp.waits (by rw [es]; exact e)
      · rw [if_neg hz] at es
        have e := step_zero_none (J := J) (F := F) hG hx h13 (fun t ht => by rw [zs _ t ht]; simpa using hz)
        exact on (issuedP p g s.pc) h0 (by omega) (still _ es) hp.waits (by rw [es]; exact e)
    by_cases h14 : x.o = 14
    · have ew := kk_wait hk hx h14
      subst ew
      have es := sstep_wait hx h14
      have e := step_wait (J := J) (F := F) hG hx h14 hp.opn
      rw [e]
      refine ⟨[(s.pc : Int)], sstep k s, true, Pth.one hx, .inl ⟨rfl, by rw [es]; exact hs.done, s.pc, [], by rw [es], hx, rfl, fun v hv => by simp at hv⟩, ?_, rfl, fun _ => by rw [es]; show (s.pc : Int) + 1 = ((s.pc + 1 : Nat) : Int); omega⟩
      rw [es]
      exact ⟨rfl, rfl, fun _ _ => rfl, rfl, rfl, rfl, rfl, rfl, hp.loc, hp.wd⟩
    · obtain ⟨ho, h9⟩ := kk_ownU hk hx h0 h12 h13 h14
      obtain ⟨i1, i2, i3, i4, i5, i6⟩ := each_uni ho s.t.regs (fun e => by have := hs.r2 (h9 e); unfold nv at this; exact this) g p.ts p.mem s.w hnd (fun t ht => ⟨hp.lt t ht, (hp.loc t ht).1⟩) hp.m4 hp.m32 (.inl hp.wd)
      have hoo := ownU_o ho
      have es : sstep k s = ⟨s.pc + 1, (ownS x s.t s.w).1, (ownS x s.t s.w).2⟩ := by
        unfold isOwnP at hoo
        unfold sstep
        rw [hx]
        dsimp only
        rw [if_neg (by omega), if_neg (by omega), if_neg (by omega), if_neg (by omega)]
      have er : (ownS x ⟨0, s.t.regs, false⟩ s.w).1.regs = (ownS x s.t s.w).1.regs ∧ (ownS x ⟨0, s.t.regs, false⟩ s.w).2 = (ownS x s.t s.w).2 := by
        obtain ⟨pc, ⟨nm, ρ, d⟩, w⟩ := s
        rcases ho with (rfl | rfl | rfl | rfl | rfl | ⟨v, rfl⟩ | rfl | rfl | rfl) | rfl | rfl | rfl <;> simp [ownS, oneP, Thr.put, Thr.get]
      have hdn : (ownS x s.t s.w).1.done = s.t.done := (ownS_name x _ _).2
      have e := step_own (J := J) (F := F) hG hx hoo
      have e1 : (s.pc : Int) + 1 = ((s.pc + 1 : Nat) : Int) := by omega
      rw [e1] at e
      have eE : eachP (issuedP p g s.pc) g s.pc x = { issuedP p g s.pc with ts := (eachL x g p.ts p.mem).1, mem := (eachL x g p.ts p.mem).2.1, segs := p.segs + segC [] (eachL x g p.ts p.mem).2.2.1 } := by
        unfold eachP
        have : (eachL x g (issuedP p g s.pc).ts (issuedP p g s.pc).mem).2.2.2 = none := i1
        rw [this]
        rfl
      rw [eE] at e
      refine on { issuedP p g s.pc with ts := (eachL x g p.ts p.mem).1, mem := (eachL x g p.ts p.mem).2.1, segs := p.segs + segC [] (eachL x g p.ts p.mem).2.2.1 } h0 h14 ?_ hp.waits (by rw [es]; exact e)
      rw [es]
      refine ⟨i2, i3, i5, rfl, rfl, rfl, rfl, rfl, fun t ht => ?_, ?_⟩
      · obtain ⟨k1, k2⟩ := i4 t ht
        rw [er.1] at k1
        exact ⟨k1, by show _ = (ownS x s.t s.w).1.done; rw [k2, (hp.loc t ht).2, hdn]⟩
      · have := i6 (.inl hne)
        rw [er.2] at this
        exact this

end Go.Proofs.Ytbhbacphiinpeaa
