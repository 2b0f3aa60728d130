/- The kernel that a list of numbers makes, as it is laid out, third part: the whole; plain lists; nothing of the program is in this text. -/
import Derived.Test.YtbhbacphiinpeaaTb
namespace Go.Proofs.Ytbhbacphiinpeaa
open Go.RowKit

theorem close_al (s : St) (b : Bool) : (s.close b).al = s.al := by
  unfold St.close
  cases s.op.getLast? with
  | none => rfl
  | some c =>
    simp only [St.aim, St.other, St.ends]
    repeat' split
    all_goals rfl
theorem enters_al (s : St) (b : Bool) : (s.enters b).al = s.al := by
  unfold St.enters
  split <;> rfl
theorem line_al (s : St) (v : Nat) : (s.line v).al = s.al := by
  unfold St.line
  repeat' split
  all_goals first | exact enters_al _ _ | exact close_al _ _ | rfl
theorem lines_al (l : List Int) : ∀ s : St, (s.lines l).al = s.al := by
  induction l with
  | nil => exact fun _ => rfl
  | cons c l ih => exact fun s => (ih _).trans (line_al s _)
theorem closes_al : ∀ (n : Nat) (s : St), (s.closes n).al = s.al
  | 0, _ => rfl
  | n + 1, s => by
    unfold St.closes
    split
    · rfl
    · exact (closes_al n _).trans (close_al s false)
theorem kern2_al (l : List Int) (al : Bool) : (kern2 l al).al = al := (closes_al _ _).trans ((lines_al _ _).trans rfl)

/-- A made kernel. -/
structure KK (k : List Ins) (al : Bool) (ls le : Nat) : Prop where
  chk0 : chk k = (0, 0)
  len : 3 ≤ k.length ∧ k.length ≤ 19
  exit : ∀ (n : Nat) x, k[n]? = some x → (x.o = 0 ↔ n + 1 = k.length)
  ins : ∀ (n : Nat) x, k[n]? = some x → n + 1 < k.length → Kind al ls le n x
  tgt : ∀ (n : Nat) x, k[n]? = some x → isJ x → Tgt ls le n (k.length - 2) x.b
  wt : ∀ (q n : Nat) x, k[q]? = some ⟨14, 0, 0, 0⟩ → k[n]? = some x → isJ x → (n < q → x.b ≤ q) ∧ (q < n → (q : Int) < x.b)
  lpc : 0 < le → 1 < ls ∧ ls + 3 < le ∧ le + 2 ≤ k.length ∧ k[le - 3]? = some ⟨1, 1, 1, 0⟩ ∧ k[le - 2]? = some ⟨3, 3, 3, 1⟩ ∧ k[le - 1]? = some ⟨12, 0, ls, 0⟩
  lps : 0 < ls → 0 < le ∧ k[ls - 1]? = some (nmI al 3)
  lpx : 0 < ls → ∃ x, k[ls]? = some x ∧ x.o = 13
  lpz : ls = 0 → le = 0

theorem kk (l : List Int) (al : Bool) : ∃ ls le, KK (kern l al) al ls le := by
  obtain ⟨ls, le, h⟩ := kf2 l al
  have hop := kern2_op l al
  have hal := kern2_al l al
  have hk : kern l al = (kern2 l al).k ++ [⟨10, 0, 2, 0⟩, ⟨0, 0, 0, 0⟩] := by simp [kern, St.put]
  obtain ⟨hl, hl17⟩ := kern_len l al
  have hp := h.pos
  have get : ∀ {n : Nat} {x : Ins}, (kern l al)[n]? = some x → (kern2 l al).k[n]? = some x ∨ (n = (kern2 l al).k.length ∧ x = ⟨10, 0, 2, 0⟩) ∨ (n = (kern2 l al).k.length + 1 ∧ x = ⟨0, 0, 0, 0⟩) := fun {n x} hx => by
    rw [hk] at hx
    by_cases hn : n < (kern2 l al).k.length
    · rw [List.getElem?_append_left hn] at hx; exact .inl hx
    · rw [List.getElem?_append_right (by omega)] at hx
      obtain ⟨d, hd⟩ : ∃ d, n - (kern2 l al).k.length = d := ⟨_, rfl⟩
      rw [hd] at hx
      rcases d with _ | _ | d
      · simp at hx; exact .inr (.inl ⟨by omega, hx.symm⟩)
      · simp at hx; exact .inr (.inr ⟨by omega, hx.symm⟩)
      · simp at hx
  have up : ∀ {n : Nat} {x : Ins}, (kern2 l al).k[n]? = some x → (kern l al)[n]? = some x := fun {n x} hx => by
    rw [hk, List.getElem?_append_left (List.getElem?_eq_some_iff.1 hx).1]; exact hx
  have noop : ∀ {n : Nat}, ¬ ∃ b ∈ (kern2 l al).op, b.at0 = n := fun {n} ⟨b, hb, _⟩ => by rw [hop] at hb; simp at hb
  have hcl : 0 < ls → 0 < le := fun hls => by
    by_cases e : le = 0
    · obtain ⟨b, hb, -⟩ := (h.lps hls).2.2.1 e
      rw [hop] at hb; simp at hb
    · omega
  refine ⟨ls, le, kern_chk l al, by omega, kern_one l al, fun n x hx hn => ?_, fun n x hx hj => ?_, fun q n x hq hx hj => ?_, fun hle => ?_, fun hls => ?_, fun hls => ?_, h.lpz⟩
  · rcases get hx with hx | ⟨rfl, rfl⟩ | ⟨rfl, -⟩
    · have := h.ins n x hx
      rw [hal] at this
      exact this
    · exact .inr ⟨hp, .inr (.inl (by simp [Pln]))⟩
    · omega
  · rcases get hx with hx | ⟨rfl, rfl⟩ | ⟨rfl, rfl⟩
    · rcases h.jmp n x hx hj with h1 | h1
      · exact absurd h1 noop
      · rw [hl]; exact h1
    · simp [isJ] at hj
    · simp [isJ] at hj
  · rcases get hq with hq | ⟨-, hq⟩ | ⟨-, hq⟩
    · rcases get hx with hx | ⟨rfl, rfl⟩ | ⟨rfl, rfl⟩
      · rcases (h.wt q hq).2 n x hx hj with h1 | h1
        · exact absurd h1 noop
        · exact h1
      · simp [isJ] at hj
      · simp [isJ] at hj
    · simp at hq
    · simp at hq
  · have hls : 0 < ls := by
      by_cases e : ls = 0
      · have := h.lpz e; omega
      · omega
    obtain ⟨h1, h2, h3, -⟩ := h.lpc hle
    exact ⟨(h.lps hls).1, h1, by omega, up h3.1, up h3.2.1, up h3.2.2⟩
  · refine ⟨hcl hls, ?_⟩
    have := (h.lps hls).2.2.2.1
    rw [hal] at this
    exact up this
  · obtain ⟨y, h5, h6⟩ := (h.lps hls).2.2.2.2
    exact ⟨y, up h5, h6⟩


/-- A thread by itself: where it is, itself, its own word. -/
structure SS where
  pc : Nat
  t : Thr
  w : Int

def ownS (x : Ins) (t : Thr) (w : Int) : Thr × Int :=
  if x.o = 9 then (t.put x.a w, w) else if x.o = 10 then (t, t.get x.a) else ((oneP x t []).2.2.1, w)

def sstep (k : List Ins) (s : SS) : SS := match k[s.pc]? with
  | none => s
  | some x =>
    if x.o = 0 then ⟨s.pc + 1, { s.t with done := true }, s.w⟩
    else if x.o = 12 then ⟨x.b.toNat, s.t, s.w⟩
    else if x.o = 13 then ⟨if s.t.get x.a = 0 then x.b.toNat else s.pc + 1, s.t, s.w⟩
    else if x.o = 14 then ⟨s.pc + 1, s.t, s.w⟩
    else ⟨s.pc + 1, (ownS x s.t s.w).1, (ownS x s.t s.w).2⟩

/-- What register 2 holds. -/
def nv (al : Bool) (t : Thr) : Int := if al then 3 else t.name

structure SInv (k : List Ins) (al : Bool) (ls le : Nat) (s : SS) : Prop where
  pc : s.pc < k.length
  done : s.t.done = false
  regs : s.t.regs.length = 4
  name : 0 ≤ s.t.name ∧ s.t.name ≤ 1100
  r2 : 0 < s.pc → s.t.get 2 = nv al s.t
  r3 : 0 < ls → ls ≤ s.pc → s.pc < le → 0 ≤ s.t.get 3 ∧ s.t.get 3 ≤ nv al s.t ∧ (ls < s.pc → s.pc + 1 < le → 1 ≤ s.t.get 3) ∧ (s.pc + 2 = le → s.t.get 1 = 1)

/-- How many steps it makes yet, at most. -/
def sphi (k : List Ins) (al : Bool) (ls le : Nat) (s : SS) : Nat :=
  if s.pc < ls then (le - ls) * (nv al s.t).toNat + (k.length - s.pc)
  else if s.pc < le then (le - ls) * ((s.t.get 3).toNat + (if s.pc + 1 = le then 1 else 0)) + (k.length - s.pc)
  else k.length - s.pc

theorem nv_le {al : Bool} {t : Thr} (h : 0 ≤ t.name ∧ t.name ≤ 1100) : 0 ≤ nv al t ∧ nv al t ≤ 1100 := by unfold nv; split <;> omega

theorem get_put {t : Thr} (h : t.regs.length = 4) (a b v : Int) (ha : 0 ≤ a ∧ a < 4) (hb : 0 ≤ b ∧ b < 4) : (t.put a v).get b = if a = b then v else t.get b := by
  unfold Thr.put Thr.get
  simp only [List.getD_eq_getElem?_getD, List.getElem?_set]
  by_cases e : a = b
  · subst e
    rw [if_pos rfl, if_pos (by omega), if_pos rfl]; rfl
  · rw [if_neg (by omega), if_neg e]

theorem put_same (t : Thr) (a v : Int) : (t.put a v).done = t.done ∧ (t.put a v).name = t.name ∧ (t.put a v).regs.length = t.regs.length := by simp [Thr.put]

/-- A plain instruction leaves registers 2 and 3. -/
theorem ownS_pln {x : Ins} (hx : Pln x) {t : Thr} (h : t.regs.length = 4) (w : Int) :
    (ownS x t w).1.done = t.done ∧ (ownS x t w).1.name = t.name ∧ (ownS x t w).1.regs.length = 4 ∧ (ownS x t w).1.get 2 = t.get 2 ∧ (ownS x t w).1.get 3 = t.get 3 := by
  have key : ∀ (a v : Int), (a = 0 ∨ a = 1) → (t.put a v).done = t.done ∧ (t.put a v).name = t.name ∧ (t.put a v).regs.length = 4 ∧ (t.put a v).get 2 = t.get 2 ∧ (t.put a v).get 3 = t.get 3 := fun a v ha => by
    obtain ⟨h1, h2, h3⟩ := put_same t a v
    refine ⟨h1, h2, by omega, ?_, ?_⟩
    · rw [get_put h a 2 v (by omega) (by omega), if_neg (by omega)]
    · rw [get_put h a 3 v (by omega) (by omega), if_neg (by omega)]
  rcases hx with rfl | rfl | rfl | rfl | rfl | ⟨v, rfl⟩ | rfl | rfl | rfl
  all_goals simp only [ownS, oneP]
  all_goals first | exact key _ _ (by simp) | (simp [h])

theorem ownS_nmI (al : Bool) (r : Int) (t : Thr) (w : Int) : ownS (nmI al r) t w = (t.put r (nv al t), w) := by
  unfold ownS nmI nv oneP
  cases al <;> simp

theorem ownS_sub {t : Thr} (w : Int) (h1 : t.get 1 = 1) (h3 : 1 ≤ t.get 3 ∧ t.get 3 ≤ 1100) : ownS ⟨3, 3, 3, 1⟩ t w = (t.put 3 (t.get 3 - 1), w) := by
  have : W64 (t.get 3 - t.get 1) = t.get 3 - 1 := by rw [h1]; unfold W64 wrap64; omega
  simp [ownS, oneP, this]

/-- Where a thread may go from n. -/
def Nx (ls le n m : Nat) : Prop :=
  (0 < ls ∧ n + 1 = le ∧ m = ls) ∨ (n < m ∧ (0 < ls → n + 1 ≠ le ∧ (n + 1 = ls → m = ls) ∧ (n + 1 < ls → m < ls ∨ le ≤ m) ∧ (n = ls → m = ls + 1 ∨ m = le) ∧ (ls < n → n + 3 < le → m + 3 ≤ le) ∧ (ls < n → n < le → le ≤ n + 3 → m = n + 1)))

theorem KK.jmp {k : List Ins} {al : Bool} {ls le : Nat} (h : KK k al ls le) {n : Nat} {x : Ins} (hx : k[n]? = some x) (hj : isJ x) : 0 ≤ x.b ∧ x.b + 2 ≤ k.length ∧ Nx ls le n x.b.toNat := by
  have hn := (List.getElem?_eq_some_iff.1 hx).1
  have hl := h.len
  rcases h.tgt n x hx hj with ⟨h1, h2, h3⟩ | ⟨h1, h2, h3, h4⟩
  · obtain ⟨g1, g2, g3, -⟩ := h.lpc (by omega)
    exact ⟨by omega, by omega, .inl ⟨h1, h2, by omega⟩⟩
  · refine ⟨by omega, by omega, .inr ⟨by omega, fun hls => ?_⟩⟩
    obtain ⟨g0, g1⟩ := h.lps hls
    obtain ⟨g2, g3, g4, g5, g6, g7⟩ := h.lpc g0
    obtain ⟨h5, h6, h7⟩ := h4 hls
    refine ⟨h1, fun e => ?_, fun e => ?_, fun e => ?_, fun e1 e2 => ?_, fun e1 e2 e3 => ?_⟩
    · have e2 : ls - 1 = n := by omega
      rw [e2, hx] at g1
      rw [Option.some.inj g1] at hj
      exact absurd hj (nmI_o _ _).1
    · have := h6 (by omega); omega
    · have := h5 e; omega
    · have := h7 e1; omega
    · exfalso
      have := h7 e1
      omega

theorem KK.one {k : List Ins} {al : Bool} {ls le : Nat} (h : KK k al ls le) {n : Nat} {x : Ins} (hx : k[n]? = some x) (h0 : x.o ≠ 0) (hj : x.o ≠ 12) : n + 1 < k.length ∧ Nx ls le n (n + 1) := by
  have hn := (List.getElem?_eq_some_iff.1 hx).1
  refine ⟨by have := h.exit n x hx; omega, .inr ⟨by omega, fun hls => ?_⟩⟩
  obtain ⟨g0, g1⟩ := h.lps hls
  obtain ⟨g2, g3, g4, g5, g6, g7⟩ := h.lpc g0
  refine ⟨fun e => ?_, fun e => e, fun e => .inl e, fun e => .inl (by omega), fun _ e => by omega, fun _ _ _ => rfl⟩
  have e2 : le - 1 = n := by omega
  rw [e2, hx] at g7
  rw [Option.some.inj g7] at hj
  simp at hj

/-- What a step keeps, from numbers alone. -/
theorem sinv_next {k : List Ins} {al : Bool} {ls le : Nat} (h : KK k al ls le) {s s' : SS} (hs : SInv k al ls le s) (hnx : Nx ls le s.pc s'.pc) (hl : s'.pc < k.length)
    (hd : s'.t.done = s.t.done) (hnm : s'.t.name = s.t.name) (hr : s'.t.regs.length = 4)
    (h2 : s'.t.get 2 = nv al s.t)
    (h3 : 0 < ls → (s.pc + 1 = ls → s'.t.get 3 = nv al s.t) ∧ (s.pc = ls → s'.t.get 3 = s.t.get 3 ∧ (s'.pc = ls + 1 → s.t.get 3 ≠ 0)) ∧ (ls < s.pc → s.pc + 2 = le → s'.t.get 3 = s.t.get 3 - 1) ∧ (ls < s.pc → s.pc < le → s.pc + 2 ≠ le → s'.t.get 3 = s.t.get 3) ∧ (s.pc + 3 = le → s'.t.get 1 = 1)) :
    SInv k al ls le s' ∧ sphi k al ls le s' + 1 ≤ sphi k al ls le s := by
  have hnv : nv al s'.t = nv al s.t := by unfold nv; rw [hnm]
  have hv := nv_le (al := al) hs.name
  have hp := hs.pc
  constructor
  · refine ⟨hl, hd.trans hs.done, hr, by rw [hnm]; exact hs.name, fun _ => by rw [hnv]; exact h2, fun hls hp1 hp2 => ?_⟩
    rw [hnv]
    obtain ⟨g0, -⟩ := h.lps hls
    obtain ⟨g2, g3, -⟩ := h.lpc g0
    obtain ⟨a1, a2, a3, a4, a5⟩ := h3 hls
    rcases hnx with ⟨n1, n2, n3⟩ | ⟨n1, n2⟩
    · obtain ⟨b1, b2, -⟩ := hs.r3 hls (by omega) (by omega)
      have e := a4 (by omega) (by omega) (by omega)
      rw [e]
      exact ⟨b1, b2, fun c => by omega, fun c => by omega⟩
    · obtain ⟨m1, m2, m3, m4, m5, m6⟩ := n2 hls
      by_cases c1 : s.pc < ls
      · have c2 : s.pc + 1 = ls := by
          by_cases c : s.pc + 1 = ls
          · exact c
          · have := m3 (by omega); omega
        have e := a1 c2
        have e2 := m2 c2
        rw [e]
        exact ⟨hv.1, Int.le_refl _, fun c => by omega, fun c => by omega⟩
      · have c2 : s.pc < le := by omega
        obtain ⟨b1, b2, b3, b4⟩ := hs.r3 hls (by omega) c2
        by_cases c3 : s.pc = ls
        · have e := (a2 c3).1
          have e2 := m4 c3
          have e3 := (a2 c3).2 (by omega)
          rw [e]
          exact ⟨b1, b2, fun _ _ => by omega, fun c => by omega⟩
        · by_cases c4 : s.pc + 2 = le
          · have e := a3 (by omega) c4
            have e2 := m6 (by omega) c2 (by omega)
            have := b3 (by omega) (by omega)
            rw [e]
            exact ⟨by omega, by omega, fun c => by omega, fun c => by omega⟩
          · have e := a4 (by omega) c2 c4
            have := b3 (by omega) (by omega)
            rw [e]
            refine ⟨b1, b2, fun _ _ => this, fun c => ?_⟩
            by_cases c5 : s.pc + 3 = le
            · exact a5 c5
            · have := m5 (by omega) (by omega); omega
  · unfold sphi
    rw [hnv]
    by_cases hls : 0 < ls
    · obtain ⟨g0, -⟩ := h.lps hls
      obtain ⟨g2, g3, -⟩ := h.lpc g0
      obtain ⟨a1, a2, a3, a4, a5⟩ := h3 hls
      rcases hnx with ⟨n1, n2, n3⟩ | ⟨n1, n2⟩
      · have e := a4 (by omega) (by omega) (by omega)
        rw [if_neg (by omega), if_pos (show s'.pc < le by omega), if_neg (by omega), if_neg (by omega), if_pos (show s.pc < le by omega), if_pos n2, e]
        simp only [Nat.mul_add, Nat.mul_one, Nat.add_zero]
        omega
      · obtain ⟨m1, m2, m3, m4, m5, m6⟩ := n2 hls
        by_cases c1 : s.pc < ls
        · rw [if_pos c1]
          by_cases c2 : s.pc + 1 = ls
          · have e := a1 c2
            have e2 := m2 c2
            rw [if_neg (by omega), if_pos (by omega), if_neg (by omega), e]
            simp only [Nat.add_zero]
            omega
          · rcases m3 (by omega) with e | e
            · rw [if_pos e]; omega
            · rw [if_neg (by omega), if_neg (by omega)]; omega
        · rw [if_neg c1]
          by_cases c2 : s.pc < le
          · rw [if_pos c2, if_neg (by omega)]
            obtain ⟨b1, b2, b3, b4⟩ := hs.r3 hls (by omega) c2
            by_cases c3 : s'.pc < le
            · rw [if_pos c3, if_neg m1]
              by_cases c4 : s.pc + 2 = le
              · have e := a3 (by omega) c4
                have e2 := m6 (by omega) c2 (by omega)
                have := b3 (by omega) (by omega)
                rw [if_pos (by omega), e, show (s.t.get 3 - 1).toNat + 1 = (s.t.get 3).toNat + 0 by omega]
                omega
              · have e : s'.t.get 3 = s.t.get 3 := by
                  by_cases c5 : s.pc = ls
                  · exact (a2 c5).1
                  · exact a4 (by omega) c2 c4
                rw [e, if_neg (fun c => ?_)]
                · omega
                · by_cases c5 : s.pc = ls
                  · have := m4 c5; omega
                  · by_cases c6 : s.pc + 3 < le
                    · have := m5 (by omega) c6; omega
                    · have := m6 (by omega) c2 (by omega); omega
            · rw [if_neg c3]; omega
          · rw [if_neg c2, if_neg (by omega), if_neg (by omega)]; omega
    · have e := h.lpz (by omega)
      rcases hnx with ⟨n1, -⟩ | ⟨n1, -⟩
      · omega
      · rw [if_neg (by omega), if_neg (by omega), if_neg (by omega), if_neg (by omega)]; omega

/-- A thread's step. -/
theorem sinv_step {k : List Ins} {al : Bool} {ls le : Nat} (h : KK k al ls le) {s : SS} (hs : SInv k al ls le s) {x : Ins} (hx : k[s.pc]? = some x) (h0 : x.o ≠ 0) :
    SInv k al ls le (sstep k s) ∧ sphi k al ls le (sstep k s) + 1 ≤ sphi k al ls le s := by
  have hn1 : s.pc + 1 < k.length := by have := h.exit s.pc x hx; have := hs.pc; omega
  have hl := h.len
  have hv := nv_le (al := al) hs.name
  -- a step that leaves the registers
  have stay : ∀ m : Nat, 0 < s.pc → Nx ls le s.pc m → m < k.length → (0 < ls → s.pc + 1 ≠ ls ∧ s.pc + 2 ≠ le ∧ s.pc + 3 ≠ le ∧ (s.pc = ls → m = ls + 1 → s.t.get 3 ≠ 0)) → SInv k al ls le ⟨m, s.t, s.w⟩ ∧ sphi k al ls le ⟨m, s.t, s.w⟩ + 1 ≤ sphi k al ls le s := fun m hp hnx hm hc => by
    refine sinv_next h hs hnx hm rfl rfl hs.regs (hs.r2 hp) fun hls => ?_
    obtain ⟨c1, c2, c3, c4⟩ := hc hls
    exact ⟨fun e => absurd e c1, fun e => ⟨rfl, c4 e⟩, fun _ e => absurd e c2, fun _ _ _ => rfl, fun e => absurd e c3⟩
  -- what stands at the edges of the loop
  have edge : 0 < ls → (s.pc + 1 = ls → x = nmI al 3) ∧ (s.pc + 2 = le → x = ⟨3, 3, 3, 1⟩) ∧ (s.pc + 3 = le → x = ⟨1, 1, 1, 0⟩) ∧ (s.pc = ls → x.o = 13) := fun hls => by
    obtain ⟨g0, g1⟩ := h.lps hls
    obtain ⟨g2, g3, g4, g5, g6, g7⟩ := h.lpc g0
    obtain ⟨z, g8, g9⟩ := h.lpx hls
    refine ⟨fun e => ?_, fun e => ?_, fun e => ?_, fun e => ?_⟩
    · rw [show ls - 1 = s.pc by omega, hx] at g1; exact Option.some.inj g1
    · rw [show le - 2 = s.pc by omega, hx] at g6; exact Option.some.inj g6
    · rw [show le - 3 = s.pc by omega, hx] at g5; exact Option.some.inj g5
    · rw [← e, hx] at g8; rw [Option.some.inj g8]; exact g9
  have nedge : (isJ x ∨ x.o = 14) → 0 < ls → s.pc + 1 ≠ ls ∧ s.pc + 2 ≠ le ∧ s.pc + 3 ≠ le := fun hj hls => by
    obtain ⟨e1, e2, e3, -⟩ := edge hls
    refine ⟨fun e => ?_, fun e => ?_, fun e => ?_⟩
    · rw [e1 e] at hj; have := nmI_o al 3; rcases hj with hj | hj; exact this.1 hj; exact this.2.2 hj
    · rw [e2 e] at hj; simp [isJ] at hj
    · rw [e3 e] at hj; simp [isJ] at hj
  have pos : (isJ x ∨ x.o = 14) → 0 < s.pc := fun hj => by
    rcases h.ins s.pc x hx hn1 with ⟨-, e⟩ | ⟨e, -⟩
    · rw [e] at hj; have := nmI_o al 2; rcases hj with hj | hj; exact absurd hj this.1; exact absurd hj this.2.2
    · exact e
  unfold sstep
  rw [hx]
  dsimp only
  rw [if_neg h0]
  by_cases h12 : x.o = 12
  · rw [if_pos h12]
    obtain ⟨j1, j2, j3⟩ := h.jmp hx (.inl h12)
    refine stay _ (pos (.inl (.inl h12))) j3 (by omega) fun hls => ?_
    obtain ⟨c1, c2, c3⟩ := nedge (.inl (.inl h12)) hls
    refine ⟨c1, c2, c3, fun e e2 => ?_⟩
    rcases h.ins s.pc x hx hn1 with ⟨e3, -⟩ | ⟨-, e3⟩
    · omega
    · exfalso
      have := (h.lps hls).2
      rcases j3 with ⟨-, j4, -⟩ | ⟨-, j4⟩
      · have := h.lpc (h.lps hls).1; omega
      · rcases h.tgt s.pc x hx (.inl h12) with ⟨-, g, -⟩ | ⟨-, -, -, g⟩
        · have := h.lpc (h.lps hls).1; omega
        · have := (g hls).1 e
          have := h.lpc (h.lps hls).1
          omega
  rw [if_neg h12]
  by_cases h13 : x.o = 13
  · rw [if_pos h13]
    have hj : isJ x := .inr h13
    obtain ⟨j1, j2, j3⟩ := h.jmp hx hj
    by_cases hz : s.t.get x.a = 0
    · rw [if_pos hz]
      refine stay _ (pos (.inl hj)) j3 (by omega) fun hls => ?_
      obtain ⟨c1, c2, c3⟩ := nedge (.inl hj) hls
      refine ⟨c1, c2, c3, fun e e2 => ?_⟩
      exfalso
      rcases h.tgt s.pc x hx hj with ⟨-, g, -⟩ | ⟨-, -, -, g⟩
      · have := h.lpc (h.lps hls).1; omega
      · have := (g hls).1 e
        have := h.lpc (h.lps hls).1
        omega
    · rw [if_neg hz]
      refine stay _ (pos (.inl hj)) (h.one hx h0 h12).2 hn1 fun hls => ?_
      obtain ⟨c1, c2, c3⟩ := nedge (.inl hj) hls
      refine ⟨c1, c2, c3, fun e e2 => ?_⟩
      rcases h.ins s.pc x hx hn1 with ⟨e3, -⟩ | ⟨-, e3⟩
      · omega
      · rcases e3 with ⟨e3, -⟩ | e3 | ⟨e3, -⟩ | rfl | ⟨-, -, e3⟩ | ⟨-, e3, -⟩ | e3
        · omega
        · exact absurd hj (pln_o e3).1
        · have := h.lpc (h.lps hls).1; omega
        · simp at h13
        · exact absurd e e3
        · rw [e3] at hz; exact hz
        · omega
  rw [if_neg h13]
  by_cases h14 : x.o = 14
  · rw [if_pos h14]
    refine stay _ (pos (.inr h14)) (h.one hx h0 h12).2 hn1 fun hls => ?_
    obtain ⟨c1, c2, c3⟩ := nedge (.inr h14) hls
    exact ⟨c1, c2, c3, fun e _ => absurd ((edge hls).2.2.2 e) h13⟩
  rw [if_neg h14]
  obtain ⟨-, hnx⟩ := h.one hx h0 h12
  rcases h.ins s.pc x hx hn1 with ⟨e0, rfl⟩ | ⟨e0, ek⟩
  · rw [ownS_nmI al 2]
    obtain ⟨p1, p2, p3⟩ := put_same s.t 2 (nv al s.t)
    refine sinv_next h hs hnx hn1 p1 p2 (p3.trans hs.regs) ?_ fun hls => ?_
    · rw [get_put hs.regs 2 2 _ (by omega) (by omega), if_pos rfl]
    · obtain ⟨g0, -⟩ := h.lps hls
      obtain ⟨g2, g3, -⟩ := h.lpc g0
      exact ⟨fun e => by omega, fun e => by omega, fun e => by omega, fun e => by omega, fun e => by omega⟩
  · rcases ek with ⟨e1, rfl⟩ | e1 | ⟨e1, rfl⟩ | rfl | ⟨e1, -⟩ | ⟨e1, -⟩ | e1
    · rw [ownS_nmI al 3]
      obtain ⟨p1, p2, p3⟩ := put_same s.t 3 (nv al s.t)
      refine sinv_next h hs hnx hn1 p1 p2 (p3.trans hs.regs) ?_ fun hls => ?_
      · rw [get_put hs.regs 3 2 _ (by omega) (by omega), if_neg (by omega)]
        exact hs.r2 e0
      · obtain ⟨g0, -⟩ := h.lps hls
        obtain ⟨g2, g3, -⟩ := h.lpc g0
        refine ⟨fun e => ?_, fun e => by omega, fun e => by omega, fun e => by omega, fun e => by omega⟩
        rw [get_put hs.regs 3 3 _ (by omega) (by omega), if_pos rfl]
    · obtain ⟨p1, p2, p3, p4, p5⟩ := ownS_pln e1 hs.regs s.w
      refine sinv_next h hs hnx hn1 p1 p2 p3 (p4.trans (hs.r2 e0)) fun hls => ?_
      obtain ⟨d1, d2, d3, d4⟩ := edge hls
      refine ⟨fun e => ?_, fun e => ⟨p5, fun _ => ?_⟩, fun _ e => ?_, fun _ _ _ => p5, fun e => ?_⟩
      · rw [d1 e] at e1
        rcases e1 with e1 | e1 | e1 | e1 | e1 | ⟨v, e1⟩ | e1 | e1 | e1 <;> (unfold nmI at e1; cases al <;> simp at e1)
      · exact absurd (d4 e) h13
      · rw [d2 e] at e1
        rcases e1 with e1 | e1 | e1 | e1 | e1 | ⟨v, e1⟩ | e1 | e1 | e1 <;> simp at e1
      · rw [d3 e]
        simp only [ownS, oneP]
        simp
        rw [get_put hs.regs 1 1 _ (by omega) (by omega), if_pos rfl]
    · have hls : 0 < ls := by
        by_cases c : 0 < ls
        · exact c
        · have := h.lpz (by omega); omega
      obtain ⟨g0, -⟩ := h.lps hls
      obtain ⟨g2, g3, -⟩ := h.lpc g0
      obtain ⟨b1, b2, b3, b4⟩ := hs.r3 hls (by omega) (by omega)
      have b5 := b3 (by omega) (by omega)
      rw [ownS_sub s.w (b4 e1) ⟨b5, by omega⟩]
      obtain ⟨p1, p2, p3⟩ := put_same s.t 3 (s.t.get 3 - 1)
      refine sinv_next h hs hnx hn1 p1 p2 (p3.trans hs.regs) ?_ fun hls => ?_
      · rw [get_put hs.regs 3 2 _ (by omega) (by omega), if_neg (by omega)]
        exact hs.r2 e0
      · refine ⟨fun e => by omega, fun e => by omega, fun _ _ => ?_, fun _ _ c => absurd e1 c, fun e => by omega⟩
        rw [get_put hs.regs 3 3 _ (by omega) (by omega), if_pos rfl]
    · simp at h14
    · exact absurd e1 h13
    · exact absurd e1 h13
    · exact absurd e1 h12

end Go.Proofs.Ytbhbacphiinpeaa
