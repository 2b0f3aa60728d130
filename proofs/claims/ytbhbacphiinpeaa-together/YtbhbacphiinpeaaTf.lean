/- Groups of threads of a made kernel: a run to its end. Plain lists; nothing of the program is in this text. -/
import Derived.Test.YtbhbacphiinpeaaTe
namespace Go.Proofs.Ytbhbacphiinpeaa
open Go.RowKit

abbrev isW (k : List Ins) (q : Nat) : Prop := k[q]? = some ⟨14, 0, 0, 0⟩

theorem nxt_cases {k : List Ins} {n m : Nat} (h : m ∈ nxt k n) : ∃ x, k[n]? = some x ∧ x.o ≠ 0 ∧ ((isJ x ∧ m = x.b.toNat) ∨ (x.o ≠ 12 ∧ m = n + 1)) := by
  unfold nxt at h
  cases hx : k[n]? with
  | none => rw [hx] at h; simp at h
  | some x =>
    rw [hx] at h
    dsimp only at h
    refine ⟨x, rfl, ?_⟩
    by_cases h0 : x.o = 0
    · rw [if_pos h0] at h; simp at h
    rw [if_neg h0] at h
    refine ⟨h0, ?_⟩
    by_cases h12 : x.o = 12
    · rw [if_pos h12] at h
      simp at h
      exact .inl ⟨.inl h12, h⟩
    · rw [if_neg h12] at h
      by_cases h13 : x.o = 13
      · rw [if_pos h13] at h
        simp at h
        rcases h with h | h
        · exact .inl ⟨.inr h13, h⟩
        · exact .inr ⟨h12, h⟩
      · rw [if_neg h13] at h
        simp at h
        exact .inr ⟨h12, h⟩

theorem KK.right {k : List Ins} {al : Bool} {ls le : Nat} (hk : KK k al ls le) {q n m : Nat} (hq : isW k q) (hn : q ≤ n) (hm : m ∈ nxt k n) : q < m := by
  obtain ⟨x, hx, -, h⟩ := nxt_cases hm
  rcases h with ⟨hj, rfl⟩ | ⟨-, rfl⟩
  · have hne : q ≠ n := fun e => by subst e; rw [hq] at hx; cases hx; simp [isJ] at hj
    have := (hk.wt q n x hq hx hj).2 (by omega)
    omega
  · omega

theorem KK.left {k : List Ins} {al : Bool} {ls le : Nat} (hk : KK k al ls le) {q n m : Nat} (hq : isW k q) (hn : n < q) (hm : m ∈ nxt k n) : m ≤ q := by
  obtain ⟨x, hx, -, h⟩ := nxt_cases hm
  rcases h with ⟨hj, rfl⟩ | ⟨-, rfl⟩
  · have := (hk.wt q n x hq hx hj).1 hn
    omega
  · omega

theorem KK.way_right {k : List Ins} {al : Bool} {ls le : Nat} (hk : KK k al ls le) {q : Nat} (hq : isW k q) {wo : Int} : ∀ {p : List Nat} {n : Nat}, q ≤ n → IsWay k wo n p → ∀ m ∈ p, q < m
  | [], _, _, _, m, hm => by simp at hm
  | a :: p, n, hn, h, m, hm => by
    obtain ⟨h1, -, h3⟩ := h
    have ha := hk.right hq hn h1
    rcases List.mem_cons.1 hm with rfl | hm
    · exact ha
    · exact hk.way_right hq (Nat.le_of_lt ha) h3 m hm

theorem way_avoid2 {k : List Ins} {d : Nat} : ∀ {p : List Nat} {n : Nat}, IsWay k (-1) n p → d ∉ p → IsWay k (d : Int) n p
  | [], _, h, _ => h
  | a :: p, n, h, hd => by
    obtain ⟨h1, -, h3⟩ := h
    rw [List.mem_cons, not_or] at hd
    exact ⟨h1, by have := hd.1; omega, way_avoid2 h3 hd.2⟩

theorem KK.psd_right {k : List Ins} {al : Bool} {ls le : Nat} (hk : KK k al ls le) {J : List Int} (hJ : Joined k J) {q n d : Nat} (hq : isW k q) (hn : q ≤ n) (hl : n < k.length) (h : Psd k n d) : q < d := by
  obtain ⟨p, hp⟩ := hJ.all n hl
  by_cases hd : d ∈ p
  · exact hk.way_right hq hn hp d hd
  · exact absurd ⟨p, way_avoid2 hp hd⟩ h.2

theorem KK.way_left {k : List Ins} {al : Bool} {ls le : Nat} (hk : KK k al ls le) {q : Nat} (hq : isW k q) : ∀ {p : List Nat} {n : Nat}, n < q → IsWay k (q : Int) n p → False
  | [], n, hn, h => by
    obtain ⟨x, hx, h0⟩ := h
    have := (hk.exit n x hx).1 h0
    have := (List.getElem?_eq_some_iff.1 hq).1
    omega
  | a :: p, n, hn, h => by
    obtain ⟨h1, h2, h3⟩ := h
    have := hk.left hq hn h1
    exact hk.way_left hq (by omega) h3

theorem KK.psd_left {k : List Ins} {al : Bool} {ls le : Nat} (hk : KK k al ls le) {q n : Nat} (hq : isW k q) (hn : n < q) : Psd k n q :=
  ⟨by omega, fun ⟨_, hp⟩ => hk.way_left hq hn hp⟩

theorem psd_next {k : List Ins} {n m d : Nat} (h : Psd k n d) (hm : m ∈ nxt k n) : m = d ∨ Psd k m d := by
  by_cases e : m = d
  · exact .inl e
  · refine .inr ⟨e, fun ⟨p, hp⟩ => h.2 ⟨m :: p, hm, by omega, hp⟩⟩

/-- No Wait lies ahead of d. -/
def Safe (k : List Ins) (pc d : Nat) : Prop := ∀ q, isW k q → q < pc ∨ (pc < q ∧ d ≤ q)
def Aims (k : List Ins) (pc d : Nat) : Prop := d < k.length ∧ (pc = d ∨ (Psd k pc d ∧ Safe k pc d))
def Mode (k : List Ins) (opn pc : Nat) (to : Int) : Prop := (opn = 0 ∧ to = -1) ∨ (0 < opn ∧ ∃ d : Nat, to = (d : Int) ∧ Aims k pc d)

theorem aims_next {k : List Ins} {al : Bool} {ls le : Nat} (hk : KK k al ls le) {J : List Int} (hJ : Joined k J) {pc m d : Nat} (h : Aims k pc d) (hne : pc ≠ d) (hm : m ∈ nxt k pc) (hml : m < k.length) : Aims k m d := by
  obtain ⟨h0, h⟩ := h
  refine ⟨h0, ?_⟩
  rcases h with e | ⟨h1, h2⟩
  · exact absurd e hne
  rcases psd_next h1 hm with e | h3
  · exact .inl e
  · refine .inr ⟨h3, fun q hq => ?_⟩
    rcases h2 q hq with h4 | ⟨h4, h5⟩
    · exact .inl (hk.right hq (by omega) hm)
    · have := hk.left hq h4 hm
      by_cases e : m = q
      · subst e
        have := hk.psd_right hJ hq (Nat.le_refl _) hml h3
        omega
      · exact .inr ⟨by omega, h5⟩

theorem mode_next {k : List Ins} {al : Bool} {ls le : Nat} (hk : KK k al ls le) {J : List Int} (hJ : Joined k J) {opn pc m : Nat} {to : Int} (h : Mode k opn pc to) (hne : (pc : Int) ≠ to) (hm : m ∈ nxt k pc) (hml : m < k.length) : Mode k opn m to := by
  rcases h with h | ⟨h1, d, rfl, h2⟩
  · exact .inl h
  · exact .inr ⟨h1, d, rfl, aims_next hk hJ h2 (by omega) hm hml⟩

/-- At a Zero: what both sides run to, and what comes behind it. -/
theorem mode_split {k : List Ins} {al : Bool} {ls le : Nat} (hk : KK k al ls le) {J : List Int} (hJ : Joined k J) {opn pc : Nat} {to : Int} {x : Ins} (hx : k[pc]? = some x) (h13 : x.o = 13) (h : Mode k opn pc to) (hne : (pc : Int) ≠ to) :
    ∃ d : Nat, J.getD pc (-1) = (d : Int) ∧ d < k.length ∧ Aims k pc d ∧ pc ≠ d ∧ Mode k opn d to := by
  have hpl := (List.getElem?_eq_some_iff.1 hx).1
  have hn1 : pc + 1 < k.length := by have := hk.exit pc x hx; omega
  obtain ⟨d, hd, hf0, hf1, hf2⟩ := hJ.join hn1
  have hle : ∀ q, isW k q → pc < q → d ≤ q := fun q hq hlt => by
    have h1 := hk.psd_left hq hlt
    by_cases e : q = d
    · omega
    · have h2 := hf2 q (List.getElem?_eq_some_iff.1 hq).1 h1 e
      by_cases c : d ≤ q
      · exact c
      · have := hk.psd_right hJ hq (by omega) hf0 h2
        omega
  have hs : Safe k pc d := fun q hq => by
    have hne2 : q ≠ pc := fun e => by subst e; rw [hq] at hx; cases hx; simp at h13
    by_cases c : q < pc
    · exact .inl c
    · exact .inr ⟨by omega, hle q hq (by omega)⟩
  refine ⟨d, by rw [List.getD_eq_getElem?_getD, hd]; rfl, hf0, ⟨hf0, .inr ⟨hf1, hs⟩⟩, hf1.1, ?_⟩
  rcases h with h | ⟨h1, e, rfl, h2, h3⟩
  · exact .inl h
  · refine .inr ⟨h1, e, rfl, h2, ?_⟩
    rcases h3 with h3 | ⟨h3, h4⟩
    · omega
    by_cases c : d = e
    · exact .inl c
    · have h5 := hf2 e h2 h3 (fun e2 => c e2.symm)
      refine .inr ⟨h5, fun q hq => ?_⟩
      rcases h4 q hq with h6 | ⟨h6, h7⟩
      · exact .inl (hk.psd_right hJ hq (by omega) hpl hf1)
      · have h8 := hle q hq h6
        by_cases e2 : d = q
        · subst e2
          have := hk.psd_right hJ hq (Nat.le_refl _) hf0 h5
          omega
        · exact .inr ⟨by omega, h7⟩

def NoW (k : List Ins) (rows : List (Int × Int)) : Prop := ∀ r ∈ rows, ¬ isW k r.1.toNat

/-- How a run ends. -/
def EndS (k : List Ins) (g : List Nat) (opn : Nat) (vs' : VS) (pc' : Nat) (to : Int) (rows : List (Int × Int)) (wt : Bool) : Prop :=
  (wt = true ∧ opn = 0 ∧ (∀ t ∈ g, (vs' t).1.done = false) ∧ ∃ (w : Nat) (rows0 : List (Int × Int)), pc' = w + 1 ∧ isW k w ∧ rows = rows0 ++ [((w : Int), ((bits g : Nat) : Int))] ∧ NoW k rows0) ∨
  (wt = false ∧ NoW k rows ∧ ((to = -1 ∧ pc' = k.length ∧ (∀ t ∈ g, (vs' t).1.done = true) ∧ rows ≠ []) ∨ (to = (pc' : Int) ∧ ∀ t ∈ g, (vs' t).1.done = false)))

theorem EndS.cons {k : List Ins} {g : List Nat} {opn : Nat} {vs' : VS} {pc' : Nat} {to : Int} {rows rows0 : List (Int × Int)} {wt : Bool} (hn : NoW k rows0) (h : EndS k g opn vs' pc' to rows wt) : EndS k g opn vs' pc' to (rows0 ++ rows) wt := by
  have key : ∀ l, NoW k l → NoW k (rows0 ++ l) := fun l hl r hr => by
    rcases List.mem_append.1 hr with hr | hr
    · exact hn r hr
    · exact hl r hr
  rcases h with ⟨h1, h2, h4, w, r0, h5, h6, h7, h8⟩ | ⟨h1, h2, h3⟩
  · exact .inl ⟨h1, h2, h4, w, rows0 ++ r0, h5, h6, by rw [h7, List.append_assoc], key _ h8⟩
  · refine .inr ⟨h1, key _ h2, ?_⟩
    rcases h3 with ⟨a, b, c, d⟩ | h3
    · exact .inl ⟨a, b, c, by simp [d]⟩
    · exact .inr h3

/-- A Zero at which a group parts. -/
theorem step_parts {k : List Ins} {J : List Int} {bud F : Nat} {p : Pl} {g : List Nat} {pc : Nat} {to : Int} {x : Ins} (h : Goes bud p g pc to) (hx : k[pc]? = some x) (ho : x.o = 13) (h1 : g.filter (fun t => !isZ p.ts x.a t) ≠ []) (h2 : g.filter (isZ p.ts x.a) ≠ []) {d : Int} (hd : J.getD pc (-1) = d) {qB : Pl} (hq : runP k J bud F (runP k J bud F { issuedP p g pc with opn := p.opn + 1 } (g.filter (isZ p.ts x.a)) x.b d) (g.filter (fun t => !isZ p.ts x.a t)) ((pc : Int) + 1) d = qB) :
    runP k J bud (F + 1) p g pc to = runP k J bud F { qB with opn := qB.opn - 1 } g d to := by
  rw [goes_run h, does_some (x := x) J _ _ g (by simpa using hx), if_neg (by omega), if_neg (by omega), if_pos ho]
  unfold partsP
  have e1 : g.filter (fun t => !isZ (issuedP p g pc).ts x.a t) ≠ [] := h1
  have e2 : g.filter (isZ (issuedP p g pc).ts x.a) ≠ [] := h2
  rw [if_neg e1, if_neg e2]
  dsimp only
  have e3 : J.getD ((pc : Int).toNat) (-1) = d := by simpa using hd
  rw [e3]
  have e4 : runP k J bud F (runP k J bud F { issuedP p g pc with opn := (issuedP p g pc).opn + 1 } (g.filter (isZ (issuedP p g pc).ts x.a)) x.b d) (g.filter (fun t => !isZ (issuedP p g pc).ts x.a t)) ((pc : Int) + 1) d = qB := hq
  rw [e4]

end Go.Proofs.Ytbhbacphiinpeaa
