/- Kr: joined. -/
import Derived.Test.YtbhbacphiinpeaaZ04
import Derived.Test.YtbhbacphiinpeaaZ24

/- The kernel that a list of numbers makes has one Exit, to which a way leads from everywhere: plain lists; nothing of the program is in this text. -/
namespace Go.Proofs.Ytbhbacphiinpeaa
open Go.RowKit

/-- Of a kernel that is being made: its Jumps lead on, but those that are to be aimed yet (at X, or open). -/
structure KGoes (s : St) (X : List Nat) : Prop where
  noexit : ∀ x ∈ s.k, x.o ≠ 0
  loopz : ∀ b ∈ s.op, b.loop = true → ∃ x, s.k[b.at0]? = some x ∧ x.o = 13
  jumps : ∀ (n : Nat) x, s.k[n]? = some x → x.o = 12 → n ∈ X ∨ (∃ b ∈ s.op, b.at0 = n) ∨ (n : Int) < x.b ∨ ∃ (m : Nat) (y : Ins), x.b = (m : Int) ∧ s.k[m]? = some y ∧ y.o = 13 ∧ ((n : Int) < y.b ∨ m ∈ X)

theorem KGoes.put {s : St} {X : List Nat} {x : Ins} (h : KGoes s X) (h0 : x.o ≠ 0) (hj : x.o = 12 → (∃ b ∈ s.op, b.at0 = s.k.length) ∨ ∃ (m : Nat) (y : Ins), x.b = (m : Int) ∧ s.k[m]? = some y ∧ y.o = 13 ∧ m ∈ X) : KGoes (s.put x) X := by
  refine ⟨fun y hy => ?_, fun b hb hl => ?_, fun n y hy ho => ?_⟩
  · simp only [St.put, List.mem_append, List.mem_singleton] at hy
    rcases hy with hy | rfl
    · exact h.noexit y hy
    · exact h0
  · obtain ⟨y, h1, h2⟩ := h.loopz b hb hl
    exact ⟨y, put_at h1, h2⟩
  · by_cases hn : n < s.k.length
    · have hy2 : s.k[n]? = some y := by simpa [St.put, List.getElem?_append_left hn] using hy
      rcases h.jumps n y hy2 ho with h1 | h1 | h1 | ⟨m, z, h1, h2, h3⟩
      · exact .inl h1
      · exact .inr (.inl h1)
      · exact .inr (.inr (.inl h1))
      · exact .inr (.inr (.inr ⟨m, z, h1, put_at h2, h3⟩))
    · have hl := (List.getElem?_eq_some_iff.1 hy).1
      rw [kput_len] at hl
      have e : n = s.k.length := by omega
      subst e
      rw [put_new] at hy
      injection hy with hy
      subst hy
      rcases hj ho with h1 | ⟨m, z, h1, h2, h3, h4⟩
      · exact .inr (.inl h1)
      · exact .inr (.inr (.inr ⟨m, z, h1, put_at h2, h3, .inr h4⟩))

theorem KGoes.putN {s : St} {X : List Nat} {x : Ins} (h : KGoes s X) (h0 : x.o ≠ 0) (hj : x.o ≠ 12) : KGoes (s.put x) X := h.put h0 fun e => absurd e hj

theorem KGoes.opn {s : St} {X : List Nat} {b : Blk} (h : KGoes s X) (hb : b.loop = true → ∃ x, s.k[b.at0]? = some x ∧ x.o = 13) : KGoes (s.opn b) X := by
  refine ⟨h.noexit, fun c hc hl => ?_, fun n y hy ho => ?_⟩
  · simp only [St.opn, List.mem_append, List.mem_singleton] at hc
    rcases hc with hc | rfl
    · exact h.loopz c hc hl
    · exact hb hl
  · rcases h.jumps n y hy ho with h1 | ⟨c, h1, h2⟩ | h1
    · exact .inl h1
    · exact .inr (.inl ⟨c, by simp [St.opn, h1], h2⟩)
    · exact .inr (.inr h1)

theorem KGoes.drop {s : St} {ops : List Blk} {b : Blk} (h : KGoes s []) (hs : s.op = ops ++ [b]) : KGoes ({ s with op := ops } : St) [b.at0] := by
  refine ⟨h.noexit, fun c hc hl => h.loopz c (by rw [hs]; simp [hc]) hl, fun n y hy ho => ?_⟩
  rcases h.jumps n y hy ho with h1 | ⟨c, h1, h2⟩ | h1 | ⟨m, z, h1, h2, h3, h4⟩
  · simp at h1
  · rw [hs] at h1
    simp only [List.mem_append, List.mem_singleton] at h1
    rcases h1 with h1 | rfl
    · exact .inr (.inl ⟨c, h1, h2⟩)
    · exact .inl (by simp [h2])
  · exact .inr (.inr (.inl h1))
  · refine .inr (.inr (.inr ⟨m, z, h1, h2, h3, .inl ?_⟩))
    rcases h4 with h4 | h4
    · exact h4
    · simp at h4

theorem aim_get {s : St} {i j : Nat} {x : Ins} (h : (s.aim i).k[j]? = some x) : ∃ y, s.k[j]? = some y ∧ x.o = y.o ∧ (j = i → x.b = (s.k.length : Int)) ∧ (j ≠ i → x = y) := by
  simp only [St.aim, List.getElem?_modify] at h
  cases hy : s.k[j]? with
  | none => rw [hy] at h; simp at h
  | some y =>
    rw [hy] at h
    by_cases e : i = j
    · subst e
      simp at h
      subst h
      exact ⟨y, rfl, rfl, fun _ => rfl, fun h => absurd rfl h⟩
    · simp [e] at h
      subst h
      exact ⟨y, rfl, rfl, fun h => absurd h.symm e, fun _ => rfl⟩

theorem aim_put {s : St} {i j : Nat} {y : Ins} (h : s.k[j]? = some y) : ∃ x, (s.aim i).k[j]? = some x ∧ x.o = y.o ∧ (j = i → x.b = (s.k.length : Int)) ∧ (j ≠ i → x = y) := by
  obtain ⟨x, hx, -⟩ := aim_at (i := i) h
  obtain ⟨y', h1, h2, h3, h4⟩ := aim_get hx
  rw [h] at h1
  injection h1 with h1
  subst h1
  exact ⟨x, hx, h2, h3, h4⟩

theorem KGoes.aim {s : St} {i : Nat} (h : KGoes s [i]) : KGoes (s.aim i) [] := by
  refine ⟨fun x hx => ?_, fun b hb hl => ?_, fun n x hx ho => ?_⟩
  · obtain ⟨j, hj⟩ := List.mem_iff_getElem?.1 hx
    obtain ⟨y, h1, h2, -⟩ := aim_get hj
    rw [h2]
    exact h.noexit y (List.mem_of_getElem? h1)
  · obtain ⟨y, h1, h2⟩ := h.loopz b hb hl
    obtain ⟨x, h3, h4, -⟩ := aim_put (i := i) h1
    exact ⟨x, h3, by rw [h4]; exact h2⟩
  · obtain ⟨y, h1, h2, h3, h4⟩ := aim_get hx
    have hn : n < s.k.length := (List.getElem?_eq_some_iff.1 h1).1
    by_cases e : n = i
    · exact .inr (.inr (.inl (by rw [h3 e]; omega)))
    · have exy := h4 e
      subst exy
      rcases h.jumps n x h1 ho with h5 | h5 | h5 | ⟨m, z, h5, h6, h7, h8⟩
      · simp at h5; exact absurd h5 e
      · exact .inr (.inl h5)
      · exact .inr (.inr (.inl h5))
      · obtain ⟨z', g1, g2, g3, g4⟩ := aim_put (i := i) h6
        refine .inr (.inr (.inr ⟨m, z', h5, g1, by rw [g2]; exact h7, .inl ?_⟩))
        by_cases em : m = i
        · rw [g3 em]; omega
        · rw [g4 em]
          rcases h8 with h8 | h8
          · exact h8
          · simp at h8; exact absurd h8 em

theorem KGoes.close {s : St} {ops : List Blk} {b : Blk} (h : KGoes s []) (hs : s.op = ops ++ [b]) (second : Bool) : KGoes (s.close second) [] := by
  rw [close_eq hs]
  refine KGoes.aim ?_
  have h1 := h.drop hs
  have hz : b.loop = true → ∃ x, s.k[b.at0]? = some x ∧ x.o = 13 := h.loopz b (by rw [hs]; simp)
  obtain ⟨s1, e1⟩ : ∃ s1, ({ s with op := ops } : St) = s1 := ⟨_, rfl⟩
  have ek : s1.k = s.k := by rw [← e1]
  rw [e1] at h1 ⊢
  rw [← ek] at hz
  have h2 : KGoes (s1.ends b) [b.at0] := by
    unfold St.ends
    cases hl : b.loop
    · simpa using h1
    · obtain ⟨x, hx, ho⟩ := hz hl
      simp only [if_true]
      exact ((h1.putN (by simp) (by simp)).putN (by simp) (by simp)).put (by simp) fun _ => .inr ⟨b.at0, x, rfl, put_at (put_at hx), ho, by simp⟩
  generalize s1.ends b = s2 at h2 ⊢
  unfold St.other
  cases hc : (second && b.sides && !b.loop)
  · simpa using h2
  · simp only [if_true]
    rw [← opn_put]
    refine KGoes.put (h2.opn fun e => by simp at e) (by simp) fun _ => .inl ⟨_, by simp [St.opn]; exact .inr rfl, ?_⟩
    simp [St.opn]

theorem KGoes.names {s : St} {X : List Nat} (h : KGoes s X) (r : Int) : KGoes (s.names r) X := by
  unfold St.names
  cases s.al <;> exact h.putN (by simp) (by simp)

theorem KGoes.enters {s : St} (h : KGoes s []) (loop : Bool) : KGoes (s.enters loop) [] := by
  unfold St.enters
  cases hc : (loop && !s.lp)
  · simp only [Bool.false_eq_true, if_false]
    rw [opn_put]
    exact (h.putN (by simp) (by simp)).opn fun e => by simp at e
  · simp only [if_true]
    rw [opn_put]
    have h1 : KGoes ({ s with lp := true } : St) [] := ⟨h.noexit, h.loopz, h.jumps⟩
    refine ((h1.names 3).putN (by simp) (by simp)).opn fun _ => ⟨⟨13, 3, 0, 0⟩, ?_, rfl⟩
    have e : (({ s with lp := true } : St).names 3).k.length = s.k.length + 1 := by simp [St.names, St.put]
    have := put_new (({ s with lp := true } : St).names 3) ⟨13, 3, 0, 0⟩
    rw [e] at this
    exact this

theorem KGoes.closeAny {s : St} (h : KGoes s []) (second : Bool) : KGoes (s.close second) [] := by
  cases ho : s.op.getLast? with
  | none =>
    have ec : s.close second = s := by unfold St.close; rw [ho]
    rw [ec]
    exact h
  | some b =>
    obtain ⟨ops, hs⟩ := List.getLast?_eq_some_iff.1 ho
    exact h.close hs second

theorem KGoes.line {s : St} (h : KGoes s []) (v : Nat) : KGoes (s.line v) [] := by
  have hp : ∀ x : Ins, x.o ≠ 0 → x.o ≠ 12 → KGoes (s.put x) [] := fun x h1 h2 => h.putN h1 h2
  unfold St.line
  repeat' split
  all_goals first | exact h.enters _ | exact h.closeAny _ | exact hp _ (by simp) (by simp)

theorem KGoes.lines {s : St} (h : KGoes s []) (l : List Int) : KGoes (s.lines l) [] := by
  induction l generalizing s with
  | nil => exact h
  | cons c l ih => exact ih (h.line _)

theorem KGoes.closes {s : St} (h : KGoes s []) (n : Nat) : KGoes (s.closes n) [] := by
  induction n generalizing s with
  | zero => exact h
  | succ n ih =>
    unfold St.closes
    split
    · exact h
    · exact ih (h.closeAny false)

theorem kgoes2 (l : List Int) (al : Bool) : KGoes (kern2 l al) [] := by
  have h : KGoes (⟨[], [], false, al⟩ : St) [] := ⟨fun x hx => by simp at hx, fun b hb => by simp at hb, fun n x hx => by simp at hx⟩
  exact ((h.names 2).lines _).closes _

theorem kern2_op (l : List Int) (al : Bool) : (kern2 l al).op = [] := by
  obtain ⟨h1, -⟩ := fineAt l al 12 (Nat.le_refl _)
  exact (h1.closes _ (Nat.le_refl _)).2.2

theorem kern_one (l : List Int) (al : Bool) : ∀ (i : Nat) x, (kern l al)[i]? = some x → (x.o = 0 ↔ i + 1 = (kern l al).length) := by
  have h := (kgoes2 l al).putN (x := ⟨10, 0, 2, 0⟩) (by simp) (by simp)
  have hk : kern l al = ((kern2 l al).put ⟨10, 0, 2, 0⟩).k ++ [⟨0, 0, 0, 0⟩] := rfl
  intro i x hx
  rw [hk] at hx ⊢
  rw [List.length_append, List.length_singleton]
  by_cases hi : i < ((kern2 l al).put ⟨10, 0, 2, 0⟩).k.length
  · rw [List.getElem?_append_left hi] at hx
    have := h.noexit x (List.mem_of_getElem? hx)
    exact ⟨fun e => absurd e this, fun e => by omega⟩
  · have hl := (List.getElem?_eq_some_iff.1 hx).1
    rw [List.length_append, List.length_singleton] at hl
    have e : i = ((kern2 l al).put ⟨10, 0, 2, 0⟩).k.length := by omega
    rw [e, List.getElem?_append_right (by omega)] at hx
    simp at hx
    exact ⟨fun _ => by omega, fun _ => by rw [← hx]⟩

theorem kern_jumps (l : List Int) (al : Bool) : ∀ (n : Nat) x, (kern l al)[n]? = some x → x.o = 12 → (n : Int) < x.b ∨ ∃ (m : Nat) (y : Ins), x.b = (m : Int) ∧ (kern l al)[m]? = some y ∧ y.o = 13 ∧ (n : Int) < y.b := by
  have h := (kgoes2 l al).putN (x := ⟨10, 0, 2, 0⟩) (by simp) (by simp)
  have hk : kern l al = ((kern2 l al).put ⟨10, 0, 2, 0⟩).k ++ [⟨0, 0, 0, 0⟩] := rfl
  have ho : ((kern2 l al).put ⟨10, 0, 2, 0⟩).op = [] := kern2_op l al
  intro n x hx h12
  rw [hk] at hx ⊢
  by_cases hi : n < ((kern2 l al).put ⟨10, 0, 2, 0⟩).k.length
  · rw [List.getElem?_append_left hi] at hx
    rcases h.jumps n x hx h12 with h1 | ⟨b, h1, -⟩ | h1 | ⟨m, y, h1, h2, h3, h4⟩
    · simp at h1
    · rw [ho] at h1; simp at h1
    · exact .inl h1
    · refine .inr ⟨m, y, h1, ?_, h3, ?_⟩
      · have := (List.getElem?_eq_some_iff.1 h2).1
        rw [List.getElem?_append_left this]
        exact h2
      · rcases h4 with h4 | h4
        · exact h4
        · simp at h4
  · have hl := (List.getElem?_eq_some_iff.1 hx).1
    rw [List.length_append, List.length_singleton] at hl
    have e : n = ((kern2 l al).put ⟨10, 0, 2, 0⟩).k.length := by omega
    rw [e, List.getElem?_append_right (by omega)] at hx
    simp at hx
    rw [← hx] at h12
    simp at h12

theorem rch_next {k : List Ins} {n m : Nat} (hm : m ∈ nxt k n) (h : Rch k (-1) m) : Rch k (-1) n := by
  obtain ⟨p, hp⟩ := h
  exact ⟨m :: p, hm, by omega, hp⟩

theorem kern_all (l : List Int) (al : Bool) : ∀ n, n < (kern l al).length → Rch (kern l al) (-1) n := by
  have hc := closed_chk (kern_chk l al)
  have h1 := kern_one l al
  have hj := kern_jumps l al
  have key : ∀ (d n : Nat), n < (kern l al).length → (kern l al).length ≤ n + d → Rch (kern l al) (-1) n := by
    intro d
    induction d with
    | zero => intro n hn hd; omega
    | succ d ih =>
      intro n hn hd
      have hx : (kern l al)[n]? = some (kern l al)[n] := List.getElem?_eq_getElem hn
      by_cases he : n + 1 = (kern l al).length
      · exact ⟨[], _, hx, (h1 n _ hx).2 he⟩
      · have h0 : (kern l al)[n].o ≠ 0 := fun e => he ((h1 n _ hx).1 e)
        by_cases h12 : (kern l al)[n].o = 12
        · have hn12 : nxt (kern l al) n = [(kern l al)[n].b.toNat] := by unfold nxt; rw [hx]; simp [h12]
          rcases hj n _ hx h12 with h2 | ⟨m, y, h2, h3, h4, h5⟩
          · have hm : (kern l al)[n].b.toNat ∈ nxt (kern l al) n := by rw [hn12]; simp
            exact rch_next hm (ih _ (hc n _ hn hm) (by omega))
          · have hm : m ∈ nxt (kern l al) n := by rw [hn12, h2]; simp
            have hy : y.b.toNat ∈ nxt (kern l al) m := by unfold nxt; rw [h3]; simp [h4]
            exact rch_next hm (rch_next hy (ih _ (hc m _ (hc n m hn hm) hy) (by omega)))
        · have hm : n + 1 ∈ nxt (kern l al) n := by
            unfold nxt
            rw [hx]
            dsimp only
            rw [if_neg h0, if_neg h12]
            split <;> simp
          exact rch_next hm (ih _ (by omega) (by omega))
  exact fun n hn => key (kern l al).length n hn (by omega)

/-- The joins of a kernel that is made. -/
theorem kern_joined (l : List Int) (al : Bool) {J : List Int} (h : JoinsAre (kern l al) J) : Joined (kern l al) J :=
  ⟨closed_chk (kern_chk l al), by have := kern_len l al; omega, kern_one l al, kern_all l al, h⟩

end Go.Proofs.Ytbhbacphiinpeaa

