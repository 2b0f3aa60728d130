/- A kernel that is made out of numbers is a right one: plain lists; nothing of the program is in this text. -/
import Derived.Test.YtbhbacphiinpeaaCl
namespace Go.Proofs.Ytbhbacphiinpeaa
open Go.RowKit

/-- A line of a kernel. -/
def St.line (s : St) (v : Nat) : St :=
  if v % 12 = 0 then s.put ⟨2, 0, 0, 1⟩
  else if v % 12 = 1 then s.put ⟨3, 1, 0, 2⟩
  else if v % 12 = 2 then s.put ⟨4, 0, 0, 2⟩
  else if v % 12 = 3 then s.put ⟨6, 1, 2, 0⟩
  else if v % 12 = 4 then s.put ⟨7, 1, 1, 0⟩
  else if v % 12 = 5 then s.put ⟨1, 1, ((v / 12 % 256 : Nat) : Int), 0⟩
  else if v % 12 = 6 then s.put ⟨10, 0, 2, 0⟩
  else if v % 12 = 7 then s.put ⟨9, 1, 2, 0⟩
  else if v % 12 = 8 ∨ v % 12 = 9 then s.enters (v / 12 % 3 == 0)
  else if v % 12 = 10 then s.close (v / 12 % 2 == 0)
  else if s.op.length = 0 then s.put ⟨14, 0, 0, 0⟩ else s.put ⟨4, 1, 2, 0⟩

def pickN (c : Int) (n : Nat) : Nat := if c < 0 then (-(c + 1)).toNat % n else c.toNat % n

def St.lines (s : St) : List Int → St
  | [] => s
  | c :: l => (s.line (pickN c 1099511627776)).lines l

def St.closes (s : St) : Nat → St
  | 0 => s
  | n + 1 => if s.op.length = 0 then s else (s.close false).closes n

/-- How many loops are open; what bounds the length that a kernel comes to. -/
def loops (l : List Blk) : Nat := (l.filter (·.loop)).length
def St.phi (s : St) : Nat := s.k.length + 3 * loops s.op + cond s.lp 0 4

/-- What holds of a kernel that is being made. -/
structure Fine (s : St) : Prop where
  ok : ∀ x ∈ s.k, okB (s.k.length + 1) x = true
  spot : ∀ b ∈ s.op, ∃ x, s.k[b.at0]? = some x ∧ (x.o = 12 ∨ x.o = 13)

theorem okB_mono {n m : Int} {x : Ins} (h : n ≤ m) (hx : okB n x = true) : okB m x = true := by
  unfold okB at hx ⊢
  have hb : bel x.b n = true → bel x.b m = true := fun hb => by
    have := bel_bd hb
    simp [bel]; omega
  repeat' split at hx
  all_goals try (simp only [*, if_true, if_false] at hx ⊢)
  all_goals simp_all

theorem put_len (s : St) (x : Ins) : (s.put x).k.length = s.k.length + 1 := by simp [St.put]
theorem put_op (s : St) (x : Ins) : (s.put x).op = s.op := rfl
theorem put_lp (s : St) (x : Ins) : (s.put x).lp = s.lp := rfl
theorem put_at {s : St} {x y : Ins} {i : Nat} (h : s.k[i]? = some y) : (s.put x).k[i]? = some y := by
  have := (List.getElem?_eq_some_iff.1 h).1
  simp only [St.put]
  rw [List.getElem?_append_left this]; exact h
theorem put_new (s : St) (x : Ins) : (s.put x).k[s.k.length]? = some x := by simp [St.put]
theorem opn_put (s : St) (b : Blk) (x : Ins) : (s.opn b).put x = (s.put x).opn b := rfl
theorem put_phi (s : St) (x : Ins) : (s.put x).phi = s.phi + 1 := by simp only [St.phi, put_len, put_op, put_lp]; omega
theorem loops_snoc (l : List Blk) (b : Blk) : loops (l ++ [b]) = loops l + (if b.loop then 1 else 0) := by
  unfold loops
  cases h : b.loop <;> simp [List.filter_append, h]
theorem opn_phi (s : St) (b : Blk) : (s.opn b).phi = s.phi + (if b.loop then 3 else 0) := by
  simp only [St.phi, St.opn, loops_snoc]
  cases b.loop <;> simp; omega
theorem aim_phi (s : St) (i : Nat) : (s.aim i).phi = s.phi := by simp [St.phi, St.aim]

theorem Fine.put {s : St} {x : Ins} (h : Fine s) (hx : okB (s.k.length + 2) x = true) : Fine (s.put x) := by
  refine ⟨fun y hy => ?_, fun b hb => ?_⟩
  · rw [put_len]
    simp only [St.put, List.mem_append, List.mem_singleton] at hy
    rcases hy with hy | rfl
    · exact okB_mono (by omega) (h.ok y hy)
    · exact okB_mono (by omega) hx
  · obtain ⟨y, h1, h2⟩ := h.spot b hb
    exact ⟨y, put_at h1, h2⟩

theorem Fine.opn {s : St} {b : Blk} (h : Fine s) (hb : ∃ x, s.k[b.at0]? = some x ∧ (x.o = 12 ∨ x.o = 13)) : Fine (s.opn b) := by
  refine ⟨h.ok, fun c hc => ?_⟩
  simp only [St.opn, List.mem_append, List.mem_singleton] at hc
  rcases hc with hc | rfl
  · exact h.spot c hc
  · exact hb

theorem Fine.drop {s : St} {ops : List Blk} {b : Blk} (h : Fine s) (hs : s.op = ops ++ [b]) : Fine ({ s with op := ops } : St) :=
  ⟨h.ok, fun c hc => h.spot c (by rw [hs]; simp [hc])⟩

theorem aim_at {s : St} {i j : Nat} {x : Ins} (h : s.k[j]? = some x) : ∃ y, (s.aim i).k[j]? = some y ∧ y.o = x.o := by
  simp only [St.aim, List.getElem?_modify, h]
  by_cases e : i = j <;> simp [e]

theorem Fine.aim {s : St} {i : Nat} {x : Ins} (h : Fine s) (hx : s.k[i]? = some x) (ho : x.o = 12 ∨ x.o = 13) : Fine (s.aim i) := by
  refine ⟨fun y hy => ?_, fun b hb => ?_⟩
  · have e : (s.aim i).k.length = s.k.length := by simp [St.aim]
    rw [e]
    obtain ⟨j, hj⟩ := List.mem_iff_getElem?.1 hy
    simp only [St.aim, List.getElem?_modify] at hj
    by_cases eij : i = j
    · subst eij
      rw [hx] at hj
      simp at hj
      subst hj
      have := h.ok x (List.mem_of_getElem? hx)
      have hb : bel (s.k.length : Int) ((s.k.length : Int) + 1) = true := by simp [bel]; omega
      obtain ⟨o, a, b, c⟩ := x
      rcases ho with rfl | rfl
      · simp [okB] at this ⊢
        exact ⟨⟨this.1.1, hb⟩, this.2⟩
      · simp [okB] at this ⊢
        exact ⟨⟨this.1.1, hb⟩, this.2⟩
    · simp [eij] at hj
      exact h.ok y (List.mem_of_getElem? hj)
  · obtain ⟨y, h1, h2⟩ := h.spot b hb
    obtain ⟨z, h3, h4⟩ := aim_at (i := i) h1
    exact ⟨z, h3, by rw [h4]; exact h2⟩

theorem okB_jump {n : Int} {i : Nat} (h : (i : Int) < n) : okB n ⟨12, 0, i, 0⟩ = true := by
  have hb : bel (i : Int) n = true := by simp [bel]; omega
  simp [okB, hb]

theorem Fine.close {s : St} {ops : List Blk} {b : Blk} (h : Fine s) (hs : s.op = ops ++ [b]) (second : Bool) :
    Fine (s.close second) ∧ (s.close second).phi ≤ s.phi + 1 ∧ (s.close second).op.length ≤ s.op.length ∧ (second = false → (s.close second).phi ≤ s.phi ∧ (s.close second).op = ops) := by
  rw [close_eq hs]
  obtain ⟨x, hx, ho⟩ := h.spot b (by rw [hs]; simp)
  have hat := (List.getElem?_eq_some_iff.1 hx).1
  have h1 := h.drop hs
  have hp : ({ s with op := ops } : St).phi + (if b.loop then 3 else 0) = s.phi := by
    simp only [St.phi, hs, loops_snoc]
    cases b.loop <;> simp; omega
  have hlen : s.op.length = ops.length + 1 := by rw [hs]; simp
  obtain ⟨s1, e1⟩ : ∃ s1, ({ s with op := ops } : St) = s1 := ⟨_, rfl⟩
  have ek : s1.k = s.k := by rw [← e1]
  have eo : s1.op = ops := by rw [← e1]
  rw [e1] at h1 hp ⊢
  rw [← ek] at hx hat
  -- the end of a loop
  have h2 : Fine (s1.ends b) ∧ (s1.ends b).k[b.at0]? = some x ∧ (s1.ends b).op = ops ∧ (s1.ends b).phi = s.phi := by
    unfold St.ends
    cases hl : b.loop
    · simp only [hl] at hp
      exact ⟨h1, hx, eo, by simpa using hp⟩
    · simp only [hl, if_true] at hp ⊢
      refine ⟨((h1.put (by simp [okB, bel])).put (by simp [okB, bel])).put (okB_jump ?_), put_at (put_at (put_at hx)), by simp only [put_op]; exact eo, by simp only [put_phi]; omega⟩
      rw [put_len, put_len]; omega
  obtain ⟨h2, hx2, eo2, hp2⟩ := h2
  generalize s1.ends b = s2 at h2 hx2 eo2 hp2 ⊢
  -- the second side
  have h3 : Fine (s2.other b second) ∧ (s2.other b second).k[b.at0]? = some x ∧ (s2.other b second).phi ≤ s.phi + 1 ∧ (s2.other b second).op.length ≤ ops.length + 1 ∧ (second = false → (s2.other b second).phi ≤ s.phi ∧ (s2.other b second).op = ops) := by
    unfold St.other
    cases hc : (second && b.sides && !b.loop)
    · simp only [Bool.false_eq_true, if_false]
      exact ⟨h2, hx2, by omega, by rw [eo2]; omega, fun _ => ⟨by omega, eo2⟩⟩
    · simp only [if_true]
      refine ⟨(h2.put (by simp [okB, bel]; omega)).opn ⟨_, put_new s2 _, .inl rfl⟩, put_at hx2, by simp only [opn_phi, put_phi]; simp; omega, by simp only [St.opn, put_op, eo2]; simp, fun hsec => by simp [hsec] at hc⟩
  obtain ⟨h3, hx3, hp3, hl3, hf3⟩ := h3
  exact ⟨h3.aim hx3 ho, by rw [aim_phi]; exact hp3, by rw [hlen]; exact hl3, fun hsec => ⟨by rw [aim_phi]; exact (hf3 hsec).1, (hf3 hsec).2⟩⟩

theorem names_ok (al : Bool) (n r : Int) (h0 : 0 ≤ r) (h1 : r < 4) : okB n (if al then ⟨1, r, 3, 0⟩ else ⟨8, r, 0, 0⟩) = true := by
  cases al <;> simp [okB, bel] <;> omega

theorem Fine.names {s : St} (h : Fine s) (r : Int) (h0 : 0 ≤ r) (h1 : r < 4) : Fine (s.names r) := h.put (names_ok _ _ _ h0 h1)
theorem names_phi (s : St) (r : Int) : (s.names r).phi = s.phi + 1 := put_phi _ _

theorem Fine.enters {s : St} (h : Fine s) (loop : Bool) : Fine (s.enters loop) ∧ (s.enters loop).phi ≤ s.phi + 1 ∧ (s.enters loop).op.length ≤ s.op.length + 1 := by
  unfold St.enters
  cases hc : (loop && !s.lp)
  · simp only [Bool.false_eq_true, if_false]
    rw [opn_put]
    exact ⟨(h.put (by simp [okB, bel]; omega)).opn ⟨_, put_new s _, .inr rfl⟩, by simp only [opn_phi, put_phi]; simp, by simp [St.opn, St.put]⟩
  · have hlp : s.lp = false := by simp at hc; exact hc.2
    simp only [if_true]
    rw [opn_put]
    have h1 : Fine ({ s with lp := true } : St) := ⟨h.ok, h.spot⟩
    have h2 := h1.names 3 (by omega) (by omega)
    have hp : ({ s with lp := true } : St).phi + 4 = s.phi := by simp [St.phi, hlp]
    refine ⟨(h2.put (by simp [okB, bel]; omega)).opn ⟨⟨13, 3, 0, 0⟩, ?_, .inr rfl⟩, by simp only [opn_phi, put_phi, names_phi]; simp; omega, by simp [St.opn, St.put, St.names]⟩
    have e : (({ s with lp := true } : St).names 3).k.length = s.k.length + 1 := by simp [St.names, St.put]
    have := put_new (({ s with lp := true } : St).names 3) ⟨13, 3, 0, 0⟩
    rw [e] at this
    exact this

theorem Fine.line {s : St} (h : Fine s) (v : Nat) : Fine (s.line v) ∧ (s.line v).phi ≤ s.phi + 1 ∧ (s.line v).op.length ≤ s.op.length + 1 := by
  have hput : ∀ x : Ins, okB (s.k.length + 2) x = true → Fine (s.put x) ∧ (s.put x).phi ≤ s.phi + 1 ∧ (s.put x).op.length ≤ s.op.length + 1 := fun x hx => ⟨h.put hx, by rw [put_phi]; omega, by rw [put_op]; omega⟩
  unfold St.line
  split
  · exact hput _ (by simp [okB, bel])
  split
  · exact hput _ (by simp [okB, bel])
  split
  · exact hput _ (by simp [okB, bel])
  split
  · exact hput _ (by simp [okB, bel])
  split
  · exact hput _ (by simp [okB, bel])
  split
  · exact hput _ (by simp [okB, bel]; omega)
  split
  · exact hput _ (by simp [okB, bel])
  split
  · exact hput _ (by simp [okB, bel])
  split
  · exact h.enters _
  split
  · cases ho : s.op.getLast? with
    | none =>
      have e : s.op = [] := List.getLast?_eq_none_iff.1 ho
      have ec : ∀ b, s.close b = s := fun b => by unfold St.close; rw [ho]
      rw [ec]
      exact ⟨h, by omega, by omega⟩
    | some b =>
      obtain ⟨ops, hs⟩ := List.getLast?_eq_some_iff.1 ho
      obtain ⟨h1, h2, h3, -⟩ := h.close hs (v / 12 % 2 == 0)
      exact ⟨h1, h2, by omega⟩
  split
  · exact hput _ (by simp [okB])
  · exact hput _ (by simp [okB, bel])

theorem Fine.lines {s : St} (h : Fine s) (l : List Int) : Fine (s.lines l) ∧ (s.lines l).phi ≤ s.phi + l.length ∧ (s.lines l).op.length ≤ s.op.length + l.length := by
  induction l generalizing s with
  | nil => exact ⟨h, by simp [St.lines], by simp [St.lines]⟩
  | cons c l ih =>
    obtain ⟨h1, h2, h3⟩ := h.line (pickN c 1099511627776)
    obtain ⟨h4, h5, h6⟩ := ih h1
    exact ⟨h4, by simp only [St.lines, List.length_cons]; omega, by simp only [St.lines, List.length_cons]; omega⟩

theorem Fine.closes {s : St} (h : Fine s) (n : Nat) (hn : s.op.length ≤ n) : Fine (s.closes n) ∧ (s.closes n).phi ≤ s.phi ∧ (s.closes n).op = [] := by
  induction n generalizing s with
  | zero => exact ⟨h, Nat.le_refl _, List.eq_nil_of_length_eq_zero (by simp only [St.closes]; omega)⟩
  | succ n ih =>
    unfold St.closes
    by_cases h0 : s.op.length = 0
    · rw [if_pos h0]
      exact ⟨h, Nat.le_refl _, List.eq_nil_of_length_eq_zero h0⟩
    · rw [if_neg h0]
      cases ho : s.op.getLast? with
      | none => have e : s.op = [] := List.getLast?_eq_none_iff.1 ho; simp [e] at h0
      | some b =>
        obtain ⟨ops, hs⟩ := List.getLast?_eq_some_iff.1 ho
        obtain ⟨h1, h2, h3, h4⟩ := h.close hs false
        obtain ⟨h5, h6⟩ := h4 rfl
        obtain ⟨h7, h8, h9⟩ := ih h1 (by rw [h6]; have e2 : s.op.length = ops.length + 1 := by rw [hs]; simp
                                         omega)
        exact ⟨h7, by omega, h9⟩

end Go.Proofs.Ytbhbacphiinpeaa
