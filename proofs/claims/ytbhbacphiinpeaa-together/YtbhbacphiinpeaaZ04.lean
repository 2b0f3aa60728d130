/- Pure M7 Kern: joined. -/
import Derived.Test.YtbhbacphiinpeaaZ02
import Derived.Test.YtbhbacphiinpeaaZ03

/- A kernel that is made out of numbers is a right one: plain lists; nothing of the program is in this text. -/
namespace Go.Proofs.Ytbhbacphiinpeaa
open Go.RowKit

/-- A line of a kernel. -/
def St.line (s : St) (v : Nat) : St :=
  if v % 12 = 0 then s.put ⟨2, 0, 0, 1⟩
  else if v % 12 = 1 then s.put ⟨3, 1, 0, 2⟩
  else if v % 12 = 2 then s.put ⟨4, 0, 0, 2⟩
  else if v % 12 = 3 then s.put ⟨6, 1, 2, 0⟩
  else if v % 12 = 4 then s.put ⟨7, 1, 1, 0⟩
  else if v % 12 = 5 then s.put ⟨1, 1, ((v / 12 % 256 : Nat) : Int), 0⟩
  else if v % 12 = 6 then s.put ⟨10, 0, 2, 0⟩
  else if v % 12 = 7 then s.put ⟨9, 1, 2, 0⟩
  else if v % 12 = 8 ∨ v % 12 = 9 then s.enters (v / 12 % 3 == 0)
  else if v % 12 = 10 then s.close (v / 12 % 2 == 0)
  else if s.op.length = 0 then s.put ⟨14, 0, 0, 0⟩ else s.put ⟨4, 1, 2, 0⟩

def pickN (c : Int) (n : Nat) : Nat := if c < 0 then (-(c + 1)).toNat % n else c.toNat % n

def St.lines (s : St) : List Int → St
  | [] => s
  | c :: l => (s.line (pickN c 1099511627776)).lines l

def St.closes (s : St) : Nat → St
  | 0 => s
  | n + 1 => if s.op.length = 0 then s else (s.close false).closes n

/-- How many loops are open; what bounds the length that a kernel comes to. -/
def loops (l : List Blk) : Nat := (l.filter (·.loop)).length
def St.phi (s : St) : Nat := s.k.length + 3 * loops s.op + cond s.lp 0 4

/-- What holds of a kernel that is being made. -/
structure Fine (s : St) : Prop where
  ok : ∀ x ∈ s.k, okB (s.k.length + 1) x = true
  spot : ∀ b ∈ s.op, ∃ x, s.k[b.at0]? = some x ∧ (x.o = 12 ∨ x.o = 13)

theorem okB_mono {n m : Int} {x : Ins} (h : n ≤ m) (hx : okB n x = true) : okB m x = true := by
  unfold okB at hx ⊢
  have hb : bel x.b n = true → bel x.b m = true := fun hb => by
    have := bel_bd hb
    simp [bel]; omega
  repeat' split at hx
  all_goals try (simp only [*, if_true, if_false] at hx ⊢)
  all_goals simp_all

theorem kput_len (s : St) (x : Ins) : (s.put x).k.length = s.k.length + 1 := by simp [St.put]
theorem put_op (s : St) (x : Ins) : (s.put x).op = s.op := rfl
theorem put_lp (s : St) (x : Ins) : (s.put x).lp = s.lp := rfl
theorem put_at {s : St} {x y : Ins} {i : Nat} (h : s.k[i]? = some y) : (s.put x).k[i]? = some y := by
  have := (List.getElem?_eq_some_iff.1 h).1
  simp only [St.put]
  rw [List.getElem?_append_left this]; exact h
theorem put_new (s : St) (x : Ins) : (s.put x).k[s.k.length]? = some x := by simp [St.put]
theorem opn_put (s : St) (b : Blk) (x : Ins) : (s.opn b).put x = (s.put x).opn b := rfl
theorem put_phi (s : St) (x : Ins) : (s.put x).phi = s.phi + 1 := by simp only [St.phi, kput_len, put_op, put_lp]; omega
theorem loops_snoc (l : List Blk) (b : Blk) : loops (l ++ [b]) = loops l + (if b.loop then 1 else 0) := by
  unfold loops
  cases h : b.loop <;> simp [List.filter_append, h]
theorem opn_phi (s : St) (b : Blk) : (s.opn b).phi = s.phi + (if b.loop then 3 else 0) := by
  simp only [St.phi, St.opn, loops_snoc]
  cases b.loop <;> simp; omega
theorem aim_phi (s : St) (i : Nat) : (s.aim i).phi = s.phi := by simp [St.phi, St.aim]

theorem Fine.put {s : St} {x : Ins} (h : Fine s) (hx : okB (s.k.length + 2) x = true) : Fine (s.put x) := by
  refine ⟨fun y hy => ?_, fun b hb => ?_⟩
  · rw [kput_len]
    simp only [St.put, List.mem_append, List.mem_singleton] at hy
    rcases hy with hy | rfl
    · exact okB_mono (by omega) (h.ok y hy)
    · exact okB_mono (by omega) hx
  · obtain ⟨y, h1, h2⟩ := h.spot b hb
    exact ⟨y, put_at h1, h2⟩

theorem Fine.opn {s : St} {b : Blk} (h : Fine s) (hb : ∃ x, s.k[b.at0]? = some x ∧ (x.o = 12 ∨ x.o = 13)) : Fine (s.opn b) := by
  refine ⟨h.ok, fun c hc => ?_⟩
  simp only [St.opn, List.mem_append, List.mem_singleton] at hc
  rcases hc with hc | rfl
  · exact h.spot c hc
  · exact hb

theorem Fine.drop {s : St} {ops : List Blk} {b : Blk} (h : Fine s) (hs : s.op = ops ++ [b]) : Fine ({ s with op := ops } : St) :=
  ⟨h.ok, fun c hc => h.spot c (by rw [hs]; simp [hc])⟩

theorem aim_at {s : St} {i j : Nat} {x : Ins} (h : s.k[j]? = some x) : ∃ y, (s.aim i).k[j]? = some y ∧ y.o = x.o := by
  simp only [St.aim, List.getElem?_modify, h]
  by_cases e : i = j <;> simp [e]

theorem Fine.aim {s : St} {i : Nat} {x : Ins} (h : Fine s) (hx : s.k[i]? = some x) (ho : x.o = 12 ∨ x.o = 13) : Fine (s.aim i) := by
  refine ⟨fun y hy => ?_, fun b hb => ?_⟩
  · have e : (s.aim i).k.length = s.k.length := by simp [St.aim]
    rw [e]
    obtain ⟨j, hj⟩ := List.mem_iff_getElem?.1 hy
    simp only [St.aim, List.getElem?_modify] at hj
    by_cases eij : i = j
    · subst eij
      rw [hx] at hj
      simp at hj
      subst hj
      have := h.ok x (List.mem_of_getElem? hx)
      have hb : bel (s.k.length : Int) ((s.k.length : Int) + 1) = true := by simp [bel]; omega
      obtain ⟨o, a, b, c⟩ := x
      rcases ho with rfl | rfl
      · simp [okB] at this ⊢
        exact ⟨⟨this.1.1, hb⟩, this.2⟩
      · simp [okB] at this ⊢
        exact ⟨⟨this.1.1, hb⟩, this.2⟩
    · simp [eij] at hj
      exact h.ok y (List.mem_of_getElem? hj)
  · obtain ⟨y, h1, h2⟩ := h.spot b hb
    obtain ⟨z, h3, h4⟩ := aim_at (i := i) h1
    exact ⟨z, h3, by rw [h4]; exact h2⟩

theorem okB_jump {n : Int} {i : Nat} (h : (i : Int) < n) : okB n ⟨12, 0, i, 0⟩ = true := by
  have hb : bel (i : Int) n = true := by simp [bel]; omega
  simp [okB, hb]

theorem Fine.close {s : St} {ops : List Blk} {b : Blk} (h : Fine s) (hs : s.op = ops ++ [b]) (second : Bool) :
    Fine (s.close second) ∧ (s.close second).phi ≤ s.phi + 1 ∧ (s.close second).op.length ≤ s.op.length ∧ (second = false → (s.close second).phi ≤ s.phi ∧ (s.close second).op = ops) := by
  rw [close_eq hs]
  obtain ⟨x, hx, ho⟩ := h.spot b (by rw [hs]; simp)
  have hat := (List.getElem?_eq_some_iff.1 hx).1
  have h1 := h.drop hs
  have hp : ({ s with op := ops } : St).phi + (if b.loop then 3 else 0) = s.phi := by
    simp only [St.phi, hs, loops_snoc]
    cases b.loop <;> simp; omega
  have hlen : s.op.length = ops.length + 1 := by rw [hs]; simp
  obtain ⟨s1, e1⟩ : ∃ s1, ({ s with op := ops } : St) = s1 := ⟨_, rfl⟩
  have ek : s1.k = s.k := by rw [← e1]
  have eo : s1.op = ops := by rw [← e1]
  rw [e1] at h1 hp ⊢
  rw [← ek] at hx hat
  -- the end of a loop
  have h2 : Fine (s1.ends b) ∧ (s1.ends b).k[b.at0]? = some x ∧ (s1.ends b).op = ops ∧ (s1.ends b).phi = s.phi := by
    unfold St.ends
    cases hl : b.loop
    · simp only [hl] at hp
      exact ⟨h1, hx, eo, by simpa using hp⟩
    · simp only [hl, if_true] at hp ⊢
      refine ⟨((h1.put (by simp [okB, bel])).put (by simp [okB, bel])).put (okB_jump ?_), put_at (put_at (put_at hx)), by simp only [put_op]; exact eo, by simp only [put_phi]; omega⟩
      rw [kput_len, kput_len]; omega
  obtain ⟨h2, hx2, eo2, hp2⟩ := h2
  generalize s1.ends b = s2 at h2 hx2 eo2 hp2 ⊢
  -- the second side
  have h3 : Fine (s2.other b second) ∧ (s2.other b second).k[b.at0]? = some x ∧ (s2.other b second).phi ≤ s.phi + 1 ∧ (s2.other b second).op.length ≤ ops.length + 1 ∧ (second = false → (s2.other b second).phi ≤ s.phi ∧ (s2.other b second).op = ops) := by
    unfold St.other
    cases hc : (second && b.sides && !b.loop)
    · simp only [Bool.false_eq_true, if_false]
      exact ⟨h2, hx2, by omega, by rw [eo2]; omega, fun _ => ⟨by omega, eo2⟩⟩
    · simp only [if_true]
      refine ⟨(h2.put (by simp [okB, bel]; omega)).opn ⟨_, put_new s2 _, .inl rfl⟩, put_at hx2, by simp only [opn_phi, put_phi]; simp; omega, by simp only [St.opn, put_op, eo2]; simp, fun hsec => by simp [hsec] at hc⟩
  obtain ⟨h3, hx3, hp3, hl3, hf3⟩ := h3
  exact ⟨h3.aim hx3 ho, by rw [aim_phi]; exact hp3, by rw [hlen]; exact hl3, fun hsec => ⟨by rw [aim_phi]; exact (hf3 hsec).1, (hf3 hsec).2⟩⟩

theorem names_ok (al : Bool) (n r : Int) (h0 : 0 ≤ r) (h1 : r < 4) : okB n (if al then ⟨1, r, 3, 0⟩ else ⟨8, r, 0, 0⟩) = true := by
  cases al <;> simp [okB, bel] <;> omega

theorem Fine.names {s : St} (h : Fine s) (r : Int) (h0 : 0 ≤ r) (h1 : r < 4) : Fine (s.names r) := h.put (names_ok _ _ _ h0 h1)
theorem names_phi (s : St) (r : Int) : (s.names r).phi = s.phi + 1 := put_phi _ _

theorem Fine.enters {s : St} (h : Fine s) (loop : Bool) : Fine (s.enters loop) ∧ (s.enters loop).phi ≤ s.phi + 1 ∧ (s.enters loop).op.length ≤ s.op.length + 1 := by
  unfold St.enters
  cases hc : (loop && !s.lp)
  · simp only [Bool.false_eq_true, if_false]
    rw [opn_put]
    exact ⟨(h.put (by simp [okB, bel]; omega)).opn ⟨_, put_new s _, .inr rfl⟩, by simp only [opn_phi, put_phi]; simp, by simp [St.opn, St.put]⟩
  · have hlp : s.lp = false := by simp at hc; exact hc.2
    simp only [if_true]
    rw [opn_put]
    have h1 : Fine ({ s with lp := true } : St) := ⟨h.ok, h.spot⟩
    have h2 := h1.names 3 (by omega) (by omega)
    have hp : ({ s with lp := true } : St).phi + 4 = s.phi := by simp [St.phi, hlp]
    refine ⟨(h2.put (by simp [okB, bel]; omega)).opn ⟨⟨13, 3, 0, 0⟩, ?_, .inr rfl⟩, by simp only [opn_phi, put_phi, names_phi]; simp; omega, by simp [St.opn, St.put, St.names]⟩
    have e : (({ s with lp := true } : St).names 3).k.length = s.k.length + 1 := by simp [St.names, St.put]
    have := put_new (({ s with lp := true } : St).names 3) ⟨13, 3, 0, 0⟩
    rw [e] at this
    exact this

theorem Fine.line {s : St} (h : Fine s) (v : Nat) : Fine (s.line v) ∧ (s.line v).phi ≤ s.phi + 1 ∧ (s.line v).op.length ≤ s.op.length + 1 := by
  have hput : ∀ x : Ins, okB (s.k.length + 2) x = true → Fine (s.put x) ∧ (s.put x).phi ≤ s.phi + 1 ∧ (s.put x).op.length ≤ s.op.length + 1 := fun x hx => ⟨h.put hx, by rw [put_phi]; omega, by rw [put_op]; omega⟩
  unfold St.line
  split
  · exact hput _ (by simp [okB, bel])
  split
  · exact hput _ (by simp [okB, bel])
  split
  · exact hput _ (by simp [okB, bel])
  split
  · exact hput _ (by simp [okB, bel])
  split
  · exact hput _ (by simp [okB, bel])
  split
  · exact hput _ (by simp [okB, bel]; omega)
  split
  · exact hput _ (by simp [okB, bel])
  split
  · exact hput _ (by simp [okB, bel])
  split
  · exact h.enters _
  split
  · cases ho : s.op.getLast? with
    | none =>
      have e : s.op = [] := List.getLast?_eq_none_iff.1 ho
      have ec : ∀ b, s.close b = s := fun b => by unfold St.close; rw [ho]
      rw [ec]
      exact ⟨h, by omega, by omega⟩
    | some b =>
      obtain ⟨ops, hs⟩ := List.getLast?_eq_some_iff.1 ho
      obtain ⟨h1, h2, h3, -⟩ := h.close hs (v / 12 % 2 == 0)
      exact ⟨h1, h2, by omega⟩
  split
  · exact hput _ (by simp [okB])
  · exact hput _ (by simp [okB, bel])

theorem Fine.lines {s : St} (h : Fine s) (l : List Int) : Fine (s.lines l) ∧ (s.lines l).phi ≤ s.phi + l.length ∧ (s.lines l).op.length ≤ s.op.length + l.length := by
  induction l generalizing s with
  | nil => exact ⟨h, by simp [St.lines], by simp [St.lines]⟩
  | cons c l ih =>
    obtain ⟨h1, h2, h3⟩ := h.line (pickN c 1099511627776)
    obtain ⟨h4, h5, h6⟩ := ih h1
    exact ⟨h4, by simp only [St.lines, List.length_cons]; omega, by simp only [St.lines, List.length_cons]; omega⟩

theorem Fine.closes {s : St} (h : Fine s) (n : Nat) (hn : s.op.length ≤ n) : Fine (s.closes n) ∧ (s.closes n).phi ≤ s.phi ∧ (s.closes n).op = [] := by
  induction n generalizing s with
  | zero => exact ⟨h, Nat.le_refl _, List.eq_nil_of_length_eq_zero (by simp only [St.closes]; omega)⟩
  | succ n ih =>
    unfold St.closes
    by_cases h0 : s.op.length = 0
    · rw [if_pos h0]
      exact ⟨h, Nat.le_refl _, List.eq_nil_of_length_eq_zero h0⟩
    · rw [if_neg h0]
      cases ho : s.op.getLast? with
      | none => have e : s.op = [] := List.getLast?_eq_none_iff.1 ho; simp [e] at h0
      | some b =>
        obtain ⟨ops, hs⟩ := List.getLast?_eq_some_iff.1 ho
        obtain ⟨h1, h2, h3, h4⟩ := h.close hs false
        obtain ⟨h5, h6⟩ := h4 rfl
        obtain ⟨h7, h8, h9⟩ := ih h1 (by rw [h6]; have e2 : s.op.length = ops.length + 1 := by rw [hs]; simp
                                         omega)
        exact ⟨h7, by omega, h9⟩

end Go.Proofs.Ytbhbacphiinpeaa

/- What 'line' does to a kernel that is being made. -/
namespace Go.Proofs.Ytbhbacphiinpeaa
open Go.RowKit

set_option maxHeartbeats 400000 in
theorem line_0 {w : World} {B : Nat} {s : St} (v : Nat) (hv : v < 1099511627776) (hr : (v : Int) % 12 = 0) (h : Mk w B s) (hl : s.k.length ≤ 900) :
    Calls Try.prog 28 #[.pointer (some ⟨B, 0, none⟩), .int .i64 v] w fun e w' => e = .returned (.tuple #[]) ∧ Mk w' B (s.put ⟨2, 0, 0, 1⟩) ∧ Below B w w' := by
  have H := hid h
  clear h
  have hv2 : (v : Int) < 1099511627776 := by omega
  go_enter Try.func28, Try.ntmps28
  go_wp2_with (go_at_call 30; refine (put_any _ _ _ _ H.out (by omega)).mono ?_; rintro e w' ⟨rfl, hM, hb⟩)
  go_end0
  exact ⟨rfl, hM, hb⟩

set_option maxHeartbeats 400000 in
theorem line_1 {w : World} {B : Nat} {s : St} (v : Nat) (hv : v < 1099511627776) (hr : (v : Int) % 12 = 1) (h : Mk w B s) (hl : s.k.length ≤ 900) :
    Calls Try.prog 28 #[.pointer (some ⟨B, 0, none⟩), .int .i64 v] w fun e w' => e = .returned (.tuple #[]) ∧ Mk w' B (s.put ⟨3, 1, 0, 2⟩) ∧ Below B w w' := by
  have H := hid h
  clear h
  have hv2 : (v : Int) < 1099511627776 := by omega
  go_enter Try.func28, Try.ntmps28
  go_wp2_with (go_at_call 30; refine (put_any _ _ _ _ H.out (by omega)).mono ?_; rintro e w' ⟨rfl, hM, hb⟩)
  go_end0
  exact ⟨rfl, hM, hb⟩

set_option maxHeartbeats 400000 in
theorem line_2 {w : World} {B : Nat} {s : St} (v : Nat) (hv : v < 1099511627776) (hr : (v : Int) % 12 = 2) (h : Mk w B s) (hl : s.k.length ≤ 900) :
    Calls Try.prog 28 #[.pointer (some ⟨B, 0, none⟩), .int .i64 v] w fun e w' => e = .returned (.tuple #[]) ∧ Mk w' B (s.put ⟨4, 0, 0, 2⟩) ∧ Below B w w' := by
  have H := hid h
  clear h
  have hv2 : (v : Int) < 1099511627776 := by omega
  go_enter Try.func28, Try.ntmps28
  go_wp2_with (go_at_call 30; refine (put_any _ _ _ _ H.out (by omega)).mono ?_; rintro e w' ⟨rfl, hM, hb⟩)
  go_end0
  exact ⟨rfl, hM, hb⟩

set_option maxHeartbeats 400000 in
theorem line_3 {w : World} {B : Nat} {s : St} (v : Nat) (hv : v < 1099511627776) (hr : (v : Int) % 12 = 3) (h : Mk w B s) (hl : s.k.length ≤ 900) :
    Calls Try.prog 28 #[.pointer (some ⟨B, 0, none⟩), .int .i64 v] w fun e w' => e = .returned (.tuple #[]) ∧ Mk w' B (s.put ⟨6, 1, 2, 0⟩) ∧ Below B w w' := by
  have H := hid h
  clear h
  have hv2 : (v : Int) < 1099511627776 := by omega
  go_enter Try.func28, Try.ntmps28
  go_wp2_with (go_at_call 30; refine (put_any _ _ _ _ H.out (by omega)).mono ?_; rintro e w' ⟨rfl, hM, hb⟩)
  go_end0
  exact ⟨rfl, hM, hb⟩

set_option maxHeartbeats 400000 in
theorem line_4 {w : World} {B : Nat} {s : St} (v : Nat) (hv : v < 1099511627776) (hr : (v : Int) % 12 = 4) (h : Mk w B s) (hl : s.k.length ≤ 900) :
    Calls Try.prog 28 #[.pointer (some ⟨B, 0, none⟩), .int .i64 v] w fun e w' => e = .returned (.tuple #[]) ∧ Mk w' B (s.put ⟨7, 1, 1, 0⟩) ∧ Below B w w' := by
  have H := hid h
  clear h
  have hv2 : (v : Int) < 1099511627776 := by omega
  go_enter Try.func28, Try.ntmps28
  go_wp2_with (go_at_call 30; refine (put_any _ _ _ _ H.out (by omega)).mono ?_; rintro e w' ⟨rfl, hM, hb⟩)
  go_end0
  exact ⟨rfl, hM, hb⟩

set_option maxHeartbeats 400000 in
theorem line_6 {w : World} {B : Nat} {s : St} (v : Nat) (hv : v < 1099511627776) (hr : (v : Int) % 12 = 6) (h : Mk w B s) (hl : s.k.length ≤ 900) :
    Calls Try.prog 28 #[.pointer (some ⟨B, 0, none⟩), .int .i64 v] w fun e w' => e = .returned (.tuple #[]) ∧ Mk w' B (s.put ⟨10, 0, 2, 0⟩) ∧ Below B w w' := by
  have H := hid h
  clear h
  have hv2 : (v : Int) < 1099511627776 := by omega
  go_enter Try.func28, Try.ntmps28
  go_wp2_with (go_at_call 30; refine (put_any _ _ _ _ H.out (by omega)).mono ?_; rintro e w' ⟨rfl, hM, hb⟩)
  go_end0
  exact ⟨rfl, hM, hb⟩

set_option maxHeartbeats 400000 in
theorem line_7 {w : World} {B : Nat} {s : St} (v : Nat) (hv : v < 1099511627776) (hr : (v : Int) % 12 = 7) (h : Mk w B s) (hl : s.k.length ≤ 900) :
    Calls Try.prog 28 #[.pointer (some ⟨B, 0, none⟩), .int .i64 v] w fun e w' => e = .returned (.tuple #[]) ∧ Mk w' B (s.put ⟨9, 1, 2, 0⟩) ∧ Below B w w' := by
  have H := hid h
  clear h
  have hv2 : (v : Int) < 1099511627776 := by omega
  go_enter Try.func28, Try.ntmps28
  go_wp2_with (go_at_call 30; refine (put_any _ _ _ _ H.out (by omega)).mono ?_; rintro e w' ⟨rfl, hM, hb⟩)
  go_end0
  exact ⟨rfl, hM, hb⟩

set_option maxHeartbeats 400000 in
theorem line_5 {w : World} {B : Nat} {s : St} (v : Nat) (hv : v < 1099511627776) (hr : (v : Int) % 12 = 5) (h : Mk w B s) (hl : s.k.length ≤ 900) :
    Calls Try.prog 28 #[.pointer (some ⟨B, 0, none⟩), .int .i64 v] w fun e w' => e = .returned (.tuple #[]) ∧ Mk w' B (s.put ⟨1, 1, (v : Int) / 12 % 256, 0⟩) ∧ Below B w w' := by
  have H := hid h
  clear h
  have hv2 : (v : Int) < 1099511627776 := by omega
  go_enter Try.func28, Try.ntmps28
  go_wp2_with (go_at_call 30; refine (put_any _ _ _ _ H.out (by omega)).mono ?_; rintro e w' ⟨rfl, hM, hb⟩)
  go_end0
  exact ⟨rfl, hM, hb⟩

set_option maxHeartbeats 400000 in
theorem line_8 {w : World} {B : Nat} {s : St} (v : Nat) (hv : v < 1099511627776) (hr : (v : Int) % 12 = 8 ∨ (v : Int) % 12 = 9) (h : Mk w B s) (hl : s.k.length ≤ 900) (hlo : s.op.length ≤ 900) :
    Calls Try.prog 28 #[.pointer (some ⟨B, 0, none⟩), .int .i64 v] w fun e w' => e = .returned (.tuple #[]) ∧ Mk w' B (s.enters ((v : Int) / 12 % 3 == 0)) ∧ Below B w w' := by
  have H := hid h
  clear h
  have hv2 : (v : Int) < 1099511627776 := by omega
  rcases hr with hr | hr
  all_goals
    go_enter Try.func28, Try.ntmps28
    go_wp2_with (go_at_call 43; refine (enters_any _ H.out hl hlo).mono ?_; rintro e w' ⟨rfl, hM, hb⟩)
    go_end0
    exact ⟨rfl, hM, hb⟩

set_option maxHeartbeats 400000 in
set_option maxRecDepth 100000 in
theorem line_10 {w : World} {B : Nat} {s : St} {ops : List Blk} {b : Blk} (v : Nat) (hv : v < 1099511627776) (hr : (v : Int) % 12 = 10) (h : Mk w B s) (hl : s.k.length ≤ 900) (hlo : s.op.length ≤ 900) (hs : s.op = ops ++ [b]) (hat : b.at0 < s.k.length) :
    Calls Try.prog 28 #[.pointer (some ⟨B, 0, none⟩), .int .i64 v] w fun e w' => e = .returned (.tuple #[]) ∧ Mk w' B (s.close ((v : Int) / 12 % 2 == 0)) ∧ Below B w w' := by
  have H := hid h
  obtain ⟨vk, vo, hB, -, ho⟩ := h
  obtain ⟨-, c1, -⟩ := blk_cells hB
  obtain ⟨ao, cap, hvo⟩ := owns_slice ho
  subst hvo
  have hlen : s.op.length = ops.length + 1 := by rw [hs]; simp
  have Hs := hid hs
  rw [hlen] at c1
  have hlo2 : ops.length ≤ 900 := by omega
  clear hs hlen ho hB hlo
  have hv2 : (v : Int) < 1099511627776 := by omega
  go_enter Try.func28, Try.ntmps28
  go_wp2_with (go_at_call 29; refine (close_any _ H.out Hs.out hl hlo2 hat).mono ?_; rintro e w' ⟨rfl, hM, hb⟩)
  go_end0
  exact ⟨rfl, hM, hb⟩

set_option maxHeartbeats 400000 in
theorem line_10no {w : World} {B : Nat} {s : St} (v : Nat) (hv : v < 1099511627776) (hr : (v : Int) % 12 = 10) (h : Mk w B s) (hs : s.op.length = 0) :
    Calls Try.prog 28 #[.pointer (some ⟨B, 0, none⟩), .int .i64 v] w fun e w' => e = .returned (.tuple #[]) ∧ w' = w := by
  obtain ⟨vk, vo, hB, -, ho⟩ := h
  obtain ⟨-, c1, -⟩ := blk_cells hB
  obtain ⟨ao, cap, hvo⟩ := owns_slice ho
  rw [hs] at hvo
  subst hvo
  clear hs ho hB
  have hv2 : (v : Int) < 1099511627776 := by omega
  go_enter Try.func28, Try.ntmps28
  go_wp2
  go_end0
  exact ⟨rfl, rfl⟩

set_option maxHeartbeats 400000 in
theorem line_11a {w : World} {B : Nat} {s : St} (v : Nat) (hv : v < 1099511627776) (hr : (v : Int) % 12 = 11) (h : Mk w B s) (hl : s.k.length ≤ 900) (hs : s.op.length = 0) :
    Calls Try.prog 28 #[.pointer (some ⟨B, 0, none⟩), .int .i64 v] w fun e w' => e = .returned (.tuple #[]) ∧ Mk w' B (s.put ⟨14, 0, 0, 0⟩) ∧ Below B w w' := by
  have H := hid h
  obtain ⟨vk, vo, hB, -, ho⟩ := h
  obtain ⟨-, c1, -⟩ := blk_cells hB
  obtain ⟨ao, cap, hvo⟩ := owns_slice ho
  rw [hs] at hvo
  subst hvo
  clear hs ho hB
  have hv2 : (v : Int) < 1099511627776 := by omega
  go_enter Try.func28, Try.ntmps28
  go_wp2_with (go_at_call 30; refine (put_any _ _ _ _ H.out (by omega)).mono ?_; rintro e w' ⟨rfl, hM, hb⟩)
  go_end0
  exact ⟨rfl, hM, hb⟩

set_option maxHeartbeats 400000 in
theorem line_11b {w : World} {B : Nat} {s : St} (v : Nat) (hv : v < 1099511627776) (hr : (v : Int) % 12 = 11) (h : Mk w B s) (hl : s.k.length ≤ 900) (hs : s.op.length ≠ 0) :
    Calls Try.prog 28 #[.pointer (some ⟨B, 0, none⟩), .int .i64 v] w fun e w' => e = .returned (.tuple #[]) ∧ Mk w' B (s.put ⟨4, 1, 2, 0⟩) ∧ Below B w w' := by
  have H := hid h
  obtain ⟨vk, vo, hB, -, ho⟩ := h
  obtain ⟨-, c1, -⟩ := blk_cells hB
  obtain ⟨ao, cap, hvo⟩ := owns_slice ho
  subst hvo
  have hb0 : ((s.op.length : Int) == 0) = false := beq_eq_false_iff_ne.2 (by omega)
  have hp : 1 ≤ s.op.length := by omega
  clear hs ho hB
  have hv2 : (v : Int) < 1099511627776 := by omega
  go_enter Try.func28, Try.ntmps28
  go_wp2_with (go_at_call 30; refine (put_any _ _ _ _ H.out (by omega)).mono ?_; rintro e w' ⟨rfl, hM, hb⟩)
  go_end0
  exact ⟨rfl, hM, hb⟩

theorem nat_mod3 (v m : Nat) (hm : m = 2 ∨ m = 3) : ((v : Int) / 12 % (m : Int) == 0) = (v / 12 % m == 0) := by
  rw [Bool.eq_iff_iff]
  rcases hm with rfl | rfl <;> simp <;> omega

theorem line_any {w : World} {B : Nat} {s : St} (v : Nat) (hv : v < 1099511627776) (h : Mk w B s) (hl : s.k.length ≤ 900) (hlo : s.op.length ≤ 900) (hf : Fine s) :
    Calls Try.prog 28 #[.pointer (some ⟨B, 0, none⟩), .int .i64 v] w fun e w' => e = .returned (.tuple #[]) ∧ Mk w' B (s.line v) ∧ Below B w w' := by
  unfold St.line
  by_cases h0 : v % 12 = 0
  · rw [if_pos h0]; exact line_0 v hv (by omega) h hl
  rw [if_neg h0]
  by_cases h1 : v % 12 = 1
  · rw [if_pos h1]; exact line_1 v hv (by omega) h hl
  rw [if_neg h1]
  by_cases h2 : v % 12 = 2
  · rw [if_pos h2]; exact line_2 v hv (by omega) h hl
  rw [if_neg h2]
  by_cases h3 : v % 12 = 3
  · rw [if_pos h3]; exact line_3 v hv (by omega) h hl
  rw [if_neg h3]
  by_cases h4 : v % 12 = 4
  · rw [if_pos h4]; exact line_4 v hv (by omega) h hl
  rw [if_neg h4]
  by_cases h5 : v % 12 = 5
  · rw [if_pos h5, show ((v / 12 % 256 : Nat) : Int) = (v : Int) / 12 % 256 by omega]; exact line_5 v hv (by omega) h hl
  rw [if_neg h5]
  by_cases h6 : v % 12 = 6
  · rw [if_pos h6]; exact line_6 v hv (by omega) h hl
  rw [if_neg h6]
  by_cases h7 : v % 12 = 7
  · rw [if_pos h7]; exact line_7 v hv (by omega) h hl
  rw [if_neg h7]
  by_cases h8 : v % 12 = 8 ∨ v % 12 = 9
  · rw [if_pos h8, ← nat_mod3 v 3 (.inr rfl)]; exact line_8 v hv (by omega) h hl hlo
  rw [if_neg h8]
  by_cases h10 : v % 12 = 10
  · rw [if_pos h10, ← nat_mod3 v 2 (.inl rfl)]
    cases ho : s.op.getLast? with
    | none =>
      have e : s.op = [] := List.getLast?_eq_none_iff.1 ho
      have ec : ∀ b, s.close b = s := fun b => by unfold St.close; rw [ho]
      rw [ec]
      refine (line_10no v hv (by omega) h (by rw [e]; rfl)).mono ?_
      rintro e' w' ⟨rfl, rfl⟩
      exact ⟨rfl, h, Below.refl _ _⟩
    | some b =>
      obtain ⟨ops, hs⟩ := List.getLast?_eq_some_iff.1 ho
      obtain ⟨x, hx, -⟩ := hf.spot b (by rw [hs]; simp)
      exact line_10 v hv (by omega) h hl hlo hs (List.getElem?_eq_some_iff.1 hx).1
  rw [if_neg h10]
  by_cases h11 : s.op.length = 0
  · rw [if_pos h11]; exact line_11a v hv (by omega) h hl h11
  · rw [if_neg h11]; exact line_11b v hv (by omega) h hl h11

end Go.Proofs.Ytbhbacphiinpeaa

/- The kernel that a list of numbers makes is a right one: plain lists; nothing of the program is in this text. -/
namespace Go.Proofs.Ytbhbacphiinpeaa
open Go.RowKit

def kern0 (al : Bool) : St := (⟨[], [], false, al⟩ : St).names 2
def kern1 (l : List Int) (al : Bool) : St := (kern0 al).lines (l.take 12)
def kern2 (l : List Int) (al : Bool) : St := (kern1 l al).closes (kern1 l al).op.length
def kern (l : List Int) (al : Bool) : List Ins := (((kern2 l al).put ⟨10, 0, 2, 0⟩).put ⟨0, 0, 0, 0⟩).k

theorem lines_snoc (s : St) (l : List Int) (c : Int) : s.lines (l ++ [c]) = (s.lines l).line (pickN c 1099511627776) := by
  induction l generalizing s with
  | nil => rfl
  | cons d l ih => exact ih _

theorem closes_done {s : St} (h : s.op.length = 0) (n : Nat) : s.closes n = s := by
  cases n with
  | zero => rfl
  | succ n => unfold St.closes; rw [if_pos h]

theorem closes_more {s : St} (h : s.op.length ≠ 0) (n : Nat) : s.closes (n + 1) = (s.close false).closes n := by
  rw [St.closes, if_neg h]

theorem fine0 (al : Bool) : Fine (kern0 al) ∧ (kern0 al).phi = 5 ∧ (kern0 al).op.length = 0 := by
  have h : Fine (⟨[], [], false, al⟩ : St) := ⟨fun x hx => by simp at hx, fun b hb => by simp at hb⟩
  exact ⟨h.names 2 (by omega) (by omega), by unfold kern0; rw [names_phi]; rfl, rfl⟩

theorem fineAt (l : List Int) (al : Bool) (k : Nat) (hk : k ≤ 12) : Fine ((kern0 al).lines (l.take k)) ∧ ((kern0 al).lines (l.take k)).phi ≤ 17 ∧ ((kern0 al).lines (l.take k)).op.length ≤ 12 := by
  obtain ⟨h1, h2, h3⟩ := fine0 al
  obtain ⟨h4, h5, h6⟩ := h1.lines (l.take k)
  have := List.length_take_le k l
  exact ⟨h4, by omega, by omega⟩

theorem fine2 (l : List Int) (al : Bool) : Fine (kern2 l al) ∧ (kern2 l al).phi ≤ 17 := by
  obtain ⟨h1, h2, h3⟩ := fineAt l al 12 (Nat.le_refl _)
  obtain ⟨h4, h5, -⟩ := h1.closes _ (Nat.le_refl _)
  exact ⟨h4, Nat.le_trans h5 h2⟩

theorem phi_len (s : St) : s.k.length ≤ s.phi := by unfold St.phi; omega

theorem kern_len (l : List Int) (al : Bool) : (kern l al).length = (kern2 l al).k.length + 2 ∧ (kern2 l al).k.length ≤ 17 := by
  have := phi_len (kern2 l al)
  have := (fine2 l al).2
  exact ⟨by simp [kern, St.put], by omega⟩

theorem kern_ok (l : List Int) (al : Bool) : ∀ x ∈ kern l al, okB (kern l al).length x = true := by
  obtain ⟨h1, -⟩ := fine2 l al
  have h2 := h1.put (x := ⟨10, 0, 2, 0⟩) (by simp [okB, bel])
  have hk : kern l al = ((kern2 l al).put ⟨10, 0, 2, 0⟩).k ++ [⟨0, 0, 0, 0⟩] := rfl
  have hl := (kern_len l al).1
  intro x hx
  rw [hl]
  rw [hk] at hx
  simp only [List.mem_append, List.mem_singleton] at hx
  rcases hx with hx | rfl
  · have := h2.ok x hx
    rw [kput_len] at this
    exact okB_mono (by omega) this
  · simp [okB]

theorem kern_last (l : List Int) (al : Bool) : (kern l al)[(kern l al).length - 1]? = some ⟨0, 0, 0, 0⟩ := by
  have hk : kern l al = ((kern2 l al).put ⟨10, 0, 2, 0⟩).k ++ [⟨0, 0, 0, 0⟩] := rfl
  rw [hk]
  simp

theorem kern_chk (l : List Int) (al : Bool) : chk (kern l al) = (0, 0) := by
  have := kern_len l al
  exact chk_ok (by omega) (by omega) (fun j y hy => kern_ok l al y (List.mem_of_getElem? hy)) (kern_last l al) (.inl rfl)

/-- The slice v, as the world w has it, reads as the numbers l. -/
def SeesI (w : World) (v : Value) (l : List Int) : Prop :=
  l.length ≤ 9223372036854775807 ∧ (∀ (i : Nat) x, l[i]? = some x → -9223372036854775808 ≤ x ∧ x ≤ 9223372036854775807) ∧ ((l = [] ∧ ∃ ao cap, v = .slice ao 0 cap) ∨
    ∃ b off cap, v = .slice (some ⟨b, off, none⟩) l.length cap ∧ b < w.heap.size ∧ ∀ (i : Nat) x, l[i]? = some x → w.cell? ⟨b, off + i, none⟩ = some (.int .i64 x))

end Go.Proofs.Ytbhbacphiinpeaa

