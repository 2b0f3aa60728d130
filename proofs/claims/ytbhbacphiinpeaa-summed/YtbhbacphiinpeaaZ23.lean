/- E Na Wy Wa Wb: joined. -/
import Derived.Test.YtbhbacphiinpeaaZ02
import Derived.Test.YtbhbacphiinpeaaZ01
import Derived.Test.YtbhbacphiinpeaaZ07
import Derived.Test.YtbhbacphiinpeaaZ06
import Derived.Test.YtbhbacphiinpeaaRows
import Derived.WalkKit
import Derived.WalkSpells
import Derived.WalkLawsBesides
import Derived.BigGuardPart

/- What 'Decode' answers. -/
namespace Go.Proofs.Ytbhbacphiinpeaa
open Go.RowKit

set_option maxHeartbeats 400000 in
theorem decode_size (s : ByteArray) (hm : s.size ≤ 140737488355328) (h : s.size % 4 ≠ 0 ∨ 160 < s.size) (w : World) :
    Calls Try.prog 32 #[.string s] w fun e w' => e = .returned (.tuple #[.slice none 0 0, .int .i64 1, .int .i64 0]) ∧ w' = w := by
  by_cases h4 : s.size % 4 = 0
  · have g : (((s.size : Int) % 4) != 0) = false := by
      have : (s.size : Int) % 4 = 0 := by omega
      rw [this]; rfl
    have g2 : decide ((160 : Int) < (s.size : Int)) = true := by simp; omega
    have h5 : (160 : Int) < (s.size : Int) := by omega
    have H4 : Hid (s.size % 4 = 0) := h4
    clear h h4
    go_enter Try.func32, Try.ntmps32
    go_wp2
    go_ret3
    exact ⟨rfl, rfl⟩
  · have g : (((s.size : Int) % 4) != 0) = true := by
      have : (s.size : Int) % 4 ≠ 0 := by omega
      simpa using this
    clear h h4
    go_enter Try.func32, Try.ntmps32
    go_wp2
    go_ret3
    exact ⟨rfl, rfl⟩

set_option maxHeartbeats 400000 in
theorem decode_fits (s : ByteArray) (n : Nat) (hs : s.size = 4 * n) (hn : n ≤ 40) (w : World) :
    Calls Try.prog 32 #[.string s] w fun e w' => ∃ v, e = .returned (.tuple #[v, .int .i64 (chk (unp s n)).1, .int .i64 (chk (unp s n)).2]) ∧ Below w.heap.size w w' ∧
      (((chk (unp s n)).1 = 0 ∧ w'.ownsRow w.heap.size 31 4 v n (flat (unp s n))) ∨ ((chk (unp s n)).1 ≠ 0 ∧ v = .slice none 0 0)) := by
  have g : (((s.size : Int) % 4) != 0) = false := by
    have : (s.size : Int) % 4 = 0 := by omega
    rw [this]; rfl
  have g2 : decide ((160 : Int) < (s.size : Int)) = false := by simp; omega
  have g3 : (s.size : Int) ≤ 160 := by omega
  have Hs : Hid (s.size = 4 * n) := hs
  clear hs
  by_cases he : (chk (unp s n)).1 = 0
  · have hb : ((chk (unp s n)).1 != 0) = false := by rw [he]; rfl
    have He : Hid ((chk (unp s n)).1 = 0) := he
    clear he
    have He2 : Hid (chk (unp s n) = (0, 0)) := (chk_zero He.out).1
    go_enter Try.func32, Try.ntmps32
    go_wp2_with fail
    refine (unpack_any s n Hs.out hn _).mono ?_
    rintro e w1 ⟨v, rfl, hown, hb1⟩
    have hsee : Hid (Sees w1 v (unp s n)) := ownsRow_sees (by rw [unp_length]; omega) (by rw [unp_length]; exact hown)
    go_wp2_with fail
    refine (check_any hsee.out).mono ?_
    rintro e w2 ⟨rfl, hb2⟩
    go_wp2
    go_ret3
    refine ⟨v, by rw [He2.out]; rfl, hb1.trans (hb2.mono hb1.size), .inl ⟨He.out, hown.keptB hb2⟩⟩
  · have hb : ((chk (unp s n)).1 != 0) = true := by simpa using he
    go_enter Try.func32, Try.ntmps32
    go_wp2_with fail
    refine (unpack_any s n Hs.out hn _).mono ?_
    rintro e w1 ⟨v, rfl, hown, hb1⟩
    have hsee : Hid (Sees w1 v (unp s n)) := ownsRow_sees (by rw [unp_length]; omega) (by rw [unp_length]; exact hown)
    go_wp2_with fail
    refine (check_any hsee.out).mono ?_
    rintro e w2 ⟨rfl, hb2⟩
    go_wp2
    go_ret3
    exact ⟨_, rfl, hb1.trans (hb2.mono hb1.size), .inr ⟨he, rfl⟩⟩

theorem decode_any (s : ByteArray) (hm : s.size ≤ 140737488355328) (w : World) :
    Calls Try.prog 32 #[.string s] w fun e w' => ∃ v, e = .returned (.tuple #[v, .int .i64 (dchk s).1, .int .i64 (dchk s).2]) ∧ Below w.heap.size w w' ∧
      w'.ownsRow w.heap.size 31 4 v (decL s).length (flat (decL s)) ∧ ((dchk s).1 ≠ 0 → v = .slice none 0 0) := by
  by_cases h : s.size % 4 ≠ 0 ∨ 160 < s.size
  · have e1 : dchk s = (1, 0) := by unfold dchk; rw [if_pos h]
    have e2 : decL s = [] := by unfold decL; rw [e1]; simp
    rw [e1, e2]
    refine (decode_size s hm h w).mono ?_
    rintro e w' ⟨rfl, rfl⟩
    exact ⟨_, rfl, Below.refl _ _, World.ownsRow_nil _ _ _ _, fun _ => rfl⟩
  · have e1 : dchk s = chk (unp s (s.size / 4)) := by unfold dchk; rw [if_neg h]
    refine (decode_fits s (s.size / 4) (by omega) (by omega) w).mono ?_
    rintro e w' ⟨v, rfl, hb, hv⟩
    rw [← e1] at hv ⊢
    refine ⟨v, rfl, hb, ?_⟩
    rcases hv with ⟨h0, hown⟩ | ⟨h0, rfl⟩
    · have e2 : decL s = unp s (s.size / 4) := by unfold decL; rw [if_pos h0]
      rw [e2, unp_length]
      exact ⟨hown, fun hn => absurd h0 hn⟩
    · have e2 : decL s = [] := by unfold decL; rw [if_neg h0]
      rw [e2]
      exact ⟨World.ownsRow_nil _ _ _ _, fun _ => rfl⟩

set_option maxHeartbeats 400000 in
theorem Decode_any (s : ByteArray) (hm : s.size ≤ 140737488355328) (w : World) :
    Calls Try.prog 11 #[.string s] w fun e w' => ∃ v, e = .returned (.tuple #[v, .int .i64 (dchk s).1, .int .i64 (dchk s).2]) ∧ Below w.heap.size w w' ∧
      w'.ownsRow w.heap.size 31 4 v (decL s).length (flat (decL s)) ∧ ((dchk s).1 ≠ 0 → v = .slice none 0 0) := by
  go_enter Try.func11, Try.ntmps11
  go_wp2_with (go_at_call 32; refine (decode_any s hm _).mono ?_; rintro e w1 ⟨v, rfl, hb, hown, hnil⟩)
  go_ret3
  exact ⟨v, rfl, hb, hown, hnil⟩

end Go.Proofs.Ytbhbacphiinpeaa

/- What 'New' of package loom answers where it refuses. -/
namespace Go.Proofs.Ytbhbacphiinpeaa
open Go.RowKit

set_option maxHeartbeats 400000 in
theorem mnew_no (s : ByteArray) (hm : s.size ≤ 140737488355328) (h0 : (dchk s).1 ≠ 0) (t f : Int) (ao : Option Addr) (n cap : Nat) (w : World) :
    Calls Try.prog 37 #[.string s, .int .i64 t, .int .i64 f, .slice ao n cap] w fun e w' => e = .returned (.tuple #[.pointer none, .int .i64 (dchk s).1, .int .i64 (dchk s).2]) ∧ Below w.heap.size w w' := by
  have g0 : ((dchk s).1 != 0) = true := by simpa using h0
  clear h0
  go_enter Try.func37, Try.ntmps37
  go_wp2_with fail
  refine (decode_any s hm _).mono ?_
  rintro e w1 ⟨v, rfl, hb1, -⟩
  go_wp2
  go_ret3
  exact ⟨rfl, hb1⟩

set_option maxHeartbeats 1000000 in
theorem mnew_bad (s : ByteArray) (hm : s.size ≤ 140737488355328) (h0 : (dchk s).1 = 0) (t f : Int) (ao : Option Addr) (n cap : Nat) (hn : n ≤ 17592186044416) (w : World) (he : newErr t f n ≠ 0) :
    Calls Try.prog 37 #[.string s, .int .i64 t, .int .i64 f, .slice ao n cap] w fun e w' => e = .returned (.tuple #[.pointer none, .int .i64 (newErr t f n), .int .i64 0]) ∧ Below w.heap.size w w' := by
  have g0 : ((dchk s).1 != 0) = false := by simpa using h0
  clear h0
  by_cases h1 : t < 1
  · have hq : Hid (newErr t f n = 4) := by unfold Hid newErr; rw [if_pos (.inl h1)]
    have g1 : decide (t < 1) = true := by simpa using h1
    go_enter Try.func37, Try.ntmps37
    go_wp2_with fail
    refine (decode_any s hm _).mono ?_
    rintro e w1 ⟨v, rfl, hb1, -⟩
    go_wp2
    go_ret3
    rw [hq.out]
    exact ⟨rfl, hb1⟩
  have g1 : decide (t < 1) = false := by simpa using h1
  by_cases h2 : 16 < t
  · have hq : Hid (newErr t f n = 4) := by unfold Hid newErr; rw [if_pos (.inr (.inl h2))]
    have g2 : decide (16 < t) = true := by simpa using h2
    go_enter Try.func37, Try.ntmps37
    go_wp2_with fail
    refine (decode_any s hm _).mono ?_
    rintro e w1 ⟨v, rfl, hb1, -⟩
    go_wp2
    go_ret3
    rw [hq.out]
    exact ⟨rfl, hb1⟩
  have g2 : decide (16 < t) = false := by simpa using h2
  by_cases h3 : f < 0
  · have hq : Hid (newErr t f n = 4) := by unfold Hid newErr; rw [if_pos (.inr (.inr (.inl h3)))]
    have g3 : decide (f < 0) = true := by simpa using h3
    go_enter Try.func37, Try.ntmps37
    go_wp2_with fail
    refine (decode_any s hm _).mono ?_
    rintro e w1 ⟨v, rfl, hb1, -⟩
    go_wp2
    go_ret3
    rw [hq.out]
    exact ⟨rfl, hb1⟩
  have g3 : decide (f < 0) = false := by simpa using h3
  by_cases h4 : 1000 < f
  · have hq : Hid (newErr t f n = 4) := by unfold Hid newErr; rw [if_pos (.inr (.inr (.inr h4)))]
    have g4 : decide (1000 < f) = true := by simpa using h4
    go_enter Try.func37, Try.ntmps37
    go_wp2_with fail
    refine (decode_any s hm _).mono ?_
    rintro e w1 ⟨v, rfl, hb1, -⟩
    go_wp2
    go_ret3
    rw [hq.out]
    exact ⟨rfl, hb1⟩
  have g4 : decide (1000 < f) = false := by simpa using h4
  have hq : Hid (newErr t f n = 5 ∧ (n < 1 ∨ 32 < n)) := by
    unfold newErr at he
    rw [if_neg (by omega)] at he
    by_cases h5 : n < 1 ∨ 32 < n
    · refine ⟨?_, h5⟩
      unfold newErr
      rw [if_neg (by omega), if_pos h5]
    · rw [if_neg h5] at he
      exact absurd rfl he
  clear he h1 h2 h3 h4
  by_cases h5 : n < 1
  · have hn0 : n = 0 := by omega
    subst hn0
    clear h5
    go_enter Try.func37, Try.ntmps37
    go_wp2_with fail
    refine (decode_any s hm _).mono ?_
    rintro e w1 ⟨v, rfl, hb1, -⟩
    go_wp2
    go_ret3
    rw [hq.out.1]
    exact ⟨rfl, hb1⟩
  · have g5 : decide ((n : Int) < 1) = false := by simp; omega
    have g6 : decide (32 < (n : Int)) = true := by
      have := hq.out.2
      simp; omega
    go_enter Try.func37, Try.ntmps37
    go_wp2_with fail
    refine (decode_any s hm _).mono ?_
    rintro e w1 ⟨v, rfl, hb1, -⟩
    go_wp2
    go_ret3
    rw [hq.out.1]
    exact ⟨rfl, hb1⟩

end Go.Proofs.Ytbhbacphiinpeaa

/- What the program works out of the ways in a kernel: plain lists; nothing of the program is in this text. -/
namespace Go.Proofs.Ytbhbacphiinpeaa
open Go.RowKit

/-- Is there an instruction m, and is it marked? -/
def mkd (E : List Bool) (m : Int) : Bool := if 0 ≤ m then E.getD m.toNat false else false

theorem mkd_nat (E : List Bool) (n : Nat) : mkd E (n : Int) = true ↔ E[n]? = some true := by
  unfold mkd
  rw [if_pos (by omega)]
  simp only [Int.toNat_natCast, List.getD_eq_getElem?_getD]
  cases h : E[n]? with
  | none => simp
  | some b => simp

theorem mkd_int {E : List Bool} {m : Int} (h : 0 ≤ m) : mkd E m = true ↔ E[m.toNat]? = some true := by
  have := mkd_nat E m.toNat
  rwa [Int.toNat_of_nonneg h] at this

/-- Is the instruction an Exit, or is one marked that comes next? -/
def bhd (E : List Bool) (x : Ins) (n : Nat) : Bool := if x.o = 0 then true else if x.o = 12 then mkd E x.b else if x.o = 13 then (mkd E x.b || mkd E ((n : Int) + 1)) else mkd E ((n : Int) + 1)

def Sound (k : List Ins) (av : Int) (E : List Bool) : Prop := E.length = k.length ∧ ∀ i : Nat, E[i]? = some true → (i : Int) ≠ av ∧ Rch k av i
def Whole (k : List Ins) (av : Int) (E : List Bool) : Prop := ∀ (i : Nat) x, k[i]? = some x → (i : Int) ≠ av → bhd E x i = true → E[i]? = some true
def Ends (k : List Ins) (av : Int) (E : List Bool) : Prop := E.length = k.length ∧ ∀ i : Nat, E[i]? = some true ↔ ((i : Int) ≠ av ∧ Rch k av i)

theorem bhd_iff {k : List Ins} {E : List Bool} {n : Nat} {x : Ins} (hx : k[n]? = some x) (hb : 0 ≤ x.b) : bhd E x n = true ↔ isEnd k n ∨ ∃ m ∈ nxt k n, E[m]? = some true := by
  have hn : nxt k n = if x.o = 0 then [] else if x.o = 12 then [x.b.toNat] else if x.o = 13 then [x.b.toNat, n + 1] else [n + 1] := by unfold nxt; rw [hx]
  have he : isEnd k n ↔ x.o = 0 := ⟨fun ⟨y, h1, h2⟩ => by rw [hx] at h1; cases h1; exact h2, fun h => ⟨x, hx, h⟩⟩
  have h1 : mkd E ((n : Int) + 1) = true ↔ E[n + 1]? = some true := by
    have := mkd_nat E (n + 1)
    rwa [show ((n + 1 : Nat) : Int) = (n : Int) + 1 by omega] at this
  have h2 := mkd_int (E := E) hb
  rw [he, hn]
  unfold bhd
  by_cases h0 : x.o = 0
  · simp [h0]
  rw [if_neg h0, if_neg h0]
  by_cases h12 : x.o = 12
  · rw [if_pos h12, if_pos h12, h2]; simp [h12]
  rw [if_neg h12, if_neg h12]
  by_cases h13 : x.o = 13
  · rw [if_pos h13, if_pos h13, Bool.or_eq_true, h1, h2]; simp [h13]
  rw [if_neg h13, if_neg h13, h1]
  simp [h0]

theorem bhd_sound {k : List Ins} {av : Int} {E : List Bool} {n : Nat} {x : Ins} (hs : Sound k av E) (hx : k[n]? = some x) (hb : 0 ≤ x.b) (h : bhd E x n = true) : Rch k av n := by
  rcases (bhd_iff hx hb).1 h with he | ⟨m, hm, hE⟩
  · exact ⟨[], he⟩
  · obtain ⟨h1, p, hp⟩ := hs.2 m hE
    exact ⟨m :: p, hm, h1, hp⟩

theorem way_in {k : List Ins} {wo : Int} {n : Nat} {p : List Nat} (h : IsWay k wo n p) : ∃ x, k[n]? = some x := by
  cases p with
  | nil => obtain ⟨x, hx, -⟩ := h; exact ⟨x, hx⟩
  | cons m p =>
    obtain ⟨h1, -⟩ := h
    cases hx : k[n]? with
    | none => unfold nxt at h1; rw [hx] at h1; simp at h1
    | some x => exact ⟨x, rfl⟩

theorem whole_all {k : List Ins} {av : Int} {E : List Bool} (hb : ∀ (i : Nat) x, k[i]? = some x → 0 ≤ x.b) (hw : Whole k av E) : ∀ (p : List Nat) (n : Nat), (n : Int) ≠ av → IsWay k av n p → E[n]? = some true
  | [], n, hn, h => by
    obtain ⟨x, hx⟩ := way_in h
    exact hw n x hx hn ((bhd_iff hx (hb n x hx)).2 (.inl h))
  | m :: p, n, hn, h => by
    obtain ⟨x, hx⟩ := way_in h
    obtain ⟨h1, h2, h3⟩ := h
    exact hw n x hx hn ((bhd_iff hx (hb n x hx)).2 (.inr ⟨m, h1, whole_all hb hw p m h2 h3⟩))

theorem ends_of {k : List Ins} {av : Int} {E : List Bool} (hb : ∀ (i : Nat) x, k[i]? = some x → 0 ≤ x.b) (hs : Sound k av E) (hw : Whole k av E) : Ends k av E :=
  ⟨hs.1, fun i => ⟨hs.2 i, fun ⟨h1, p, hp⟩ => whole_all hb hw p i h1 hp⟩⟩

theorem sound_none (k : List Ins) (av : Int) : Sound k av (List.replicate k.length false) := by
  refine ⟨by simp, fun i h => ?_⟩
  rw [List.getElem?_replicate] at h
  split at h <;> simp at h

theorem sound_set {k : List Ins} {av : Int} {E : List Bool} {n : Nat} {x : Ins} (hs : Sound k av E) (hx : k[n]? = some x) (hb : 0 ≤ x.b) (hn : (n : Int) ≠ av) (h : bhd E x n = true) : Sound k av (E.set n true) := by
  refine ⟨by simp [hs.1], fun i hi => ?_⟩
  rw [List.getElem?_set] at hi
  by_cases e : n = i
  · subst e
    exact ⟨hn, bhd_sound hs hx hb h⟩
  · rw [if_neg e] at hi
    exact hs.2 i hi

theorem count_set : ∀ {E : List Bool} {n : Nat}, E[n]? = some false → (E.set n true).count true = E.count true + 1
  | [], n, h => by simp at h
  | b :: E, 0, h => by simp at h; subst h; simp
  | b :: E, n + 1, h => by
    simp only [List.getElem?_cons_succ] at h
    have := count_set h
    simp only [List.set_cons_succ, List.count_cons, this]
    omega

theorem all_of_count {E : List Bool} (h : E.length ≤ E.count true) : ∀ b ∈ E, b = true := by
  have h1 := List.count_le_length (a := true) (l := E)
  have h2 := List.count_eq_length.1 (Nat.le_antisymm h1 h)
  exact fun b hb => (h2 b hb).symm

theorem whole_of_count {k : List Ins} {av : Int} {E : List Bool} (hl : E.length = k.length) (h : k.length ≤ E.count true) : Whole k av E := by
  intro i x hx _ _
  have hi : i < E.length := by rw [hl]; exact (List.getElem?_eq_some_iff.1 hx).1
  rw [List.getElem?_eq_getElem hi]
  rw [all_of_count (by omega) _ (List.getElem_mem hi)]

/-- The row of d: by which instructions does each way come by d? -/
def OnRow (k : List Ins) (d : Nat) (R : List Bool) : Prop := R.length = k.length ∧ ∀ n : Nat, R[n]? = some true ↔ (Rch k (-1) n ∧ Psd k n d)
def On (k : List Ins) (M : List (List Bool)) : Prop := M.length = k.length ∧ ∀ (d : Nat) R, M[d]? = some R → OnRow k d R

/-- What stands at n in the row of d. -/
def onB (E W : List Bool) (d n : Nat) : Bool := decide (n ≠ d) && (mkd E n && !mkd W n)

theorem onB_iff {k : List Ins} {E W : List Bool} {d n : Nat} (hE : Ends k (-1) E) (hW : Ends k (d : Int) W) : onB E W d n = true ↔ (Rch k (-1) n ∧ Psd k n d) := by
  unfold onB Psd
  rw [Bool.and_eq_true, Bool.and_eq_true, decide_eq_true_iff, mkd_nat, hE.2, Bool.not_eq_true', ← Bool.not_eq_true, mkd_nat, hW.2]
  have h1 : ((n : Int) ≠ -1) := by omega
  constructor
  · rintro ⟨a, ⟨-, b⟩, c⟩
    exact ⟨b, a, fun h => c ⟨by omega, h⟩⟩
  · rintro ⟨b, a, c⟩
    exact ⟨a, ⟨h1, b⟩, fun h => c h.2⟩

theorem onRow_of {k : List Ins} {E W R : List Bool} {d : Nat} (hE : Ends k (-1) E) (hW : Ends k (d : Int) W) (hl : R.length = k.length) (h : ∀ (n : Nat) b, R[n]? = some b → b = onB E W d n) : OnRow k d R := by
  refine ⟨hl, fun n => ?_⟩
  rw [← onB_iff hE hW]
  constructor
  · intro hn; exact (h n true hn).symm
  · intro hn
    by_cases hlt : n < R.length
    · have e : R[n]? = some R[n] := List.getElem?_eq_getElem hlt
      rw [e, h n _ e, hn]
    · obtain ⟨⟨p, hp⟩, -⟩ := (onB_iff hE hW).1 hn
      obtain ⟨x, hx⟩ := way_in hp
      have := (List.getElem?_eq_some_iff.1 hx).1
      omega

end Go.Proofs.Ytbhbacphiinpeaa

/- What 'marked' and 'endsBehind' answer. -/
namespace Go.Proofs.Ytbhbacphiinpeaa
open Go.RowKit

/-- The slice reads as the marks E, one for each of n instructions. -/
def SeesB (w : World) (b n : Nat) (E : List Bool) : Prop := E.length = n ∧ 1 ≤ n ∧ n ≤ 40 ∧ b < w.heap.size ∧ ∀ (i : Nat) x, E[i]? = some x → w.cell? ⟨b, i, none⟩ = some (.bool x)

theorem SeesB.up {w w' : World} {b n : Nat} {E : List Bool} {B : Nat} (h : SeesB w b n E) (hB : w.heap.size ≤ B) (hb : Below B w w') : SeesB w' b n E := by
  obtain ⟨h1, h2, h3, h4, h5⟩ := h
  exact ⟨h1, h2, h3, Nat.lt_of_lt_of_le h4 hb.size, fun i x hx => (hb.cell (Nat.lt_of_lt_of_le h4 hB)).trans (h5 i x hx)⟩

set_option maxHeartbeats 400000 in
theorem marked_any {w : World} {b n : Nat} {E : List Bool} (cap : Nat) (h : SeesB w b n E) (m : Int) :
    Calls Try.prog 57 #[.slice (some ⟨b, 0, none⟩) n cap, .int .i64 m] w fun e w' => e = .returned (.bool (mkd E m)) ∧ w' = w := by
  obtain ⟨h1, h2, h3, h4, h5⟩ := h
  by_cases h0 : 0 ≤ m
  · by_cases hlt : m < (n : Int)
    · obtain ⟨i, rfl⟩ : ∃ i : Nat, m = (i : Int) := ⟨m.toNat, by omega⟩
      have hi : i < E.length := by omega
      obtain ⟨x, hx⟩ : ∃ x, E[i]? = some x := ⟨_, List.getElem?_eq_getElem hi⟩
      have c0 := h5 i x hx
      have hm : Hid (mkd E (i : Int) = x) := by unfold Hid mkd; rw [if_pos h0]; simp [hx]
      have hn2 : (n : Int) ≤ 40 := by omega
      clear h5 hx hi h1
      go_enter Try.func57, Try.ntmps57
      go_wp2
      go_ret
      exact ⟨by rw [hm.out]; rfl, rfl⟩
    · have hm : Hid (mkd E m = false) := by
        unfold Hid mkd; rw [if_pos h0]
        have : E[m.toNat]? = none := List.getElem?_eq_none (by omega)
        simp [this]
      have g1 : decide (m < (n : Int)) = false := by simpa using hlt
      clear h5 h1
      go_enter Try.func57, Try.ntmps57
      go_wp2
      go_ret
      exact ⟨by rw [hm.out]; rfl, rfl⟩
  · have hm : Hid (mkd E m = false) := by unfold Hid mkd; rw [if_neg h0]
    have g1 : decide (0 ≤ m) = false := by simpa using h0
    clear h5 h1
    go_enter Try.func57, Try.ntmps57
    go_wp2
    go_ret
    exact ⟨by rw [hm.out]; rfl, rfl⟩

set_option maxHeartbeats 400000 in
theorem behind_any {w : World} {b n : Nat} {E : List Bool} (cap : Nat) (h : SeesB w b n E) (x : Ins) (i : Nat) (hi : i < n) :
    Calls Try.prog 66 #[.agg #[.int .i64 x.o, .int .i64 x.a, .int .i64 x.b, .int .i64 x.c], .int .i64 i, .slice (some ⟨b, 0, none⟩) n cap] w fun e w' => e = .returned (.bool (bhd E x i)) ∧ Below w.heap.size w w' := by
  have H := hyd h
  have hi2 : (i : Int) ≤ 40 := by have := h.2.2.1; omega
  have hi0 : (0 : Int) ≤ (i : Int) := by omega
  clear h
  have HU : Hid (∀ v, SeesB (w.alloc v) b n E) := fun v => H.out.up (Nat.le_refl _) ((Below.refl _ w).alloc (Nat.le_refl _) v)
  by_cases h0 : x.o = 0
  · have hb : Hid (bhd E x i = true) := by unfold Hid bhd; rw [if_pos h0]
    have t0 : (x.o == 0) = true := by rw [h0]; rfl
    clear h0
    go_enter Try.func66, Try.ntmps66
    go_wp2
    go_ret
    exact ⟨by rw [hb.out]; rfl, (Below.refl _ _).alloc (Nat.le_refl _) _⟩
  have t0 : (x.o == 0) = false := beq_eq_false_iff_ne.2 h0
  by_cases h12 : x.o = 12
  · have hb : Hid (bhd E x i = mkd E x.b) := by unfold Hid bhd; rw [if_neg h0, if_pos h12]
    have t1 : (x.o == 12) = true := by rw [h12]; rfl
    clear h0 h12
    go_enter Try.func66, Try.ntmps66
    go_wp2_with (go_at_call 57; refine (marked_any _ (HU.out _) _).mono ?_; rintro e w' ⟨rfl, rfl⟩)
    go_ret
    exact ⟨by rw [hb.out]; rfl, (Below.refl _ _).alloc (Nat.le_refl _) _⟩
  have t1 : (x.o == 12) = false := beq_eq_false_iff_ne.2 h12
  by_cases h13 : x.o = 13
  · have hb : Hid (bhd E x i = (mkd E x.b || mkd E ((i : Int) + 1))) := by unfold Hid bhd; rw [if_neg h0, if_neg h12, if_pos h13]
    have t2 : (x.o == 13) = true := by rw [h13]; rfl
    clear h0 h12 h13
    cases hm : mkd E x.b
    · go_enter Try.func66, Try.ntmps66
      go_wp2_with (go_at_call 57; refine (marked_any _ (HU.out _) _).mono ?_; rintro e w' ⟨rfl, rfl⟩)
      go_ret
      exact ⟨by rw [hb.out, hm]; rfl, (Below.refl _ _).alloc (Nat.le_refl _) _⟩
    · go_enter Try.func66, Try.ntmps66
      go_wp2_with (go_at_call 57; refine (marked_any _ (HU.out _) _).mono ?_; rintro e w' ⟨rfl, rfl⟩)
      go_ret
      exact ⟨by rw [hb.out, hm]; rfl, (Below.refl _ _).alloc (Nat.le_refl _) _⟩
  have t2 : (x.o == 13) = false := beq_eq_false_iff_ne.2 h13
  have hb : Hid (bhd E x i = mkd E ((i : Int) + 1)) := by unfold Hid bhd; rw [if_neg h0, if_neg h12, if_neg h13]
  clear h0 h12 h13
  go_enter Try.func66, Try.ntmps66
  go_wp2_with (go_at_call 57; refine (marked_any _ (HU.out _) _).mono ?_; rintro e w' ⟨rfl, rfl⟩)
  go_ret
  exact ⟨by rw [hb.out]; rfl, (Below.refl _ _).alloc (Nat.le_refl _) _⟩

end Go.Proofs.Ytbhbacphiinpeaa

/- What 'endsWithout' answers. -/
namespace Go.Proofs.Ytbhbacphiinpeaa
open Go.RowKit

def boolVals (E : List Bool) : List Value := E.map Value.bool
theorem bool_at {E : List Bool} {i : Nat} {x : Bool} (h : E[i]? = some x) : (boolVals E)[i]? = some (.bool x) := by simp [boolVals, List.getElem?_map, h]
theorem bool_set (E : List Bool) (i : Nat) (x : Bool) : (boolVals E).set i (.bool x) = boolVals (E.set i x) := by simp [boolVals, List.map_set]
theorem bool_snoc (E : List Bool) (x : Bool) : boolVals (E ++ [x]) = boolVals E ++ [.bool x] := by simp [boolVals]
theorem bool_none (n : Nat) : boolVals (List.replicate n false) = (madeCells #[Value.bool false] n).toList := by
  rw [toList_madeCells_one]; simp [boolVals]

theorem seesB_owned {w : World} {base g n cap : Nat} {E : List Bool} (h1 : 1 ≤ n) (h2 : n ≤ 40) (hE : E.length = n) (h : w.ownsRow base 4 1 (.slice (some ⟨g, 0, none⟩) n cap) n (boolVals E)) : SeesB w g n E :=
  ⟨hE, h1, h2, (h.lt g rfl).2, fun i x hx => (h.cellAt i (by have := (List.getElem?_eq_some_iff.1 hx).1; omega)).trans (bool_at hx)⟩

set_option maxHeartbeats 2000000 in
set_option maxRecDepth 100000 in
theorem without_any {w : World} {b off n : Nat} {k : List Ins} (cap : Nat) (h : KAt w b off n k) (av : Int) :
    Calls Try.prog 56 #[.slice (some ⟨b, off, none⟩) n cap, .int .i64 av] w fun e w' => ∃ E, e = .returned (.slice (some ⟨w.heap.size, 0, none⟩) n n) ∧ Ends k av E ∧ w'.ownsRow w.heap.size 4 1 (.slice (some ⟨w.heap.size, 0, none⟩) n n) n (boolVals E) ∧ Below w.heap.size w w' := by
  obtain ⟨hk, hn1, hn, hcl, hbw, hb0, hc⟩ := h
  have Hk := hyd hk
  have HCl := hyd hcl
  have Hb0 := hyd hb0
  have Hc := hyd hc
  clear hk hcl hb0 hc
  have hn2 : (n : Int) ≤ 40 := by omega
  have hn3 : (1 : Int) ≤ (n : Int) := by omega
  obtain ⟨j0, hj, hy0, hy1, hy2⟩ := info_parts Try.info4
  go_enter Try.func56, Try.ntmps56
  go_wp2_with (at_make; go_must (refine wpList_make_full _ rfl _ _ 66 rfl w.heap.size 4 j0 (.bool false) 1 Try.underlying66 hj hy0 hy1 .i64 .i64 _ _ n rfl rfl ?m1 ?m2 ?m3 ?m4 ?m5 ?_))
  case m1 => rfl
  case m2 => rfl
  case m3 => rw [hy2]; omega
  case m4 => unfold maxLen; omega
  case m5 => exact Nat.le_refl _
  · intro w1 hown0 hgrow0
    rw [← bool_none] at hown0
    have hb1 : Below w.heap.size w w1 := (Below.refl _ w).grown hgrow0 (Nat.le_refl _) (fun x hx => by cases hx)
    have HO := hyd hown0
    have HB1 := hyd hb1
    have HS0 : Hid (Sound k av (List.replicate n false)) := by have := sound_none k av; rw [Hk.out] at this; exact this
    clear hown0 hgrow0 hb1
    go_wp2_with fail
    go_loopw [6, 7] (fun gv rv wr => ∃ (r : Nat) (g : Bool) (E : List Bool), r ≤ n ∧ rv = .int .i64 r ∧ gv = .bool g ∧ Sound k av E ∧ (g = true → r ≤ E.count true) ∧ (g = false → Whole k av E) ∧ wr.ownsRow w.heap.size 4 1 (.slice (some ⟨w.heap.size, 0, none⟩) n n) n (boolVals E) ∧ Below w.heap.size w wr) (fun _ rv _ => n - (intOf rv).toNat)
    case atStart => exact ⟨0, true, _, Nat.zero_le _, rfl, rfl, HS0.out, fun _ => Nat.zero_le _, (fun h => by cases h), HO.out, HB1.out⟩
    case round =>
      obtain ⟨r, g, E, hr, rfl, rfl, hS, hg1, hg0, ho, hb⟩ := hrel
      have HS := hyd hS
      have HG1 := hyd hg1
      have HG0 := hyd hg0
      have Ho := hyd ho
      have HB := hyd hb
      clear hS hg1 hg0 ho hb HO HB1 HS0
      cases g
      · go_wp2
        go_ret
        exact ⟨rfl, E, ends_of Hb0.out HS.out (HG0.out (by simp)), Ho.out, HB.out⟩
      · by_cases hrn : r < n
        · have hr2 : (r : Int) < (n : Int) := by omega
          have hr3 : (0 : Int) ≤ (r : Int) := by omega
          go_wp2_with fail
          go_loopw [6, 8] (fun gv nv wx => ∃ (j : Nat) (z : Int) (g : Bool) (E' : List Bool), j ≤ n ∧ nv = .int .i64 z ∧ z = (j : Int) - 1 ∧ gv = .bool g ∧ Sound k av E' ∧ r ≤ E'.count true ∧ (g = true → r + 1 ≤ E'.count true) ∧ (g = false → ∀ (i : Nat) x, j ≤ i → k[i]? = some x → (i : Int) ≠ av → bhd E' x i = true → E'[i]? = some true) ∧ wx.ownsRow w.heap.size 4 1 (.slice (some ⟨w.heap.size, 0, none⟩) n n) n (boolVals E') ∧ Below w.heap.size w wx) (fun _ nv _ => (intOf nv + 1).toNat)
          case atStart =>
            refine ⟨n, (n : Int) - 1, false, E, Nat.le_refl _, by go_num, rfl, rfl, HS.out, HG1.out (by simp), (fun h => by cases h), fun _ i x hi hx => ?_, Ho.out, HB.out⟩
            have := (List.getElem?_eq_some_iff.1 hx).1
            rw [Hk.out] at this
            omega
          case round =>
            obtain ⟨j, z, g, E', hjn, rfl, hz, rfl, hS, hcnt, hg1, hg0, ho, hb⟩ := hrel
            have HS2 := hyd hS
            have HCn := hyd hcnt
            have HG1' := hyd hg1
            have HG0' := hyd hg0
            have Ho2 := hyd ho
            have HB2 := hyd hb
            clear hS hcnt hg1 hg0 ho hb Ho HB HS HG1 HG0
            by_cases hj0 : 0 < j
            · obtain ⟨m, rfl⟩ : ∃ m, j = m + 1 := ⟨j - 1, by omega⟩
              have hzm : z = (m : Int) := by omega
              subst hzm
              clear hz
              have hmn : m < n := by omega
              have m1 : (0 : Int) ≤ (m : Int) := by omega
              have m2 : (m : Int) < (n : Int) := by omega
              obtain ⟨x, hx⟩ : ∃ x, k[m]? = some x := ⟨_, List.getElem?_eq_getElem (by rw [Hk.out]; exact hmn)⟩
              have Hx := hyd hx
              have hEl : E'.length = n := by rw [HS2.out.1, Hk.out]
              obtain ⟨q, hq⟩ : ∃ q, E'[m]? = some q := ⟨_, List.getElem?_eq_getElem (by omega)⟩
              have Hq := hyd hq
              have HEl := hyd hEl
              have ec := (Ho2.out.cellAt m (by omega)).trans (bool_at hq)
              clear hx hq hEl
              -- the round ends without a change
              have stay : Hid ((¬ ((m : Int) ≠ av ∧ q = false ∧ bhd E' x m = true)) → (g = false → ∀ (i : Nat) x, m ≤ i → k[i]? = some x → (i : Int) ≠ av → bhd E' x i = true → E'[i]? = some true)) := by
                intro hno hg i y hi hy hne hbh
                by_cases e : i = m
                · subst e
                  have e2 := Hx.out.symm.trans hy
                  cases e2
                  cases q
                  · exact absurd ⟨hne, rfl, hbh⟩ hno
                  · exact Hq.out
                · exact HG0'.out hg i y (by omega) hy hne hbh
              by_cases hav : (m : Int) = av
              · have g0 : ((m : Int) != av) = false := by rw [hav]; simp
                have Hav := hyd hav
                clear hav
                go_wp2
                go_roundw
                case rel => exact ⟨m, (m : Int) - 1, g, E', by omega, by go_num, rfl, rfl, HS2.out, HCn.out, HG1'.out, stay.out fun h => h.1 Hav.out, Ho2.out, HB2.out⟩
                case measure => simp [intOf] <;> omega
              · have g0 : ((m : Int) != av) = true := by simpa using hav
                have Hav := hyd hav
                clear hav
                cases q
                · obtain ⟨c0, c1, c2, c3⟩ := Hc.out m x Hx.out
                  have d0 := (HB2.out.cell (p := ⟨b, off + m * 4, none⟩) hbw).trans c0
                  have d1 := (HB2.out.cell (p := ⟨b, off + m * 4 + 1, none⟩) hbw).trans c1
                  have d2 := (HB2.out.cell (p := ⟨b, off + m * 4 + 2, none⟩) hbw).trans c2
                  have d3 := (HB2.out.cell (p := ⟨b, off + m * 4 + 3, none⟩) hbw).trans c3
                  clear c0 c1 c2 c3
                  go_wp2_with fail
                  refine (behind_any n (seesB_owned hn1 hn HEl.out Ho2.out) x m hmn).mono ?_
                  rintro e w2 ⟨rfl, hb2⟩
                  have Ho3 := hyd (Ho2.out.keptB hb2)
                  have HB3 := hyd (HB2.out.trans (hb2.mono HB2.out.size))
                  clear hb2 d0 d1 d2 d3 ec
                  cases hbh : bhd E' x m
                  · go_wp2
                    go_roundw
                    case rel => exact ⟨m, (m : Int) - 1, g, E', by omega, by go_num, rfl, rfl, HS2.out, HCn.out, HG1'.out, stay.out (fun h => by rw [hbh] at h; cases h.2.2), Ho3.out, HB3.out⟩
                    case measure => simp [intOf] <;> omega
                  · have ec2 := (Ho3.out.cellAt m (by omega)).trans (bool_at Hq.out)
                    have fz2 := Ho3.out.frozenAt m
                    have o2 := (Ho3.out.stored m (.bool true)).1
                    rw [bool_set] at o2
                    have HX := hyd (And.intro o2 (HB3.out.setCell (p := ⟨w.heap.size, m, none⟩) (Nat.le_refl _) (.bool true)))
                    clear o2
                    go_wp2
                    go_roundw
                    case rel =>
                      have hc1 := count_set Hq.out
                      have hc2 := HCn.out
                      exact ⟨m, (m : Int) - 1, true, E'.set m true, by omega, by go_num, rfl, rfl, sound_set HS2.out Hx.out (Hb0.out m x Hx.out) Hav.out hbh, by omega, fun _ => by omega, (fun h => by cases h), HX.out.1, HX.out.2⟩
                    case measure => simp [intOf] <;> omega
                · go_wp2
                  go_roundw
                  case rel => exact ⟨m, (m : Int) - 1, g, E', by omega, by go_num, rfl, rfl, HS2.out, HCn.out, HG1'.out, stay.out (fun h => by cases h.2.1), Ho2.out, HB2.out⟩
                  case measure => simp [intOf] <;> omega
            · have hj00 : j = 0 := by omega
              subst hj00
              have hzz : z = -1 := by omega
              subst hzz
              clear hz
              go_wp2
              go_roundw
              case rel => exact ⟨r + 1, g, E', by omega, by go_num, rfl, HS2.out, HG1'.out, fun h i x hx => HG0'.out h i x (Nat.zero_le _) hx, Ho2.out, HB2.out⟩
              case measure => simp [intOf] <;> omega
        · have hrn' : r = n := by omega
          subst hrn'
          go_wp2
          go_ret
          exact ⟨rfl, E, ends_of Hb0.out HS.out (whole_of_count HS.out.1 (by rw [Hk.out]; exact HG1.out (by simp))), Ho.out, HB.out⟩

end Go.Proofs.Ytbhbacphiinpeaa

