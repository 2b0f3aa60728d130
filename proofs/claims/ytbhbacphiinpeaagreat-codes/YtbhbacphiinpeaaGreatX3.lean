/- What 'step' answers and keeps, of an Encode and of a Decode. -/
import Derived.Test.YtbhbacphiinpeaaGreatX2
namespace Go.Proofs.YtbhbacphiinpeaaGreat
open Go.RowKit

/-- A step of a script, as it lies in memory. -/
structure Opv where
  k : Int
  a : Int
  b : Int
  c : Int
  s : ByteArray
  la : Option Addr
  ln : Nat
  lc : Nat
  ka : Option Addr
  kn : Nat
  kc : Nat

abbrev Opv.agg (o : Opv) : Value := .agg #[.int .i64 o.k, .int .i64 o.a, .int .i64 o.b, .int .i64 o.c, .string o.s, .slice o.la o.ln o.lc, .slice o.ka o.kn o.kc]

/-- What is known of a step that came in. -/
def OpOk (w : World) (o : Opv) : Prop := o.s.size ≤ 140737488355328 ∧ (∀ n cap, Value.slice o.ka o.kn o.kc = .slice none n cap → cap = 0) ∧ ∃ l, l.length ≤ 4398046511103 ∧ Sees w (.slice o.ka o.kn o.kc) l

theorem OpOk.up {w w' : World} {o : Opv} {B : Nat} (h : OpOk w o) (hB : w.heap.size ≤ B) (hb : Below B w w') : OpOk w' o := by
  obtain ⟨h1, h2, l, h3, h4⟩ := h
  exact ⟨h1, h2, l, h3, h4.up hB hb⟩

set_option maxHeartbeats 1000000 in
set_option maxRecDepth 100000 in
theorem step_one {w : World} {B BW : Nat} {es : List Ent} (x1 x2 x3 : Int) (s : ByteArray) (la : Option Addr) (ln lc : Nat) (ka : Option Addr) (kn kc : Nat) (l : List Ins)
    (hl : l.length ≤ 4398046511103) (hp : ∀ n cap, Value.slice ka kn kc = .slice none n cap → cap = 0) (hS : Sees w (.slice ka kn kc) l) (h : Inv w B BW es) (hB : B ≤ w.heap.size) :
    Calls Tryz.prog 10 #[.pointer (some ⟨BW, 0, none⟩), .agg #[.int .i64 1, .int .i64 x1, .int .i64 x2, .int .i64 x3, .string s, .slice la ln lc, .slice ka kn kc]] w fun e w' => e = .returned (.bool true) ∧ (∃ es', Inv w' w'.heap.size BW es' ∧ es'.length ≤ es.length + 1) ∧ Below BW w w' := by
  have H := hyd h
  have HP := hyd hp
  have HS := hyd (hS.up (Nat.le_refl _) ((Below.refl _ w).alloc (Nat.le_refl _) (.cells #[.int .i64 1, .int .i64 x1, .int .i64 x2, .int .i64 x3, .string s, .slice la ln lc, .slice ka kn kc] 37)))
  have hBW : BW < B := by obtain ⟨_, _, _, _, h4, _⟩ := h; exact h4
  clear h hp hS
  go_enter Tryz.func10, Tryz.ntmps10
  go_wp2_with fail
  refine (lawcoded_any _ _ _ _ _ _ _ _ _ HS.out HP.out hl ⟨_, _, _, rfl⟩).mono ?_
  rintro e w1 ⟨rfl, hb1⟩
  have HB : Hid (Below B w w1) := ((Below.refl B w).alloc hB _).trans (hb1.mono (by simp; omega))
  clear hb1
  go_wp2
  go_ret
  exact ⟨rfl, ⟨es, (H.out.up HB.out).wide (Nat.le_trans hB HB.out.size), by omega⟩, HB.out.mono (by omega)⟩

set_option maxHeartbeats 1000000 in
set_option maxRecDepth 100000 in
theorem step_two {w : World} {B BW : Nat} {es : List Ent} (x1 x2 x3 : Int) (s : ByteArray) (la : Option Addr) (ln lc : Nat) (ka : Option Addr) (kn kc : Nat)
    (hs : s.size ≤ 140737488355328) (h : Inv w B BW es) (hes : es.length ≤ 1759218604000) (hB : B ≤ w.heap.size) :
    Calls Tryz.prog 10 #[.pointer (some ⟨BW, 0, none⟩), .agg #[.int .i64 2, .int .i64 x1, .int .i64 x2, .int .i64 x3, .string s, .slice la ln lc, .slice ka kn kc]] w fun e w' => e = .returned (.bool true) ∧ (∃ es', Inv w' w'.heap.size BW es' ∧ es'.length ≤ es.length + 1) ∧ Below BW w w' := by
  have hBW : BW < B := by obtain ⟨_, _, _, _, h4, _⟩ := h; exact h4
  have H := hyd (h.up ((Below.refl B w).alloc hB (.cells #[.int .i64 2, .int .i64 x1, .int .i64 x2, .int .i64 x3, .string s, .slice la ln lc, .slice ka kn kc] 37)))
  clear h
  go_enter Tryz.func10, Tryz.ntmps10
  go_wp2_with fail
  refine (lawdecoded_any _ _ _ _ _ _ _ _ _ _ _ hs H.out hes (by simp; omega)).mono ?_
  rintro e w1 ⟨rfl, ⟨en, hI⟩, hb1⟩
  have HI := hyd hI
  have HB : Hid (Below BW w w1) := ((Below.refl BW w).alloc (by omega) _).trans hb1
  clear hb1 hI
  go_wp2
  go_ret
  exact ⟨rfl, ⟨es ++ [en], HI.out, by simp⟩, HB.out⟩

theorem step_any {w : World} {B BW : Nat} {es : List Ent} {o : Opv} (ho : OpOk w o) (hk : o.k = 1 ∨ o.k = 2) (h : Inv w B BW es) (hes : es.length ≤ 1759218604000) (hB : B ≤ w.heap.size) :
    Calls Tryz.prog 10 #[.pointer (some ⟨BW, 0, none⟩), o.agg] w fun e w' => e = .returned (.bool true) ∧ (∃ es', Inv w' w'.heap.size BW es' ∧ es'.length ≤ es.length + 1) ∧ Below BW w w' := by
  obtain ⟨k, a, b, c, s, la, ln, lc, ka, kn, kc⟩ := o
  obtain ⟨h1, h2, l, h3, h4⟩ := ho
  rcases hk with hk | hk
  · dsimp only at hk
    subst hk
    exact step_one a b c s la ln lc ka kn kc l h3 h2 h4 h hB
  · dsimp only at hk
    subst hk
    exact step_two a b c s la ln lc ka kn kc h1 h hes hB

end Go.Proofs.YtbhbacphiinpeaaGreat
