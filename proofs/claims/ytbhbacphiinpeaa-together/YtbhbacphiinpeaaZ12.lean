/- Fz Md Me Mf Mc Mg: joined. -/
import Derived.Test.YtbhbacphiinpeaaZ10
import Derived.WalkKit
import Derived.Test.YtbhbacphiinpeaaZ11
import Derived.Deep.RegionHeld3

/- Sets as numbers, with the operations of the language; plain. -/
namespace Go.Proofs.Ytbhbacphiinpeaa
open Go.RowKit

theorem band16 : ∀ a b : Fin 16, _root_.Go.bits .and .i64 (a.1 : Int) (b.1 : Int) = ((a.1 &&& b.1 : Nat) : Int) := by decide
theorem bor16 : ∀ a b : Fin 16, _root_.Go.bits .or .i64 (a.1 : Int) (b.1 : Int) = ((a.1 ||| b.1 : Nat) : Int) := by decide
theorem bnot16 : ∀ a b : Fin 16, _root_.Go.bits .andNot .i64 (a.1 : Int) (b.1 : Int) = ((mns a.1 b.1 : Nat) : Int) := by decide
theorem band {a b : Nat} (ha : a < 16) (hb : b < 16) : _root_.Go.bits .and .i64 (a : Int) (b : Int) = ((a &&& b : Nat) : Int) := band16 ⟨a, ha⟩ ⟨b, hb⟩
theorem bor {a b : Nat} (ha : a < 16) (hb : b < 16) : _root_.Go.bits .or .i64 (a : Int) (b : Int) = ((a ||| b : Nat) : Int) := bor16 ⟨a, ha⟩ ⟨b, hb⟩
theorem bnot {a b : Nat} (ha : a < 16) (hb : b < 16) : _root_.Go.bits .andNot .i64 (a : Int) (b : Int) = ((mns a b : Nat) : Int) := bnot16 ⟨a, ha⟩ ⟨b, hb⟩
theorem bone (a : Nat) (h : a < 4294967296) : _root_.Go.bits .and .i64 (a : Int) 1 = ((a &&& 1 : Nat) : Int) := by
  unfold _root_.Go.bits
  simp only [BitVec.toNat_and, BitVec.toNat_ofInt]
  rw [show ((a : Int) % ((2 ^ IntKind.i64.bits : Nat) : Int)).toNat = a by simp only [IntKind.bits]; omega, show ((1 : Int) % ((2 ^ IntKind.i64.bits : Nat) : Int)).toNat = 1 from rfl]
  have : a &&& 1 ≤ 1 := Nat.and_le_right
  rw [show IntKind.i64.wrap ((a &&& 1 : Nat) : Int) = ((a &&& 1 : Nat) : Int) by
    rcases (by omega : a &&& 1 = 0 ∨ a &&& 1 = 1) with e | e <;> rw [e] <;> rfl]
theorem bone' (a : Nat) (h : a < 4294967296) : _root_.Go.bits .and .i64 (a : Int) 1 = ((a % 2 : Nat) : Int) := by rw [bone a h, Nat.and_one_is_mod]
theorem wrap_nat {n : Nat} (h : n < 4294967296) : IntKind.i64.wrap (n : Int) = (n : Int) := by
  rw [IntWalk.i64_left]; unfold wrap64; omega
theorem bor_big {a b : Nat} (ha : a < 4294967296) (hb : b < 4294967296) : _root_.Go.bits .or .i64 (a : Int) (b : Int) = ((a ||| b : Nat) : Int) := by
  unfold _root_.Go.bits
  simp only [BitVec.toNat_or, BitVec.toNat_ofInt]
  rw [show ((a : Int) % ((2 ^ IntKind.i64.bits : Nat) : Int)).toNat = a by simp only [IntKind.bits]; omega, show ((b : Int) % ((2 ^ IntKind.i64.bits : Nat) : Int)).toNat = b by simp only [IntKind.bits]; omega]
  exact wrap_nat (Nat.or_lt_two_pow (n := 32) ha hb)
theorem shr16 : ∀ a : Fin 16, ∀ l : Fin 4, (a.1 / 2 ^ l.1) % 2 = if a.1.testBit l.1 then 1 else 0 := by decide
theorem bit_at {m l : Nat} (hm : m < 16) (hl : l < 4) : _root_.Go.bits .and .i64 ((m : Int) / 2 ^ l) 1 = if m.testBit l then 1 else 0 := by
  have e : ((m : Int) / 2 ^ l) = ((m / 2 ^ l : Nat) : Int) := by simp
  have hlt : m / 2 ^ l < 4294967296 := Nat.lt_of_le_of_lt (Nat.div_le_self _ _) (by omega)
  rw [e, bone' _ hlt, shr16 ⟨m, hm⟩ ⟨l, hl⟩]
  cases m.testBit l <;> rfl
theorem bit_yes {m l : Nat} (hm : m < 16) (hl : l < 4) (h : m.testBit l = true) : _root_.Go.bits .and .i64 ((m : Int) / 2 ^ l) 1 = 1 := by rw [bit_at hm hl, h]; rfl
theorem bit_no {m l : Nat} (hm : m < 16) (hl : l < 4) (h : m.testBit l = false) : _root_.Go.bits .and .i64 ((m : Int) / 2 ^ l) 1 = 0 := by rw [bit_at hm hl, h]; rfl
end Go.Proofs.Ytbhbacphiinpeaa

/- What 'sizeOf' answers. -/
namespace Go.Proofs.Ytbhbacphiinpeaa
open Go.RowKit

def popB (s : Nat) : Nat := ((List.range 8).filter fun l => s.testBit l).length
theorem popB_fin : ∀ s : Fin 256, popB s.1 = s.1 % 2 + popB (s.1 / 2) := by set_option maxRecDepth 10000 in decide
theorem popB_step {s : Nat} (h : s < 256) : popB s = s % 2 + popB (s / 2) := popB_fin ⟨s, h⟩
theorem popB_le (s : Nat) : popB s ≤ 8 := by unfold popB; exact Nat.le_trans (List.length_filter_le _ _) (by simp)

set_option maxHeartbeats 400000 in
theorem sizeOf_any (s : Nat) (hs : s < 256) (w : World) :
    Calls Try.prog 81 #[.int .i64 s] w fun e w' => e = .returned (.int .i64 (popB s)) ∧ Below w.heap.size w w' := by
  go_enter Try.func81, Try.ntmps81
  go_wp2_with fail
  go_loopw [0, 3] (fun sv zv wr => ∃ (a z : Nat), a < 256 ∧ sv = .int .i64 a ∧ zv = .int .i64 z ∧ Hid (z + popB a = popB s) ∧ Below w.heap.size w wr) (fun sv _ _ => (intOf sv).toNat)
  case atStart => exact ⟨s, 0, hs, rfl, rfl, by unfold Hid; omega, Below.refl _ _⟩
  case round =>
    obtain ⟨a, z, ha, rfl, rfl, hz, hb⟩ := hrel
    have hz8 : z ≤ 8 := by have := hz.out; have := popB_le s; omega
    by_cases h0 : 0 < a
    · have g0 : (0 : Int) < (a : Int) := by omega
      have gb := bone' a (by omega)
      have HS := hyd (popB_step ha)
      go_wp2_with fail
      refine ⟨⟨a / 2, z + a % 2, by omega, ?_, ?_, ?_, hb⟩, ?_⟩
      · rfl
      · congr 1
      · have := hz.out; have := HS.out; unfold Hid; omega
      · simp only [intOf]; omega
    · have : a = 0 := by omega
      subst this
      go_wp2_with fail
      go_ret
      refine ⟨?_, hb⟩
      have := hz.out
      rw [show popB 0 = 0 from rfl] at this
      rw [← this]; rfl

end Go.Proofs.Ytbhbacphiinpeaa

/- What 'get' and 'put' of package cells do. -/
namespace Go.Proofs.Ytbhbacphiinpeaa
open Go.RowKit

def pC (L : XM) : Value := .pointer (some ⟨L.bX, 4, none⟩)

set_option maxHeartbeats 400000 in
theorem get_any {w : World} {L : XM} {k : List Ins} {J : List Int} {x : QM} (h : MX w L k J x) (t r : Nat) (ht : t < 16) (hr : r < 4) :
    Calls Try.prog 79 #[pC L, .int .i64 t, .int .i64 r] w fun e w' => e = .returned (.int .i64 (rgA x t r)) ∧ w' = w := by
  have hc := h.reg ht hr
  clear h
  unfold pC
  have t1 : (0 : Int) ≤ (t : Int) := by omega
  have t2 : (t : Int) < 16 := by omega
  have r1 : (0 : Int) ≤ (r : Int) := by omega
  have r2 : (r : Int) < 4 := by omega
  go_enter Try.func79, Try.ntmps79
  go_wp2_with (go_at_call 83; refine (cmay_yes t r ht hr _).mono ?_; rintro e w' ⟨rfl, rfl⟩)
  go_ret
  exact ⟨rfl, rfl⟩

set_option maxHeartbeats 400000 in
theorem put_reg {w : World} {L : XM} {k : List Ins} {J : List Int} {x : QM} (h : MX w L k J x) (t r : Nat) (ht : t < 16) (hr : r < 4) (v : Int) :
    Calls Try.prog 85 #[pC L, .int .i64 t, .int .i64 r, .int .i64 v] w fun e w' => e = .returned (.tuple #[]) ∧ MX w' L k J (rgPut x t r v) ∧ ∀ B, Fr B [L.bX] w w' := by
  have hc := h.reg ht hr
  have hf := h.frz (5 + t * 4 + r)
  have H := hyd h
  clear h
  unfold pC
  have t1 : (0 : Int) ≤ (t : Int) := by omega
  have t2 : (t : Int) < 16 := by omega
  have r1 : (0 : Int) ≤ (r : Int) := by omega
  have r2 : (r : Int) < 4 := by omega
  go_enter Try.func85, Try.ntmps85
  go_wp2_with (go_at_call 83; refine (cmay_yes t r ht hr _).mono ?_; rintro e w' ⟨rfl, rfl⟩)
  go_end0
  exact ⟨rfl, H.out.setReg ht hr v, fun B => (Fr.refl _ _ _).set (by simp) _⟩

end Go.Proofs.Ytbhbacphiinpeaa

/- What 'access' of package cells does: Load, Store, Fetch. -/
namespace Go.Proofs.Ytbhbacphiinpeaa
open Go.RowKit

/-- Load, Store, Fetch of a thread: the segment, the fault, the machine. -/
def accQ (x : QM) (t : Nat) (o : Int) (a b c : Nat) : Int × Int × QM :=
  if W64 (rgA x t b + c) < 0 ∨ (x.cnt : Int) ≤ W64 (rgA x t b + c) then (0, 2, x)
  else (((2 ^ ((W64 (rgA x t b + c)).toNat / 4) : Nat) : Int), 0,
    if o = 9 then rgPut x t a (x.wd.getD (W64 (rgA x t b + c)).toNat 0)
    else if o = 10 then wdPut x (W64 (rgA x t b + c)).toNat (rgA x t a)
    else rgPut (wdPut x (W64 (rgA x t b + c)).toNat (W64 (x.wd.getD (W64 (rgA x t b + c)).toNat 0 + rgA x t a))) t a (x.wd.getD (W64 (rgA x t b + c)).toNat 0))

def OpAns (w : World) (L : XM) (k : List Ins) (J : List Int) (r : Int × Int × QM) (e : Ending) (w' : World) : Prop :=
  e = .returned (.tuple #[.int .i64 r.1, .int .i64 r.2.1]) ∧ MX w' L k J r.2.2 ∧ ∀ B, Fr B [L.bX] w w'

theorem pow_seg {q : Nat} (h : q < 32) : wrap64 ((2 : Int) ^ (q / 4)) = ((2 ^ (q / 4) : Nat) : Int) := by
  have : q / 4 < 8 := by omega
  generalize q / 4 = m at this
  have e : (2 : Int) ^ m = ((2 ^ m : Nat) : Int) := by simp
  have h8 : 2 ^ m ≤ 128 := by
    rcases (by omega : m = 0 ∨ m = 1 ∨ m = 2 ∨ m = 3 ∨ m = 4 ∨ m = 5 ∨ m = 6 ∨ m = 7) with rfl | rfl | rfl | rfl | rfl | rfl | rfl | rfl <;> decide
  rw [e]
  generalize 2 ^ m = z at h8
  unfold wrap64
  omega

theorem box4 {w : World} {B : Nat} {a b c d : Value} {t : TypeId} (h : w.heap[B]? = some (.cells #[a, b, c, d] t)) : w.cell? ⟨B, 0, none⟩ = some a ∧ w.cell? ⟨B, 1, none⟩ = some b ∧ w.cell? ⟨B, 2, none⟩ = some c ∧ w.cell? ⟨B, 3, none⟩ = some d := by
  refine ⟨?_, ?_, ?_, ?_⟩ <;> (rw [cell_of_row w B _ _ t _ h]; rfl)

set_option maxHeartbeats 1000000 in
set_option maxRecDepth 100000 in
theorem access_any {w : World} {L : XM} {k : List Ins} {J : List Int} {x : QM} (h : MX w L k J x) (hcnt : x.cnt ≤ 32) (t : Nat) (ht : t < 16) (o : Int) (a b c : Nat) (ha : a < 4) (hb : b < 4) (ho : o = 9 ∨ o = 10 ∨ o = 11) :
    Calls Try.prog 84 #[pC L, .agg #[.int .i64 o, .int .i64 a, .int .i64 b, .int .i64 c], .int .i64 t] w (OpAns w L k J (accQ x t o a b c)) := by
  have H := hyd h
  have HF : Hid (∀ B o, Fr B [L.bX] w (w.alloc o)) := fun B o => (Fr.refl _ _ _).alloc o
  clear h
  obtain ⟨ad, Had⟩ : ∃ ad, Hid (W64 (rgA x t b + (c : Int)) = ad) := ⟨_, rfl⟩
  have had : IntKind.i64.wrap (rgA x t b + (c : Int)) = ad := (IntWalk.i64_left _).trans Had.out
  unfold pC
  go_enter Try.func84, Try.ntmps84
  go_wp2_with fail
  have X1 := hyd (heap_alloc_new w (.cells #[.int .i64 o, .int .i64 a, .int .i64 b, .int .i64 c] 31))
  obtain ⟨x0, x1, x2, x3⟩ := box4 X1.out
  have C1 := hyd (H.out.alloc (.cells #[.int .i64 o, .int .i64 a, .int .i64 b, .int .i64 c] 31))
  have F1 : Hid (∀ B, Fr B [L.bX] w (w.alloc (.cells #[.int .i64 o, .int .i64 a, .int .i64 b, .int .i64 c] 31))) := fun B => HF.out B _
  generalize w.alloc (.cells #[.int .i64 o, .int .i64 a, .int .i64 b, .int .i64 c] 31) = w1 at x0 x1 x2 x3 X1 C1 F1 ⊢
  go_region_held3 (fun w' => w'.cell? ⟨w.heap.size, 2, none⟩ = some (.int .i64 b) ∧ w'.cell? ⟨w.heap.size, 3, none⟩ = some (.int .i64 c)) (first | go_keep) ((go_at_call 79; refine (get_any C1.out.drew t b ht hb).mono ?_; rintro e w4 ⟨rfl, rfl⟩))
  have C2 : Hid (MX w1.drew L k J x) := C1.out.drew
  have F2 : Hid (∀ B, Fr B [L.bX] w w1.drew) := fun B => (F1.out B).drew
  have X2 : Hid (w1.drew.heap[w.heap.size]? = some (.cells #[.int .i64 o, .int .i64 a, .int .i64 b, .int .i64 c] 31)) := X1.out
  clear C1 F1 X1 x0 x1 x2 x3
  generalize w1.drew = w2 at C2 F2 X2 ⊢
  have c69 := C2.out.cnt
  by_cases hbad : ad < 0
  · have g0 : decide (ad < 0) = true := by simpa using hbad
    have Hm : Hid (accQ x t o a b c = (0, 2, x)) := by unfold Hid accQ; rw [Had.out, if_pos (.inl hbad)]
    go_wp2
    go_ret2
    rw [Hm.out]
    exact ⟨rfl, C2.out, F2.out⟩
  have g0 : decide (ad < 0) = false := by simpa using hbad
  by_cases hbig : (x.cnt : Int) ≤ ad
  · have g1 : decide ((x.cnt : Int) ≤ ad) = true := by simpa using hbig
    have Hm : Hid (accQ x t o a b c = (0, 2, x)) := by unfold Hid accQ; rw [Had.out, if_pos (.inr hbig)]
    go_wp2
    go_ret2
    rw [Hm.out]
    exact ⟨rfl, C2.out, F2.out⟩
  have g1 : decide ((x.cnt : Int) ≤ ad) = false := by simpa using hbig
  have hif : Hid (¬ (ad < 0 ∨ (x.cnt : Int) ≤ ad)) := by unfold Hid; omega
  obtain ⟨q, rfl⟩ : ∃ q : Nat, ad = (q : Int) := ⟨ad.toNat, by omega⟩
  have hq : q < 32 := by omega
  have q1 : (q : Int) < 32 := by omega
  have q0 : (0 : Int) ≤ (q : Int) := by omega
  obtain ⟨v0, Hv0⟩ : ∃ v0, Hid (x.wd.getD q 0 = v0) := ⟨_, rfl⟩
  have cw := C2.out.word hq
  rw [Hv0.out] at cw
  obtain ⟨x0, x1, x2, x3⟩ := box4 X2.out
  clear hbad hbig
  have hacc : Hid (accQ x t o a b c = (((2 ^ (q / 4) : Nat) : Int), 0, if o = 9 then rgPut x t a v0 else if o = 10 then wdPut x q (rgA x t a) else rgPut (wdPut x q (W64 (v0 + rgA x t a))) t a v0)) := by
    unfold Hid accQ
    rw [Had.out, if_neg hif.out, ← Hv0.out]
    rfl
  have g2 : decide (x.cnt ≤ q) = false := by have := hif.out; simp; omega
  go_wp2_with fail
  refine (get_any C2.out t a ht ha).mono ?_
  rintro e w4 ⟨rfl, rfl⟩
  have hsz : L.bX < w.heap.size := H.out.lt (.inl rfl)
  have hfz := C2.out.frz (70 + q)
  have Hpw : Hid (wrap64 ((2 : Int) ^ (q / 4)) = ((2 ^ (q / 4) : Nat) : Int)) := pow_seg hq
  clear had g0 g1 g2 c69
  rcases ho with rfl | rfl | rfl
  · go_wp2_with fail
    refine (put_reg C2.out t a ht ha v0).mono ?_
    rintro e w5 ⟨rfl, hM, hFr⟩
    go_wp2_with fail
    rw [Hpw.out]
    go_ret2
    rw [hacc.out]
    exact ⟨rfl, hM, fun B => (F2.out B).trans (hFr B)⟩
  · go_wp2_with fail
    rw [Hpw.out]
    go_ret2
    rw [hacc.out]
    exact ⟨rfl, C2.out.setWord hq _, fun B => (F2.out B).set (by simp) _⟩
  · go_wp2_with fail
    refine (put_reg (C2.out.setWord hq (wrap64 (v0 + rgA x t a))) t a ht ha v0).mono ?_
    rintro e w5 ⟨rfl, hM, hFr⟩
    go_wp2_with fail
    rw [Hpw.out]
    go_ret2
    rw [hacc.out]
    exact ⟨rfl, hM, fun B => ((F2.out B).set (by simp) _).trans (hFr B)⟩

end Go.Proofs.Ytbhbacphiinpeaa

/- What 'compute' answers. -/
namespace Go.Proofs.Ytbhbacphiinpeaa
open Go.RowKit

/-- What a computation makes of two values: the value, the fault. -/
def compP (o l r : Int) : Int × Int :=
  if o = 2 then (wrap64 (l + r), 0) else if o = 3 then (wrap64 (l - r), 0) else if o = 4 then (wrap64 (l * r), 0)
  else if o = 5 then (if r = 0 then (0, 1) else (wrap64 (Int.tdiv l r), 0)) else if o = 6 then (if l < r then 1 else 0, 0) else (if l = r then 1 else 0, 0)

def CompOk (o l r : Int) (w : World) : Prop := Calls Try.prog 86 #[.int .i64 o, .int .i64 l, .int .i64 r] w fun e w' => e = .returned (.tuple #[.int .i64 (compP o l r).1, .int .i64 (compP o l r).2]) ∧ w' = w

set_option maxHeartbeats 400000 in
theorem comp_2 (l r : Int) (w : World) : CompOk 2 l r w := by
  unfold CompOk
  go_enter Try.func86, Try.ntmps86
  go_wp2
  go_ret2
  exact ⟨rfl, rfl⟩
set_option maxHeartbeats 400000 in
theorem comp_3 (l r : Int) (w : World) : CompOk 3 l r w := by
  unfold CompOk
  go_enter Try.func86, Try.ntmps86
  go_wp2
  go_ret2
  exact ⟨rfl, rfl⟩
set_option maxHeartbeats 400000 in
theorem comp_4 (l r : Int) (w : World) : CompOk 4 l r w := by
  unfold CompOk
  go_enter Try.func86, Try.ntmps86
  go_wp2
  go_ret2
  exact ⟨rfl, rfl⟩
set_option maxHeartbeats 400000 in
theorem comp_5 (l r : Int) (w : World) : CompOk 5 l r w := by
  unfold CompOk
  by_cases h : r = 0
  · subst h
    go_enter Try.func86, Try.ntmps86
    go_wp2
    go_ret2
    exact ⟨rfl, rfl⟩
  · have hb : (r == 0) = false := by simpa using h
    have e : compP 5 l r = (wrap64 (Int.tdiv l r), 0) := by simp [compP, h]
    rw [e]
    go_enter Try.func86, Try.ntmps86
    go_wp2
    go_ret2
    exact ⟨rfl, rfl⟩
set_option maxHeartbeats 400000 in
theorem comp_6 (l r : Int) (w : World) : CompOk 6 l r w := by
  unfold CompOk
  by_cases h : l < r
  · have g : decide (l < r) = true := by simpa using h
    rw [show compP 6 l r = (1, 0) by simp [compP, h]]
    clear h
    go_enter Try.func86, Try.ntmps86
    go_wp2_with (go_at_call 87; refine (oneIf_any _ _).mono ?_; rintro e w' ⟨rfl, rfl⟩)
    go_ret2
    exact ⟨rfl, rfl⟩
  · have g : decide (l < r) = false := by simpa using h
    rw [show compP 6 l r = (0, 0) by simp [compP, h]]
    clear h
    go_enter Try.func86, Try.ntmps86
    go_wp2_with (go_at_call 87; refine (oneIf_any _ _).mono ?_; rintro e w' ⟨rfl, rfl⟩)
    go_ret2
    exact ⟨rfl, rfl⟩
set_option maxHeartbeats 400000 in
theorem comp_7 (l r : Int) (w : World) : CompOk 7 l r w := by
  unfold CompOk
  by_cases h : l = r
  · have g : (l == r) = true := by simpa using h
    rw [show compP 7 l r = (1, 0) by simp [compP, h]]
    clear h
    go_enter Try.func86, Try.ntmps86
    go_wp2_with (go_at_call 87; refine (oneIf_any _ _).mono ?_; rintro e w' ⟨rfl, rfl⟩)
    go_ret2
    exact ⟨rfl, rfl⟩
  · have g : (l == r) = false := by simpa using h
    rw [show compP 7 l r = (0, 0) by simp [compP, h]]
    clear h
    go_enter Try.func86, Try.ntmps86
    go_wp2_with (go_at_call 87; refine (oneIf_any _ _).mono ?_; rintro e w' ⟨rfl, rfl⟩)
    go_ret2
    exact ⟨rfl, rfl⟩

theorem comp_any {o : Int} (h : 2 ≤ o ∧ o ≤ 7) (l r : Int) (w : World) : CompOk o l r w := by
  rcases (by omega : o = 2 ∨ o = 3 ∨ o = 4 ∨ o = 5 ∨ o = 6 ∨ o = 7) with rfl | rfl | rfl | rfl | rfl | rfl
  · exact comp_2 l r w
  · exact comp_3 l r w
  · exact comp_4 l r w
  · exact comp_5 l r w
  · exact comp_6 l r w
  · exact comp_7 l r w

end Go.Proofs.Ytbhbacphiinpeaa

/- What 'operate' of package cells does. -/
namespace Go.Proofs.Ytbhbacphiinpeaa
open Go.RowKit

/-- What an operation of a thread makes: the segment, the fault, the machine. -/
def operQ (x : QM) (t : Nat) (o : Int) (a b c : Nat) : Int × Int × QM :=
  if o = 9 ∨ o = 10 ∨ o = 11 then accQ x t o a b c
  else if o = 1 then (0, 0, rgPut x t a b)
  else if o = 8 then (0, 0, rgPut x t a (W64 (x.first + t)))
  else if (compP o (rgA x t b) (rgA x t c)).2 ≠ 0 then (0, (compP o (rgA x t b) (rgA x t c)).2, x)
  else (0, 0, rgPut x t a (compP o (rgA x t b) (rgA x t c)).1)

set_option maxHeartbeats 1000000 in
set_option maxRecDepth 100000 in
theorem oper_mem {w : World} {L : XM} {k : List Ins} {J : List Int} {x : QM} (h : MX w L k J x) (hcnt : x.cnt ≤ 32) (t : Nat) (ht : t < 16) (o : Int) (a b c : Nat) (ha : a < 4) (hb : b < 4) (ho : o = 9 ∨ o = 10 ∨ o = 11) :
    Calls Try.prog 80 #[pC L, .agg #[.int .i64 o, .int .i64 a, .int .i64 b, .int .i64 c], .int .i64 t] w (OpAns w L k J (operQ x t o a b c)) := by
  have H := hyd h
  clear h
  rw [show operQ x t o a b c = accQ x t o a b c by unfold operQ; rw [if_pos ho]]
  have HF : Hid (∀ B o, Fr B [L.bX] w (w.alloc o)) := fun B o => (Fr.refl _ _ _).alloc o
  unfold pC
  rcases ho with rfl | rfl | rfl
  all_goals
    go_enter Try.func80, Try.ntmps80
    go_wp2_with fail
    refine (access_any (H.out.alloc _) hcnt t ht _ a b c ha hb (by first | exact .inl rfl | exact .inr (.inl rfl) | exact .inr (.inr rfl))).mono ?_
    rintro e w4 ⟨rfl, hM, hFr⟩
    go_wp2_with fail
    go_ret2
    exact ⟨rfl, hM, fun B => (HF.out B _).trans (hFr B)⟩

set_option maxHeartbeats 1000000 in
set_option maxRecDepth 100000 in
theorem oper_set {w : World} {L : XM} {k : List Ins} {J : List Int} {x : QM} (h : MX w L k J x) (t : Nat) (ht : t < 16) (a b c : Nat) (ha : a < 4) :
    Calls Try.prog 80 #[pC L, .agg #[.int .i64 1, .int .i64 a, .int .i64 b, .int .i64 c], .int .i64 t] w (OpAns w L k J (operQ x t 1 a b c)) := by
  have H := hyd h
  clear h
  rw [show operQ x t 1 a b c = (0, 0, rgPut x t a b) by rfl]
  have HF : Hid (∀ B o, Fr B [L.bX] w (w.alloc o)) := fun B o => (Fr.refl _ _ _).alloc o
  unfold pC
  go_enter Try.func80, Try.ntmps80
  go_wp2_with fail
  refine (put_reg (H.out.alloc _) t a ht ha b).mono ?_
  rintro e w4 ⟨rfl, hM, hFr⟩
  go_wp2_with fail
  go_ret2
  exact ⟨rfl, hM, fun B => (HF.out B _).trans (hFr B)⟩

set_option maxHeartbeats 1000000 in
set_option maxRecDepth 100000 in
theorem oper_tid {w : World} {L : XM} {k : List Ins} {J : List Int} {x : QM} (h : MX w L k J x) (t : Nat) (ht : t < 16) (a b c : Nat) (ha : a < 4) :
    Calls Try.prog 80 #[pC L, .agg #[.int .i64 8, .int .i64 a, .int .i64 b, .int .i64 c], .int .i64 t] w (OpAns w L k J (operQ x t 8 a b c)) := by
  have H := hyd h
  clear h
  rw [show operQ x t 8 a b c = (0, 0, rgPut x t a (W64 (x.first + t))) by rfl]
  have HF : Hid (∀ B o, Fr B [L.bX] w (w.alloc o)) := fun B o => (Fr.refl _ _ _).alloc o
  have hwr : IntKind.i64.wrap (x.first + (t : Int)) = W64 (x.first + (t : Int)) := IntWalk.i64_left _
  unfold pC
  go_enter Try.func80, Try.ntmps80
  go_wp2_with fail
  have X1 := hyd (heap_alloc_new w (.cells #[.int .i64 8, .int .i64 a, .int .i64 b, .int .i64 c] 31))
  obtain ⟨x0, x1, x2, x3⟩ := box4 X1.out
  have C1 := hyd (H.out.alloc (.cells #[.int .i64 8, .int .i64 a, .int .i64 b, .int .i64 c] 31))
  have F1 : Hid (∀ B, Fr B [L.bX] w (w.alloc (.cells #[.int .i64 8, .int .i64 a, .int .i64 b, .int .i64 c] 31))) := fun B => HF.out B _
  have hlt : L.bX < w.heap.size := H.out.lt (.inl rfl)
  have hlt1 : w.heap.size < (w.alloc (.cells #[.int .i64 8, .int .i64 a, .int .i64 b, .int .i64 c] 31)).heap.size := blk_lt X1.out
  generalize w.alloc (.cells #[.int .i64 8, .int .i64 a, .int .i64 b, .int .i64 c] 31) = w1 at x0 x1 x2 x3 X1 C1 F1 hlt1 ⊢
  have c4 := C1.out.head.2.2.2.2
  go_region_held3 (fun w' => w'.cell? ⟨w.heap.size, 1, none⟩ = some (.int .i64 a) ∧ w'.cell? ⟨L.bX, 4, none⟩ = some (.int .i64 x.first)) (first | go_keep | (go_split_ands; exact ⟨k1, k2⟩)) ((go_at_call 85; refine (put_reg C1.out.drew t a ht ha (W64 (x.first + t))).mono ?_; rintro e w4 ⟨rfl, hM, hFr⟩; have k2 : w4.cell? ⟨L.bX, 4, none⟩ = some (.int .i64 x.first) := hM.head.2.2.2.2; have k1 : w4.cell? ⟨w.heap.size, 1, none⟩ = some (.int .i64 a) := (by rw [World.cell?_of_block ((hFr w.heap.size).block w.heap.size hlt1 (fun hm => by have := List.mem_singleton.1 hm; omega) (.inr fun cs fr e => by rw [show w1.drew.heap = w1.heap from rfl, X1.out] at e; cases e))]; exact x1)))
  have F2 : Hid (∀ B, Fr B [L.bX] w w4) := fun B => ((F1.out B).drew).trans (hFr B)
  have C2 := hyd hM
  clear k1 k2 hM hFr x0 x1 x2 x3 c4 C1 F1 X1
  go_wp2_with fail
  go_ret2
  exact ⟨rfl, C2.out, F2.out⟩

set_option maxHeartbeats 1000000 in
set_option maxRecDepth 100000 in
theorem oper_comp {w : World} {L : XM} {k : List Ins} {J : List Int} {x : QM} (h : MX w L k J x) (t : Nat) (ht : t < 16) (o : Int) (a b c : Nat) (ha : a < 4) (hb : b < 4) (hc : c < 4) (ho : 2 ≤ o ∧ o ≤ 7) :
    Calls Try.prog 80 #[pC L, .agg #[.int .i64 o, .int .i64 a, .int .i64 b, .int .i64 c], .int .i64 t] w (OpAns w L k J (operQ x t o a b c)) := by
  have H := hyd h
  clear h
  have Hop : Hid (operQ x t o a b c = if (compP o (rgA x t b) (rgA x t c)).2 ≠ 0 then (0, (compP o (rgA x t b) (rgA x t c)).2, x) else (0, 0, rgPut x t a (compP o (rgA x t b) (rgA x t c)).1)) := by
    unfold Hid operQ
    rw [if_neg (by omega), if_neg (by omega), if_neg (by omega)]
  obtain ⟨v, f, Hv⟩ : ∃ v f, Hid (compP o (rgA x t b) (rgA x t c) = (v, f)) := ⟨_, _, rfl⟩
  rw [Hv.out] at Hop
  have HF : Hid (∀ B o, Fr B [L.bX] w (w.alloc o)) := fun B o => (Fr.refl _ _ _).alloc o
  have n9 : (o == 9) = false := by simp; omega
  have n10 : (o == 10) = false := by simp; omega
  have n11 : (o == 11) = false := by simp; omega
  have n1 : (o == 1) = false := by simp; omega
  have n8 : (o == 8) = false := by simp; omega
  have HO := hyd ho
  clear ho
  unfold pC
  go_enter Try.func80, Try.ntmps80
  go_wp2_with fail
  refine (get_any (H.out.alloc _) t b ht hb).mono ?_
  rintro e w4 ⟨rfl, rfl⟩
  go_wp2_with fail
  refine (get_any (H.out.alloc _) t c ht hc).mono ?_
  rintro e w4 ⟨rfl, rfl⟩
  go_wp2_with fail
  refine (comp_any HO.out (rgA x t b) (rgA x t c) _).mono ?_
  rw [Hv.out]
  rintro e w4 ⟨rfl, rfl⟩
  by_cases hf : f = 0
  · subst hf
    go_wp2_with fail
    refine (put_reg (H.out.alloc _) t a ht ha v).mono ?_
    rintro e w4 ⟨rfl, hM, hFr⟩
    go_wp2_with fail
    go_ret2
    rw [Hop.out]
    exact ⟨rfl, hM, fun B => (HF.out B _).trans (hFr B)⟩
  · have hfb : (f == 0) = false := by simpa using hf
    go_wp2_with fail
    go_ret2
    rw [Hop.out, if_pos hf]
    exact ⟨rfl, H.out.alloc _, fun B => HF.out B _⟩

/-- Whatever a thread may do by itself. -/
theorem oper_any {w : World} {L : XM} {k : List Ins} {J : List Int} {x : QM} (h : MX w L k J x) (hcnt : x.cnt ≤ 32) (t : Nat) (ht : t < 16) (o : Int) (a b c : Nat) (ha : a < 4) (hb : o ≠ 1 → b < 4) (hc : 2 ≤ o ∧ o ≤ 7 → c < 4) (ho : 1 ≤ o ∧ o ≤ 11) :
    Calls Try.prog 80 #[pC L, .agg #[.int .i64 o, .int .i64 a, .int .i64 b, .int .i64 c], .int .i64 t] w (OpAns w L k J (operQ x t o a b c)) := by
  by_cases h1 : o = 1
  · subst h1; exact oper_set h t ht a b c ha
  by_cases h8 : o = 8
  · subst h8; exact oper_tid h t ht a b c ha
  by_cases h7 : o ≤ 7
  · exact oper_comp h t ht o a b c ha (hb h1) (hc (by omega)) (by omega)
  · exact oper_mem h hcnt t ht o a b c ha (hb h1) (by omega)

end Go.Proofs.Ytbhbacphiinpeaa

