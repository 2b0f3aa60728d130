/- Mf Mc Mg Mh Mi: joined. -/
import Derived.Test.YtbhbacphiinpeaaGreatZ15
import Derived.Deep.RegionHeld3

/- What 'access' of package cells does: Load, Store, Fetch. -/
namespace Go.Proofs.YtbhbacphiinpeaaGreat
open Go.RowKit

/-- Load, Store, Fetch of a thread: the segment, the fault, the machine. -/
def accQ (x : QM) (t : Nat) (o : Int) (a b c : Nat) : Int × Int × QM :=
  if W64 (rgA x t b + c) < 0 ∨ (x.cnt : Int) ≤ W64 (rgA x t b + c) then (0, 2, x)
  else (((2 ^ ((W64 (rgA x t b + c)).toNat / 4) : Nat) : Int), 0,
    if o = 9 then rgPut x t a (x.wd.getD (W64 (rgA x t b + c)).toNat 0)
    else if o = 10 then wdPut x (W64 (rgA x t b + c)).toNat (rgA x t a)
    else rgPut (wdPut x (W64 (rgA x t b + c)).toNat (W64 (x.wd.getD (W64 (rgA x t b + c)).toNat 0 + rgA x t a))) t a (x.wd.getD (W64 (rgA x t b + c)).toNat 0))

def OpAns (w : World) (L : XM) (k : List Ins) (J : List Int) (r : Int × Int × QM) (e : Ending) (w' : World) : Prop :=
  e = .returned (.tuple #[.int .i64 r.1, .int .i64 r.2.1]) ∧ MX w' L k J r.2.2 ∧ ∀ B, Fr B [L.bX] w w'

theorem pow_seg {q : Nat} (h : q < 32) : wrap64 ((2 : Int) ^ (q / 4)) = ((2 ^ (q / 4) : Nat) : Int) := by
  have : q / 4 < 8 := by omega
  generalize q / 4 = m at this
  have e : (2 : Int) ^ m = ((2 ^ m : Nat) : Int) := by simp
  have h8 : 2 ^ m ≤ 128 := by
    rcases (by omega : m = 0 ∨ m = 1 ∨ m = 2 ∨ m = 3 ∨ m = 4 ∨ m = 5 ∨ m = 6 ∨ m = 7) with rfl | rfl | rfl | rfl | rfl | rfl | rfl | rfl <;> decide
  rw [e]
  generalize 2 ^ m = z at h8
  unfold wrap64
  omega

theorem box4 {w : World} {B : Nat} {a b c d : Value} {t : TypeId} (h : w.heap[B]? = some (.cells #[a, b, c, d] t)) : w.cell? ⟨B, 0, none⟩ = some a ∧ w.cell? ⟨B, 1, none⟩ = some b ∧ w.cell? ⟨B, 2, none⟩ = some c ∧ w.cell? ⟨B, 3, none⟩ = some d := by
  refine ⟨?_, ?_, ?_, ?_⟩ <;> (rw [cell_of_row w B _ _ t _ h]; rfl)

set_option maxHeartbeats 1000000 in
set_option maxRecDepth 100000 in
theorem access_any {w : World} {L : XM} {k : List Ins} {J : List Int} {x : QM} (h : MX w L k J x) (hcnt : x.cnt ≤ 32) (t : Nat) (ht : t < 16) (o : Int) (a b c : Nat) (ha : a < 4) (hb : b < 4) (ho : o = 9 ∨ o = 10 ∨ o = 11) :
    Calls Tryz.prog 111 #[pC L, .agg #[.int .i64 o, .int .i64 a, .int .i64 b, .int .i64 c], .int .i64 t] w (OpAns w L k J (accQ x t o a b c)) := by
  have H := hyd h
  have HF : Hid (∀ B o, Fr B [L.bX] w (w.alloc o)) := fun B o => (Fr.refl _ _ _).alloc o
  clear h
  obtain ⟨ad, Had⟩ : ∃ ad, Hid (W64 (rgA x t b + (c : Int)) = ad) := ⟨_, rfl⟩
  have had : IntKind.i64.wrap (rgA x t b + (c : Int)) = ad := (IntWalk.i64_left _).trans Had.out
  unfold pC
  go_enter Tryz.func111, Tryz.ntmps111
  go_wp2_with fail
  have X1 := hyd (heap_alloc_new w (.cells #[.int .i64 o, .int .i64 a, .int .i64 b, .int .i64 c] 92))
  obtain ⟨x0, x1, x2, x3⟩ := box4 X1.out
  have C1 := hyd (H.out.alloc (.cells #[.int .i64 o, .int .i64 a, .int .i64 b, .int .i64 c] 92))
  have F1 : Hid (∀ B, Fr B [L.bX] w (w.alloc (.cells #[.int .i64 o, .int .i64 a, .int .i64 b, .int .i64 c] 92))) := fun B => HF.out B _
  generalize w.alloc (.cells #[.int .i64 o, .int .i64 a, .int .i64 b, .int .i64 c] 92) = w1 at x0 x1 x2 x3 X1 C1 F1 ⊢
  go_region_held3 (fun w' => w'.cell? ⟨w.heap.size, 2, none⟩ = some (.int .i64 b) ∧ w'.cell? ⟨w.heap.size, 3, none⟩ = some (.int .i64 c)) (first | go_keep) ((go_at_call 105; refine (get_any C1.out.drew t b ht hb).mono ?_; rintro e w4 ⟨rfl, rfl⟩))
  have C2 : Hid (MX w1.drew L k J x) := C1.out.drew
  have F2 : Hid (∀ B, Fr B [L.bX] w w1.drew) := fun B => (F1.out B).drew
  have X2 : Hid (w1.drew.heap[w.heap.size]? = some (.cells #[.int .i64 o, .int .i64 a, .int .i64 b, .int .i64 c] 92)) := X1.out
  clear C1 F1 X1 x0 x1 x2 x3
  generalize w1.drew = w2 at C2 F2 X2 ⊢
  have c69 := C2.out.cnt
  by_cases hbad : ad < 0
  · have g0 : decide (ad < 0) = true := by simpa using hbad
    have Hm : Hid (accQ x t o a b c = (0, 2, x)) := by unfold Hid accQ; rw [Had.out, if_pos (.inl hbad)]
    go_wp2
    go_ret2
    rw [Hm.out]
    exact ⟨rfl, C2.out, F2.out⟩
  have g0 : decide (ad < 0) = false := by simpa using hbad
  by_cases hbig : (x.cnt : Int) ≤ ad
  · have g1 : decide ((x.cnt : Int) ≤ ad) = true := by simpa using hbig
    have Hm : Hid (accQ x t o a b c = (0, 2, x)) := by unfold Hid accQ; rw [Had.out, if_pos (.inr hbig)]
    go_wp2
    go_ret2
    rw [Hm.out]
    exact ⟨rfl, C2.out, F2.out⟩
  have g1 : decide ((x.cnt : Int) ≤ ad) = false := by simpa using hbig
  have hif : Hid (¬ (ad < 0 ∨ (x.cnt : Int) ≤ ad)) := by unfold Hid; omega
  obtain ⟨q, rfl⟩ : ∃ q : Nat, ad = (q : Int) := ⟨ad.toNat, by omega⟩
  have hq : q < 32 := by omega
  have q1 : (q : Int) < 32 := by omega
  have q0 : (0 : Int) ≤ (q : Int) := by omega
  obtain ⟨v0, Hv0⟩ : ∃ v0, Hid (x.wd.getD q 0 = v0) := ⟨_, rfl⟩
  have cw := C2.out.word hq
  rw [Hv0.out] at cw
  obtain ⟨x0, x1, x2, x3⟩ := box4 X2.out
  clear hbad hbig
  have hacc : Hid (accQ x t o a b c = (((2 ^ (q / 4) : Nat) : Int), 0, if o = 9 then rgPut x t a v0 else if o = 10 then wdPut x q (rgA x t a) else rgPut (wdPut x q (W64 (v0 + rgA x t a))) t a v0)) := by
    unfold Hid accQ
    rw [Had.out, if_neg hif.out, ← Hv0.out]
    rfl
  have g2 : decide (x.cnt ≤ q) = false := by have := hif.out; simp; omega
  go_wp2_with fail
  refine (get_any C2.out t a ht ha).mono ?_
  rintro e w4 ⟨rfl, rfl⟩
  have hsz : L.bX < w.heap.size := H.out.lt (.inl rfl)
  have hfz := C2.out.frz (70 + q)
  have Hpw : Hid (wrap64 ((2 : Int) ^ (q / 4)) = ((2 ^ (q / 4) : Nat) : Int)) := pow_seg hq
  clear had g0 g1 g2 c69
  rcases ho with rfl | rfl | rfl
  · go_wp2_with fail
    refine (put_reg C2.out t a ht ha v0).mono ?_
    rintro e w5 ⟨rfl, hM, hFr⟩
    go_wp2_with fail
    rw [Hpw.out]
    go_ret2
    rw [hacc.out]
    exact ⟨rfl, hM, fun B => (F2.out B).trans (hFr B)⟩
  · go_wp2_with fail
    rw [Hpw.out]
    go_ret2
    rw [hacc.out]
    exact ⟨rfl, C2.out.setWord hq _, fun B => (F2.out B).set (by simp) _⟩
  · go_wp2_with fail
    refine (put_reg (C2.out.setWord hq (wrap64 (v0 + rgA x t a))) t a ht ha v0).mono ?_
    rintro e w5 ⟨rfl, hM, hFr⟩
    go_wp2_with fail
    rw [Hpw.out]
    go_ret2
    rw [hacc.out]
    exact ⟨rfl, hM, fun B => ((F2.out B).set (by simp) _).trans (hFr B)⟩

end Go.Proofs.YtbhbacphiinpeaaGreat

/- What 'compute' answers. -/
namespace Go.Proofs.YtbhbacphiinpeaaGreat
open Go.RowKit

/-- What a computation makes of two values: the value, the fault. -/
def compP (o l r : Int) : Int × Int :=
  if o = 2 then (wrap64 (l + r), 0) else if o = 3 then (wrap64 (l - r), 0) else if o = 4 then (wrap64 (l * r), 0)
  else if o = 5 then (if r = 0 then (0, 1) else (wrap64 (Int.tdiv l r), 0)) else if o = 6 then (if l < r then 1 else 0, 0) else (if l = r then 1 else 0, 0)

def CompOk (o l r : Int) (w : World) : Prop := Calls Tryz.prog 113 #[.int .i64 o, .int .i64 l, .int .i64 r] w fun e w' => e = .returned (.tuple #[.int .i64 (compP o l r).1, .int .i64 (compP o l r).2]) ∧ w' = w

set_option maxHeartbeats 400000 in
theorem comp_2 (l r : Int) (w : World) : CompOk 2 l r w := by
  unfold CompOk
  go_enter Tryz.func113, Tryz.ntmps113
  go_wp2
  go_ret2
  exact ⟨rfl, rfl⟩
set_option maxHeartbeats 400000 in
theorem comp_3 (l r : Int) (w : World) : CompOk 3 l r w := by
  unfold CompOk
  go_enter Tryz.func113, Tryz.ntmps113
  go_wp2
  go_ret2
  exact ⟨rfl, rfl⟩
set_option maxHeartbeats 400000 in
theorem comp_4 (l r : Int) (w : World) : CompOk 4 l r w := by
  unfold CompOk
  go_enter Tryz.func113, Tryz.ntmps113
  go_wp2
  go_ret2
  exact ⟨rfl, rfl⟩
set_option maxHeartbeats 400000 in
theorem comp_5 (l r : Int) (w : World) : CompOk 5 l r w := by
  unfold CompOk
  by_cases h : r = 0
  · subst h
    go_enter Tryz.func113, Tryz.ntmps113
    go_wp2
    go_ret2
    exact ⟨rfl, rfl⟩
  · have hb : (r == 0) = false := by simpa using h
    have e : compP 5 l r = (wrap64 (Int.tdiv l r), 0) := by simp [compP, h]
    rw [e]
    go_enter Tryz.func113, Tryz.ntmps113
    go_wp2
    go_ret2
    exact ⟨rfl, rfl⟩
set_option maxHeartbeats 400000 in
theorem comp_6 (l r : Int) (w : World) : CompOk 6 l r w := by
  unfold CompOk
  by_cases h : l < r
  · have g : decide (l < r) = true := by simpa using h
    rw [show compP 6 l r = (1, 0) by simp [compP, h]]
    clear h
    go_enter Tryz.func113, Tryz.ntmps113
    go_wp2_with (go_at_call 115; refine (oneIf_any _ _).mono ?_; rintro e w' ⟨rfl, rfl⟩)
    go_ret2
    exact ⟨rfl, rfl⟩
  · have g : decide (l < r) = false := by simpa using h
    rw [show compP 6 l r = (0, 0) by simp [compP, h]]
    clear h
    go_enter Tryz.func113, Tryz.ntmps113
    go_wp2_with (go_at_call 115; refine (oneIf_any _ _).mono ?_; rintro e w' ⟨rfl, rfl⟩)
    go_ret2
    exact ⟨rfl, rfl⟩
set_option maxHeartbeats 400000 in
theorem comp_7 (l r : Int) (w : World) : CompOk 7 l r w := by
  unfold CompOk
  by_cases h : l = r
  · have g : (l == r) = true := by simpa using h
    rw [show compP 7 l r = (1, 0) by simp [compP, h]]
    clear h
    go_enter Tryz.func113, Tryz.ntmps113
    go_wp2_with (go_at_call 115; refine (oneIf_any _ _).mono ?_; rintro e w' ⟨rfl, rfl⟩)
    go_ret2
    exact ⟨rfl, rfl⟩
  · have g : (l == r) = false := by simpa using h
    rw [show compP 7 l r = (0, 0) by simp [compP, h]]
    clear h
    go_enter Tryz.func113, Tryz.ntmps113
    go_wp2_with (go_at_call 115; refine (oneIf_any _ _).mono ?_; rintro e w' ⟨rfl, rfl⟩)
    go_ret2
    exact ⟨rfl, rfl⟩

theorem comp_any {o : Int} (h : 2 ≤ o ∧ o ≤ 7) (l r : Int) (w : World) : CompOk o l r w := by
  rcases (by omega : o = 2 ∨ o = 3 ∨ o = 4 ∨ o = 5 ∨ o = 6 ∨ o = 7) with rfl | rfl | rfl | rfl | rfl | rfl
  · exact comp_2 l r w
  · exact comp_3 l r w
  · exact comp_4 l r w
  · exact comp_5 l r w
  · exact comp_6 l r w
  · exact comp_7 l r w

end Go.Proofs.YtbhbacphiinpeaaGreat

/- What 'operate' of package cells does. -/
namespace Go.Proofs.YtbhbacphiinpeaaGreat
open Go.RowKit

/-- What an operation of a thread makes: the segment, the fault, the machine. -/
def operQ (x : QM) (t : Nat) (o : Int) (a b c : Nat) : Int × Int × QM :=
  if o = 9 ∨ o = 10 ∨ o = 11 then accQ x t o a b c
  else if o = 1 then (0, 0, rgPut x t a b)
  else if o = 8 then (0, 0, rgPut x t a (W64 (x.first + t)))
  else if (compP o (rgA x t b) (rgA x t c)).2 ≠ 0 then (0, (compP o (rgA x t b) (rgA x t c)).2, x)
  else (0, 0, rgPut x t a (compP o (rgA x t b) (rgA x t c)).1)

set_option maxHeartbeats 1000000 in
set_option maxRecDepth 100000 in
theorem oper_mem {w : World} {L : XM} {k : List Ins} {J : List Int} {x : QM} (h : MX w L k J x) (hcnt : x.cnt ≤ 32) (t : Nat) (ht : t < 16) (o : Int) (a b c : Nat) (ha : a < 4) (hb : b < 4) (ho : o = 9 ∨ o = 10 ∨ o = 11) :
    Calls Tryz.prog 106 #[pC L, .agg #[.int .i64 o, .int .i64 a, .int .i64 b, .int .i64 c], .int .i64 t] w (OpAns w L k J (operQ x t o a b c)) := by
  have H := hyd h
  clear h
  rw [show operQ x t o a b c = accQ x t o a b c by unfold operQ; rw [if_pos ho]]
  have HF : Hid (∀ B o, Fr B [L.bX] w (w.alloc o)) := fun B o => (Fr.refl _ _ _).alloc o
  unfold pC
  rcases ho with rfl | rfl | rfl
  all_goals
    go_enter Tryz.func106, Tryz.ntmps106
    go_wp2_with fail
    refine (access_any (H.out.alloc _) hcnt t ht _ a b c ha hb (by first | exact .inl rfl | exact .inr (.inl rfl) | exact .inr (.inr rfl))).mono ?_
    rintro e w4 ⟨rfl, hM, hFr⟩
    go_wp2_with fail
    go_ret2
    exact ⟨rfl, hM, fun B => (HF.out B _).trans (hFr B)⟩

set_option maxHeartbeats 1000000 in
set_option maxRecDepth 100000 in
theorem oper_set {w : World} {L : XM} {k : List Ins} {J : List Int} {x : QM} (h : MX w L k J x) (t : Nat) (ht : t < 16) (a b c : Nat) (ha : a < 4) :
    Calls Tryz.prog 106 #[pC L, .agg #[.int .i64 1, .int .i64 a, .int .i64 b, .int .i64 c], .int .i64 t] w (OpAns w L k J (operQ x t 1 a b c)) := by
  have H := hyd h
  clear h
  rw [show operQ x t 1 a b c = (0, 0, rgPut x t a b) by rfl]
  have HF : Hid (∀ B o, Fr B [L.bX] w (w.alloc o)) := fun B o => (Fr.refl _ _ _).alloc o
  unfold pC
  go_enter Tryz.func106, Tryz.ntmps106
  go_wp2_with fail
  refine (put_reg (H.out.alloc _) t a ht ha b).mono ?_
  rintro e w4 ⟨rfl, hM, hFr⟩
  go_wp2_with fail
  go_ret2
  exact ⟨rfl, hM, fun B => (HF.out B _).trans (hFr B)⟩

set_option maxHeartbeats 1000000 in
set_option maxRecDepth 100000 in
theorem oper_tid {w : World} {L : XM} {k : List Ins} {J : List Int} {x : QM} (h : MX w L k J x) (t : Nat) (ht : t < 16) (a b c : Nat) (ha : a < 4) :
    Calls Tryz.prog 106 #[pC L, .agg #[.int .i64 8, .int .i64 a, .int .i64 b, .int .i64 c], .int .i64 t] w (OpAns w L k J (operQ x t 8 a b c)) := by
  have H := hyd h
  clear h
  rw [show operQ x t 8 a b c = (0, 0, rgPut x t a (W64 (x.first + t))) by rfl]
  have HF : Hid (∀ B o, Fr B [L.bX] w (w.alloc o)) := fun B o => (Fr.refl _ _ _).alloc o
  have hwr : IntKind.i64.wrap (x.first + (t : Int)) = W64 (x.first + (t : Int)) := IntWalk.i64_left _
  unfold pC
  go_enter Tryz.func106, Tryz.ntmps106
  go_wp2_with fail
  have X1 := hyd (heap_alloc_new w (.cells #[.int .i64 8, .int .i64 a, .int .i64 b, .int .i64 c] 92))
  obtain ⟨x0, x1, x2, x3⟩ := box4 X1.out
  have C1 := hyd (H.out.alloc (.cells #[.int .i64 8, .int .i64 a, .int .i64 b, .int .i64 c] 92))
  have F1 : Hid (∀ B, Fr B [L.bX] w (w.alloc (.cells #[.int .i64 8, .int .i64 a, .int .i64 b, .int .i64 c] 92))) := fun B => HF.out B _
  have hlt : L.bX < w.heap.size := H.out.lt (.inl rfl)
  have hlt1 : w.heap.size < (w.alloc (.cells #[.int .i64 8, .int .i64 a, .int .i64 b, .int .i64 c] 92)).heap.size := blk_lt X1.out
  generalize w.alloc (.cells #[.int .i64 8, .int .i64 a, .int .i64 b, .int .i64 c] 92) = w1 at x0 x1 x2 x3 X1 C1 F1 hlt1 ⊢
  have c4 := C1.out.head.2.2.2.2
  go_region_held3 (fun w' => w'.cell? ⟨w.heap.size, 1, none⟩ = some (.int .i64 a) ∧ w'.cell? ⟨L.bX, 4, none⟩ = some (.int .i64 x.first)) (first | go_keep | (go_split_ands; exact ⟨k1, k2⟩)) ((go_at_call 112; refine (put_reg C1.out.drew t a ht ha (W64 (x.first + t))).mono ?_; rintro e w4 ⟨rfl, hM, hFr⟩; have k2 : w4.cell? ⟨L.bX, 4, none⟩ = some (.int .i64 x.first) := hM.head.2.2.2.2; have k1 : w4.cell? ⟨w.heap.size, 1, none⟩ = some (.int .i64 a) := (by rw [World.cell?_of_block ((hFr w.heap.size).block w.heap.size hlt1 (fun hm => by have := List.mem_singleton.1 hm; omega) (.inr fun cs fr e => by rw [show w1.drew.heap = w1.heap from rfl, X1.out] at e; cases e))]; exact x1)))
  have F2 : Hid (∀ B, Fr B [L.bX] w w4) := fun B => ((F1.out B).drew).trans (hFr B)
  have C2 := hyd hM
  clear k1 k2 hM hFr x0 x1 x2 x3 c4 C1 F1 X1
  go_wp2_with fail
  go_ret2
  exact ⟨rfl, C2.out, F2.out⟩

set_option maxHeartbeats 1000000 in
set_option maxRecDepth 100000 in
theorem oper_comp {w : World} {L : XM} {k : List Ins} {J : List Int} {x : QM} (h : MX w L k J x) (t : Nat) (ht : t < 16) (o : Int) (a b c : Nat) (ha : a < 4) (hb : b < 4) (hc : c < 4) (ho : 2 ≤ o ∧ o ≤ 7) :
    Calls Tryz.prog 106 #[pC L, .agg #[.int .i64 o, .int .i64 a, .int .i64 b, .int .i64 c], .int .i64 t] w (OpAns w L k J (operQ x t o a b c)) := by
  have H := hyd h
  clear h
  have Hop : Hid (operQ x t o a b c = if (compP o (rgA x t b) (rgA x t c)).2 ≠ 0 then (0, (compP o (rgA x t b) (rgA x t c)).2, x) else (0, 0, rgPut x t a (compP o (rgA x t b) (rgA x t c)).1)) := by
    unfold Hid operQ
    rw [if_neg (by omega), if_neg (by omega), if_neg (by omega)]
  obtain ⟨v, f, Hv⟩ : ∃ v f, Hid (compP o (rgA x t b) (rgA x t c) = (v, f)) := ⟨_, _, rfl⟩
  rw [Hv.out] at Hop
  have HF : Hid (∀ B o, Fr B [L.bX] w (w.alloc o)) := fun B o => (Fr.refl _ _ _).alloc o
  have n9 : (o == 9) = false := by simp; omega
  have n10 : (o == 10) = false := by simp; omega
  have n11 : (o == 11) = false := by simp; omega
  have n1 : (o == 1) = false := by simp; omega
  have n8 : (o == 8) = false := by simp; omega
  have HO := hyd ho
  clear ho
  unfold pC
  go_enter Tryz.func106, Tryz.ntmps106
  go_wp2_with fail
  refine (get_any (H.out.alloc _) t b ht hb).mono ?_
  rintro e w4 ⟨rfl, rfl⟩
  go_wp2_with fail
  refine (get_any (H.out.alloc _) t c ht hc).mono ?_
  rintro e w4 ⟨rfl, rfl⟩
  go_wp2_with fail
  refine (comp_any HO.out (rgA x t b) (rgA x t c) _).mono ?_
  rw [Hv.out]
  rintro e w4 ⟨rfl, rfl⟩
  by_cases hf : f = 0
  · subst hf
    go_wp2_with fail
    refine (put_reg (H.out.alloc _) t a ht ha v).mono ?_
    rintro e w4 ⟨rfl, hM, hFr⟩
    go_wp2_with fail
    go_ret2
    rw [Hop.out]
    exact ⟨rfl, hM, fun B => (HF.out B _).trans (hFr B)⟩
  · have hfb : (f == 0) = false := by simpa using hf
    go_wp2_with fail
    go_ret2
    rw [Hop.out, if_pos hf]
    exact ⟨rfl, H.out.alloc _, fun B => HF.out B _⟩

/-- Whatever a thread may do by itself. -/
theorem oper_any {w : World} {L : XM} {k : List Ins} {J : List Int} {x : QM} (h : MX w L k J x) (hcnt : x.cnt ≤ 32) (t : Nat) (ht : t < 16) (o : Int) (a b c : Nat) (ha : a < 4) (hb : o ≠ 1 → b < 4) (hc : 2 ≤ o ∧ o ≤ 7 → c < 4) (ho : 1 ≤ o ∧ o ≤ 11) :
    Calls Tryz.prog 106 #[pC L, .agg #[.int .i64 o, .int .i64 a, .int .i64 b, .int .i64 c], .int .i64 t] w (OpAns w L k J (operQ x t o a b c)) := by
  by_cases h1 : o = 1
  · subst h1; exact oper_set h t ht a b c ha
  by_cases h8 : o = 8
  · subst h8; exact oper_tid h t ht a b c ha
  by_cases h7 : o ≤ 7
  · exact oper_comp h t ht o a b c ha (hb h1) (hc (by omega)) (by omega)
  · exact oper_mem h hcnt t ht o a b c ha (hb h1) (by omega)

end Go.Proofs.YtbhbacphiinpeaaGreat

/- What a thread does in the program is what it does in the document; plain. -/
namespace Go.Proofs.YtbhbacphiinpeaaGreat
open Go.RowKit

theorem CellsAt.get {ts : List Thr} {mem : List Int} {x : QM} (h : CellsAt ts mem x) {t : Nat} (ht : t < ts.length) {r : Nat} (hr : r < 4) : rgA x t r = (ts.getD t thr0).get (r : Int) := by
  unfold rgA Thr.get
  rw [List.getD_eq_getElem?_getD, h.regs t ht r hr, List.getD_eq_getElem?_getD]
  rfl
theorem CellsAt.word {ts : List Thr} {mem : List Int} {x : QM} (h : CellsAt ts mem x) {i : Nat} (hi : i < x.cnt) : x.wd.getD i 0 = mem.getD i 0 := by
  rw [← h.wd, List.getD_eq_getElem?_getD, List.getD_eq_getElem?_getD, List.getElem?_take_of_lt hi]

theorem getD_self {ts : List Thr} {t : Nat} (ht : t < ts.length) : ts.getD t thr0 = ts[t] := by
  rw [List.getD_eq_getElem?_getD, List.getElem?_eq_getElem ht]; rfl
theorem reg4_at {ts : List Thr} (h : Reg4 ts) {t : Nat} (ht : t < ts.length) : (ts.getD t thr0).regs.length = 4 := by
  rw [getD_self ht]; exact h _ (List.getElem_mem ht)

theorem CellsAt.put {ts : List Thr} {mem : List Int} {x : QM} (h : CellsAt ts mem x) {t : Nat} (ht : t < ts.length) {a : Nat} (ha : a < 4) (v : Int) : CellsAt (ts.set t ((ts.getD t thr0).put (a : Int) v)) mem (rgPut x t a v) := by
  refine ⟨h.n.trans (by simp), h.n16, h.f0, fun u hu => ?_, by simp [rgPut, h.rl], fun u hu r hr => ?_, h.reg4.set t (put_len (reg4_at h.reg4 ht) _ _), h.cnt, h.c32, h.wl, h.wd⟩
  · rw [List.length_set] at hu
    rw [getD_set]
    split
    · rename_i e; rw [← e.1]; exact h.names t ht
    · exact h.names u hu
  · rw [List.length_set] at hu
    show (x.rg.set (t * 4 + a) v)[u * 4 + r]? = _
    by_cases hut : t = u
    · subst hut
      rw [show (ts.set t ((ts.getD t thr0).put (a : Int) v)).getD t thr0 = (ts.getD t thr0).put (a : Int) v by rw [getD_set, if_pos ⟨rfl, ht⟩]]
      unfold Thr.put
      simp only [Int.toNat_natCast]
      rw [List.getElem?_set, List.getElem?_set, reg4_at h.reg4 ht]
      have hn := h.n
      have hn16 := h.n16
      have hrl := h.rl
      by_cases har : a = r
      · subst har; simp only [if_true]; rw [if_pos (by omega), if_pos ha]
      · rw [if_neg (by omega), if_neg har]; exact h.regs t ht r hr
    · rw [getD_set, List.getElem?_set, if_neg (by omega), if_neg (fun e => hut e.1)]; exact h.regs u hu r hr

theorem CellsAt.setW {ts : List Thr} {mem : List Int} {x : QM} (h : CellsAt ts mem x) (i : Nat) (v : Int) : CellsAt ts (mem.set i v) (wdPut x i v) := by
  refine ⟨h.n, h.n16, h.f0, h.names, h.rl, h.regs, h.reg4, h.cnt.trans (by simp), h.c32, by simp [wdPut, h.wl], ?_⟩
  show (x.wd.set i v).take x.cnt = mem.set i v
  rw [List.take_set, h.wd]

/-- What else of the machine stays. -/
structure Only (x x' : QM) : Prop where
  n : x'.n = x.n
  st : x'.st = x.st
  first : x'.first = x.first
  cnt : x'.cnt = x.cnt
  qs : x'.qs = x.qs
theorem Only.refl (x : QM) : Only x x := ⟨rfl, rfl, rfl, rfl, rfl⟩
theorem Only.trans {x y z : QM} (h : Only x y) (k : Only y z) : Only x z := ⟨k.n.trans h.n, k.st.trans h.st, k.first.trans h.first, k.cnt.trans h.cnt, k.qs.trans h.qs⟩

def segBit (ad : Int) : Int := if 0 ≤ ad then ((2 ^ (ad.toNat / 4) : Nat) : Int) else 0

theorem set_self {ts : List Thr} {t : Nat} (ht : t < ts.length) : ts.set t (ts.getD t thr0) = ts := by
  apply List.ext_getElem?
  intro i
  rw [List.getElem?_set]
  by_cases e : t = i
  · subst e
    simp only [if_true]
    rw [if_pos ht, getD_self ht, List.getElem?_eq_getElem ht]
  · rw [if_neg e]

theorem acc_one {ts : List Thr} {mem : List Int} {x : QM} (h : CellsAt ts mem x) {t : Nat} (ht : t < ts.length) {o : Int} {a b c : Nat} (ha : a < 4) (hb : b < 4) (ho : o = 9 ∨ o = 10 ∨ o = 11) :
    (accQ x t o a b c).1 = segBit (memP ⟨o, a, b, c⟩ (ts.getD t thr0) mem).2.1 ∧ (accQ x t o a b c).2.1 = (memP ⟨o, a, b, c⟩ (ts.getD t thr0) mem).1 ∧
      CellsAt (ts.set t (memP ⟨o, a, b, c⟩ (ts.getD t thr0) mem).2.2.1) (memP ⟨o, a, b, c⟩ (ts.getD t thr0) mem).2.2.2 (accQ x t o a b c).2.2 ∧ Only x (accQ x t o a b c).2.2 := by
  have gb := h.get ht hb
  have ga := h.get ht ha
  unfold accQ memP
  dsimp only
  rw [← gb, ← ga, ← h.cnt]
  by_cases hbad : W64 (rgA x t b + (c : Int)) < 0 ∨ (x.cnt : Int) ≤ W64 (rgA x t b + (c : Int))
  · rw [if_pos hbad, if_pos hbad]
    exact ⟨rfl, rfl, by dsimp only; rw [set_self ht]; exact h, Only.refl _⟩
  · rw [if_neg hbad, if_neg hbad]
    generalize W64 (rgA x t b + (c : Int)) = ad at hbad
    obtain ⟨q, rfl⟩ : ∃ q : Nat, ad = (q : Int) := ⟨ad.toNat, by omega⟩
    simp only [Int.toNat_natCast]
    have hq : q < x.cnt := by omega
    rw [h.word hq]
    have hs : segBit (q : Int) = ((2 ^ (q / 4) : Nat) : Int) := by unfold segBit; rw [if_pos (by omega)]; simp
    rcases ho with rfl | rfl | rfl
    · rw [if_pos rfl, if_pos rfl]
      exact ⟨hs.symm, rfl, h.put ht ha _, ⟨rfl, rfl, rfl, rfl, rfl⟩⟩
    · rw [if_neg (by decide), if_pos rfl, if_neg (by decide), if_pos rfl]
      refine ⟨hs.symm, rfl, ?_, ⟨rfl, rfl, rfl, rfl, rfl⟩⟩
      dsimp only
      rw [set_self ht]; exact h.setW _ _
    · simp only [show ((11 : Int) = 9) ↔ False by decide, show ((11 : Int) = 10) ↔ False by decide, if_false, if_true]
      exact ⟨hs.symm, trivial, (h.setW _ _).put ht ha _, ⟨rfl, rfl, rfl, rfl, rfl⟩⟩

theorem oper_one {ts : List Thr} {mem : List Int} {x : QM} (h : CellsAt ts mem x) {t : Nat} (ht : t < ts.length) {o : Int} {a b c : Nat} (ha : a < 4) (hb : o ≠ 1 → b < 4) (hc : 2 ≤ o ∧ o ≤ 7 → c < 4) (ho : 1 ≤ o ∧ o ≤ 11) :
    (operQ x t o a b c).1 = segBit (oneP ⟨o, a, b, c⟩ (ts.getD t thr0) mem).2.1 ∧ (operQ x t o a b c).2.1 = (oneP ⟨o, a, b, c⟩ (ts.getD t thr0) mem).1 ∧
      CellsAt (ts.set t (oneP ⟨o, a, b, c⟩ (ts.getD t thr0) mem).2.2.1) (oneP ⟨o, a, b, c⟩ (ts.getD t thr0) mem).2.2.2 (operQ x t o a b c).2.2 ∧ Only x (operQ x t o a b c).2.2 := by
  by_cases hm : o = 9 ∨ o = 10 ∨ o = 11
  · rw [show operQ x t o a b c = accQ x t o a b c by unfold operQ; rw [if_pos hm]]
    have e : oneP ⟨o, a, b, c⟩ (ts.getD t thr0) mem = memP ⟨o, a, b, c⟩ (ts.getD t thr0) mem := by
      unfold oneP
      dsimp only
      rw [if_neg (by omega), if_neg (by omega), if_neg (by omega), if_neg (by omega), if_neg (by omega), if_neg (by omega), if_neg (by omega), if_neg (by omega)]
    rw [e]
    exact acc_one h ht ha (hb (by omega)) hm
  unfold operQ
  rw [if_neg hm]
  by_cases h1 : o = 1
  · subst h1
    exact ⟨rfl, rfl, h.put ht ha _, ⟨rfl, rfl, rfl, rfl, rfl⟩⟩
  rw [if_neg h1]
  have hb' := hb h1
  by_cases h8 : o = 8
  · subst h8
    refine ⟨rfl, rfl, ?_, ⟨rfl, rfl, rfl, rfl, rfl⟩⟩
    have e : W64 (x.first + (t : Int)) = (ts.getD t thr0).name := by
      rw [h.names t ht]
      have := h.f0
      have := h.n
      have := h.n16
      unfold W64 wrap64
      omega
    show CellsAt (ts.set t ((ts.getD t thr0).put a (ts.getD t thr0).name)) mem (rgPut x t a (W64 (x.first + (t : Int))))
    rw [e]; exact h.put ht ha _
  rw [if_neg h8]
  have hc' := hc (by omega)
  rw [h.get ht hb', h.get ht hc']
  have set0 := set_self ht
  rcases (by omega : o = 2 ∨ o = 3 ∨ o = 4 ∨ o = 5 ∨ o = 6 ∨ o = 7) with rfl | rfl | rfl | rfl | rfl | rfl
  · exact ⟨rfl, rfl, h.put ht ha _, ⟨rfl, rfl, rfl, rfl, rfl⟩⟩
  · exact ⟨rfl, rfl, h.put ht ha _, ⟨rfl, rfl, rfl, rfl, rfl⟩⟩
  · exact ⟨rfl, rfl, h.put ht ha _, ⟨rfl, rfl, rfl, rfl, rfl⟩⟩
  · have e1 : oneP ⟨5, a, b, c⟩ (ts.getD t thr0) mem = if (ts.getD t thr0).get c = 0 then (1, -1, ts.getD t thr0, mem) else (0, -1, (ts.getD t thr0).put a (W64 (Int.tdiv ((ts.getD t thr0).get b) ((ts.getD t thr0).get c))), mem) := rfl
    have e2 : compP 5 ((ts.getD t thr0).get b) ((ts.getD t thr0).get c) = if (ts.getD t thr0).get c = 0 then (0, 1) else (wrap64 (Int.tdiv ((ts.getD t thr0).get b) ((ts.getD t thr0).get c)), 0) := rfl
    rw [e1, e2]
    by_cases hz : (ts.getD t thr0).get (c : Int) = 0
    · rw [if_pos hz, if_pos hz]
      exact ⟨rfl, rfl, by dsimp only; rw [set0]; exact h, Only.refl _⟩
    · rw [if_neg hz, if_neg hz]
      exact ⟨rfl, rfl, h.put ht ha _, ⟨rfl, rfl, rfl, rfl, rfl⟩⟩
  · exact ⟨rfl, rfl, h.put ht ha _, ⟨rfl, rfl, rfl, rfl, rfl⟩⟩
  · exact ⟨rfl, rfl, h.put ht ha _, ⟨rfl, rfl, rfl, rfl, rfl⟩⟩

end Go.Proofs.YtbhbacphiinpeaaGreat

/- Segments as bits, and a group's threads one after the other, by lanes; plain. -/
namespace Go.Proofs.YtbhbacphiinpeaaGreat
open Go.RowKit

def segMask (l : List Int) : Nat := l.foldl (fun m s => m ||| 2 ^ s.toNat) 0

theorem segMask_snoc (l : List Int) (s : Int) : segMask (l ++ [s]) = segMask l ||| 2 ^ s.toNat := by simp [segMask]

theorem popB_or : ∀ m : Fin 256, ∀ s : Fin 8, popB (m.1 ||| 2 ^ s.1) = popB m.1 + (if m.1.testBit s.1 then 0 else 1) := by set_option maxRecDepth 100000 in decide

theorem or_lt256 {m s : Nat} (hm : m < 256) (hs : s < 8) : m ||| 2 ^ s < 256 := Nat.or_lt_two_pow (n := 8) hm (Nat.pow_lt_pow_right (by omega) hs)

def Seg8 (l : List Int) : Prop := ∀ s ∈ l, 0 ≤ s ∧ s < 8

theorem segMask_lt {l : List Int} (h : Seg8 l) : segMask l < 256 := by
  have gen : ∀ (l : List Int) (m : Nat), Seg8 l → m < 256 → l.foldl (fun m s => m ||| 2 ^ s.toNat) m < 256 := by
    intro l
    induction l with
    | nil => intro m _ hm; exact hm
    | cons a l ih =>
      intro m h hm
      rw [List.foldl_cons]
      exact ih _ (fun s hs => h s (by simp [hs])) (or_lt256 hm (by have := h a (by simp); omega))
  exact gen l 0 h (by omega)

theorem segMask_bit (l : List Int) (h : Seg8 l) (s : Nat) (_hs : s < 8) : (segMask l).testBit s = decide ((s : Int) ∈ l) := by
  have gen : ∀ (l : List Int) (m : Nat), Seg8 l → (l.foldl (fun m s => m ||| 2 ^ s.toNat) m).testBit s = (m.testBit s || decide ((s : Int) ∈ l)) := by
    intro l
    induction l with
    | nil => intro m _; simp
    | cons a l ih =>
      intro m h
      rw [List.foldl_cons, ih _ (fun s hs => h s (by simp [hs])), Nat.testBit_or, Bool.or_assoc]
      congr 1
      rw [Nat.testBit_two_pow]
      have ha := h a (by simp)
      by_cases e : (s : Int) = a
      · subst e; simp
      · have : ¬ (a.toNat = s) := by omega
        simp [this, e]
  have := gen l 0 h
  unfold segMask
  rw [this]; simp

theorem segC_mask : ∀ (l seen : List Int), Seg8 (seen ++ l) → popB (segMask seen) + segC seen l = popB (segMask (seen ++ l))
  | [], seen, _ => by simp [segC]
  | a :: l, seen, h => by
    have hs : Seg8 seen := fun s hs => h s (by simp [hs])
    have ha := h a (by simp)
    have ih := segC_mask l (seen ++ [a]) (by rw [List.append_assoc]; exact h)
    rw [List.append_assoc] at ih
    rw [show seen ++ a :: l = seen ++ ([a] ++ l) from rfl, ← ih, segMask_snoc, segC]
    have hm := segMask_lt hs
    have hp := popB_or ⟨segMask seen, hm⟩ ⟨a.toNat, by omega⟩
    simp only at hp
    rw [hp, segMask_bit seen hs a.toNat (by omega), show ((a.toNat : Nat) : Int) = a by omega]
    by_cases e : a ∈ seen
    · simp [e]
    · simp [e]; omega

theorem segC_all {l : List Int} (h : Seg8 l) : segC [] l = popB (segMask l) := by
  have := segC_mask l [] (by simpa using h)
  simp only [List.nil_append] at this
  rw [← this]
  simp [segMask, popB]

/-- The threads of a group from lane l on. -/
def gFrom (b m l : Nat) : List Nat := ((List.range' l (4 - l)).filter fun j => m.testBit j).map fun j => b + j
theorem gFrom_zero (b m : Nat) : gFrom b m 0 = gOf b m := by
  unfold gFrom gOf lanes
  rw [List.range_eq_range']
theorem gFrom_end (b m : Nat) : gFrom b m 4 = [] := by simp [gFrom]
theorem gFrom_in {b m l : Nat} (hl : l < 4) (h : m.testBit l = true) : gFrom b m l = (b + l) :: gFrom b m (l + 1) := by
  unfold gFrom
  rw [show 4 - l = (4 - (l + 1)) + 1 by omega, List.range'_succ, List.filter_cons_of_pos h, List.map_cons]
theorem gFrom_out {b m l : Nat} (hl : l < 4) (h : m.testBit l = false) : gFrom b m l = gFrom b m (l + 1) := by
  unfold gFrom
  rw [show 4 - l = (4 - (l + 1)) + 1 by omega, List.range'_succ, List.filter_cons_of_neg (by simp [h])]

/-- What the threads from a lane on make, added to what those ahead have made. -/
def eachSum (s : List Int) (E : List Thr × List Int × List Int × Option (Int × Nat)) : List Thr × List Int × List Int × Option (Int × Nat) := (E.1, E.2.1, s ++ E.2.2.1, E.2.2.2)

def segL (ad : Int) : List Int := if 0 ≤ ad then [ad / 4] else []
theorem segMask_or (s : List Int) (ad : Int) : ((segMask (s ++ segL ad) : Nat) : Int) = ((segMask s ||| (segBit ad).toNat : Nat) : Int) := by
  unfold segL segBit
  by_cases h : 0 ≤ ad
  · rw [if_pos h, if_pos h, segMask_snoc]
    obtain ⟨q, rfl⟩ : ∃ q : Nat, ad = (q : Int) := ⟨ad.toNat, by omega⟩
    have e : ((q : Int) / 4).toNat = q / 4 := by omega
    rw [e, Int.toNat_natCast, Int.toNat_natCast]
  · rw [if_neg h, if_neg h]; simp

theorem each_step {x : Ins} {b m l : Nat} {s : List Int} {ts : List Thr} {mem : List Int} {F : List Thr × List Int × List Int × Option (Int × Nat)} (hl : l < 4) (hm : m.testBit l = true) (h : F = eachSum s (eachL x (gFrom b m l) ts mem)) (h0 : (oneP x (ts.getD (b + l) thr0) mem).1 = 0) :
    F = eachSum (s ++ segL (oneP x (ts.getD (b + l) thr0) mem).2.1) (eachL x (gFrom b m (l + 1)) (ts.set (b + l) (oneP x (ts.getD (b + l) thr0) mem).2.2.1) (oneP x (ts.getD (b + l) thr0) mem).2.2.2) := by
  rw [h, gFrom_in hl hm, eachL, if_neg (by simpa using h0)]
  unfold eachSum segL
  simp

theorem each_stop {x : Ins} {b m l : Nat} {s : List Int} {ts : List Thr} {mem : List Int} {F : List Thr × List Int × List Int × Option (Int × Nat)} (hl : l < 4) (hm : m.testBit l = true) (h : F = eachSum s (eachL x (gFrom b m l) ts mem)) (h0 : (oneP x (ts.getD (b + l) thr0) mem).1 ≠ 0) :
    F = (ts, mem, s, some ((oneP x (ts.getD (b + l) thr0) mem).1, b + l)) := by
  rw [h, gFrom_in hl hm, eachL, if_pos h0]
  unfold eachSum
  simp

end Go.Proofs.YtbhbacphiinpeaaGreat

