/- What 'coded' answers. -/
import Derived.Test.YtbhbacphiinpeaaGreatW2
import Derived.Test.YtbhbacphiinpeaaGreatD
import Derived.Test.YtbhbacphiinpeaaGreatRD
namespace Go.Proofs.YtbhbacphiinpeaaGreat
open Go.RowKit

theorem Sees.up {w w' : World} {v : Value} {l : List Ins} {B : Nat} (h : Sees w v l) (hB : w.heap.size ≤ B) (hb : Below B w w') : Sees w' v l := by
  refine ⟨h.1, ?_⟩
  rcases h.2 with h0 | ⟨b, off, cap, rfl, hlt, hc⟩
  · exact .inl h0
  · refine .inr ⟨b, off, cap, rfl, Nat.lt_of_lt_of_le hlt hb.size, fun i x hx => ?_⟩
    obtain ⟨c0, c1, c2, c3⟩ := hc i x hx
    have hbB : b < B := Nat.lt_of_lt_of_le hlt hB
    exact ⟨(hb.cell hbB).trans c0, (hb.cell hbB).trans c1, (hb.cell hbB).trans c2, (hb.cell hbB).trans c3⟩

set_option maxHeartbeats 1000000 in
set_option maxRecDepth 100000 in
theorem lawcoded_any {w : World} {vK : Value} {l : List Ins} (vw : Value) (x0 x1 x2 x3 : Int) (s : ByteArray) (aL : Option Addr) (nL cL : Nat) (h : Sees w vK l) (hp : ∀ n cap, vK = .slice none n cap → cap = 0) (hn : l.length ≤ 4398046511103) (hk : ∃ ao n c, vK = .slice ao n c) :
    Calls Tryz.prog 12 #[vw, .agg #[.int .i64 x0, .int .i64 x1, .int .i64 x2, .int .i64 x3, .string s, .slice aL nL cL, vK]] w fun e w' => e = .returned (.bool true) ∧ Below w.heap.size w w' := by
  have HS := hyd h
  have HP := hyd hp
  obtain ⟨ao, nk, ck, rfl⟩ := hk
  clear h hp
  obtain ⟨n, Hn⟩ : ∃ n, Hid (l.length = n) := ⟨_, rfl⟩
  have hn2 : n ≤ 4398046511103 := by rw [← Hn.out]; exact hn
  clear hn
  go_enter Tryz.func12, Tryz.ntmps12
  go_wp2_with fail
  have hS1 := hyd (HS.out.up (Nat.le_refl _) ((Below.refl _ w).alloc (Nat.le_refl _) (.cells #[.int .i64 x0, .int .i64 x1, .int .i64 x2, .int .i64 x3, .string s, .slice aL nL cL, .slice ao nk ck] 37)))
  refine (wide_any hS1.out HP.out (by rw [Hn.out]; exact hn2)).mono ?_
  rw [Hn.out]
  rintro e w1 ⟨g, c, rfl, hown1, hb1⟩
  have Hb01 := hyd (((Below.refl _ w).alloc (Nat.le_refl _) _).trans (hb1.mono (by simp)))
  have HS1 := hyd (HS.out.up (Nat.le_refl _) Hb01.out)
  have d6 : w1.cell? ⟨w.heap.size, 6, none⟩ = some (.slice ao nk ck) := by
    rw [hb1.cell (by simp), cell_of_row _ w.heap.size 6 _ 37 (0, 0) (heap_alloc_new w _)]; rfl
  have hown0 : w1.ownsRow (w.heap.size + 1) 92 4 (.slice (some ⟨g, 0, none⟩) n c) n (flat l) := by
    simp only [World.size_alloc] at hown1
    rw [flat_append] at hown1
    exact ownsRow_pop (by rw [flat_length, Hn.out]) hown1
  have Hc1 : Hid (Sees w1 (.slice (some ⟨g, 0, none⟩) n c) l) := ownsRow_sees (by rw [Hn.out]; omega) (by rw [Hn.out]; exact hown0)
  have Hown1 := hyd hown1
  have hsz1 : w.heap.size + 1 ≤ w1.heap.size := by have := hb1.size; simpa using this
  clear hown1 hb1 hown0 hS1
  go_wp2_with fail
  refine (Encode_any Hc1.out).mono ?_
  rintro e w2 ⟨rfl, hb2⟩
  have Hown2 := hyd (Hown1.out.keptB hb2)
  have HS2 := hyd (HS1.out.up (Nat.le_refl _) hb2)
  have e6 : w2.cell? ⟨w.heap.size, 6, none⟩ = some (.slice ao nk ck) := (hb2.cell (p := ⟨w.heap.size, 6, none⟩) (by show w.heap.size < _; omega)).trans d6
  have hsz2 : w.heap.size + 1 ≤ w2.heap.size := Nat.le_trans hsz1 hb2.size
  have Hb02 := hyd (Hb01.out.trans (hb2.mono (by omega)))
  clear hb2 d6 Hown1 Hc1
  go_wp2_with fail
  refine (still_any Hn.out hn2 Hown2.out HS2.out (by simpa using hsz2)).mono ?_
  rintro e w3 ⟨rfl, hb3⟩
  have hb3' : Below (w.heap.size + 1) w2 w3 := by simpa using hb3
  have HS3 := hyd (HS.out.up (Nat.le_refl _) (Hb02.out.trans (hb3'.mono (by omega))))
  have f6 : w3.cell? ⟨w.heap.size, 6, none⟩ = some (.slice ao nk ck) := (hb3'.cell (p := ⟨w.heap.size, 6, none⟩) (by show w.heap.size < _; omega)).trans e6
  have Hb03 := hyd (Hb02.out.trans (hb3'.mono (by omega)))
  clear hb3 hb3' e6
  go_wp2_with fail
  refine (rencode_any HS3.out).mono ?_
  rintro e w4 ⟨rfl, hb4⟩
  have Hb04 := hyd (Hb03.out.trans (hb4.mono Hb03.out.size))
  clear hb4 f6
  go_wp2
  go_ret
  exact ⟨rfl, Hb04.out⟩

end Go.Proofs.YtbhbacphiinpeaaGreat
