/- D RD X1 X2 X3: joined. -/
import Derived.Test.YtbhbacphiinpeaaGreatZ02
import Derived.Deep.AppendLies
import Derived.Test.YtbhbacphiinpeaaGreatZ05
import Derived.BigRegion
import Derived.Test.YtbhbacphiinpeaaGreatZ03
import Derived.Test.YtbhbacphiinpeaaGreatZ04
import Derived.Lib.SliceRun

/- What 'Encode' answers. -/
namespace Go.Proofs.YtbhbacphiinpeaaGreat
open Go.RowKit

theorem Tryz.info5 : (Tryz.prog.info? 5).map (fun i => (i.zero, i.size, i.bytes)) = some (some (.int .u8 0), 1, 1) := by kernel_rfl

set_option maxHeartbeats 400000 in
theorem encode_no {w : World} {v : Value} {l : List Ins} (h : Sees w v l) (he : ((chk l).1 != 0) = true) :
    Calls Tryz.prog 47 #[v] w fun e w' => e = .returned (.tuple #[.string ⟨#[]⟩, .int .i64 (chk l).1, .int .i64 (chk l).2]) ∧ Below w.heap.size w w' := by
  have Hs : Hid (Sees w v l) := h
  clear h
  go_enter Tryz.func47, Tryz.ntmps47
  go_wp2_with (go_at_call 66; refine (check_any Hs.out).mono ?_; rintro e w1 ⟨rfl, hb⟩)
  go_ret3
  exact ⟨rfl, hb⟩

set_option maxHeartbeats 400000 in
set_option maxRecDepth 100000 in
theorem encode_yes (b off n cap : Nat) (l : List Ins) (hl : l.length = n) (w : World) (hlt : b < w.heap.size) (he : chk l = (0, 0)) (h1 : 1 ≤ n) (h2 : n ≤ 40) (hok : ∀ (j : Nat) y, l[j]? = some y → okB n y = true) (hsee : Sees w (.slice (some ⟨b, off, none⟩) n cap) l)
    (hc : ∀ (i : Nat) x, l[i]? = some x → w.cell? ⟨b, off + i * 4, none⟩ = some (.int .i64 x.o) ∧ w.cell? ⟨b, off + i * 4 + 1, none⟩ = some (.int .i64 x.a) ∧ w.cell? ⟨b, off + i * 4 + 2, none⟩ = some (.int .i64 x.b) ∧ w.cell? ⟨b, off + i * 4 + 3, none⟩ = some (.int .i64 x.c)) :
    Calls Tryz.prog 47 #[.slice (some ⟨b, off, none⟩) n cap] w fun e w' => e = .returned (.tuple #[.string (strOfNums (nums l)), .int .i64 0, .int .i64 0]) ∧ Below w.heap.size w w' := by
  have Hs : Hid (Sees w (.slice (some ⟨b, off, none⟩) n cap) l) := hsee
  have Hl : Hid (l.length = n) := hl
  have Hok : Hid (∀ (j : Nat) y, l[j]? = some y → okB n y = true) := hok
  have Hc : Hid (∀ (i : Nat) x, l[i]? = some x → w.cell? ⟨b, off + i * 4, none⟩ = some (.int .i64 x.o) ∧ w.cell? ⟨b, off + i * 4 + 1, none⟩ = some (.int .i64 x.a) ∧ w.cell? ⟨b, off + i * 4 + 2, none⟩ = some (.int .i64 x.b) ∧ w.cell? ⟨b, off + i * 4 + 3, none⟩ = some (.int .i64 x.c)) := hc
  have He : Hid (chk l = (0, 0)) := he
  clear hsee hl hok hc he
  obtain ⟨i0, hi, hz0, hz1, hz2⟩ := info_parts Tryz.info5
  go_enter Tryz.func47, Tryz.ntmps47
  go_wp2_with (go_at_call 66; refine (check_any Hs.out).mono ?_; rw [He.out]; rintro e w1 ⟨rfl, hb1⟩)
  go_loopw [7, 21] (fun v i wr => ∃ k : Nat, k ≤ n ∧ i = .int .i64 k ∧ wr.ownsRow w.heap.size 5 1 v (4 * k) ((nums (l.take k)).map (Value.int .u8)) ∧ Below w.heap.size w wr) (fun _ i _ => n - (intOf i).toNat)
  case atStart => exact ⟨0, Nat.zero_le _, rfl, World.ownsRow_nil _ _ _ _, hb1⟩
  case round =>
    obtain ⟨k, hk, rfl, hown, hb⟩ := hrel
    by_cases hkn : k < n
    · obtain ⟨x, hx⟩ : ∃ x, l[k]? = some x := ⟨_, List.getElem?_eq_getElem (by rw [Hl.out]; exact hkn)⟩
      obtain ⟨c0, c1, c2, c3⟩ := Hc.out k x hx
      have d0 := (hb.cell (p := ⟨b, off + k * 4, none⟩) hlt).trans c0
      have d1 := (hb.cell (p := ⟨b, off + k * 4 + 1, none⟩) hlt).trans c1
      have d2 := (hb.cell (p := ⟨b, off + k * 4 + 2, none⟩) hlt).trans c2
      have d3 := (hb.cell (p := ⟨b, off + k * 4 + 3, none⟩) hlt).trans c3
      obtain ⟨⟨b1, b2⟩, ⟨b3, b4⟩, ⟨b5, b6⟩, ⟨b7, b8⟩⟩ := okB_bd (by omega) (Hok.out k x hx)
      have hsn := nums_snoc hx
      have Hsn : Hid (nums (l.take (k + 1)) = nums (l.take k) ++ x.nums) := hsn
      clear c0 c1 c2 c3 hsn hx
      go_wp2_with (first | (at_builtin; go_must (refine wpList_append_own _ rfl _ _ 97 rfl w.heap.size 5 i0 (.int .u8 0) 1 1 Tryz.underlying97 hi hz0 hz1 hz2 rfl (by decide) u7 (4 * k) ((nums (l.take k)).map (Value.int .u8)) rfl ?c0 ⟨wr.heap.size + 1, 0, none⟩ 4 4 (x.nums.map (Value.int .u8)) rfl rfl ?c1 ?c2 ?c3 ?c4 ?c5 ?_)) | go_in)
      case c0 => exact (hown.alloc _).alloc _
      case c1 => exact World.news_of_block (heap_alloc2_new wr _ _)
      case c2 => intro u hu; obtain ⟨z, -, rfl⟩ := List.mem_map.1 hu; rfl
      case c3 => unfold maxLen; omega
      case c4 => omega
      case c5 => have := hb.size; simp; omega
      · intro v' w2 hown' hgrow _
        have hb' : Below w.heap.size w w2 := ((hb.alloc hb.size _).alloc (by have := hb.size; simp; omega) _).grown hgrow (by have := hb.size; simp; omega) (fun g hg => (hown.lt g hg).1)
        rw [← List.map_append, ← Hsn.out, show 4 * k + 4 = 4 * (k + 1) by omega] at hown'
        clear hgrow hown d0 d1 d2 d3 b1 b2 b3 b4 b5 b6 b7 b8
        go_wp2
        go_roundw
        case rel => exact ⟨k + 1, by omega, by go_num, hown', hb'⟩
        case measure => simp [intOf]; omega
    · have e : k = n := by omega
      subst e
      rw [List.take_of_length_le (by rw [Hl.out]; exact Nat.le_refl _)] at hown
      obtain ⟨g, cp, hv, -, -⟩ := hown.form (by omega)
      subst hv
      have hcv := run_convert_bytes_arg (P := Tryz.prog) wr 97 5 Tryz.underlying97 Tryz.underlying5 g 0 (4 * k) cp (nums l) (by rw [nums_length, Hl.out]) (fun i hi => by
        rw [Nat.zero_add, hown.cellAt i (by omega), List.getElem?_map, List.getElem?_eq_getElem (by rw [nums_length, Hl.out]; exact hi), List.getD_eq_getElem?_getD, List.getElem?_eq_getElem (by rw [nums_length, Hl.out]; exact hi)]; rfl) 9 Tryz.underlying9
      clear hown
      go_wp2
      go_ret3
      exact ⟨rfl, hb⟩

/-- For whatever list of instructions the slice reads as. -/
theorem encode_any {w : World} {v : Value} {l : List Ins} (h : Sees w v l) :
    Calls Tryz.prog 47 #[v] w fun e w' => e = .returned (.tuple #[.string (encR l), .int .i64 (chk l).1, .int .i64 (chk l).2]) ∧ Below w.heap.size w w' := by
  by_cases he : (chk l).1 = 0
  · obtain ⟨h0, h1, h2, h3⟩ := chk_zero he
    have hr : encR l = strOfNums (nums l) := by unfold encR; rw [if_pos he]
    rw [hr, h0]
    obtain ⟨hm, h'⟩ := id h
    rcases h' with ⟨rfl, -⟩ | ⟨b, off, cap, rfl, hlt, hc⟩
    · simp at h1
    · exact encode_yes b off l.length cap l rfl w hlt h0 h1 h2 h3 h hc
  · have hr : encR l = ⟨#[]⟩ := by unfold encR; rw [if_neg he]
    rw [hr]
    exact encode_no h (by simpa using he)

set_option maxHeartbeats 400000 in
theorem Encode_any {w : World} {v : Value} {l : List Ins} (h : Sees w v l) :
    Calls Tryz.prog 22 #[v] w fun e w' => e = .returned (.tuple #[.string (encR l), .int .i64 (chk l).1, .int .i64 (chk l).2]) ∧ Below w.heap.size w w' := by
  have Hs : Hid (Sees w v l) := h
  clear h
  go_enter Tryz.func22, Tryz.ntmps22
  go_wp2_with (go_at_call 47; refine (encode_any Hs.out).mono ?_; rintro e w1 ⟨rfl, hb⟩)
  go_ret3
  exact ⟨rfl, hb⟩

end Go.Proofs.YtbhbacphiinpeaaGreat

/- What the document's 'Encode' answers. -/
namespace Go.Proofs.YtbhbacphiinpeaaGreat
open Go.RowKit

theorem strOfNums_append (a b : List Int) : strOfNums a ++ strOfNums b = strOfNums (a ++ b) := by
  apply ByteArray.ext
  simp [strOfNums]

set_option maxHeartbeats 400000 in
theorem rencode_no {w : World} {v : Value} {l : List Ins} (h : Sees w v l) (he : ((chk l).1 != 0) = true) :
    Calls Tryz.prog 24 #[v] w fun e w' => e = .returned (.tuple #[.string ⟨#[]⟩, .int .i64 (chk l).1, .int .i64 (chk l).2]) ∧ Below w.heap.size w w' := by
  have Hs : Hid (Sees w v l) := h
  clear h
  go_enter Tryz.func24, Tryz.ntmps24
  go_wp2_with (go_at_call 48; refine (rcheck_any Hs.out).mono ?_; rintro e w1 ⟨rfl, hb⟩)
  go_ret3
  exact ⟨rfl, hb⟩

set_option maxHeartbeats 1000000 in
set_option maxRecDepth 100000 in
theorem rencode_yes (b off n cap : Nat) (l : List Ins) (hl : l.length = n) (w : World) (hlt : b < w.heap.size) (he : chk l = (0, 0)) (h1 : 1 ≤ n) (h2 : n ≤ 40) (hok : ∀ (j : Nat) y, l[j]? = some y → okB n y = true) (hsee : Sees w (.slice (some ⟨b, off, none⟩) n cap) l)
    (hc : ∀ (i : Nat) x, l[i]? = some x → w.cell? ⟨b, off + i * 4, none⟩ = some (.int .i64 x.o) ∧ w.cell? ⟨b, off + i * 4 + 1, none⟩ = some (.int .i64 x.a) ∧ w.cell? ⟨b, off + i * 4 + 2, none⟩ = some (.int .i64 x.b) ∧ w.cell? ⟨b, off + i * 4 + 3, none⟩ = some (.int .i64 x.c)) :
    Calls Tryz.prog 24 #[.slice (some ⟨b, off, none⟩) n cap] w fun e w' => e = .returned (.tuple #[.string (strOfNums (nums l)), .int .i64 0, .int .i64 0]) ∧ Below w.heap.size w w' := by
  have Hs : Hid (Sees w (.slice (some ⟨b, off, none⟩) n cap) l) := hsee
  have Hl : Hid (l.length = n) := hl
  have Hok : Hid (∀ (j : Nat) y, l[j]? = some y → okB n y = true) := hok
  have Hc : Hid (∀ (i : Nat) x, l[i]? = some x → w.cell? ⟨b, off + i * 4, none⟩ = some (.int .i64 x.o) ∧ w.cell? ⟨b, off + i * 4 + 1, none⟩ = some (.int .i64 x.a) ∧ w.cell? ⟨b, off + i * 4 + 2, none⟩ = some (.int .i64 x.b) ∧ w.cell? ⟨b, off + i * 4 + 3, none⟩ = some (.int .i64 x.c)) := hc
  have He : Hid (chk l = (0, 0)) := he
  clear hsee hl hok hc he
  go_enter Tryz.func24, Tryz.ntmps24
  go_wp2_with (go_at_call 48; refine (rcheck_any Hs.out).mono ?_; rw [He.out]; rintro e w1 ⟨rfl, hb1⟩)
  go_loopw [7, 8] (fun s i wr => ∃ k : Nat, ∃ t : ByteArray, k ≤ n ∧ i = .int .i64 k ∧ s = .string t ∧ t = strOfNums (nums (l.take k)) ∧ Below w.heap.size w wr) (fun _ i _ => n - (intOf i).toNat)
  case atStart => exact ⟨0, ⟨#[]⟩, Nat.zero_le _, rfl, rfl, rfl, hb1⟩
  case round =>
    obtain ⟨k, t, hk, rfl, rfl, ht, hb⟩ := hrel
    have Ht : Hid (t = strOfNums (nums (l.take k))) := ht
    have hts : t.size ≤ 160 := by
      rw [ht, strOfNums_size, nums_length]; have := List.length_take_le k l; omega
    clear ht
    by_cases hkn : k < n
    · obtain ⟨x, hx⟩ : ∃ x, l[k]? = some x := ⟨_, List.getElem?_eq_getElem (by rw [Hl.out]; exact hkn)⟩
      obtain ⟨c0, c1, c2, c3⟩ := Hc.out k x hx
      have d0 := (hb.cell (p := ⟨b, off + k * 4, none⟩) hlt).trans c0
      have d1 := (hb.cell (p := ⟨b, off + k * 4 + 1, none⟩) hlt).trans c1
      have d2 := (hb.cell (p := ⟨b, off + k * 4 + 2, none⟩) hlt).trans c2
      have d3 := (hb.cell (p := ⟨b, off + k * 4 + 3, none⟩) hlt).trans c3
      obtain ⟨⟨b1, b2⟩, ⟨b3, b4⟩, ⟨b5, b6⟩, ⟨b7, b8⟩⟩ := okB_bd (by omega) (Hok.out k x hx)
      have Hsn : Hid (nums (l.take (k + 1)) = nums (l.take k) ++ x.nums) := nums_snoc hx
      have i1 : (0 : Int) ≤ (k : Int) := by omega
      have i2 : (k : Int) < (n : Int) := by omega
      have hcv : (convert 97 9 (.slice (some ⟨wr.heap.size, 0, none⟩) 4 4)).run Tryz.prog (wr.alloc (.cells #[.int .u8 x.o, .int .u8 x.a, .int .u8 x.b, .int .u8 x.c] 5)).drew = .ok (.string (strOfNums x.nums)) (wr.alloc (.cells #[.int .u8 x.o, .int .u8 x.a, .int .u8 x.b, .int .u8 x.c] 5)).drew :=
        run_convert_bytes_arg (P := Tryz.prog) _ 97 5 Tryz.underlying97 Tryz.underlying5 wr.heap.size 0 4 4 x.nums rfl (fun i hi => by
          have hc := cell_of_row (wr.alloc (.cells #[.int .u8 x.o, .int .u8 x.a, .int .u8 x.b, .int .u8 x.c] 5)).drew wr.heap.size (0 + i) _ 5 (0, 0) (heap_alloc_new wr _)
          rw [hc]
          match i, hi with
          | 0, _ => rfl
          | 1, _ => rfl
          | 2, _ => rfl
          | 3, _ => rfl) 9 Tryz.underlying9
      obtain ⟨u, hu⟩ : ∃ u, u = strOfNums x.nums := ⟨_, rfl⟩
      rw [← hu] at hcv
      have hus : u.size ≤ 4 := by rw [hu, strOfNums_size]; simp [Ins.nums]
      have Hu : Hid (u = strOfNums x.nums) := hu
      clear c0 c1 c2 c3 hx hu
      go_wp2_with fail
      go_region
      go_wp2
      go_roundw
      case rel => exact ⟨k + 1, t ++ u, by omega, by go_num, rfl, by rw [Ht.out, Hu.out, Hsn.out, strOfNums_append], (hb.alloc hb.size _).drew⟩
      case measure => simp [intOf]; omega
    · have e : k = n := by omega
      subst e
      go_wp2
      go_ret3
      refine ⟨?_, hb⟩
      have e2 := Ht.out
      rw [List.take_of_length_le (by rw [Hl.out]; exact Nat.le_refl _)] at e2
      rw [← e2]
      rfl

/-- For whatever list of instructions the slice reads as. -/
theorem rencode_any {w : World} {v : Value} {l : List Ins} (h : Sees w v l) :
    Calls Tryz.prog 24 #[v] w fun e w' => e = .returned (.tuple #[.string (encR l), .int .i64 (chk l).1, .int .i64 (chk l).2]) ∧ Below w.heap.size w w' := by
  by_cases he : (chk l).1 = 0
  · obtain ⟨h0, h1, h2, h3⟩ := chk_zero he
    have hr : encR l = strOfNums (nums l) := by unfold encR; rw [if_pos he]
    rw [hr, h0]
    obtain ⟨hm, h'⟩ := id h
    rcases h' with ⟨rfl, -⟩ | ⟨b, off, cap, rfl, hlt, hc⟩
    · simp at h1
    · exact rencode_yes b off l.length cap l rfl w hlt h0 h1 h2 h3 h hc
  · have hr : encR l = ⟨#[]⟩ := by unfold encR; rw [if_neg he]
    rw [hr]
    exact rencode_no h (by simpa using he)

end Go.Proofs.YtbhbacphiinpeaaGreat

/- What 'coded' answers. -/
namespace Go.Proofs.YtbhbacphiinpeaaGreat
open Go.RowKit

theorem Sees.up {w w' : World} {v : Value} {l : List Ins} {B : Nat} (h : Sees w v l) (hB : w.heap.size ≤ B) (hb : Below B w w') : Sees w' v l := by
  refine ⟨h.1, ?_⟩
  rcases h.2 with h0 | ⟨b, off, cap, rfl, hlt, hc⟩
  · exact .inl h0
  · refine .inr ⟨b, off, cap, rfl, Nat.lt_of_lt_of_le hlt hb.size, fun i x hx => ?_⟩
    obtain ⟨c0, c1, c2, c3⟩ := hc i x hx
    have hbB : b < B := Nat.lt_of_lt_of_le hlt hB
    exact ⟨(hb.cell hbB).trans c0, (hb.cell hbB).trans c1, (hb.cell hbB).trans c2, (hb.cell hbB).trans c3⟩

set_option maxHeartbeats 1000000 in
set_option maxRecDepth 100000 in
theorem lawcoded_any {w : World} {vK : Value} {l : List Ins} (vw : Value) (x0 x1 x2 x3 : Int) (s : ByteArray) (aL : Option Addr) (nL cL : Nat) (h : Sees w vK l) (hp : ∀ n cap, vK = .slice none n cap → cap = 0) (hn : l.length ≤ 4398046511103) (hk : ∃ ao n c, vK = .slice ao n c) :
    Calls Tryz.prog 12 #[vw, .agg #[.int .i64 x0, .int .i64 x1, .int .i64 x2, .int .i64 x3, .string s, .slice aL nL cL, vK]] w fun e w' => e = .returned (.bool true) ∧ Below w.heap.size w w' := by
  have HS := hyd h
  have HP := hyd hp
  obtain ⟨ao, nk, ck, rfl⟩ := hk
  clear h hp
  obtain ⟨n, Hn⟩ : ∃ n, Hid (l.length = n) := ⟨_, rfl⟩
  have hn2 : n ≤ 4398046511103 := by rw [← Hn.out]; exact hn
  clear hn
  go_enter Tryz.func12, Tryz.ntmps12
  go_wp2_with fail
  have hS1 := hyd (HS.out.up (Nat.le_refl _) ((Below.refl _ w).alloc (Nat.le_refl _) (.cells #[.int .i64 x0, .int .i64 x1, .int .i64 x2, .int .i64 x3, .string s, .slice aL nL cL, .slice ao nk ck] 37)))
  refine (wide_any hS1.out HP.out (by rw [Hn.out]; exact hn2)).mono ?_
  rw [Hn.out]
  rintro e w1 ⟨g, c, rfl, hown1, hb1⟩
  have Hb01 := hyd (((Below.refl _ w).alloc (Nat.le_refl _) _).trans (hb1.mono (by simp)))
  have HS1 := hyd (HS.out.up (Nat.le_refl _) Hb01.out)
  have d6 : w1.cell? ⟨w.heap.size, 6, none⟩ = some (.slice ao nk ck) := by
    rw [hb1.cell (by simp), cell_of_row _ w.heap.size 6 _ 37 (0, 0) (heap_alloc_new w _)]; rfl
  have hown0 : w1.ownsRow (w.heap.size + 1) 92 4 (.slice (some ⟨g, 0, none⟩) n c) n (flat l) := by
    simp only [World.size_alloc] at hown1
    rw [flat_append] at hown1
    exact ownsRow_pop (by rw [flat_length, Hn.out]) hown1
  have Hc1 : Hid (Sees w1 (.slice (some ⟨g, 0, none⟩) n c) l) := ownsRow_sees (by rw [Hn.out]; omega) (by rw [Hn.out]; exact hown0)
  have Hown1 := hyd hown1
  have hsz1 : w.heap.size + 1 ≤ w1.heap.size := by have := hb1.size; simpa using this
  clear hown1 hb1 hown0 hS1
  go_wp2_with fail
  refine (Encode_any Hc1.out).mono ?_
  rintro e w2 ⟨rfl, hb2⟩
  have Hown2 := hyd (Hown1.out.keptB hb2)
  have HS2 := hyd (HS1.out.up (Nat.le_refl _) hb2)
  have e6 : w2.cell? ⟨w.heap.size, 6, none⟩ = some (.slice ao nk ck) := (hb2.cell (p := ⟨w.heap.size, 6, none⟩) (by show w.heap.size < _; omega)).trans d6
  have hsz2 : w.heap.size + 1 ≤ w2.heap.size := Nat.le_trans hsz1 hb2.size
  have Hb02 := hyd (Hb01.out.trans (hb2.mono (by omega)))
  clear hb2 d6 Hown1 Hc1
  go_wp2_with fail
  refine (still_any Hn.out hn2 Hown2.out HS2.out (by simpa using hsz2)).mono ?_
  rintro e w3 ⟨rfl, hb3⟩
  have hb3' : Below (w.heap.size + 1) w2 w3 := by simpa using hb3
  have HS3 := hyd (HS.out.up (Nat.le_refl _) (Hb02.out.trans (hb3'.mono (by omega))))
  have f6 : w3.cell? ⟨w.heap.size, 6, none⟩ = some (.slice ao nk ck) := (hb3'.cell (p := ⟨w.heap.size, 6, none⟩) (by show w.heap.size < _; omega)).trans e6
  have Hb03 := hyd (Hb02.out.trans (hb3'.mono (by omega)))
  clear hb3 hb3' e6
  go_wp2_with fail
  refine (rencode_any HS3.out).mono ?_
  rintro e w4 ⟨rfl, hb4⟩
  have Hb04 := hyd (Hb03.out.trans (hb4.mono Hb03.out.size))
  clear hb4 f6
  go_wp2
  go_ret
  exact ⟨rfl, Hb04.out⟩

end Go.Proofs.YtbhbacphiinpeaaGreat

/- What 'decoded' answers and keeps. -/
namespace Go.Proofs.YtbhbacphiinpeaaGreat
open Go.RowKit

theorem decL_len (s : ByteArray) : (decL s).length ≤ 40 := by
  unfold decL
  by_cases h : (dchk s).1 = 0
  · rw [if_pos h, unp_length]
    unfold dchk at h
    by_cases h2 : s.size % 4 ≠ 0 ∨ 160 < s.size
    · rw [if_pos h2] at h; simp at h
    · omega
  · rw [if_neg h]; simp

set_option maxHeartbeats 1000000 in
set_option maxRecDepth 100000 in
theorem lawdecoded_any {w : World} {B BW : Nat} {es : List Ent} (x0 x1 x2 x3 : Int) (s : ByteArray) (aL : Option Addr) (nL cL : Nat) (aK : Option Addr) (nK cK : Nat) (hs : s.size ≤ 140737488355328) (h : Inv w B BW es) (hes : es.length ≤ 1759218604000) (hB : B ≤ w.heap.size) :
    Calls Tryz.prog 13 #[.pointer (some ⟨BW, 0, none⟩), .agg #[.int .i64 x0, .int .i64 x1, .int .i64 x2, .int .i64 x3, .string s, .slice aL nL cL, .slice aK nK cK]] w fun e w' => e = .returned (.bool true) ∧ (∃ en, Inv w' w'.heap.size BW (es ++ [en])) ∧ Below BW w w' := by
  have H := hyd h
  have hBW : BW < B := by obtain ⟨_, _, _, _, h4, _⟩ := h; exact h4
  clear h
  have HL := hyd (decL_len s)
  have hnilq : ∀ (wx : World) (a : Option Addr) (n c : Nat), (binOp .eql 35 (.slice a n c) (.slice none 0 0)).run Tryz.prog wx = .ok (.bool a.isNone) wx := fun wx a n c => Lib.run_eql_slice_nil (P := Tryz.prog) wx 35 92 a n c 0 0 Tryz.underlying35
  have I0 : Hid (Inv (w.alloc (.cells #[.int .i64 x0, .int .i64 x1, .int .i64 x2, .int .i64 x3, .string s, .slice aL nL cL, .slice aK nK cK] 37)) (w.heap.size + 1) BW es) := (H.out.up ((Below.refl B w).alloc hB _)).wide (by omega)
  go_enter Tryz.func13, Tryz.ntmps13
  go_wp2_with fail
  refine (Decode_any s hs _).mono ?_
  rintro e w1 ⟨v, rfl, hb1, hown1, hnil⟩
  simp only [World.size_alloc] at hb1 hown1
  obtain ⟨n, Hn⟩ : ∃ n, Hid ((decL s).length = n) := ⟨_, rfl⟩
  rw [Hn.out] at hown1
  have hn40 : n ≤ 40 := by rw [← Hn.out]; exact HL.out
  have hv : ∃ ao cap, v = .slice ao n cap := by
    rcases hown1.2 with ⟨rfl, h0⟩ | ⟨g, cap, cur, rfl, -⟩
    · exact ⟨none, 0, by rw [h0]⟩
    · exact ⟨_, cap, rfl⟩
  obtain ⟨va, vcap, rfl⟩ := hv
  have Hown1 := hyd hown1
  have HN := hyd hnil
  have HB1 := hyd hb1
  have d4 : w1.cell? ⟨w.heap.size, 4, none⟩ = some (.string s) := by
    rw [hb1.cell (by simp), cell_of_row _ w.heap.size 4 _ 37 (0, 0) (heap_alloc_new w _)]; rfl
  have hsz1 : w.heap.size + 1 ≤ w1.heap.size := by have := hb1.size; simpa using this
  clear hown1 hnil hb1
  go_wp2_with fail
  refine (rdecode_any s hs _).mono ?_
  rintro e w2 ⟨v2, rfl, hb2, hown2⟩
  rw [Hn.out] at hown2
  have hv2 : ∃ ao cap, v2 = .slice ao n cap := by
    rcases hown2.2 with ⟨rfl, h0⟩ | ⟨g, cap, cur, rfl, -⟩
    · exact ⟨none, 0, by rw [h0]⟩
    · exact ⟨_, cap, rfl⟩
  obtain ⟨va2, vcap2, rfl⟩ := hv2
  have Hown12 := hyd (Hown1.out.keptB hb2)
  have HS1 : Hid (Sees w2 (.slice va n vcap) (decL s)) := ownsRow_sees (by rw [Hn.out]; omega) (by rw [Hn.out]; exact Hown12.out)
  have HS2 : Hid (Sees w2 (.slice va2 n vcap2) (decL s)) := ownsRow_sees (by rw [Hn.out]; omega) (by rw [Hn.out]; exact hown2)
  have HB2 := hyd (HB1.out.trans (hb2.mono hsz1))
  clear hown2 hb2 d4 Hown1
  go_wp2_with fail
  refine (same_any HS1.out HS2.out).mono ?_
  rintro e w3 ⟨rfl, hb3⟩
  have Hown3 := hyd (Hown12.out.keptB hb3)
  have HB3 := hyd (HB2.out.trans (hb3.mono (by have := HB2.out.size; simpa using this)))
  have hsz3 : w.heap.size + 1 ≤ w3.heap.size := by have := HB3.out.size; simpa using this
  have I3 : Hid (Inv w3 (w.heap.size + 1) BW es) := I0.out.up HB3.out
  clear hb3 Hown12 HS1 HS2
  go_wp2_with fail
  refine (own_any I3.out hes hsz3 Hown3.out hn40).mono ?_
  rintro e w4 ⟨rfl, hI4, hb4⟩
  have HI4 := hyd hI4
  have HB4 : Hid (Below BW w w4) := (((Below.refl BW w).alloc (by omega) _).trans (HB3.out.mono (by omega))).trans hb4
  clear hI4 hb4
  by_cases h0 : (dchk s).1 = 0
  · have g0 : ((dchk s).1 == 0) = true := by rw [h0]; rfl
    clear h0
    go_wp2
    go_ret
    exact ⟨rfl, HI4.out, HB4.out⟩
  · have g0 : ((dchk s).1 == 0) = false := beq_eq_false_iff_ne.2 h0
    have hv0 := HN.out h0
    simp only [Value.slice.injEq] at hv0
    obtain ⟨e1, e2, e3⟩ := hv0
    subst e1
    clear h0 e2 e3
    go_wp2
    go_ret
    exact ⟨rfl, HI4.out, HB4.out⟩

end Go.Proofs.YtbhbacphiinpeaaGreat

/- What 'step' answers and keeps, of an Encode and of a Decode. -/
namespace Go.Proofs.YtbhbacphiinpeaaGreat
open Go.RowKit

/-- A step of a script, as it lies in memory. -/
structure Opv where
  k : Int
  a : Int
  b : Int
  c : Int
  s : ByteArray
  la : Option Addr
  ln : Nat
  lc : Nat
  ka : Option Addr
  kn : Nat
  kc : Nat

abbrev Opv.agg (o : Opv) : Value := .agg #[.int .i64 o.k, .int .i64 o.a, .int .i64 o.b, .int .i64 o.c, .string o.s, .slice o.la o.ln o.lc, .slice o.ka o.kn o.kc]

/-- What is known of a step that came in. -/
def OpOk (w : World) (o : Opv) : Prop := o.s.size ≤ 140737488355328 ∧ (∀ n cap, Value.slice o.ka o.kn o.kc = .slice none n cap → cap = 0) ∧ ∃ l, l.length ≤ 4398046511103 ∧ Sees w (.slice o.ka o.kn o.kc) l

theorem OpOk.up {w w' : World} {o : Opv} {B : Nat} (h : OpOk w o) (hB : w.heap.size ≤ B) (hb : Below B w w') : OpOk w' o := by
  obtain ⟨h1, h2, l, h3, h4⟩ := h
  exact ⟨h1, h2, l, h3, h4.up hB hb⟩

set_option maxHeartbeats 1000000 in
set_option maxRecDepth 100000 in
theorem step_one {w : World} {B BW : Nat} {es : List Ent} (x1 x2 x3 : Int) (s : ByteArray) (la : Option Addr) (ln lc : Nat) (ka : Option Addr) (kn kc : Nat) (l : List Ins)
    (hl : l.length ≤ 4398046511103) (hp : ∀ n cap, Value.slice ka kn kc = .slice none n cap → cap = 0) (hS : Sees w (.slice ka kn kc) l) (h : Inv w B BW es) (hB : B ≤ w.heap.size) :
    Calls Tryz.prog 10 #[.pointer (some ⟨BW, 0, none⟩), .agg #[.int .i64 1, .int .i64 x1, .int .i64 x2, .int .i64 x3, .string s, .slice la ln lc, .slice ka kn kc]] w fun e w' => e = .returned (.bool true) ∧ (∃ es', Inv w' w'.heap.size BW es' ∧ es'.length ≤ es.length + 1) ∧ Below BW w w' := by
  have H := hyd h
  have HP := hyd hp
  have HS := hyd (hS.up (Nat.le_refl _) ((Below.refl _ w).alloc (Nat.le_refl _) (.cells #[.int .i64 1, .int .i64 x1, .int .i64 x2, .int .i64 x3, .string s, .slice la ln lc, .slice ka kn kc] 37)))
  have hBW : BW < B := by obtain ⟨_, _, _, _, h4, _⟩ := h; exact h4
  clear h hp hS
  go_enter Tryz.func10, Tryz.ntmps10
  go_wp2_with fail
  refine (lawcoded_any _ _ _ _ _ _ _ _ _ HS.out HP.out hl ⟨_, _, _, rfl⟩).mono ?_
  rintro e w1 ⟨rfl, hb1⟩
  have HB : Hid (Below B w w1) := ((Below.refl B w).alloc hB _).trans (hb1.mono (by simp; omega))
  clear hb1
  go_wp2
  go_ret
  exact ⟨rfl, ⟨es, (H.out.up HB.out).wide (Nat.le_trans hB HB.out.size), by omega⟩, HB.out.mono (by omega)⟩

set_option maxHeartbeats 1000000 in
set_option maxRecDepth 100000 in
theorem step_two {w : World} {B BW : Nat} {es : List Ent} (x1 x2 x3 : Int) (s : ByteArray) (la : Option Addr) (ln lc : Nat) (ka : Option Addr) (kn kc : Nat)
    (hs : s.size ≤ 140737488355328) (h : Inv w B BW es) (hes : es.length ≤ 1759218604000) (hB : B ≤ w.heap.size) :
    Calls Tryz.prog 10 #[.pointer (some ⟨BW, 0, none⟩), .agg #[.int .i64 2, .int .i64 x1, .int .i64 x2, .int .i64 x3, .string s, .slice la ln lc, .slice ka kn kc]] w fun e w' => e = .returned (.bool true) ∧ (∃ es', Inv w' w'.heap.size BW es' ∧ es'.length ≤ es.length + 1) ∧ Below BW w w' := by
  have hBW : BW < B := by obtain ⟨_, _, _, _, h4, _⟩ := h; exact h4
  have H := hyd (h.up ((Below.refl B w).alloc hB (.cells #[.int .i64 2, .int .i64 x1, .int .i64 x2, .int .i64 x3, .string s, .slice la ln lc, .slice ka kn kc] 37)))
  clear h
  go_enter Tryz.func10, Tryz.ntmps10
  go_wp2_with fail
  refine (lawdecoded_any _ _ _ _ _ _ _ _ _ _ _ hs H.out hes (by simp; omega)).mono ?_
  rintro e w1 ⟨rfl, ⟨en, hI⟩, hb1⟩
  have HI := hyd hI
  have HB : Hid (Below BW w w1) := ((Below.refl BW w).alloc (by omega) _).trans hb1
  clear hb1 hI
  go_wp2
  go_ret
  exact ⟨rfl, ⟨es ++ [en], HI.out, by simp⟩, HB.out⟩

theorem step_any {w : World} {B BW : Nat} {es : List Ent} {o : Opv} (ho : OpOk w o) (hk : o.k = 1 ∨ o.k = 2) (h : Inv w B BW es) (hes : es.length ≤ 1759218604000) (hB : B ≤ w.heap.size) :
    Calls Tryz.prog 10 #[.pointer (some ⟨BW, 0, none⟩), o.agg] w fun e w' => e = .returned (.bool true) ∧ (∃ es', Inv w' w'.heap.size BW es' ∧ es'.length ≤ es.length + 1) ∧ Below BW w w' := by
  obtain ⟨k, a, b, c, s, la, ln, lc, ka, kn, kc⟩ := o
  obtain ⟨h1, h2, l, h3, h4⟩ := ho
  rcases hk with hk | hk
  · dsimp only at hk
    subst hk
    exact step_one a b c s la ln lc ka kn kc l h3 h2 h4 h hB
  · dsimp only at hk
    subst hk
    exact step_two a b c s la ln lc ka kn kc h1 h hes hB

end Go.Proofs.YtbhbacphiinpeaaGreat

