/- What the document's 'Encode' answers. -/
import Derived.Test.YtbhbacphiinpeaaGreatRB
import Derived.Test.YtbhbacphiinpeaaGreatEnc
import Derived.Deep.AppendLies
import Derived.BigRegion
namespace Go.Proofs.YtbhbacphiinpeaaGreat
open Go.RowKit

theorem strOfNums_append (a b : List Int) : strOfNums a ++ strOfNums b = strOfNums (a ++ b) := by
  apply ByteArray.ext
  simp [strOfNums]

set_option maxHeartbeats 400000 in
theorem rencode_no {w : World} {v : Value} {l : List Ins} (h : Sees w v l) (he : ((chk l).1 != 0) = true) :
    Calls Tryz.prog 24 #[v] w fun e w' => e = .returned (.tuple #[.string ⟨#[]⟩, .int .i64 (chk l).1, .int .i64 (chk l).2]) ∧ Below w.heap.size w w' := by
  have Hs : Hid (Sees w v l) := h
  clear h
  go_enter Tryz.func24, Tryz.ntmps24
  go_wp2_with (go_at_call 48; refine (rcheck_any Hs.out).mono ?_; rintro e w1 ⟨rfl, hb⟩)
  go_ret3
  exact ⟨rfl, hb⟩

set_option maxHeartbeats 1000000 in
set_option maxRecDepth 100000 in
theorem rencode_yes (b off n cap : Nat) (l : List Ins) (hl : l.length = n) (w : World) (hlt : b < w.heap.size) (he : chk l = (0, 0)) (h1 : 1 ≤ n) (h2 : n ≤ 40) (hok : ∀ (j : Nat) y, l[j]? = some y → okB n y = true) (hsee : Sees w (.slice (some ⟨b, off, none⟩) n cap) l)
    (hc : ∀ (i : Nat) x, l[i]? = some x → w.cell? ⟨b, off + i * 4, none⟩ = some (.int .i64 x.o) ∧ w.cell? ⟨b, off + i * 4 + 1, none⟩ = some (.int .i64 x.a) ∧ w.cell? ⟨b, off + i * 4 + 2, none⟩ = some (.int .i64 x.b) ∧ w.cell? ⟨b, off + i * 4 + 3, none⟩ = some (.int .i64 x.c)) :
    Calls Tryz.prog 24 #[.slice (some ⟨b, off, none⟩) n cap] w fun e w' => e = .returned (.tuple #[.string (strOfNums (nums l)), .int .i64 0, .int .i64 0]) ∧ Below w.heap.size w w' := by
  have Hs : Hid (Sees w (.slice (some ⟨b, off, none⟩) n cap) l) := hsee
  have Hl : Hid (l.length = n) := hl
  have Hok : Hid (∀ (j : Nat) y, l[j]? = some y → okB n y = true) := hok
  have Hc : Hid (∀ (i : Nat) x, l[i]? = some x → w.cell? ⟨b, off + i * 4, none⟩ = some (.int .i64 x.o) ∧ w.cell? ⟨b, off + i * 4 + 1, none⟩ = some (.int .i64 x.a) ∧ w.cell? ⟨b, off + i * 4 + 2, none⟩ = some (.int .i64 x.b) ∧ w.cell? ⟨b, off + i * 4 + 3, none⟩ = some (.int .i64 x.c)) := hc
  have He : Hid (chk l = (0, 0)) := he
  clear hsee hl hok hc he
  go_enter Tryz.func24, Tryz.ntmps24
  go_wp2_with (go_at_call 48; refine (rcheck_any Hs.out).mono ?_; rw [He.out]; rintro e w1 ⟨rfl, hb1⟩)
  go_loopw [7, 8] (fun s i wr => ∃ k : Nat, ∃ t : ByteArray, k ≤ n ∧ i = .int .i64 k ∧ s = .string t ∧ t = strOfNums (nums (l.take k)) ∧ Below w.heap.size w wr) (fun _ i _ => n - (intOf i).toNat)
  case atStart => exact ⟨0, ⟨#[]⟩, Nat.zero_le _, rfl, rfl, rfl, hb1⟩
  case round =>
    obtain ⟨k, t, hk, rfl, rfl, ht, hb⟩ := hrel
    have Ht : Hid (t = strOfNums (nums (l.take k))) := ht
    have hts : t.size ≤ 160 := by
      rw [ht, strOfNums_size, nums_length]; have := List.length_take_le k l; omega
    clear ht
    by_cases hkn : k < n
    · obtain ⟨x, hx⟩ : ∃ x, l[k]? = some x := ⟨_, List.getElem?_eq_getElem (by rw [Hl.out]; exact hkn)⟩
      obtain ⟨c0, c1, c2, c3⟩ := Hc.out k x hx
      have d0 := (hb.cell (p := ⟨b, off + k * 4, none⟩) hlt).trans c0
      have d1 := (hb.cell (p := ⟨b, off + k * 4 + 1, none⟩) hlt).trans c1
      have d2 := (hb.cell (p := ⟨b, off + k * 4 + 2, none⟩) hlt).trans c2
      have d3 := (hb.cell (p := ⟨b, off + k * 4 + 3, none⟩) hlt).trans c3
      obtain ⟨⟨b1, b2⟩, ⟨b3, b4⟩, ⟨b5, b6⟩, ⟨b7, b8⟩⟩ := okB_bd (by omega) (Hok.out k x hx)
      have Hsn : Hid (nums (l.take (k + 1)) = nums (l.take k) ++ x.nums) := nums_snoc hx
      have i1 : (0 : Int) ≤ (k : Int) := by omega
      have i2 : (k : Int) < (n : Int) := by omega
      have hcv : (convert 97 9 (.slice (some ⟨wr.heap.size, 0, none⟩) 4 4)).run Tryz.prog (wr.alloc (.cells #[.int .u8 x.o, .int .u8 x.a, .int .u8 x.b, .int .u8 x.c] 5)).drew = .ok (.string (strOfNums x.nums)) (wr.alloc (.cells #[.int .u8 x.o, .int .u8 x.a, .int .u8 x.b, .int .u8 x.c] 5)).drew :=
        run_convert_bytes_arg (P := Tryz.prog) _ 97 5 Tryz.underlying97 Tryz.underlying5 wr.heap.size 0 4 4 x.nums rfl (fun i hi => by
          have hc := cell_of_row (wr.alloc (.cells #[.int .u8 x.o, .int .u8 x.a, .int .u8 x.b, .int .u8 x.c] 5)).drew wr.heap.size (0 + i) _ 5 (0, 0) (heap_alloc_new wr _)
          rw [hc]
          match i, hi with
          | 0, _ => rfl
          | 1, _ => rfl
          | 2, _ => rfl
          | 3, _ => rfl) 9 Tryz.underlying9
      obtain ⟨u, hu⟩ : ∃ u, u = strOfNums x.nums := ⟨_, rfl⟩
      rw [← hu] at hcv
      have hus : u.size ≤ 4 := by rw [hu, strOfNums_size]; simp [Ins.nums]
      have Hu : Hid (u = strOfNums x.nums) := hu
      clear c0 c1 c2 c3 hx hu
      go_wp2_with fail
      go_region
      go_wp2
      go_roundw
      case rel => exact ⟨k + 1, t ++ u, by omega, by go_num, rfl, by rw [Ht.out, Hu.out, Hsn.out, strOfNums_append], (hb.alloc hb.size _).drew⟩
      case measure => simp [intOf]; omega
    · have e : k = n := by omega
      subst e
      go_wp2
      go_ret3
      refine ⟨?_, hb⟩
      have e2 := Ht.out
      rw [List.take_of_length_le (by rw [Hl.out]; exact Nat.le_refl _)] at e2
      rw [← e2]
      rfl

/-- For whatever list of instructions the slice reads as. -/
theorem rencode_any {w : World} {v : Value} {l : List Ins} (h : Sees w v l) :
    Calls Tryz.prog 24 #[v] w fun e w' => e = .returned (.tuple #[.string (encR l), .int .i64 (chk l).1, .int .i64 (chk l).2]) ∧ Below w.heap.size w w' := by
  by_cases he : (chk l).1 = 0
  · obtain ⟨h0, h1, h2, h3⟩ := chk_zero he
    have hr : encR l = strOfNums (nums l) := by unfold encR; rw [if_pos he]
    rw [hr, h0]
    obtain ⟨hm, h'⟩ := id h
    rcases h' with ⟨rfl, -⟩ | ⟨b, off, cap, rfl, hlt, hc⟩
    · simp at h1
    · exact rencode_yes b off l.length cap l rfl w hlt h0 h1 h2 h3 h hc
  · have hr : encR l = ⟨#[]⟩ := by unfold encR; rw [if_neg he]
    rw [hr]
    exact rencode_no h (by simpa using he)

end Go.Proofs.YtbhbacphiinpeaaGreat
