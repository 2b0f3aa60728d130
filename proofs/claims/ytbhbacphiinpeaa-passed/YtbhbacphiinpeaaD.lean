/- What 'Encode' answers. -/
import Derived.Test.YtbhbacphiinpeaaB
import Derived.Test.YtbhbacphiinpeaaEnc
import Derived.Deep.AppendLies
namespace Go.Proofs.Ytbhbacphiinpeaa
open Go.RowKit

theorem Try.info5 : (Try.prog.info? 5).map (fun i => (i.zero, i.size, i.bytes)) = some (some (.int .u8 0), 1, 1) := by kernel_rfl

set_option maxHeartbeats 400000 in
theorem encode_no {w : World} {v : Value} {l : List Ins} (h : Sees w v l) (he : ((chk l).1 != 0) = true) :
    Calls Try.prog 31 #[v] w fun e w' => e = .returned (.tuple #[.string ⟨#[]⟩, .int .i64 (chk l).1, .int .i64 (chk l).2]) ∧ Below w.heap.size w w' := by
  have Hs : Hid (Sees w v l) := h
  clear h
  go_enter Try.func31, Try.ntmps31
  go_wp2_with (go_at_call 44; refine (check_any Hs.out).mono ?_; rintro e w1 ⟨rfl, hb⟩)
  go_ret3
  exact ⟨rfl, hb⟩

set_option maxHeartbeats 400000 in
set_option maxRecDepth 100000 in
theorem encode_yes (b off n cap : Nat) (l : List Ins) (hl : l.length = n) (w : World) (hlt : b < w.heap.size) (he : chk l = (0, 0)) (h1 : 1 ≤ n) (h2 : n ≤ 40) (hok : ∀ (j : Nat) y, l[j]? = some y → okB n y = true) (hsee : Sees w (.slice (some ⟨b, off, none⟩) n cap) l)
    (hc : ∀ (i : Nat) x, l[i]? = some x → w.cell? ⟨b, off + i * 4, none⟩ = some (.int .i64 x.o) ∧ w.cell? ⟨b, off + i * 4 + 1, none⟩ = some (.int .i64 x.a) ∧ w.cell? ⟨b, off + i * 4 + 2, none⟩ = some (.int .i64 x.b) ∧ w.cell? ⟨b, off + i * 4 + 3, none⟩ = some (.int .i64 x.c)) :
    Calls Try.prog 31 #[.slice (some ⟨b, off, none⟩) n cap] w fun e w' => e = .returned (.tuple #[.string (strOfNums (nums l)), .int .i64 0, .int .i64 0]) ∧ Below w.heap.size w w' := by
  have Hs : Hid (Sees w (.slice (some ⟨b, off, none⟩) n cap) l) := hsee
  have Hl : Hid (l.length = n) := hl
  have Hok : Hid (∀ (j : Nat) y, l[j]? = some y → okB n y = true) := hok
  have Hc : Hid (∀ (i : Nat) x, l[i]? = some x → w.cell? ⟨b, off + i * 4, none⟩ = some (.int .i64 x.o) ∧ w.cell? ⟨b, off + i * 4 + 1, none⟩ = some (.int .i64 x.a) ∧ w.cell? ⟨b, off + i * 4 + 2, none⟩ = some (.int .i64 x.b) ∧ w.cell? ⟨b, off + i * 4 + 3, none⟩ = some (.int .i64 x.c)) := hc
  have He : Hid (chk l = (0, 0)) := he
  clear hsee hl hok hc he
  obtain ⟨i0, hi, hz0, hz1, hz2⟩ := info_parts Try.info5
  go_enter Try.func31, Try.ntmps31
  go_wp2_with (go_at_call 44; refine (check_any Hs.out).mono ?_; rw [He.out]; rintro e w1 ⟨rfl, hb1⟩)
  go_loopw [7, 21] (fun v i wr => ∃ k : Nat, k ≤ n ∧ i = .int .i64 k ∧ wr.ownsRow w.heap.size 5 1 v (4 * k) ((nums (l.take k)).map (Value.int .u8)) ∧ Below w.heap.size w wr) (fun _ i _ => n - (intOf i).toNat)
  case atStart => exact ⟨0, Nat.zero_le _, rfl, World.ownsRow_nil _ _ _ _, hb1⟩
  case round =>
    obtain ⟨k, hk, rfl, hown, hb⟩ := hrel
    by_cases hkn : k < n
    · obtain ⟨x, hx⟩ : ∃ x, l[k]? = some x := ⟨_, List.getElem?_eq_getElem (by rw [Hl.out]; exact hkn)⟩
      obtain ⟨c0, c1, c2, c3⟩ := Hc.out k x hx
      have d0 := (hb.cell (p := ⟨b, off + k * 4, none⟩) hlt).trans c0
      have d1 := (hb.cell (p := ⟨b, off + k * 4 + 1, none⟩) hlt).trans c1
      have d2 := (hb.cell (p := ⟨b, off + k * 4 + 2, none⟩) hlt).trans c2
      have d3 := (hb.cell (p := ⟨b, off + k * 4 + 3, none⟩) hlt).trans c3
      obtain ⟨⟨b1, b2⟩, ⟨b3, b4⟩, ⟨b5, b6⟩, ⟨b7, b8⟩⟩ := okB_bd (by omega) (Hok.out k x hx)
      have hsn := nums_snoc hx
      have Hsn : Hid (nums (l.take (k + 1)) = nums (l.take k) ++ x.nums) := hsn
      clear c0 c1 c2 c3 hsn hx
      go_wp2_with (first | (at_builtin; go_must (refine wpList_append_own _ rfl _ _ 102 rfl w.heap.size 5 i0 (.int .u8 0) 1 1 Try.underlying102 hi hz0 hz1 hz2 rfl (by decide) u7 (4 * k) ((nums (l.take k)).map (Value.int .u8)) rfl ?c0 ⟨wr.heap.size + 1, 0, none⟩ 4 4 (x.nums.map (Value.int .u8)) rfl rfl ?c1 ?c2 ?c3 ?c4 ?c5 ?_)) | go_in)
      case c0 => exact (hown.alloc _).alloc _
      case c1 => exact World.news_of_block (heap_alloc2_new wr _ _)
      case c2 => intro u hu; obtain ⟨z, -, rfl⟩ := List.mem_map.1 hu; rfl
      case c3 => unfold maxLen; omega
      case c4 => omega
      case c5 => have := hb.size; simp; omega
      · intro v' w2 hown' hgrow _
        have hb' : Below w.heap.size w w2 := ((hb.alloc hb.size _).alloc (by have := hb.size; simp; omega) _).grown hgrow (by have := hb.size; simp; omega) (fun g hg => (hown.lt g hg).1)
        rw [← List.map_append, ← Hsn.out, show 4 * k + 4 = 4 * (k + 1) by omega] at hown'
        clear hgrow hown d0 d1 d2 d3 b1 b2 b3 b4 b5 b6 b7 b8
        go_wp2
        go_roundw
        case rel => exact ⟨k + 1, by omega, by go_num, hown', hb'⟩
        case measure => simp [intOf]; omega
    · have e : k = n := by omega
      subst e
      rw [List.take_of_length_le (by rw [Hl.out]; exact Nat.le_refl _)] at hown
      obtain ⟨g, cp, hv, -, -⟩ := hown.form (by omega)
      subst hv
      have hcv := run_convert_bytes_arg (P := Try.prog) wr 102 5 Try.underlying102 Try.underlying5 g 0 (4 * k) cp (nums l) (by rw [nums_length, Hl.out]) (fun i hi => by
        rw [Nat.zero_add, hown.cellAt i (by omega), List.getElem?_map, List.getElem?_eq_getElem (by rw [nums_length, Hl.out]; exact hi), List.getD_eq_getElem?_getD, List.getElem?_eq_getElem (by rw [nums_length, Hl.out]; exact hi)]; rfl) 9 Try.underlying9
      clear hown
      go_wp2
      go_ret3
      exact ⟨rfl, hb⟩

/-- For whatever list of instructions the slice reads as. -/
theorem encode_any {w : World} {v : Value} {l : List Ins} (h : Sees w v l) :
    Calls Try.prog 31 #[v] w fun e w' => e = .returned (.tuple #[.string (encR l), .int .i64 (chk l).1, .int .i64 (chk l).2]) ∧ Below w.heap.size w w' := by
  by_cases he : (chk l).1 = 0
  · obtain ⟨h0, h1, h2, h3⟩ := chk_zero he
    have hr : encR l = strOfNums (nums l) := by unfold encR; rw [if_pos he]
    rw [hr, h0]
    obtain ⟨hm, h'⟩ := id h
    rcases h' with ⟨rfl, -⟩ | ⟨b, off, cap, rfl, hlt, hc⟩
    · simp at h1
    · exact encode_yes b off l.length cap l rfl w hlt h0 h1 h2 h3 h hc
  · have hr : encR l = ⟨#[]⟩ := by unfold encR; rw [if_neg he]
    rw [hr]
    exact encode_no h (by simpa using he)

set_option maxHeartbeats 400000 in
theorem Encode_any {w : World} {v : Value} {l : List Ins} (h : Sees w v l) :
    Calls Try.prog 10 #[v] w fun e w' => e = .returned (.tuple #[.string (encR l), .int .i64 (chk l).1, .int .i64 (chk l).2]) ∧ Below w.heap.size w w' := by
  have Hs : Hid (Sees w v l) := h
  clear h
  go_enter Try.func10, Try.ntmps10
  go_wp2_with (go_at_call 31; refine (encode_any Hs.out).mono ?_; rintro e w1 ⟨rfl, hb⟩)
  go_ret3
  exact ⟨rfl, hb⟩

end Go.Proofs.Ytbhbacphiinpeaa
