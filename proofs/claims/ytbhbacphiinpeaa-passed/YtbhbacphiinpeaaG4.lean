/- The join is one; what the document's 'Joins' answers. -/
import Derived.Test.YtbhbacphiinpeaaG3
import Derived.Test.YtbhbacphiinpeaaRE
namespace Go.Proofs.Ytbhbacphiinpeaa
open Go.RowKit

theorem way_split {k : List Ins} {wo : Int} : ∀ {p : List Nat} {n d : Nat}, IsWay k wo n p → d ∈ p → ∃ p', IsWay k wo d p' ∧ p'.length < p.length
  | m :: p, n, d, h, hd => by
    obtain ⟨h1, h2, h3⟩ := h
    rcases List.mem_cons.1 hd with rfl | hd
    · exact ⟨p, h3, by simp⟩
    · obtain ⟨p', h4, h5⟩ := way_split h3 hd
      exact ⟨p', h4, by simp; omega⟩

theorem way_avoid {k : List Ins} {wo : Int} : ∀ {p : List Nat} {n d : Nat}, IsWay k wo n p → d ∉ p → IsWay k (d : Int) n p
  | [], n, d, h, _ => h
  | m :: p, n, d, h, hd => by
    obtain ⟨h1, h2, h3⟩ := h
    have hm : m ≠ d := fun e => hd (by simp [e])
    exact ⟨h1, by omega, way_avoid h3 fun h => hd (by simp [h])⟩

theorem psd_mem {k : List Ins} {wo : Int} {n d : Nat} {p : List Nat} (h : Psd k n d) (hw : IsWay k wo n p) : d ∈ p := by
  by_cases hd : d ∈ p
  · exact hd
  · exact absurd ⟨p, way_avoid hw hd⟩ h.2

/-- Two instructions of which each way from the one comes by the other do not both lead to an Exit. -/
theorem psd_two {k : List Ins} {wo : Int} {d e : Nat} (h1 : Psd k d e) (h2 : Psd k e d) : ∀ (m : Nat) (p : List Nat), p.length ≤ m → ¬ IsWay k wo d p
  | 0, p, hl, hw => by
    have := psd_mem h1 hw
    have hp : p = [] := List.eq_nil_of_length_eq_zero (by omega)
    rw [hp] at this
    simp at this
  | m + 1, p, hl, hw => by
    obtain ⟨p2, hw2, hl2⟩ := way_split hw (psd_mem h1 hw)
    obtain ⟨p3, hw3, hl3⟩ := way_split hw2 (psd_mem h2 hw2)
    exact psd_two h1 h2 m p3 (by omega) hw3

theorem first_one {k : List Ins} {wo : Int} {n d e : Nat} (hr : Rch k wo n) (h1 : IsFirst k n d) (h2 : IsFirst k n e) : d = e := by
  by_cases hde : d = e
  · exact hde
  · obtain ⟨p, hp⟩ := hr
    have a := h1.2.2 e h2.1 h2.2.1 (fun x => hde x.symm)
    have b := h2.2.2 d h1.1 h1.2.1 hde
    obtain ⟨p2, hp2, -⟩ := way_split hp (psd_mem h1.2.1 hp)
    exact absurd hp2 (psd_two a b p2.length p2 (Nat.le_refl _))

theorem join_one {k : List Ins} {n : Nat} {i j : Int} (h1 : JoinIs k n i) (h2 : JoinIs k n j) : i = j := by
  rcases h1 with ⟨hr, rfl⟩ | ⟨hr, ⟨d, hd, rfl⟩ | ⟨hd, rfl⟩⟩
  · rcases h2 with ⟨_, rfl⟩ | ⟨hr2, _⟩
    · rfl
    · exact absurd hr2 hr
  · rcases h2 with ⟨hr2, _⟩ | ⟨_, ⟨e, he, rfl⟩ | ⟨he, rfl⟩⟩
    · exact absurd hr hr2
    · rw [first_one hr hd he]
    · exact absurd ⟨d, hd⟩ he
  · rcases h2 with ⟨hr2, _⟩ | ⟨_, ⟨e, he, rfl⟩ | ⟨he, rfl⟩⟩
    · exact absurd hr hr2
    · exact absurd ⟨e, he⟩ hd
    · rfl

/-- The joins of a kernel, by their numbers. -/
def JoinsAre (k : List Ins) (J : List Int) : Prop := J.length = k.length ∧ ∀ (i : Nat) j, J[i]? = some j → JoinIs k i j

theorem joins_one {k : List Ins} {I J : List Int} (h1 : JoinsAre k I) (h2 : JoinsAre k J) : I = J := by
  apply List.ext_getElem?
  intro i
  by_cases hi : i < k.length
  · obtain ⟨a, e1⟩ : ∃ a, I[i]? = some a := ⟨_, List.getElem?_eq_getElem (by rw [h1.1]; exact hi)⟩
    obtain ⟨b, e2⟩ : ∃ b, J[i]? = some b := ⟨_, List.getElem?_eq_getElem (by rw [h2.1]; exact hi)⟩
    rw [e1, e2, join_one (h1.2 i _ e1) (h2.2 i _ e2)]
  · rw [List.getElem?_eq_none (by rw [h1.1]; omega), List.getElem?_eq_none (by rw [h2.1]; omega)]

def intVals (l : List Int) : List Value := l.map fun m => Value.int .i64 m
theorem int_snoc (L : List Int) (m : Int) : intVals (L ++ [m]) = intVals L ++ [.int .i64 m] := by simp [intVals]

theorem dec_good {s : ByteArray} (h : (dchk s).1 = 0) : chk (decL s) = (0, 0) ∧ 1 ≤ (decL s).length ∧ (decL s).length ≤ 40 := by
  unfold decL
  rw [if_pos h]
  unfold dchk at h
  by_cases h2 : s.size % 4 ≠ 0 ∨ 160 < s.size
  · rw [if_pos h2] at h; simp at h
  · rw [if_neg h2] at h
    obtain ⟨h3, h4, h5, -⟩ := chk_zero h
    exact ⟨h3, h4, h5⟩

theorem kAt_owned {w : World} {base g n cap : Nat} {k : List Ins} (hk : chk k = (0, 0)) (hn : k.length = n) (h : w.ownsRow base 31 4 (.slice (some ⟨g, 0, none⟩) n cap) n (flat k)) : KAt w g 0 n k := by
  obtain ⟨-, h1, h2, h3⟩ := chk_zero (by rw [hk])
  refine ⟨hn, by omega, by omega, closed_chk hk, (h.lt g rfl).2, fun i x hx => ?_, fun i x hx => ?_⟩
  · have := okB_bd (by omega) (h3 i x hx)
    exact this.2.2.1.1
  · have hi : i < n := by have := (List.getElem?_eq_some_iff.1 hx).1; omega
    obtain ⟨a0, a1, a2, a3⟩ := flat_at hx
    simp only [Nat.zero_add]
    exact ⟨(h.cellAt (i * 4) (by omega)).trans a0, (h.cellAt (i * 4 + 1) (by omega)).trans a1, (h.cellAt (i * 4 + 2) (by omega)).trans a2, (h.cellAt (i * 4 + 3) (by omega)).trans a3⟩

theorem owns_down {w : World} {base base' : Nat} {e : TypeId} {size : Nat} {v : Value} {n : Nat} {xs : List Value} (h : w.ownsRow base e size v n xs) (hb : base' ≤ base) : w.ownsRow base' e size v n xs := by
  refine ⟨h.1, ?_⟩
  rcases h.2 with h2 | ⟨g, cap, cur, hv, hg, r⟩
  · exact .inl h2
  · exact .inr ⟨g, cap, cur, hv, by omega, r⟩

end Go.Proofs.Ytbhbacphiinpeaa
