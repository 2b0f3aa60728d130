/- The Waits of a made kernel, and a warp's way from Wait to Wait. Plain lists; nothing of the program is in this text. -/
import Derived.Test.YtbhbacphiinpeaaTi
namespace Go.Proofs.Ytbhbacphiinpeaa
open Go.RowKit

def isWb (k : List Ins) (q : Nat) : Bool := match k[q]? with
  | some x => x.o == 14
  | none => false
/-- The places of the Waits. -/
def wl (k : List Ins) : List Nat := (List.range k.length).filter (isWb k)
/-- Where a phase begins. -/
def aW (k : List Ins) (p : Nat) : Nat := if p = 0 then 0 else (wl k).getD (p - 1) 0 + 1

theorem wl_mem {k : List Ins} {al : Bool} {ls le : Nat} (hk : KK k al ls le) {q : Nat} : q ∈ wl k ↔ isW k q := by
  unfold wl
  rw [List.mem_filter, List.mem_range]
  constructor
  · rintro ⟨h1, h2⟩
    unfold isWb at h2
    obtain ⟨x, hx⟩ : ∃ x, k[q]? = some x := ⟨_, List.getElem?_eq_getElem h1⟩
    rw [hx] at h2
    have h3 : x.o = 14 := by simpa using h2
    have := kk_wait hk hx h3
    rw [this] at hx
    exact hx
  · intro h
    refine ⟨(List.getElem?_eq_some_iff.1 h).1, ?_⟩
    unfold isWb
    rw [show k[q]? = some ⟨14, 0, 0, 0⟩ from h]
    rfl

theorem wl_lt (k : List Ins) {i j : Nat} (hij : i < j) (hj : j < (wl k).length) : (wl k).getD i 0 < (wl k).getD j 0 := by
  have hp : (wl k).Pairwise (· < ·) := List.Pairwise.filter _ List.pairwise_lt_range
  have hi : i < (wl k).length := by omega
  rw [List.getD_eq_getElem?_getD, List.getD_eq_getElem?_getD, List.getElem?_eq_getElem hi, List.getElem?_eq_getElem hj]
  exact List.pairwise_iff_getElem.1 hp i j hi hj hij

theorem wl_get {k : List Ins} {al : Bool} {ls le : Nat} (hk : KK k al ls le) {p : Nat} (hp : p < (wl k).length) : isW k ((wl k).getD p 0) := by
  rw [← wl_mem hk, List.getD_eq_getElem?_getD, List.getElem?_eq_getElem hp]
  exact List.getElem_mem hp

theorem aW_le {k : List Ins} {p : Nat} (hp : p < (wl k).length) : aW k p ≤ (wl k).getD p 0 := by
  unfold aW
  split
  · omega
  · have := wl_lt k (i := p - 1) (j := p) (by omega) hp
    omega

theorem aW_next (k : List Ins) (p : Nat) : aW k (p + 1) = (wl k).getD p 0 + 1 := by unfold aW; simp

/-- The first Wait behind the beginning of a phase. -/
theorem wl_first {k : List Ins} {al : Bool} {ls le : Nat} (hk : KK k al ls le) {p q : Nat} (hp : p ≤ (wl k).length) (hq : isW k q) (h : aW k p ≤ q) : p < (wl k).length ∧ (wl k).getD p 0 ≤ q := by
  obtain ⟨j, hj, e⟩ := List.getElem_of_mem ((wl_mem hk).2 hq)
  have ej : (wl k).getD j 0 = q := by rw [List.getD_eq_getElem?_getD, List.getElem?_eq_getElem hj]; exact e
  have hpj : p ≤ j := by
    by_cases c : p ≤ j
    · exact c
    · exfalso
      unfold aW at h
      rw [if_neg (by omega)] at h
      by_cases c2 : j = p - 1
      · rw [← c2, ej] at h; omega
      · have := wl_lt k (i := j) (j := p - 1) (by omega) (by omega)
        omega
  refine ⟨by omega, ?_⟩
  by_cases c : p = j
  · rw [c, ej]; exact Nat.le_refl _
  · have := wl_lt k (i := p) (j := j) (by omega) hj
    omega

theorem sstep_nxt {k : List Ins} {s : SS} {x : Ins} (hx : k[s.pc]? = some x) (h0 : x.o ≠ 0) : (sstep k s).pc ∈ nxt k s.pc := by
  unfold sstep nxt
  rw [hx]
  dsimp only
  rw [if_neg h0, if_neg h0]
  by_cases h12 : x.o = 12
  · rw [if_pos h12, if_pos h12]; simp
  · rw [if_neg h12, if_neg h12]
    by_cases h13 : x.o = 13
    · rw [if_pos h13, if_pos h13]
      by_cases c : s.t.get x.a = 0 <;> simp [c]
    · rw [if_neg h13, if_neg h13]
      split <;> simp

/-- Nobody comes by a Wait without being there. -/
theorem Pth.left {k : List Ins} {al : Bool} {ls le : Nat} (hk : KK k al ls le) {q : Nat} (hq : isW k q) {tr : List Int} {s s' : SS} (h : Pth k tr s s') (hs : s.pc ≤ q) : ∀ u (v : Int) rest, tr = u ++ v :: rest → (∀ r ∈ u, r ≠ (q : Int)) → v ≤ (q : Int) := by
  induction h using Pth.ind with
  | refl s => intro u v rest e; simp at e
  | step hx h0 _ ih =>
    rename_i s0 s1 x tr0 hP
    intro u v rest e hu
    cases u with
    | nil => simp at e; omega
    | cons y u =>
      simp at e
      have hne : (s0.pc : Int) ≠ (q : Int) := by rw [e.1]; exact hu y (by simp)
      refine ih (hk.left hq (by omega) (sstep_nxt hx h0)) u v rest e.2 fun r hr => hu r (by simp [hr])
  | exit hx h0 =>
    intro u v rest e hu
    cases u with
    | nil => simp at e; omega
    | cons y u => simp at e

theorem Pth.right {k : List Ins} {al : Bool} {ls le : Nat} (hk : KK k al ls le) {q : Nat} (hq : isW k q) {tr : List Int} {s s' : SS} (h : Pth k tr s s') (hs : q < s.pc) : ∀ v ∈ tr, (q : Int) < v := by
  induction h using Pth.ind with
  | refl s => intro v hv; simp at hv
  | step hx h0 _ ih =>
    intro v hv
    rcases List.mem_cons.1 hv with rfl | hv
    · omega
    · exact ih (hk.right hq (by omega) (sstep_nxt hx h0)) v hv
  | exit hx h0 => intro v hv; simp at hv; omega

/-- A way to the end passes the last instruction last. -/
theorem Pth.last {k : List Ins} {tr : List Int} {s s' : SS} (h : Pth k tr s s') (hd : s.t.done = false) (hd' : s'.t.done = true) (hk : ∀ (n : Nat) x, k[n]? = some x → (x.o = 0 ↔ n + 1 = k.length)) (hdn : ∀ s : SS, ∀ x, k[s.pc]? = some x → x.o ≠ 0 → (sstep k s).t.done = s.t.done) : ∃ u, tr = u ++ [((k.length - 1 : Nat) : Int)] := by
  induction h using Pth.ind with
  | refl s => rw [hd] at hd'; simp at hd'
  | step hx h0 _ ih =>
    rename_i s0 s1 x tr0 hP
    obtain ⟨u, hu⟩ := ih (by rw [hdn _ _ hx h0]; exact hd) hd'
    exact ⟨(s0.pc : Int) :: u, by rw [hu]; rfl⟩
  | exit hx h0 =>
    rename_i s0 x
    have := (hk _ _ hx).1 h0
    exact ⟨[], by simp; omega⟩

theorem sstep_done {k : List Ins} {s : SS} {x : Ins} (hx : k[s.pc]? = some x) (h0 : x.o ≠ 0) : (sstep k s).t.done = s.t.done := by
  unfold sstep
  rw [hx]
  dsimp only
  rw [if_neg h0]
  repeat' split
  all_goals first | rfl | exact (ownS_name x _ _).2

end Go.Proofs.Ytbhbacphiinpeaa
