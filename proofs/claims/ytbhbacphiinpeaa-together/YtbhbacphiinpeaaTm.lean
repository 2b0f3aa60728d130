/- A made kernel run to its end, by whatever picks. Plain lists; nothing of the program is in this text. -/
import Derived.Test.YtbhbacphiinpeaaTl
import Derived.Test.YtbhbacphiinpeaaSh
namespace Go.Proofs.Ytbhbacphiinpeaa
open Go.RowKit

/-- A warp's turn in phase p: from the threads v to the threads v'. -/
structure PhS (k : List Ins) (J : List Int) (ls le first : Nat) (g : List Nat) (p : Nat) (v v' : VS) (rows : List (Int × Int)) : Prop where
  inv : ∀ t ∈ g, SInv k false ls le (sv v (aW k p) t) ∧ (v t).1.name = ((first + t : Nat) : Int)
  sum : sums k ls le v (aW k p) g < 2000
  sta : Sta k g v v' (aW k p) (if p < (wl k).length then aW k (p + 1) else k.length) rows
  alive : p < (wl k).length → ∀ t ∈ g, (v' t).1.done = false
  done : ¬ p < (wl k).length → ∀ t ∈ g, (v' t).1.done = true
  some : rows ≠ []
  dyn : ∀ pl, PreD first pl g v 0 0 → Dyn first pl (runP k J 2000 2000 pl g (aW k p) (-1)) g v' rows ∧ (runP k J 2000 2000 pl g (aW k p) (-1)).waits = decide (p < (wl k).length) ∧ (p < (wl k).length → (runP k J 2000 2000 pl g (aW k p) (-1)).at0 = ((aW k (p + 1) : Nat) : Int))

theorem wayT_mem {t : Nat} {rows : List (Int × Int)} {v : Int} (h : v ∈ wayT t rows) : ∃ r ∈ rows, r.1 = v := by
  unfold wayT at h
  rw [List.mem_map] at h
  obtain ⟨r, h1, h2⟩ := h
  exact ⟨r, (List.mem_filter.1 h1).1, h2⟩

theorem phase_step {k : List Ins} {J : List Int} {ls le first : Nat} (hk : KK k false ls le) (hJ : Joined k J) {g : List Nat} (hne : g ≠ []) (hl : (g.map (· % 4)).Nodup) {p : Nat} (hp : p ≤ (wl k).length) {v : VS} (hi : ∀ t ∈ g, SInv k false ls le (sv v (aW k p) t) ∧ (v t).1.name = ((first + t : Nat) : Int)) (hs : sums k ls le v (aW k p) g < 2000) :
    ∃ v' rows, PhS k J ls le first g p v v' rows := by
  obtain ⟨rows, pc', v', wt, h1, h2, h3⟩ := run_loc (bud := 2000) (first := first) hk hJ 2000 g v 0 0 (aW k p) (-1) hne hl hi (.inl ⟨rfl, rfl⟩) (by omega) (by omega)
  refine ⟨v', rows, ?_⟩
  obtain ⟨t0, ht0⟩ : ∃ t, t ∈ g := by
    cases g with
    | nil => exact absurd rfl hne
    | cons u l => exact ⟨u, by simp⟩
  have hpt := h1.path t0 ht0
  rcases h2 with ⟨rfl, -, ha, w, rows0, rfl, hw, rfl, hn⟩ | ⟨rfl, hn, h2⟩
  · have ew : wayT t0 (rows0 ++ [((w : Int), ((bits g : Nat) : Int))]) = wayT t0 rows0 ++ [(w : Int)] := by rw [wayT_append, wayT_all hl ht0]
    rw [ew] at hpt
    have hge : aW k p ≤ w := by
      by_cases c : p = 0
      · subst c; simp [aW]
      · have hq := wl_get hk (p := p - 1) (by omega)
        have ea : aW k p = (wl k).getD (p - 1) 0 + 1 := by unfold aW; rw [if_neg c]
        have := hpt.right hk hq (by show _ < aW k p; omega) (w : Int) (by simp)
        omega
    obtain ⟨hpz, hle⟩ := wl_first hk hp hw hge
    have hge2 : w ≤ (wl k).getD p 0 := by
      have hq := wl_get hk hpz
      have := hpt.left hk hq (by show aW k p ≤ _; exact aW_le hpz) (wayT t0 rows0) (w : Int) [] rfl (fun r hr e => by
        obtain ⟨x, hx, e2⟩ := wayT_mem hr
        refine hn x hx ?_
        rw [e2, e, Int.toNat_natCast]
        exact hq)
      omega
    have e : w + 1 = aW k (p + 1) := by rw [aW_next]; omega
    refine ⟨hi, hs, by rw [if_pos hpz, ← e]; exact h1, fun _ => ha, fun h => absurd hpz h, by simp, fun pl hpl => ?_⟩
    obtain ⟨g1, g2, g3⟩ := h3 pl hpl
    exact ⟨g1, by rw [g2]; simpa using hpz, fun _ => by rw [g3 rfl, e]⟩
  · obtain ⟨-, rfl, hd, hr⟩ : (-1 : Int) = -1 ∧ pc' = k.length ∧ (∀ t ∈ g, (v' t).1.done = true) ∧ rows ≠ [] := by
      rcases h2 with h2 | ⟨h2, -⟩
      · exact h2
      · omega
    have hpz : ¬ p < (wl k).length := fun hpz => by
      have hq := wl_get hk hpz
      obtain ⟨u, hu⟩ := hpt.last (hi t0 ht0).1.done (hd t0 ht0) hk.exit fun s x hx h0 => sstep_done hx h0
      have hql := (List.getElem?_eq_some_iff.1 hq).1
      have hne2 := hk.exit _ _ hq
      have := hpt.left hk hq (by show aW k p ≤ _; exact aW_le hpz) u _ [] hu (fun r hr e => by
        have hr2 : r ∈ wayT t0 rows := by rw [hu]; simp [hr]
        obtain ⟨x, hx, e2⟩ := wayT_mem hr2
        refine hn x hx ?_
        rw [e2, e, Int.toNat_natCast]
        exact hq)
      have h14 : ¬ ((wl k).getD p 0 + 1 = k.length) := fun e => absurd (hne2.2 e) (by decide)
      omega
    refine ⟨hi, hs, by rw [if_neg hpz]; exact h1, fun h => absurd h hpz, fun _ => hd, hr, fun pl hpl => ?_⟩
    obtain ⟨g1, g2, g3⟩ := h3 pl hpl
    exact ⟨g1, by rw [g2]; simpa using hpz, fun h => absurd h hpz⟩

/-- A warp's turns, one behind the other. -/
theorem phases {k : List Ins} {J : List Int} {ls le first : Nat} (hk : KK k false ls le) (hJ : Joined k J) {g : List Nat} (hne : g ≠ []) (hl : (g.map (· % 4)).Nodup) {v0 : VS} (hi : ∀ t ∈ g, SInv k false ls le (sv v0 0 t) ∧ (v0 t).1.name = ((first + t : Nat) : Int)) (hs : sums k ls le v0 0 g < 2000) :
    ∀ P, P ≤ (wl k).length + 1 → ∃ (V : Nat → VS) (Rw : Nat → List (Int × Int)), V 0 = v0 ∧ ∀ p, p < P → PhS k J ls le first g p (V p) (V (p + 1)) (Rw p)
  | 0, _ => ⟨fun _ => v0, fun _ => [], rfl, fun p hp => by omega⟩
  | P + 1, hP => by
    obtain ⟨V, Rw, h0, h1⟩ := phases hk hJ hne hl hi hs P (by omega)
    have hiP : (∀ t ∈ g, SInv k false ls le (sv (V P) (aW k P) t) ∧ (V P t).1.name = ((first + t : Nat) : Int)) ∧ sums k ls le (V P) (aW k P) g < 2000 := by
      cases P with
      | zero => rw [h0]; exact ⟨hi, hs⟩
      | succ P =>
        have hh := h1 P (by omega)
        have hpz : P < (wl k).length := by omega
        have hst := hh.sta
        rw [if_pos hpz] at hst
        obtain ⟨g1, g2⟩ := hst.pre hk hl (fun t ht => (hh.inv t ht).1) (hh.alive hpz)
        refine ⟨fun t ht => ⟨g1 t ht, ?_⟩, by have := hh.sum; omega⟩
        have := (hst.path t ht).name (sstep_name k)
        have e : (V (P + 1) t).1.name = (V P t).1.name := this
        rw [e]; exact (hh.inv t ht).2
    obtain ⟨v', rows, hn⟩ := phase_step hk hJ hne hl (by omega) hiP.1 hiP.2
    refine ⟨fun q => if q = P + 1 then v' else V q, fun q => if q = P then rows else Rw q, by simp [h0], fun p hp => ?_⟩
    by_cases e : p = P
    · subst e
      simp only [if_true, if_neg (show ¬ p = p + 1 by omega)]
      exact hn
    · dsimp only
      rw [if_neg (show ¬ p = P + 1 by omega), if_neg (show ¬ p + 1 = P + 1 by omega), if_neg e]
      exact h1 p (by omega)

/-- The whole of a warp's turns: each thread's way, and where it ends. -/
theorem phases_path {k : List Ins} {J : List Int} {ls le first : Nat} {g : List Nat} {V : Nat → VS} {Rw : Nat → List (Int × Int)} (h : ∀ p, p < (wl k).length + 1 → PhS k J ls le first g p (V p) (V (p + 1)) (Rw p)) :
    ∀ P, P ≤ (wl k).length → Sta k g (V 0) (V P) 0 (aW k P) ((List.range P).flatMap Rw)
  | 0, _ => Sta.refl _ _ _ _
  | P + 1, hP => by
    have ih := phases_path h P (by omega)
    have hh := h P (by omega)
    have hst := hh.sta
    rw [if_pos (by omega)] at hst
    rw [List.range_succ, List.flatMap_append]
    have e : [P].flatMap Rw = Rw P := by simp
    rw [e]
    exact ih.trans (fun t ht => (hh.inv t ht).1.done) hst

theorem phases_end {k : List Ins} {J : List Int} {ls le first : Nat} {g : List Nat} {V : Nat → VS} {Rw : Nat → List (Int × Int)} (h : ∀ p, p < (wl k).length + 1 → PhS k J ls le first g p (V p) (V (p + 1)) (Rw p)) :
    Sta k g (V 0) (V ((wl k).length + 1)) 0 k.length ((List.range ((wl k).length + 1)).flatMap Rw) := by
  have ih := phases_path h (wl k).length (Nat.le_refl _)
  have hh := h (wl k).length (by omega)
  have hst := hh.sta
  rw [if_neg (by omega)] at hst
  rw [List.range_succ, List.flatMap_append]
  have e : [(wl k).length].flatMap Rw = Rw (wl k).length := by simp
  rw [e]
  exact ih.trans (fun t ht => (hh.inv t ht).1.done) hst

end Go.Proofs.Ytbhbacphiinpeaa
