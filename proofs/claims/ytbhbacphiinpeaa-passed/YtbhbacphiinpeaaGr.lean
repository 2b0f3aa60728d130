/- Ways in a kernel: plain lists; nothing of the program is in this text. -/
import Derived.Test.YtbhbacphiinpeaaEnc
namespace Go.Proofs.Ytbhbacphiinpeaa
open Go.RowKit

/-- What may come behind instruction n. -/
def nxt (k : List Ins) (n : Nat) : List Nat := match k[n]? with
  | none => []
  | some x => if x.o = 0 then [] else if x.o = 12 then [x.b.toNat] else if x.o = 13 then [x.b.toNat, n + 1] else [n + 1]

def isEnd (k : List Ins) (n : Nat) : Prop := ∃ x, k[n]? = some x ∧ x.o = 0

/-- A way from n to an Exit that comes by no instruction 'wo' behind n. -/
def IsWay (k : List Ins) (wo : Int) : Nat → List Nat → Prop
  | n, [] => isEnd k n
  | n, m :: p => m ∈ nxt k n ∧ (m : Int) ≠ wo ∧ IsWay k wo m p

def Rch (k : List Ins) (wo : Int) (n : Nat) : Prop := ∃ p, IsWay k wo n p

/-- All that comes next are instructions of the kernel. -/
def Closed (k : List Ins) : Prop := ∀ n m, n < k.length → m ∈ nxt k n → m < k.length

theorem closed_chk {k : List Ins} (h : chk k = (0, 0)) : Closed k := by
  obtain ⟨-, h1, h2, h3⟩ := chk_zero (by rw [h])
  intro n m hn hm
  have hx : k[n]? = some k[n] := List.getElem?_eq_getElem hn
  have hok := h3 n _ hx
  unfold nxt at hm
  rw [hx] at hm
  dsimp only at hm
  have hlast : n + 1 < k.length ∨ (k[n].o = 0 ∨ k[n].o = 12) := by
    by_cases hl : n + 1 < k.length
    · exact .inl hl
    · right
      have hn' : k.length - 1 = n := by omega
      have hlo : lastOp k = k[n].o := by unfold lastOp; rw [hn', hx]
      unfold chk at h
      rw [if_neg (by omega)] at h
      cases hb : badAt k.length k with
      | some i => rw [hb] at h; simp at h
      | none =>
        rw [hb] at h
        dsimp only at h
        by_cases hf : lastOp k ≠ 0 ∧ lastOp k ≠ 12
        · rw [if_pos hf] at h; simp at h
        · rw [hlo] at hf; omega
  by_cases h0 : k[n].o = 0
  · rw [if_pos h0] at hm; simp at hm
  rw [if_neg h0] at hm
  have hb : ∀ {o : Int}, k[n].o = o → (o = 12 ∨ o = 13) → k[n].b.toNat < k.length := fun {o} e ho => by
    unfold okB at hok
    rcases ho with rfl | rfl
    · simp [e] at hok
      have := bel_bd hok.1.2
      omega
    · simp [e] at hok
      have := bel_bd hok.1.2
      omega
  by_cases h12 : k[n].o = 12
  · rw [if_pos h12] at hm
    simp at hm
    subst hm
    exact hb h12 (.inl rfl)
  rw [if_neg h12] at hm
  by_cases h13 : k[n].o = 13
  · rw [if_pos h13] at hm
    simp at hm
    rcases hm with rfl | rfl
    · exact hb h13 (.inr rfl)
    · omega
  rw [if_neg h13] at hm
  simp at hm
  omega

/-- One instruction more that has been come to. -/
def visit (wo : Int) (L : List Nat) (m : Nat) : List Nat := if (m : Int) ≠ wo ∧ m ∉ L then L ++ [m] else L

theorem visit_sub {wo : Int} {L : List Nat} {m x : Nat} (h : x ∈ L) : x ∈ visit wo L m := by
  unfold visit; split <;> simp [h]
theorem visit_mem {wo : Int} {L : List Nat} {m x : Nat} (h : x ∈ visit wo L m) : x ∈ L ∨ (x = m ∧ (m : Int) ≠ wo) := by
  unfold visit at h
  split at h
  · rename_i hc
    simp at h
    rcases h with h | h
    · exact .inl h
    · exact .inr ⟨h, hc.1⟩
  · exact .inl h
theorem visit_has {wo : Int} {L : List Nat} {m : Nat} (h : (m : Int) ≠ wo) : m ∈ visit wo L m := by
  unfold visit
  by_cases hm : m ∈ L
  · rw [if_neg (by simp [hm])]; exact hm
  · rw [if_pos ⟨h, hm⟩]; simp
theorem visit_nodup {wo : Int} {L : List Nat} {m : Nat} (h : L.Nodup) : (visit wo L m).Nodup := by
  unfold visit
  split
  · rename_i hc
    rw [List.nodup_append]
    exact ⟨h, by simp, fun a ha b hb => by simp at hb; subst hb; intro e; subst e; exact hc.2 ha⟩
  · exact h
theorem visit_prefix (wo : Int) (L : List Nat) (m : Nat) : ∃ q, visit wo L m = L ++ q := by
  unfold visit; split
  · exact ⟨[m], rfl⟩
  · exact ⟨[], by simp⟩

/-- What is known of the list of those that have been come to, the first i of which have been looked at. -/
structure Seen (k : List Ins) (wo : Int) (n : Nat) (L : List Nat) (i : Nat) : Prop where
  nodup : L.Nodup
  lt : ∀ x ∈ L, x < k.length
  start : n ∈ L
  back : ∀ x ∈ L, Rch k wo x → Rch k wo n
  done : ∀ t x, t < i → L[t]? = some x → ¬ isEnd k x ∧ ∀ m ∈ nxt k x, (m : Int) ≠ wo → m ∈ L

theorem nodup_len : ∀ {n : Nat} {L : List Nat}, L.Nodup → (∀ x ∈ L, x < n) → L.length ≤ n
  | 0, L, _, hl => by
    cases L with
    | nil => simp
    | cons x L => have := hl x (by simp); omega
  | n + 1, L, h, hl => by
    by_cases hn : n ∈ L
    · have h1 := nodup_len (n := n) (h.erase n) (fun x hx => by
        have hx2 := (h.mem_erase_iff).1 hx
        have := hl x hx2.2
        have := hx2.1
        omega)
      rw [List.length_erase_of_mem hn] at h1
      omega
    · have := nodup_len (n := n) h (fun x hx => by
        have := hl x hx
        have : x ≠ n := fun e => hn (e ▸ hx)
        omega)
      omega

theorem Seen.none {k : List Ins} {wo : Int} {n : Nat} {L : List Nat} {i : Nat} (h : Seen k wo n L i) (hi : L.length ≤ i) : ¬ Rch k wo n := by
  have key : ∀ p x, x ∈ L → ¬ IsWay k wo x p := by
    intro p
    induction p with
    | nil =>
      intro x hx hw
      obtain ⟨t, ht⟩ := List.mem_iff_getElem?.1 hx
      have htl := (List.getElem?_eq_some_iff.1 ht).1
      exact (h.done t x (by omega) ht).1 hw
    | cons m p ih =>
      intro x hx hw
      obtain ⟨h1, h2, h3⟩ := hw
      obtain ⟨t, ht⟩ := List.mem_iff_getElem?.1 hx
      have htl := (List.getElem?_eq_some_iff.1 ht).1
      exact ih m ((h.done t x (by omega) ht).2 m h1 h2) h3
  rintro ⟨p, hp⟩
  exact key p n h.start hp

theorem Seen.begin {k : List Ins} {wo : Int} {n : Nat} (hn : n < k.length) : Seen k wo n [n] 0 :=
  ⟨by simp, fun x hx => by simp at hx; omega, by simp, fun x hx hr => by simp at hx; subst hx; exact hr, fun t x ht => by omega⟩

/-- One more is looked at: what comes next behind it has been visited. -/
theorem Seen.look {k : List Ins} {wo : Int} {n : Nat} {L : List Nat} {i x : Nat} (hc : Closed k) (h : Seen k wo n L i) (hx : L[i]? = some x) (he : ¬ isEnd k x) : Seen k wo n ((nxt k x).foldl (visit wo) L) (i + 1) := by
  have hxL := List.mem_of_getElem? hx
  have gen : ∀ (ms : List Nat) (L' : List Nat), (∀ m ∈ ms, m ∈ nxt k x) → (∃ q, L' = L ++ q) → L'.Nodup → (∀ y ∈ L', y < k.length) → (∀ y ∈ L', Rch k wo y → Rch k wo n) →
      (∃ q, ms.foldl (visit wo) L' = L ++ q) ∧ (ms.foldl (visit wo) L').Nodup ∧ (∀ y ∈ ms.foldl (visit wo) L', y < k.length) ∧ (∀ y ∈ ms.foldl (visit wo) L', Rch k wo y → Rch k wo n) ∧ (∀ y ∈ L', y ∈ ms.foldl (visit wo) L') ∧ ∀ m ∈ ms, (m : Int) ≠ wo → m ∈ ms.foldl (visit wo) L' := by
    intro ms
    induction ms with
    | nil => intro L' _ h1 h2 h3 h4; exact ⟨h1, h2, h3, h4, fun y hy => hy, fun m hm => by simp at hm⟩
    | cons m ms ih =>
      intro L' hm h1 h2 h3 h4
      obtain ⟨q, rfl⟩ := h1
      obtain ⟨q2, hq2⟩ := visit_prefix wo (L ++ q) m
      have hmn := hm m (by simp)
      obtain ⟨a1, a2, a3, a4, a5, a6⟩ := ih (visit wo (L ++ q) m) (fun y hy => hm y (by simp [hy])) ⟨q ++ q2, by rw [hq2, List.append_assoc]⟩ (visit_nodup h2)
        (fun y hy => by
          rcases visit_mem hy with hy | ⟨rfl, -⟩
          · exact h3 y hy
          · exact hc x y (h.lt x hxL) hmn)
        (fun y hy hr => by
          rcases visit_mem hy with hy | ⟨rfl, hw⟩
          · exact h4 y hy hr
          · obtain ⟨p, hp⟩ := hr
            exact h.back x hxL ⟨y :: p, hmn, hw, hp⟩)
      refine ⟨a1, a2, a3, a4, fun y hy => a5 y (visit_sub hy), fun y hy hw => ?_⟩
      rcases List.mem_cons.1 hy with rfl | hy
      · exact a5 y (visit_has hw)
      · exact a6 y hy hw
  obtain ⟨⟨q, hq⟩, a2, a3, a4, a5, a6⟩ := gen (nxt k x) L (fun _ hm => hm) ⟨[], by simp⟩ h.nodup h.lt h.back
  refine ⟨a2, a3, a5 n h.start, a4, fun t y ht hy => ?_⟩
  have htl : t < L.length := by have := (List.getElem?_eq_some_iff.1 hx).1; omega
  rw [hq, List.getElem?_append_left htl] at hy
  by_cases hti : t < i
  · obtain ⟨b1, b2⟩ := h.done t y hti hy
    exact ⟨b1, fun m hm hw => a5 m (b2 m hm hw)⟩
  · have : t = i := by omega
    subst this
    rw [hx] at hy
    cases hy
    exact ⟨he, a6⟩

theorem Seen.found {k : List Ins} {wo : Int} {n : Nat} {L : List Nat} {i x : Nat} (h : Seen k wo n L i) (hx : L[i]? = some x) (he : isEnd k x) : Rch k wo n :=
  h.back x (List.mem_of_getElem? hx) ⟨[], he⟩

end Go.Proofs.Ytbhbacphiinpeaa
