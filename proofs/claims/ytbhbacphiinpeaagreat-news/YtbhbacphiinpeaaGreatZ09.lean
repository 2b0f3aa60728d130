/- Gr G1 G2: joined. -/
import Derived.Test.YtbhbacphiinpeaaGreatZ02
import Derived.Test.YtbhbacphiinpeaaGreatRows
import Derived.Test.YtbhbacphiinpeaaGreatZ01
import Derived.Deep.LoopGhost

/- Ways in a kernel: plain lists; nothing of the program is in this text. -/
namespace Go.Proofs.YtbhbacphiinpeaaGreat
open Go.RowKit

/-- What may come behind instruction n. -/
def nxt (k : List Ins) (n : Nat) : List Nat := match k[n]? with
  | none => []
  | some x => if x.o = 0 then [] else if x.o = 12 then [x.b.toNat] else if x.o = 13 then [x.b.toNat, n + 1] else [n + 1]

def isEnd (k : List Ins) (n : Nat) : Prop := ∃ x, k[n]? = some x ∧ x.o = 0

/-- A way from n to an Exit that comes by no instruction 'wo' behind n. -/
def IsWay (k : List Ins) (wo : Int) : Nat → List Nat → Prop
  | n, [] => isEnd k n
  | n, m :: p => m ∈ nxt k n ∧ (m : Int) ≠ wo ∧ IsWay k wo m p

def Rch (k : List Ins) (wo : Int) (n : Nat) : Prop := ∃ p, IsWay k wo n p

/-- All that comes next are instructions of the kernel. -/
def Closed (k : List Ins) : Prop := ∀ n m, n < k.length → m ∈ nxt k n → m < k.length

theorem closed_chk {k : List Ins} (h : chk k = (0, 0)) : Closed k := by
  obtain ⟨-, h1, h2, h3⟩ := chk_zero (by rw [h])
  intro n m hn hm
  have hx : k[n]? = some k[n] := List.getElem?_eq_getElem hn
  have hok := h3 n _ hx
  unfold nxt at hm
  rw [hx] at hm
  dsimp only at hm
  have hlast : n + 1 < k.length ∨ (k[n].o = 0 ∨ k[n].o = 12) := by
    by_cases hl : n + 1 < k.length
    · exact .inl hl
    · right
      have hn' : k.length - 1 = n := by omega
      have hlo : lastOp k = k[n].o := by unfold lastOp; rw [hn', hx]
      unfold chk at h
      rw [if_neg (by omega)] at h
      cases hb : badAt k.length k with
      | some i => rw [hb] at h; simp at h
      | none =>
        rw [hb] at h
        dsimp only at h
        by_cases hf : lastOp k ≠ 0 ∧ lastOp k ≠ 12
        · rw [if_pos hf] at h; simp at h
        · rw [hlo] at hf; omega
  by_cases h0 : k[n].o = 0
  · rw [if_pos h0] at hm; simp at hm
  rw [if_neg h0] at hm
  have hb : ∀ {o : Int}, k[n].o = o → (o = 12 ∨ o = 13) → k[n].b.toNat < k.length := fun {o} e ho => by
    unfold okB at hok
    rcases ho with rfl | rfl
    · simp [e] at hok
      have := bel_bd hok.1.2
      omega
    · simp [e] at hok
      have := bel_bd hok.1.2
      omega
  by_cases h12 : k[n].o = 12
  · rw [if_pos h12] at hm
    simp at hm
    subst hm
    exact hb h12 (.inl rfl)
  rw [if_neg h12] at hm
  by_cases h13 : k[n].o = 13
  · rw [if_pos h13] at hm
    simp at hm
    rcases hm with rfl | rfl
    · exact hb h13 (.inr rfl)
    · omega
  rw [if_neg h13] at hm
  simp at hm
  omega

/-- One instruction more that has been come to. -/
def visit (wo : Int) (L : List Nat) (m : Nat) : List Nat := if (m : Int) ≠ wo ∧ m ∉ L then L ++ [m] else L

theorem visit_sub {wo : Int} {L : List Nat} {m x : Nat} (h : x ∈ L) : x ∈ visit wo L m := by
  unfold visit; split <;> simp [h]
theorem visit_mem {wo : Int} {L : List Nat} {m x : Nat} (h : x ∈ visit wo L m) : x ∈ L ∨ (x = m ∧ (m : Int) ≠ wo) := by
  unfold visit at h
  split at h
  · rename_i hc
    simp at h
    rcases h with h | h
    · exact .inl h
    · exact .inr ⟨h, hc.1⟩
  · exact .inl h
theorem visit_has {wo : Int} {L : List Nat} {m : Nat} (h : (m : Int) ≠ wo) : m ∈ visit wo L m := by
  unfold visit
  by_cases hm : m ∈ L
  · rw [if_neg (by simp [hm])]; exact hm
  · rw [if_pos ⟨h, hm⟩]; simp
theorem visit_nodup {wo : Int} {L : List Nat} {m : Nat} (h : L.Nodup) : (visit wo L m).Nodup := by
  unfold visit
  split
  · rename_i hc
    rw [List.nodup_append]
    exact ⟨h, by simp, fun a ha b hb => by simp at hb; subst hb; intro e; subst e; exact hc.2 ha⟩
  · exact h
theorem visit_prefix (wo : Int) (L : List Nat) (m : Nat) : ∃ q, visit wo L m = L ++ q := by
  unfold visit; split
  · exact ⟨[m], rfl⟩
  · exact ⟨[], by simp⟩

/-- What is known of the list of those that have been come to, the first i of which have been looked at. -/
structure Seen (k : List Ins) (wo : Int) (n : Nat) (L : List Nat) (i : Nat) : Prop where
  nodup : L.Nodup
  lt : ∀ x ∈ L, x < k.length
  start : n ∈ L
  back : ∀ x ∈ L, Rch k wo x → Rch k wo n
  done : ∀ t x, t < i → L[t]? = some x → ¬ isEnd k x ∧ ∀ m ∈ nxt k x, (m : Int) ≠ wo → m ∈ L

theorem nodup_len : ∀ {n : Nat} {L : List Nat}, L.Nodup → (∀ x ∈ L, x < n) → L.length ≤ n
  | 0, L, _, hl => by
    cases L with
    | nil => simp
    | cons x L => have := hl x (by simp); omega
  | n + 1, L, h, hl => by
    by_cases hn : n ∈ L
    · have h1 := nodup_len (n := n) (h.erase n) (fun x hx => by
        have hx2 := (h.mem_erase_iff).1 hx
        have := hl x hx2.2
        have := hx2.1
        omega)
      rw [List.length_erase_of_mem hn] at h1
      omega
    · have := nodup_len (n := n) h (fun x hx => by
        have := hl x hx
        have : x ≠ n := fun e => hn (e ▸ hx)
        omega)
      omega

theorem Seen.none {k : List Ins} {wo : Int} {n : Nat} {L : List Nat} {i : Nat} (h : Seen k wo n L i) (hi : L.length ≤ i) : ¬ Rch k wo n := by
  have key : ∀ p x, x ∈ L → ¬ IsWay k wo x p := by
    intro p
    induction p with
    | nil =>
      intro x hx hw
      obtain ⟨t, ht⟩ := List.mem_iff_getElem?.1 hx
      have htl := (List.getElem?_eq_some_iff.1 ht).1
      exact (h.done t x (by omega) ht).1 hw
    | cons m p ih =>
      intro x hx hw
      obtain ⟨h1, h2, h3⟩ := hw
      obtain ⟨t, ht⟩ := List.mem_iff_getElem?.1 hx
      have htl := (List.getElem?_eq_some_iff.1 ht).1
      exact ih m ((h.done t x (by omega) ht).2 m h1 h2) h3
  rintro ⟨p, hp⟩
  exact key p n h.start hp

theorem Seen.begin {k : List Ins} {wo : Int} {n : Nat} (hn : n < k.length) : Seen k wo n [n] 0 :=
  ⟨by simp, fun x hx => by simp at hx; omega, by simp, fun x hx hr => by simp at hx; subst hx; exact hr, fun t x ht => by omega⟩

/-- One more is looked at: what comes next behind it has been visited. -/
theorem Seen.look {k : List Ins} {wo : Int} {n : Nat} {L : List Nat} {i x : Nat} (hc : Closed k) (h : Seen k wo n L i) (hx : L[i]? = some x) (he : ¬ isEnd k x) : Seen k wo n ((nxt k x).foldl (visit wo) L) (i + 1) := by
  have hxL := List.mem_of_getElem? hx
  have gen : ∀ (ms : List Nat) (L' : List Nat), (∀ m ∈ ms, m ∈ nxt k x) → (∃ q, L' = L ++ q) → L'.Nodup → (∀ y ∈ L', y < k.length) → (∀ y ∈ L', Rch k wo y → Rch k wo n) →
      (∃ q, ms.foldl (visit wo) L' = L ++ q) ∧ (ms.foldl (visit wo) L').Nodup ∧ (∀ y ∈ ms.foldl (visit wo) L', y < k.length) ∧ (∀ y ∈ ms.foldl (visit wo) L', Rch k wo y → Rch k wo n) ∧ (∀ y ∈ L', y ∈ ms.foldl (visit wo) L') ∧ ∀ m ∈ ms, (m : Int) ≠ wo → m ∈ ms.foldl (visit wo) L' := by
    intro ms
    induction ms with
    | nil => intro L' _ h1 h2 h3 h4; exact ⟨h1, h2, h3, h4, fun y hy => hy, fun m hm => by simp at hm⟩
    | cons m ms ih =>
      intro L' hm h1 h2 h3 h4
      obtain ⟨q, rfl⟩ := h1
      obtain ⟨q2, hq2⟩ := visit_prefix wo (L ++ q) m
      have hmn := hm m (by simp)
      obtain ⟨a1, a2, a3, a4, a5, a6⟩ := ih (visit wo (L ++ q) m) (fun y hy => hm y (by simp [hy])) ⟨q ++ q2, by rw [hq2, List.append_assoc]⟩ (visit_nodup h2)
        (fun y hy => by
          rcases visit_mem hy with hy | ⟨rfl, -⟩
          · exact h3 y hy
          · exact hc x y (h.lt x hxL) hmn)
        (fun y hy hr => by
          rcases visit_mem hy with hy | ⟨rfl, hw⟩
          · exact h4 y hy hr
          · obtain ⟨p, hp⟩ := hr
            exact h.back x hxL ⟨y :: p, hmn, hw, hp⟩)
      refine ⟨a1, a2, a3, a4, fun y hy => a5 y (visit_sub hy), fun y hy hw => ?_⟩
      rcases List.mem_cons.1 hy with rfl | hy
      · exact a5 y (visit_has hw)
      · exact a6 y hy hw
  obtain ⟨⟨q, hq⟩, a2, a3, a4, a5, a6⟩ := gen (nxt k x) L (fun _ hm => hm) ⟨[], by simp⟩ h.nodup h.lt h.back
  refine ⟨a2, a3, a5 n h.start, a4, fun t y ht hy => ?_⟩
  have htl : t < L.length := by have := (List.getElem?_eq_some_iff.1 hx).1; omega
  rw [hq, List.getElem?_append_left htl] at hy
  by_cases hti : t < i
  · obtain ⟨b1, b2⟩ := h.done t y hti hy
    exact ⟨b1, fun m hm hw => a5 m (b2 m hm hw)⟩
  · have : t = i := by omega
    subst this
    rw [hx] at hy
    cases hy
    exact ⟨he, a6⟩

theorem Seen.found {k : List Ins} {wo : Int} {n : Nat} {L : List Nat} {i x : Nat} (h : Seen k wo n L i) (hx : L[i]? = some x) (he : isEnd k x) : Rch k wo n :=
  h.back x (List.mem_of_getElem? hx) ⟨[], he⟩

end Go.Proofs.YtbhbacphiinpeaaGreat

/- What the document's 'next' and 'reaches' answer. -/
namespace Go.Proofs.YtbhbacphiinpeaaGreat
open Go.RowKit

theorem Tryz.info3 : (Tryz.prog.info? 3).map (fun i => (i.zero, i.size, i.bytes)) = some (some (.int .i64 0), 1, 8) := by kernel_rfl
theorem Tryz.info4 : (Tryz.prog.info? 4).map (fun i => (i.zero, i.size, i.bytes)) = some (some (.bool false), 1, 1) := by kernel_rfl

/-- Numbers of instructions as cells. -/
def natVals (l : List Nat) : List Value := l.map fun (m : Nat) => Value.int .i64 (m : Int)

set_option maxHeartbeats 400000 in
theorem next_at (b off n cap i : Nat) (x : Ins) (hi : i < n) (hn : n ≤ 40) (hb0 : 0 ≤ x.b) (w : World) (k : List Ins) (hx : k[i]? = some x)
    (c0 : w.cell? ⟨b, off + i * 4, none⟩ = some (.int .i64 x.o)) (c2 : w.cell? ⟨b, off + i * 4 + 2, none⟩ = some (.int .i64 x.b)) :
    Calls Tryz.prog 87 #[.slice (some ⟨b, off, none⟩) n cap, .int .i64 i] w fun e w' => ∃ v, e = .returned v ∧ w'.ownsRow w.heap.size 3 1 v (nxt k i).length (natVals (nxt k i)) ∧ Below w.heap.size w w' := by
  have hnx : nxt k i = if x.o = 0 then [] else if x.o = 12 then [x.b.toNat] else if x.o = 13 then [x.b.toNat, i + 1] else [i + 1] := by unfold nxt; rw [hx]
  rw [hnx]
  have Hx := hyd hx
  have hbn : ((x.b.toNat : Nat) : Int) = x.b := by omega
  have Hbn := hyd hbn
  clear hx hnx hbn
  have i1 : (0 : Int) ≤ (i : Int) := by omega
  have i2 : (i : Int) < (n : Int) := by omega
  by_cases h0 : x.o = 0
  · rw [if_pos h0]
    have t0 : (x.o == 0) = true := by rw [h0]; rfl
    clear h0
    go_enter Tryz.func87, Tryz.ntmps87
    go_wp2
    go_ret
    exact ⟨_, rfl, World.ownsRow_nil _ _ _ _, Below.refl _ _⟩
  rw [if_neg h0]
  have t0 : (x.o == 0) = false := beq_eq_false_iff_ne.2 h0
  by_cases h12 : x.o = 12
  · rw [if_pos h12]
    have t1 : (x.o == 12) = true := by rw [h12]; rfl
    clear h0 h12
    go_enter Tryz.func87, Tryz.ntmps87
    go_wp2
    go_ret
    refine ⟨_, rfl, ?_, (Below.refl _ _).alloc (Nat.le_refl _) _⟩
    have := World.ownsRow_lit (base := w.heap.size) (e := 3) (size := 1) w #[.int .i64 x.b] 1 (Nat.le_refl _) (by decide) rfl
    unfold natVals
    rw [List.map_cons, List.map_nil, Hbn.out]
    exact this
  rw [if_neg h12]
  have t1 : (x.o == 12) = false := beq_eq_false_iff_ne.2 h12
  by_cases h13 : x.o = 13
  · rw [if_pos h13]
    have t2 : (x.o == 13) = true := by rw [h13]; rfl
    clear h0 h12 h13
    go_enter Tryz.func87, Tryz.ntmps87
    go_wp2
    go_ret
    refine ⟨_, rfl, ?_, (Below.refl _ _).alloc (Nat.le_refl _) _⟩
    have := World.ownsRow_lit (base := w.heap.size) (e := 3) (size := 1) w #[.int .i64 x.b, .int .i64 ((i : Int) + 1)] 2 (Nat.le_refl _) (by decide) rfl
    unfold natVals
    rw [List.map_cons, List.map_cons, List.map_nil, Hbn.out]
    exact this
  · rw [if_neg h13]
    have t2 : (x.o == 13) = false := beq_eq_false_iff_ne.2 h13
    clear h0 h12 h13
    go_enter Tryz.func87, Tryz.ntmps87
    go_wp2
    go_ret
    refine ⟨_, rfl, ?_, (Below.refl _ _).alloc (Nat.le_refl _) _⟩
    exact World.ownsRow_lit (base := w.heap.size) (e := 3) (size := 1) w #[.int .i64 ((i : Int) + 1)] 1 (Nat.le_refl _) (by decide) rfl

/-- Which of n instructions have been come to, as cells. -/
def seenVals (n : Nat) (L : List Nat) : List Value := (List.range n).map fun x => Value.bool (decide (x ∈ L))

theorem seen_at {n m : Nat} (L : List Nat) (h : m < n) : (seenVals n L)[m]? = some (.bool (decide (m ∈ L))) := by simp [seenVals, List.getElem?_map, List.getElem?_range h]
theorem seen_set {n m : Nat} (L : List Nat) : (seenVals n L).set m (.bool true) = seenVals n (L ++ [m]) := by
  apply List.ext_getElem?
  intro i
  by_cases hi : i < n
  · rw [seen_at _ hi]
    by_cases e : m = i
    · subst e
      rw [List.getElem?_set_self (by simpa [seenVals] using hi)]
      simp
    · rw [List.getElem?_set_ne e, seen_at _ hi]
      have : i ≠ m := fun e2 => e e2.symm
      simp [this]
  · rw [List.getElem?_eq_none (by simp [seenVals]; omega), List.getElem?_eq_none (by simp [seenVals]; omega)]
theorem seen_none (n : Nat) : List.replicate n (Value.bool false) = seenVals n [] := by
  apply List.ext_getElem?
  intro i
  by_cases hi : i < n
  · rw [seen_at _ hi, List.getElem?_replicate, if_pos hi]; simp
  · rw [List.getElem?_eq_none (by simp; omega), List.getElem?_eq_none (by simp [seenVals]; omega)]
theorem nat_at {L : List Nat} {i x : Nat} (h : L[i]? = some x) : (natVals L)[i]? = some (.int .i64 x) := by simp [natVals, List.getElem?_map, h]
theorem nat_snoc (L : List Nat) (m : Nat) : natVals (L ++ [m]) = natVals L ++ [.int .i64 m] := by simp [natVals]

theorem foldl_snoc {wo : Int} {ms : List Nat} {j m : Nat} (L : List Nat) (h : ms[j]? = some m) : (ms.take (j + 1)).foldl (visit wo) L = visit wo ((ms.take j).foldl (visit wo) L) m := by
  have hj := (List.getElem?_eq_some_iff.1 h).1
  have e : ms[j] = m := by rw [List.getElem?_eq_getElem hj] at h; exact Option.some.inj h
  rw [List.take_succ_eq_append_getElem hj, e, List.foldl_append]
  rfl

end Go.Proofs.YtbhbacphiinpeaaGreat

/- What the document's 'reaches' answers. -/
namespace Go.Proofs.YtbhbacphiinpeaaGreat
open Go.RowKit

theorem fold_len (wo : Int) : ∀ (ms : List Nat) (L : List Nat), L.length ≤ (ms.foldl (visit wo) L).length
  | [], L => Nat.le_refl _
  | m :: ms, L => by
    have h := fold_len wo ms (visit wo L m)
    obtain ⟨q, hq⟩ := visit_prefix wo L m
    have h2 : L.length ≤ (visit wo L m).length := by rw [hq]; simp
    exact Nat.le_trans h2 h

theorem set_size (w : World) (a : Addr) (v : Value) : (w.setCell a v).heap.size = w.heap.size := by simp [World.setCell]

set_option maxHeartbeats 2000000 in
set_option maxRecDepth 100000 in
theorem reaches_at (b off n cap s : Nat) (k : List Ins) (hk : k.length = n) (hn1 : 1 ≤ n) (hn : n ≤ 40) (hcl : Closed k) (hs : s < n) (wo : Int) (w : World) (hbw : b < w.heap.size) (hb0 : ∀ (i : Nat) x, k[i]? = some x → 0 ≤ x.b)
    (hc : ∀ (i : Nat) x, k[i]? = some x → w.cell? ⟨b, off + i * 4, none⟩ = some (.int .i64 x.o) ∧ w.cell? ⟨b, off + i * 4 + 1, none⟩ = some (.int .i64 x.a) ∧ w.cell? ⟨b, off + i * 4 + 2, none⟩ = some (.int .i64 x.b) ∧ w.cell? ⟨b, off + i * 4 + 3, none⟩ = some (.int .i64 x.c)) :
    Calls Tryz.prog 71 #[.slice (some ⟨b, off, none⟩) n cap, .int .i64 s, .int .i64 wo] w fun e w' => (∃ r : Bool, e = .returned (.bool r) ∧ (r = true ↔ Rch k wo s)) ∧ Below w.heap.size w w' := by
  have Hk := hyd hk
  have HCl := hyd hcl
  have Hb0 := hyd hb0
  have Hc := hyd hc
  clear hk hcl hb0 hc
  have hn2 : (n : Int) ≤ 40 := by omega
  have s1 : (0 : Int) ≤ (s : Int) := by omega
  have s2 : (s : Int) < (n : Int) := by omega
  obtain ⟨i0, hi, hz0, hz1, hz2⟩ := info_parts Tryz.info3
  obtain ⟨j0, hj, hy0, hy1, hy2⟩ := info_parts Tryz.info4
  go_enter Tryz.func71, Tryz.ntmps71
  go_wp2_with (at_make; go_must (refine wpList_make_full _ rfl _ _ 141 rfl w.heap.size 4 j0 (.bool false) 1 Tryz.underlying141 hj hy0 hy1 .i64 .i64 _ _ n rfl rfl ?m1 ?m2 ?m3 ?m4 ?m5 ?_))
  case m1 => rfl
  case m2 => rfl
  case m3 => rw [hy2]; omega
  case m4 => unfold maxLen; omega
  case m5 => exact Nat.le_refl _
  · intro w1 hseen0 hgrow0
    have hsl : (madeCells #[Value.bool false] n).toList = seenVals n [] := by
      rw [← seen_none]; exact toList_madeCells_one _ n
    rw [hsl] at hseen0
    have hb1 : Below w.heap.size w w1 := (Below.refl _ w).grown hgrow0 (Nat.le_refl _) (fun x hx => by cases hx)
    have hsz1 : w.heap.size < w1.heap.size := (hseen0.lt _ rfl).2
    have hso := hseen0.stored s (.bool true)
    have hcell := (hseen0.cellAt s (by omega)).trans (seen_at [] hs)
    have hfz := hseen0.frozenAt s
    rw [seen_set] at hso
    have HS0 := hyd hseen0
    have Hso := hyd hso.1
    have HB1 := hyd hb1
    clear hseen0 hgrow0 hsl hb1 hso
    go_wp2_with fail
    go_loopw [8, 9] (fun vl iv wr => ∃ (i : Nat) (L : List Nat), i ≤ L.length ∧ iv = .int .i64 i ∧ wr.ownsRow w.heap.size 3 1 vl L.length (natVals L) ∧ wr.ownsRow w.heap.size 4 1 (.slice (some ⟨w.heap.size, 0, none⟩) n n) n (seenVals n L) ∧ Seen k wo s L i ∧ Below w.heap.size w wr) (fun _ iv _ => n - (intOf iv).toNat)
    case atStart =>
      refine ⟨0, [s], by omega, rfl, ?_, ?_, Seen.begin (by rw [Hk.out]; exact hs), ?_⟩
      · have h := World.ownsRow_lit (base := w.heap.size) (e := 3) (size := 1) (w1.setCell ⟨w.heap.size, s, none⟩ (.bool true)) #[.int .i64 s] 1 (by rw [set_size]; omega) (by decide) rfl
        rw [set_size] at h
        exact h
      · exact Hso.out.alloc _
      · exact (HB1.out.setCell (p := ⟨w.heap.size, s, none⟩) (Nat.le_refl _) _).alloc (by rw [set_size]; omega) _
    case round =>
      obtain ⟨i, L, hiL, rfl, hl, hse, hS, hb⟩ := hrel
      have hLn : L.length ≤ n := by have := nodup_len hS.nodup hS.lt; rw [Hk.out] at this; exact this
      obtain ⟨gl, cl, hvl, hgl, hgl2⟩ := hl.form (by have := List.length_pos_of_mem hS.start; omega)
      subst hvl
      have HL := hyd hl
      have HSe := hyd hse
      have HS := hyd hS
      clear hl hse hS hcell hfz HS0 Hso
      by_cases hil : i < L.length
      · obtain ⟨x, hx⟩ : ∃ x, L[i]? = some x := ⟨_, List.getElem?_eq_getElem hil⟩
        have hxn : x < n := by have := HS.out.lt x (List.mem_of_getElem? hx); rwa [Hk.out] at this
        have lc := (HL.out.cellAt i (by omega)).trans (nat_at hx)
        obtain ⟨y, hy⟩ : ∃ y, k[x]? = some y := ⟨_, List.getElem?_eq_getElem (by rw [Hk.out]; exact hxn)⟩
        obtain ⟨c0, -, c2, -⟩ := Hc.out x y hy
        have d0 := (hb.cell (p := ⟨b, off + x * 4, none⟩) hbw).trans c0
        have d2 := (hb.cell (p := ⟨b, off + x * 4 + 2, none⟩) hbw).trans c2
        have hyb := Hb0.out x y hy
        have Hx := hyd hx
        have Hy := hyd hy
        clear hx hy c0 c2
        have x1 : (0 : Int) ≤ (x : Int) := by omega
        have x2 : (x : Int) < (n : Int) := by omega
        have z1 : (i : Int) < (L.length : Int) := by omega
        by_cases he : y.o = 0
        · have t0 : (y.o == 0) = true := by rw [he]; rfl
          have He := hyd he
          clear he
          go_wp2
          go_ret
          exact ⟨⟨true, rfl, by simpa using HS.out.found Hx.out ⟨y, Hy.out, He.out⟩⟩, hb⟩
        · have t0 : (y.o == 0) = false := beq_eq_false_iff_ne.2 he
          have He : Hid (¬ isEnd k x) := fun ⟨y', h1, h2⟩ => by rw [Hy.out] at h1; cases h1; exact he h2
          clear he
          go_wp2_with fail
          refine (next_at b off n cap x y hxn hn hyb wr k Hy.out d0 d2).mono ?_
          rintro e w2 ⟨vm, rfl, hm2, hb2⟩
          obtain ⟨ms, Hms⟩ : ∃ ms, Hid (nxt k x = ms) := ⟨_, rfl⟩
          rw [Hms.out] at hm2
          have hvm : ∃ ao c, vm = .slice ao ms.length c := by
            rcases hm2.2 with ⟨rfl, h0⟩ | ⟨g, c, cur, rfl, -⟩
            · exact ⟨none, 0, by rw [h0]⟩
            · exact ⟨_, c, rfl⟩
          obtain ⟨ma, mc, rfl⟩ := hvm
          obtain ⟨p, Hp⟩ : ∃ p, Hid (ms.length = p) := ⟨_, rfl⟩
          rw [Hp.out] at hm2
          have hp2 : p ≤ 2 := by
            rw [← Hp.out, ← Hms.out]; unfold nxt; rw [Hy.out]; dsimp only
            split
            · simp
            split
            · simp
            split <;> simp
          have hmlt : ∀ m ∈ ms, m < n := fun m hm => by
            have := HCl.out x m (by rw [Hk.out]; exact hxn) (by rw [Hms.out]; exact hm)
            rwa [Hk.out] at this
          have Hmlt := hyd hmlt
          have HM := hyd hm2
          have HL2 := hyd (HL.out.keptB hb2)
          have HSe2 := hyd (HSe.out.keptB hb2)
          have HB2 := hyd (hb.trans (hb2.mono hb.size))
          have hglm : ∀ g, Value.ownBlock (.slice ma p mc) = some g → gl < g := fun g hg => by have := (hm2.lt g hg).1; omega
          have Hglm := hyd hglm
          clear hm2 hmlt hb2 d0 d2 lc hglm
          rw [Hp.out]
          go_wp2_with fail
          go_loopw [8, 11] (fun vl jv wx => ∃ (j : Nat) (L' : List Nat) (g' c' : Nat), j ≤ p ∧ jv = .int .i64 j ∧ L' = (ms.take j).foldl (visit wo) L ∧ vl = .slice (some ⟨g', 0, none⟩) L'.length c' ∧ wx.ownsRow w.heap.size 3 1 vl L'.length (natVals L') ∧ wx.ownsRow w.heap.size 4 1 (.slice (some ⟨w.heap.size, 0, none⟩) n n) n (seenVals n L') ∧
              wx.ownsRow wr.heap.size 3 1 (.slice ma p mc) p (natVals ms) ∧ (∀ g, Value.ownBlock (.slice ma p mc) = some g → g ≠ g') ∧ L'.length ≤ L.length + j ∧ Below w.heap.size w wx) (fun _ jv _ => p - (intOf jv).toNat)
          case atStart => exact ⟨0, L, gl, cl, by omega, rfl, rfl, rfl, HL2.out, HSe2.out, HM.out, fun g hg => by have := Hglm.out g hg; omega, by omega, HB2.out⟩
          case round =>
            obtain ⟨j, L', g', c', hj, rfl, hL', rfl, hl', hse', hm', hne', hlen', hb'⟩ := hrel
            have HL' := hyd hL'
            clear hL'
            by_cases hjp : j < p
            · obtain ⟨m, hm⟩ : ∃ m, ms[j]? = some m := ⟨_, List.getElem?_eq_getElem (by rw [Hp.out]; exact hjp)⟩
              have hmn := Hmlt.out m (List.mem_of_getElem? hm)
              obtain ⟨gm, hgm⟩ : ∃ gm, ma = some ⟨gm, 0, none⟩ := by
                rcases hm'.2 with ⟨h0, h00⟩ | ⟨g, c, cur, hv, -⟩
                · omega
                · simp only [Value.slice.injEq] at hv; exact ⟨g, hv.1⟩
              subst hgm
              have mcell := (hm'.cellAt j (by omega)).trans (nat_at hm)
              have scell := (hse'.cellAt m (by omega)).trans (seen_at L' hmn)
              have sfz := hse'.frozenAt m
              have Hfold := hyd (foldl_snoc (wo := wo) L hm)
              clear hm
              have m1 : (0 : Int) ≤ (m : Int) := by omega
              have m2 : (m : Int) < (n : Int) := by omega
              have j2 : (j : Int) < (p : Int) := by omega
              have hL40 : L'.length ≤ 42 := by omega
              by_cases hw : (m : Int) = wo
              · have g0 : ((m : Int) != wo) = false := by rw [hw]; simp
                have Hv : Hid (visit wo L' m = L') := by unfold visit; rw [if_neg (fun h => h.1 hw)]; exact rfl
                have HX := hyd (And.intro hl' (And.intro hse' hm'))
                clear hw hl' hse' hm' scell sfz
                go_wp2
                go_roundw
                case rel => exact ⟨j + 1, L', g', c', by omega, by go_num, by rw [Hfold.out, ← HL'.out, Hv.out], rfl, HX.out.1, HX.out.2.1, HX.out.2.2, hne', by omega, hb'⟩
                case measure => simp [intOf]; omega
              · have g0 : ((m : Int) != wo) = true := by simpa using hw
                by_cases hin : m ∈ L'
                · have Hv : Hid (visit wo L' m = L') := by unfold visit; rw [if_neg (fun h => h.2 hin)]; exact rfl
                  have hd : decide (m ∈ L') = true := by simpa using hin
                  rw [hd] at scell
                  have HX := hyd (And.intro hl' (And.intro hse' hm'))
                  clear hw hl' hse' hm' sfz hin hd
                  go_wp2
                  go_roundw
                  case rel => exact ⟨j + 1, L', g', c', by omega, by go_num, by rw [Hfold.out, ← HL'.out, Hv.out], rfl, HX.out.1, HX.out.2.1, HX.out.2.2, hne', by omega, hb'⟩
                  case measure => simp [intOf]; omega
                · have Hv : Hid (visit wo L' m = L' ++ [m]) := by unfold visit; rw [if_pos ⟨hw, hin⟩]; exact rfl
                  have hd : decide (m ∈ L') = false := by simpa using hin
                  rw [hd] at scell
                  have hgs : g' ≠ w.heap.size := fun e0 => by
                    rcases rows_apart hl' hse' (by decide) with h | h
                    · simp [Value.ownBlock] at h
                    · exact h (by simp [Value.ownBlock, e0])
                  have hgms : gm ≠ w.heap.size := fun e0 => by
                    rcases rows_apart hm' hse' (by decide) with h | h
                    · simp [Value.ownBlock] at h
                    · exact h (by simp [Value.ownBlock, e0])
                  have hgmg : gm ≠ g' := hne' gm rfl
                  have hgm2 := (hm'.lt gm rfl).2
                  have o1 := owns_setCell hl' (a := ⟨w.heap.size, m, none⟩) (fun g hg => by simp only [Value.ownBlock, Option.some.injEq] at hg; subst hg; exact hgs) (.bool true)
                  have o2 := (hse'.stored m (.bool true)).1
                  rw [seen_set] at o2
                  have o3 := owns_setCell hm' (a := ⟨w.heap.size, m, none⟩) (fun g hg => by simp only [Value.ownBlock, Option.some.injEq] at hg; subst hg; exact hgms) (.bool true)
                  have ob := hb'.setCell (p := ⟨w.heap.size, m, none⟩) (Nat.le_refl _) (.bool true)
                  have hsx : w.heap.size ≤ wr.heap.size := hb'.size
                  have mcell2 : (wr.setCell ⟨w.heap.size, m, none⟩ (.bool true)).cell? ⟨gm, j, none⟩ = some (.int .i64 m) := by
                    rw [World.cell?_of_block (Below.heap_setCell wr ⟨w.heap.size, m, none⟩ (.bool true) gm hgms)]; exact mcell
                  have HX := hyd (And.intro o1 (And.intro o2 (And.intro o3 ob)))
                  clear hw hl' hse' hm' hin hd o1 o2 o3 ob
                  go_wp2_with (at_builtin; go_must (refine wpList_append_lies _ rfl (.tmp 69) (.tmp 74) 24 rfl w.heap.size 3 i0 (.int .i64 0) 1 8 Tryz.underlying24 hi hz0 hz1 hz2 rfl (by decide) (.slice (some ⟨g', 0, none⟩) L'.length c') L'.length (natVals L') rfl ?a0 ⟨wr.heap.size, 0, none⟩ 1 1 [.int .i64 m] rfl rfl ?a1 ?a2 (by omega) ?a3 ?a4 ?a5 (wr.heap.size + 1) ?a6 ?_))
                  case a0 => exact HX.out.1.alloc _
                  case a1 =>
                    have h := World.news_of_block (heap_alloc_new (wr.setCell ⟨w.heap.size, m, none⟩ (.bool true)) (.cells #[.int .i64 m] 3))
                    rw [set_size] at h
                    exact h
                  case a2 => intro u hu; simp at hu; subst hu; rfl
                  case a3 => unfold maxLen; omega
                  case a4 => omega
                  case a5 => simp only [World.size_alloc, set_size]; omega
                  case a6 => simp only [World.size_alloc, set_size]
                  · intro g2 c2 w3 hown3 hgrow3 hat3 _
                    rw [← nat_snoc] at hown3
                    have p2 := (HX.out.2.1.alloc (.cells #[.int .i64 m] 3)).kept hgrow3 (rows_apart HX.out.2.1 HX.out.1 (by decide))
                    have p3 := (HX.out.2.2.1.alloc (.cells #[.int .i64 m] 3)).kept hgrow3 (.inr (by simp [Value.ownBlock]; exact hgmg))
                    have pb : Below w.heap.size w w3 := (HX.out.2.2.2.alloc (by rw [set_size]; exact hsx) _).grown hgrow3 (by simp only [World.size_alloc, set_size]; omega) (fun x hx => (HX.out.1.lt x hx).1)
                    have pne : ∀ g, Value.ownBlock (.slice (some ⟨gm, 0, none⟩) p mc) = some g → g ≠ g2 := fun g hg => by
                      simp only [Value.ownBlock, Option.some.injEq] at hg
                      subst hg
                      rcases hat3 with h3 | h3
                      · simp only [Value.ownBlock, Option.some.injEq] at h3; rw [← h3]; exact hgmg
                      · omega
                    have HY := hyd (And.intro hown3 (And.intro p2 (And.intro p3 (And.intro pne pb))))
                    clear hown3 hgrow3 hat3 p2 p3 pb pne mcell mcell2 scell sfz
                    go_wp2
                    go_roundw
                    case rel => exact ⟨j + 1, L' ++ [m], g2, c2, by omega, by go_num, by rw [Hfold.out, ← HL'.out, Hv.out], by rw [List.length_append]; rfl, by rw [List.length_append]; exact HY.out.1, HY.out.2.1, HY.out.2.2.1, HY.out.2.2.2.1, by rw [List.length_append]; simp; omega, HY.out.2.2.2.2⟩
                    case measure => simp [intOf]; omega
            · have hj' : j = p := by omega
              subst hj'
              rw [List.take_of_length_le (by rw [Hp.out]; exact Nat.le_refl _), ← Hms.out] at HL'
              have HSn : Hid (Seen k wo s L' (i + 1)) := by rw [HL'.out]; exact HS.out.look HCl.out Hx.out He.out
              have HX := hyd (And.intro hl' hse')
              have hil' : i + 1 ≤ L'.length := by
                have hpre : L.length ≤ L'.length := by rw [HL'.out]; exact fold_len wo (nxt k x) L
                omega
              clear hl' hse' hm'
              go_wp2
              go_roundw
              case rel => exact ⟨i + 1, L', hil', by go_num, HX.out.1, HX.out.2, HSn.out, hb'⟩
              case measure => simp [intOf]; omega
      · go_wp2
        go_ret
        exact ⟨⟨false, rfl, by simpa using HS.out.none (by omega)⟩, hb⟩

end Go.Proofs.YtbhbacphiinpeaaGreat

