/- Gr Ap G1 G2 G3 RA RB RE G4: joined. -/
import Derived.Test.YtbhbacphiinpeaaZ01
import Derived.Deep.AppendLies
import Derived.WalkKit
import Derived.Test.YtbhbacphiinpeaaRows
import Derived.Test.YtbhbacphiinpeaaZ02
import Derived.Deep.LoopGhost
import Derived.Deep.RegionHeld3
import Derived.BigGuardPart

/- Ways in a kernel: plain lists; nothing of the program is in this text. -/
namespace Go.Proofs.Ytbhbacphiinpeaa
open Go.RowKit

/-- What may come behind instruction n. -/
def nxt (k : List Ins) (n : Nat) : List Nat := match k[n]? with
  | none => []
  | some x => if x.o = 0 then [] else if x.o = 12 then [x.b.toNat] else if x.o = 13 then [x.b.toNat, n + 1] else [n + 1]

def isEnd (k : List Ins) (n : Nat) : Prop := ∃ x, k[n]? = some x ∧ x.o = 0

/-- A way from n to an Exit that comes by no instruction 'wo' behind n. -/
def IsWay (k : List Ins) (wo : Int) : Nat → List Nat → Prop
  | n, [] => isEnd k n
  | n, m :: p => m ∈ nxt k n ∧ (m : Int) ≠ wo ∧ IsWay k wo m p

def Rch (k : List Ins) (wo : Int) (n : Nat) : Prop := ∃ p, IsWay k wo n p

/-- All that comes next are instructions of the kernel. -/
def Closed (k : List Ins) : Prop := ∀ n m, n < k.length → m ∈ nxt k n → m < k.length

theorem closed_chk {k : List Ins} (h : chk k = (0, 0)) : Closed k := by
  obtain ⟨-, h1, h2, h3⟩ := chk_zero (by rw [h])
  intro n m hn hm
  have hx : k[n]? = some k[n] := List.getElem?_eq_getElem hn
  have hok := h3 n _ hx
  unfold nxt at hm
  rw [hx] at hm
  dsimp only at hm
  have hlast : n + 1 < k.length ∨ (k[n].o = 0 ∨ k[n].o = 12) := by
    by_cases hl : n + 1 < k.length
    · exact .inl hl
    · right
      have hn' : k.length - 1 = n := by omega
      have hlo : lastOp k = k[n].o := by unfold lastOp; rw [hn', hx]
      unfold chk at h
      rw [if_neg (by omega)] at h
      cases hb : badAt k.length k with
      | some i => rw [hb] at h; simp at h
      | none =>
        rw [hb] at h
        dsimp only at h
        by_cases hf : lastOp k ≠ 0 ∧ lastOp k ≠ 12
        · rw [if_pos hf] at h; simp at h
        · rw [hlo] at hf; omega
  by_cases h0 : k[n].o = 0
  · rw [if_pos h0] at hm; simp at hm
  rw [if_neg h0] at hm
  have hb : ∀ {o : Int}, k[n].o = o → (o = 12 ∨ o = 13) → k[n].b.toNat < k.length := fun {o} e ho => by
    unfold okB at hok
    rcases ho with rfl | rfl
    · simp [e] at hok
      have := bel_bd hok.1.2
      omega
    · simp [e] at hok
      have := bel_bd hok.1.2
      omega
  by_cases h12 : k[n].o = 12
  · rw [if_pos h12] at hm
    simp at hm
    subst hm
    exact hb h12 (.inl rfl)
  rw [if_neg h12] at hm
  by_cases h13 : k[n].o = 13
  · rw [if_pos h13] at hm
    simp at hm
    rcases hm with rfl | rfl
    · exact hb h13 (.inr rfl)
    · omega
  rw [if_neg h13] at hm
  simp at hm
  omega

/-- One instruction more that has been come to. -/
def visit (wo : Int) (L : List Nat) (m : Nat) : List Nat := if (m : Int) ≠ wo ∧ m ∉ L then L ++ [m] else L

theorem visit_sub {wo : Int} {L : List Nat} {m x : Nat} (h : x ∈ L) : x ∈ visit wo L m := by
  unfold visit; split <;> simp [h]
theorem visit_mem {wo : Int} {L : List Nat} {m x : Nat} (h : x ∈ visit wo L m) : x ∈ L ∨ (x = m ∧ (m : Int) ≠ wo) := by
  unfold visit at h
  split at h
  · rename_i hc
    simp at h
    rcases h with h | h
    · exact .inl h
    · exact .inr ⟨h, hc.1⟩
  · exact .inl h
theorem visit_has {wo : Int} {L : List Nat} {m : Nat} (h : (m : Int) ≠ wo) : m ∈ visit wo L m := by
  unfold visit
  by_cases hm : m ∈ L
  · rw [if_neg (by simp [hm])]; exact hm
  · rw [if_pos ⟨h, hm⟩]; simp
theorem visit_nodup {wo : Int} {L : List Nat} {m : Nat} (h : L.Nodup) : (visit wo L m).Nodup := by
  unfold visit
  split
  · rename_i hc
    rw [List.nodup_append]
    exact ⟨h, by simp, fun a ha b hb => by simp at hb; subst hb; intro e; subst e; exact hc.2 ha⟩
  · exact h
theorem visit_prefix (wo : Int) (L : List Nat) (m : Nat) : ∃ q, visit wo L m = L ++ q := by
  unfold visit; split
  · exact ⟨[m], rfl⟩
  · exact ⟨[], by simp⟩

/-- What is known of the list of those that have been come to, the first i of which have been looked at. -/
structure Seen (k : List Ins) (wo : Int) (n : Nat) (L : List Nat) (i : Nat) : Prop where
  nodup : L.Nodup
  lt : ∀ x ∈ L, x < k.length
  start : n ∈ L
  back : ∀ x ∈ L, Rch k wo x → Rch k wo n
  done : ∀ t x, t < i → L[t]? = some x → ¬ isEnd k x ∧ ∀ m ∈ nxt k x, (m : Int) ≠ wo → m ∈ L

theorem nodup_len : ∀ {n : Nat} {L : List Nat}, L.Nodup → (∀ x ∈ L, x < n) → L.length ≤ n
  | 0, L, _, hl => by
    cases L with
    | nil => simp
    | cons x L => have := hl x (by simp); omega
  | n + 1, L, h, hl => by
    by_cases hn : n ∈ L
    · have h1 := nodup_len (n := n) (h.erase n) (fun x hx => by
        have hx2 := (h.mem_erase_iff).1 hx
        have := hl x hx2.2
        have := hx2.1
        omega)
      rw [List.length_erase_of_mem hn] at h1
      omega
    · have := nodup_len (n := n) h (fun x hx => by
        have := hl x hx
        have : x ≠ n := fun e => hn (e ▸ hx)
        omega)
      omega

theorem Seen.none {k : List Ins} {wo : Int} {n : Nat} {L : List Nat} {i : Nat} (h : Seen k wo n L i) (hi : L.length ≤ i) : ¬ Rch k wo n := by
  have key : ∀ p x, x ∈ L → ¬ IsWay k wo x p := by
    intro p
    induction p with
    | nil =>
      intro x hx hw
      obtain ⟨t, ht⟩ := List.mem_iff_getElem?.1 hx
      have htl := (List.getElem?_eq_some_iff.1 ht).1
      exact (h.done t x (by omega) ht).1 hw
    | cons m p ih =>
      intro x hx hw
      obtain ⟨h1, h2, h3⟩ := hw
      obtain ⟨t, ht⟩ := List.mem_iff_getElem?.1 hx
      have htl := (List.getElem?_eq_some_iff.1 ht).1
      exact ih m ((h.done t x (by omega) ht).2 m h1 h2) h3
  rintro ⟨p, hp⟩
  exact key p n h.start hp

theorem Seen.begin {k : List Ins} {wo : Int} {n : Nat} (hn : n < k.length) : Seen k wo n [n] 0 :=
  ⟨by simp, fun x hx => by simp at hx; omega, by simp, fun x hx hr => by simp at hx; subst hx; exact hr, fun t x ht => by omega⟩

/-- One more is looked at: what comes next behind it has been visited. -/
theorem Seen.look {k : List Ins} {wo : Int} {n : Nat} {L : List Nat} {i x : Nat} (hc : Closed k) (h : Seen k wo n L i) (hx : L[i]? = some x) (he : ¬ isEnd k x) : Seen k wo n ((nxt k x).foldl (visit wo) L) (i + 1) := by
  have hxL := List.mem_of_getElem? hx
  have gen : ∀ (ms : List Nat) (L' : List Nat), (∀ m ∈ ms, m ∈ nxt k x) → (∃ q, L' = L ++ q) → L'.Nodup → (∀ y ∈ L', y < k.length) → (∀ y ∈ L', Rch k wo y → Rch k wo n) →
      (∃ q, ms.foldl (visit wo) L' = L ++ q) ∧ (ms.foldl (visit wo) L').Nodup ∧ (∀ y ∈ ms.foldl (visit wo) L', y < k.length) ∧ (∀ y ∈ ms.foldl (visit wo) L', Rch k wo y → Rch k wo n) ∧ (∀ y ∈ L', y ∈ ms.foldl (visit wo) L') ∧ ∀ m ∈ ms, (m : Int) ≠ wo → m ∈ ms.foldl (visit wo) L' := by
    intro ms
    induction ms with
    | nil => intro L' _ h1 h2 h3 h4; exact ⟨h1, h2, h3, h4, fun y hy => hy, fun m hm => by simp at hm⟩
    | cons m ms ih =>
      intro L' hm h1 h2 h3 h4
      obtain ⟨q, rfl⟩ := h1
      obtain ⟨q2, hq2⟩ := visit_prefix wo (L ++ q) m
      have hmn := hm m (by simp)
      obtain ⟨a1, a2, a3, a4, a5, a6⟩ := ih (visit wo (L ++ q) m) (fun y hy => hm y (by simp [hy])) ⟨q ++ q2, by rw [hq2, List.append_assoc]⟩ (visit_nodup h2)
        (fun y hy => by
          rcases visit_mem hy with hy | ⟨rfl, -⟩
          · exact h3 y hy
          · exact hc x y (h.lt x hxL) hmn)
        (fun y hy hr => by
          rcases visit_mem hy with hy | ⟨rfl, hw⟩
          · exact h4 y hy hr
          · obtain ⟨p, hp⟩ := hr
            exact h.back x hxL ⟨y :: p, hmn, hw, hp⟩)
      refine ⟨a1, a2, a3, a4, fun y hy => a5 y (visit_sub hy), fun y hy hw => ?_⟩
      rcases List.mem_cons.1 hy with rfl | hy
      · exact a5 y (visit_has hw)
      · exact a6 y hy hw
  obtain ⟨⟨q, hq⟩, a2, a3, a4, a5, a6⟩ := gen (nxt k x) L (fun _ hm => hm) ⟨[], by simp⟩ h.nodup h.lt h.back
  refine ⟨a2, a3, a5 n h.start, a4, fun t y ht hy => ?_⟩
  have htl : t < L.length := by have := (List.getElem?_eq_some_iff.1 hx).1; omega
  rw [hq, List.getElem?_append_left htl] at hy
  by_cases hti : t < i
  · obtain ⟨b1, b2⟩ := h.done t y hti hy
    exact ⟨b1, fun m hm hw => a5 m (b2 m hm hw)⟩
  · have : t = i := by omega
    subst this
    rw [hx] at hy
    cases hy
    exact ⟨he, a6⟩

theorem Seen.found {k : List Ins} {wo : Int} {n : Nat} {L : List Nat} {i x : Nat} (h : Seen k wo n L i) (hx : L[i]? = some x) (he : isEnd k x) : Rch k wo n :=
  h.back x (List.mem_of_getElem? hx) ⟨[], he⟩

end Go.Proofs.Ytbhbacphiinpeaa

/- An append to a list that is owned, told exactly: it stays in its row, or a new row is made and nothing that was there has turned. -/
namespace Go.Proofs.Ytbhbacphiinpeaa
open Go Go.RowKit

theorem hyd {p : Prop} (h : p) : Hid p := h

theorem run_append_two {P : Program} (w : World) (t ty : TypeId) (base : Nat) (e : TypeId) (i : TypeInfo) (z : Value) (size bytes : Nat) (ht : P.underlying t = some (.slice e)) (hi : P.info? e = some i) (hz : i.zero = some z)
    (hsize : i.size = size) (hby : i.bytes = bytes) (hzs : z.cells.size = size) (hsz : 0 < size) (v : Value) (n : Nat) (xs : List Value) (hown : w.ownsRow base e size v n xs)
    (ad : Addr) (m c : Nat) (news : List Value) (hl : news.length = m * size) (hnews : ∀ j u, news[j]? = some u → w.cell? (ad.add j) = some u) (h1 : ∀ u ∈ news, u.oneCell' = true)
    (hm : 0 < m) (h63 : n + m ≤ maxLen) (hbytes : (n + m) * bytes ≤ 140737488355328) (hbase : base ≤ w.heap.size) :
    ∃ g cap w', (Builtin.append_ #[t, t] ty #[v, .slice (some ad) m c]).run P w = .ok (.slice (some ⟨g, 0, none⟩) (n + m) cap) w' ∧
      w'.ownsRow base e size (.slice (some ⟨g, 0, none⟩) (n + m) cap) (n + m) (xs ++ news) ∧ w.grownBy w' v.ownBlock ∧
      (v.ownBlock = some g ∨ (g = w.heap.size ∧ ∀ k, k < w.heap.size → w'.heap[k]? = w.heap[k]?)) := by
  obtain ⟨g, cap, w', hr, h2, h3, -, -⟩ := run_append_lies (P := P) w t ty base e i z size bytes ht hi hz hsize hby hzs hsz v n xs hown ad m c news hl hnews h1 hm h63 hbytes hbase _ rfl
  refine ⟨g, cap, w', hr, h2, h3, ?_⟩
  subst hsize
  subst hby
  have hsmall : n + m ≤ 9223372036854775807 := by simp only [maxLen] at h63; omega
  rcases hown.2 with ⟨rfl, rfl⟩ | ⟨g0, cap0, cur, rfl, hbg, hg, hnc, hcm, hcs, htake⟩
  · have hr' := run_append_nil (P := P) w t ty e i z ht hi hz ad m c news hl hnews hm (by omega) (by have hb := hbytes; simp only [Nat.zero_add] at hb; omega)
    rw [hr] at hr'
    injection hr' with e1 e2
    refine .inr ⟨?_, ?_⟩
    · simp only [Value.slice.injEq, Option.some.injEq, Addr.mk.injEq] at e1
      exact e1.1.1
    · intro k hk
      rw [e2]
      exact Below.heap_alloc w.drew _ k hk
  · by_cases hroom : n + m ≤ cap0
    · have hfit : n * i.size + news.length ≤ cur.size := by rw [hl, hcs, ← Nat.add_mul]; exact Nat.mul_le_mul_right _ hroom
      have hr' := run_append_room (P := P) w t ty e i ht hi g0 n cap0 cur hg ad m c news hl hnews h1 hroom hfit
      rw [hr] at hr'
      injection hr' with e1 e2
      simp only [Value.slice.injEq, Option.some.injEq, Addr.mk.injEq] at e1
      exact .inl (by rw [e1.1.1]; rfl)
    · have holds : ∀ j u, xs[j]? = some u → w.cell? ((⟨g0, 0, none⟩ : Addr).add j) = some u := hown.cells (g := g0) rfl
      have hr' := run_append_grow (P := P) w t ty e i z ht hi hz ⟨g0, 0, none⟩ n cap0 xs hown.1 holds ad m c news hl hnews (by omega) (by omega) (growslice_fits (by omega) hbytes)
      rw [hr] at hr'
      injection hr' with e1 e2
      refine .inr ⟨?_, ?_⟩
      · simp only [Value.slice.injEq, Option.some.injEq, Addr.mk.injEq] at e1
        exact e1.1.1
      · intro k hk
        rw [e2]
        exact Below.heap_alloc w.drew _ k hk

theorem wpList_append_two {P : Program} (w : World) {ops : Array Oper} {rest : List Oper} {o : Oper} {a : Act} {Q : Exit → Act → World → Prop} (hgd : o.guard = none) (s x : Operand) (t : TypeId)
    (ho : o.op = .call { callee := .builtin .append, args := #[s, x], argTypes := #[t, t] })
    (base : Nat) (e : TypeId) (i : TypeInfo) (z : Value) (size bytes : Nat) (ht : P.underlying t = some (.slice e)) (hi : P.info? e = some i) (hz : i.zero = some z)
    (hsize : i.size = size) (hby : i.bytes = bytes) (hzs : z.cells.size = size) (hsz : 0 < size)
    (v : Value) (n : Nat) (xs : List Value) (hs : a.eval s = v) (hown : w.ownsRow base e size v n xs)
    (ad : Addr) (m c : Nat) (news : List Value) (hx : a.eval x = .slice (some ad) m c) (hl : news.length = m * size) (hnews : ∀ j u, news[j]? = some u → w.cell? (ad.add j) = some u) (h1 : ∀ u ∈ news, u.oneCell' = true)
    (hm : 0 < m) (h63 : n + m ≤ maxLen) (hbytes : (n + m) * bytes ≤ 140737488355328) (hbase : base ≤ w.heap.size)
    (h : ∀ g cap w', w'.ownsRow base e size (.slice (some ⟨g, 0, none⟩) (n + m) cap) (n + m) (xs ++ news) → w.grownBy w' v.ownBlock →
      (v.ownBlock = some g ∨ (g = w.heap.size ∧ ∀ k, k < w.heap.size → w'.heap[k]? = w.heap[k]?)) → wpList P ops Q rest (a.put o.dst (.slice (some ⟨g, 0, none⟩) (n + m) cap)) w') : wpList P ops Q (o :: rest) a w := by
  refine wpList_plain hgd fun K hK => ?_
  obtain ⟨g, cap, w', hr, h2, h3, h4⟩ := run_append_two (P := P) w t o.type base e i z size bytes ht hi hz hsize hby hzs hsz v n xs hown ad m c news hl hnews h1 hm h63 hbytes hbase
  unfold Oper.wp execOp
  simp only [ho, resolve, invoke, builtin, Sem.run_bind, Sem.run_pure, Result.andThen_ok, List.map_toArray, List.map_cons, List.map_nil, hs, hx, hr]
  exact hK _ _ (h g cap w' h2 h3 h4)

end Go.Proofs.Ytbhbacphiinpeaa

/- What the document's 'next' and 'reaches' answer. -/
namespace Go.Proofs.Ytbhbacphiinpeaa
open Go.RowKit

theorem Try.info3 : (Try.prog.info? 3).map (fun i => (i.zero, i.size, i.bytes)) = some (some (.int .i64 0), 1, 8) := by kernel_rfl
theorem Try.info4 : (Try.prog.info? 4).map (fun i => (i.zero, i.size, i.bytes)) = some (some (.bool false), 1, 1) := by kernel_rfl

/-- Numbers of instructions as cells. -/
def natVals (l : List Nat) : List Value := l.map fun (m : Nat) => Value.int .i64 (m : Int)

/-- Which of n instructions have been come to, as cells. -/
def seenVals (n : Nat) (L : List Nat) : List Value := (List.range n).map fun x => Value.bool (decide (x ∈ L))

theorem seen_at {n m : Nat} (L : List Nat) (h : m < n) : (seenVals n L)[m]? = some (.bool (decide (m ∈ L))) := by simp [seenVals, List.getElem?_map, List.getElem?_range h]
theorem seen_set {n m : Nat} (L : List Nat) : (seenVals n L).set m (.bool true) = seenVals n (L ++ [m]) := by
  apply List.ext_getElem?
  intro i
  by_cases hi : i < n
  · rw [seen_at _ hi]
    by_cases e : m = i
    · subst e
      rw [List.getElem?_set_self (by simpa [seenVals] using hi)]
      simp
    · rw [List.getElem?_set_ne e, seen_at _ hi]
      have : i ≠ m := fun e2 => e e2.symm
      simp [this]
  · rw [List.getElem?_eq_none (by simp [seenVals]; omega), List.getElem?_eq_none (by simp [seenVals]; omega)]
theorem seen_none (n : Nat) : List.replicate n (Value.bool false) = seenVals n [] := by
  apply List.ext_getElem?
  intro i
  by_cases hi : i < n
  · rw [seen_at _ hi, List.getElem?_replicate, if_pos hi]; simp
  · rw [List.getElem?_eq_none (by simp; omega), List.getElem?_eq_none (by simp [seenVals]; omega)]
theorem nat_at {L : List Nat} {i x : Nat} (h : L[i]? = some x) : (natVals L)[i]? = some (.int .i64 x) := by simp [natVals, List.getElem?_map, h]
theorem nat_snoc (L : List Nat) (m : Nat) : natVals (L ++ [m]) = natVals L ++ [.int .i64 m] := by simp [natVals]

theorem foldl_snoc {wo : Int} {ms : List Nat} {j m : Nat} (L : List Nat) (h : ms[j]? = some m) : (ms.take (j + 1)).foldl (visit wo) L = visit wo ((ms.take j).foldl (visit wo) L) m := by
  have hj := (List.getElem?_eq_some_iff.1 h).1
  have e : ms[j] = m := by rw [List.getElem?_eq_getElem hj] at h; exact Option.some.inj h
  rw [List.take_succ_eq_append_getElem hj, e, List.foldl_append]
  rfl

end Go.Proofs.Ytbhbacphiinpeaa

/- What the document's 'reaches' answers. -/
namespace Go.Proofs.Ytbhbacphiinpeaa
open Go.RowKit

theorem fold_len (wo : Int) : ∀ (ms : List Nat) (L : List Nat), L.length ≤ (ms.foldl (visit wo) L).length
  | [], L => Nat.le_refl _
  | m :: ms, L => by
    have h := fold_len wo ms (visit wo L m)
    obtain ⟨q, hq⟩ := visit_prefix wo L m
    have h2 : L.length ≤ (visit wo L m).length := by rw [hq]; simp
    exact Nat.le_trans h2 h

theorem set_size (w : World) (a : Addr) (v : Value) : (w.setCell a v).heap.size = w.heap.size := by simp [World.setCell]

end Go.Proofs.Ytbhbacphiinpeaa

/- What the document's 'passed' and 'Join' answer. -/
namespace Go.Proofs.Ytbhbacphiinpeaa
open Go.RowKit

/-- Each way from n to an Exit comes by d, another instruction. -/
def Psd (k : List Ins) (n d : Nat) : Prop := n ≠ d ∧ ¬ Rch k (d : Int) n

/-- d is the first of the instructions that stand on each way from n to an Exit. -/
def IsFirst (k : List Ins) (n d : Nat) : Prop := d < k.length ∧ Psd k n d ∧ ∀ x, x < k.length → Psd k n x → x ≠ d → Psd k d x

/-- The join of n, as the document's answer has it. -/
def JoinIs (k : List Ins) (n : Nat) (j : Int) : Prop :=
  (¬ Rch k (-1) n ∧ j = -1) ∨ (Rch k (-1) n ∧ ((∃ d : Nat, IsFirst k n d ∧ j = (d : Int)) ∨ ((¬ ∃ d, IsFirst k n d) ∧ j = -1)))

/-- A kernel in memory whose ways stay within it. -/
def KAt (w : World) (b off n : Nat) (k : List Ins) : Prop := k.length = n ∧ 1 ≤ n ∧ n ≤ 40 ∧ Closed k ∧ b < w.heap.size ∧ (∀ (i : Nat) x, k[i]? = some x → 0 ≤ x.b) ∧
  ∀ (i : Nat) x, k[i]? = some x → w.cell? ⟨b, off + i * 4, none⟩ = some (.int .i64 x.o) ∧ w.cell? ⟨b, off + i * 4 + 1, none⟩ = some (.int .i64 x.a) ∧ w.cell? ⟨b, off + i * 4 + 2, none⟩ = some (.int .i64 x.b) ∧ w.cell? ⟨b, off + i * 4 + 3, none⟩ = some (.int .i64 x.c)

theorem KAt.up {w w' : World} {b off n : Nat} {k : List Ins} {B : Nat} (h : KAt w b off n k) (hB : w.heap.size ≤ B) (hb : Below B w w') : KAt w' b off n k := by
  obtain ⟨h1, h2, h3, h4, h5, h6, h7⟩ := h
  have hbB : b < B := Nat.lt_of_lt_of_le h5 hB
  refine ⟨h1, h2, h3, h4, Nat.lt_of_lt_of_le h5 hb.size, h6, fun i x hx => ?_⟩
  obtain ⟨c0, c1, c2, c3⟩ := h7 i x hx
  exact ⟨(hb.cell hbB).trans c0, (hb.cell hbB).trans c1, (hb.cell hbB).trans c2, (hb.cell hbB).trans c3⟩

/-- The instructions below d by which each way from n comes. -/
def AllTo (k : List Ins) (n d : Nat) (A : List Nat) : Prop := A.Nodup ∧ ∀ x, x ∈ A ↔ x < d ∧ Psd k n x

theorem AllTo.begin (k : List Ins) (n : Nat) : AllTo k n 0 [] := ⟨by simp, fun x => by simp⟩
theorem AllTo.yes {k : List Ins} {n d : Nat} {A : List Nat} (h : AllTo k n d A) (hp : Psd k n d) : AllTo k n (d + 1) (A ++ [d]) := by
  refine ⟨?_, fun x => ?_⟩
  · rw [List.nodup_append]
    refine ⟨h.1, by simp, fun a ha b hb => ?_⟩
    simp at hb
    subst hb
    intro e
    subst e
    have := ((h.2 a).1 ha).1
    omega
  · rw [List.mem_append, h.2 x]
    simp only [List.mem_singleton]
    constructor
    · rintro (⟨h1, h2⟩ | rfl)
      · exact ⟨by omega, h2⟩
      · exact ⟨by omega, hp⟩
    · rintro ⟨h1, h2⟩
      by_cases e : x = d
      · exact .inr e
      · exact .inl ⟨by omega, h2⟩
theorem AllTo.no {k : List Ins} {n d : Nat} {A : List Nat} (h : AllTo k n d A) (hp : ¬ Psd k n d) : AllTo k n (d + 1) A := by
  refine ⟨h.1, fun x => ?_⟩
  rw [h.2 x]
  constructor
  · rintro ⟨h1, h2⟩; exact ⟨by omega, h2⟩
  · rintro ⟨h1, h2⟩
    refine ⟨?_, h2⟩
    by_cases e : x = d
    · subst e; exact absurd h2 hp
    · omega
theorem AllTo.len {k : List Ins} {n d : Nat} {A : List Nat} (h : AllTo k n d A) : A.length ≤ d := nodup_len h.1 fun x hx => ((h.2 x).1 hx).1

/-- The i-th of them is the first. -/
theorem AllTo.first {k : List Ins} {n : Nat} {A : List Nat} {i x : Nat} (h : AllTo k n k.length A) (hx : A[i]? = some x) : IsFirst k n x ↔ ∀ t y, A[t]? = some y → t ≠ i → Psd k x y := by
  have hxA := (h.2 x).1 (List.mem_of_getElem? hx)
  have hinj : ∀ t y, A[t]? = some y → t ≠ i → y ≠ x := fun t y ht hne e => by
    subst e
    obtain ⟨h1, e1⟩ := List.getElem?_eq_some_iff.1 ht
    obtain ⟨h2, e2⟩ := List.getElem?_eq_some_iff.1 hx
    have hp := List.pairwise_iff_getElem.1 h.1
    by_cases hti : t < i
    · exact hp t i h1 h2 hti (e1.trans e2.symm)
    · exact hp i t h2 h1 (by omega) (e2.trans e1.symm)
  constructor
  · rintro ⟨h1, h2, h3⟩ t y ht hne
    have hy := (h.2 y).1 (List.mem_of_getElem? ht)
    exact h3 y hy.1 hy.2 (hinj t y ht hne)
  · intro hall
    refine ⟨hxA.1, hxA.2, fun y hy1 hy2 hne => ?_⟩
    obtain ⟨t, ht⟩ := List.mem_iff_getElem?.1 ((h.2 y).2 ⟨hy1, hy2⟩)
    refine hall t y ht (fun e => hne ?_)
    subst e
    rw [hx] at ht
    exact (Option.some.inj ht).symm

end Go.Proofs.Ytbhbacphiinpeaa

/- What the document's 'reg' and 'fits' answer. -/
namespace Go.Proofs.Ytbhbacphiinpeaa
open Go.RowKit

end Go.Proofs.Ytbhbacphiinpeaa

/- What the document's 'Check' answers. -/
namespace Go.Proofs.Ytbhbacphiinpeaa
open Go.RowKit

end Go.Proofs.Ytbhbacphiinpeaa

/- What the document's 'Decode' answers. -/
namespace Go.Proofs.Ytbhbacphiinpeaa
open Go.RowKit

theorem byt_get (s : ByteArray) (j : Nat) (h : j < s.size) : byt s j = (((s[j]'h).toNat : Nat) : Int) := by
  unfold byt
  have h' : j < s.data.toList.length := by simpa using h
  rw [List.getD_eq_getElem?_getD, List.getElem?_eq_getElem h']
  rfl

theorem byt_bd (s : ByteArray) (j : Nat) : 0 ≤ byt s j ∧ byt s j ≤ 255 := by
  unfold byt
  have := (s.data.toList.getD j 0).toNat_lt
  omega

theorem index_byt (s : ByteArray) (i : Int) (j : Nat) (hj : i = (j : Int)) (h : j < s.size) (w : World) : (Instr.index 9 (.string s) (.int .i64 i)).run Try.prog w = .ok (.int .u8 (byt s j)) w := by
  subst hj
  rw [run_index_string (P := Try.prog) w 9 s .i64 j Try.underlying9, dif_pos ⟨by omega, by omega⟩, byt_get s j h]
  rfl

end Go.Proofs.Ytbhbacphiinpeaa

/- The join is one; what the document's 'Joins' answers. -/
namespace Go.Proofs.Ytbhbacphiinpeaa
open Go.RowKit

theorem way_split {k : List Ins} {wo : Int} : ∀ {p : List Nat} {n d : Nat}, IsWay k wo n p → d ∈ p → ∃ p', IsWay k wo d p' ∧ p'.length < p.length
  | m :: p, n, d, h, hd => by
    obtain ⟨h1, h2, h3⟩ := h
    rcases List.mem_cons.1 hd with rfl | hd
    · exact ⟨p, h3, by simp⟩
    · obtain ⟨p', h4, h5⟩ := way_split h3 hd
      exact ⟨p', h4, by simp; omega⟩

theorem way_avoid {k : List Ins} {wo : Int} : ∀ {p : List Nat} {n d : Nat}, IsWay k wo n p → d ∉ p → IsWay k (d : Int) n p
  | [], n, d, h, _ => h
  | m :: p, n, d, h, hd => by
    obtain ⟨h1, h2, h3⟩ := h
    have hm : m ≠ d := fun e => hd (by simp [e])
    exact ⟨h1, by omega, way_avoid h3 fun h => hd (by simp [h])⟩

theorem psd_mem {k : List Ins} {wo : Int} {n d : Nat} {p : List Nat} (h : Psd k n d) (hw : IsWay k wo n p) : d ∈ p := by
  by_cases hd : d ∈ p
  · exact hd
  · exact absurd ⟨p, way_avoid hw hd⟩ h.2

/-- Two instructions of which each way from the one comes by the other do not both lead to an Exit. -/
theorem psd_two {k : List Ins} {wo : Int} {d e : Nat} (h1 : Psd k d e) (h2 : Psd k e d) : ∀ (m : Nat) (p : List Nat), p.length ≤ m → ¬ IsWay k wo d p
  | 0, p, hl, hw => by
    have := psd_mem h1 hw
    have hp : p = [] := List.eq_nil_of_length_eq_zero (by omega)
    rw [hp] at this
    simp at this
  | m + 1, p, hl, hw => by
    obtain ⟨p2, hw2, hl2⟩ := way_split hw (psd_mem h1 hw)
    obtain ⟨p3, hw3, hl3⟩ := way_split hw2 (psd_mem h2 hw2)
    exact psd_two h1 h2 m p3 (by omega) hw3

theorem first_one {k : List Ins} {wo : Int} {n d e : Nat} (hr : Rch k wo n) (h1 : IsFirst k n d) (h2 : IsFirst k n e) : d = e := by
  by_cases hde : d = e
  · exact hde
  · obtain ⟨p, hp⟩ := hr
    have a := h1.2.2 e h2.1 h2.2.1 (fun x => hde x.symm)
    have b := h2.2.2 d h1.1 h1.2.1 hde
    obtain ⟨p2, hp2, -⟩ := way_split hp (psd_mem h1.2.1 hp)
    exact absurd hp2 (psd_two a b p2.length p2 (Nat.le_refl _))

theorem join_one {k : List Ins} {n : Nat} {i j : Int} (h1 : JoinIs k n i) (h2 : JoinIs k n j) : i = j := by
  rcases h1 with ⟨hr, rfl⟩ | ⟨hr, ⟨d, hd, rfl⟩ | ⟨hd, rfl⟩⟩
  · rcases h2 with ⟨_, rfl⟩ | ⟨hr2, _⟩
    · rfl
    · exact absurd hr2 hr
  · rcases h2 with ⟨hr2, _⟩ | ⟨_, ⟨e, he, rfl⟩ | ⟨he, rfl⟩⟩
    · exact absurd hr hr2
    · rw [first_one hr hd he]
    · exact absurd ⟨d, hd⟩ he
  · rcases h2 with ⟨hr2, _⟩ | ⟨_, ⟨e, he, rfl⟩ | ⟨he, rfl⟩⟩
    · exact absurd hr hr2
    · exact absurd ⟨e, he⟩ hd
    · rfl

/-- The joins of a kernel, by their numbers. -/
def JoinsAre (k : List Ins) (J : List Int) : Prop := J.length = k.length ∧ ∀ (i : Nat) j, J[i]? = some j → JoinIs k i j

theorem joins_one {k : List Ins} {I J : List Int} (h1 : JoinsAre k I) (h2 : JoinsAre k J) : I = J := by
  apply List.ext_getElem?
  intro i
  by_cases hi : i < k.length
  · obtain ⟨a, e1⟩ : ∃ a, I[i]? = some a := ⟨_, List.getElem?_eq_getElem (by rw [h1.1]; exact hi)⟩
    obtain ⟨b, e2⟩ : ∃ b, J[i]? = some b := ⟨_, List.getElem?_eq_getElem (by rw [h2.1]; exact hi)⟩
    rw [e1, e2, join_one (h1.2 i _ e1) (h2.2 i _ e2)]
  · rw [List.getElem?_eq_none (by rw [h1.1]; omega), List.getElem?_eq_none (by rw [h2.1]; omega)]

def intVals (l : List Int) : List Value := l.map fun m => Value.int .i64 m
theorem int_snoc (L : List Int) (m : Int) : intVals (L ++ [m]) = intVals L ++ [.int .i64 m] := by simp [intVals]

theorem dec_good {s : ByteArray} (h : (dchk s).1 = 0) : chk (decL s) = (0, 0) ∧ 1 ≤ (decL s).length ∧ (decL s).length ≤ 40 := by
  unfold decL
  rw [if_pos h]
  unfold dchk at h
  by_cases h2 : s.size % 4 ≠ 0 ∨ 160 < s.size
  · rw [if_pos h2] at h; simp at h
  · rw [if_neg h2] at h
    obtain ⟨h3, h4, h5, -⟩ := chk_zero h
    exact ⟨h3, h4, h5⟩

theorem kAt_owned {w : World} {base g n cap : Nat} {k : List Ins} (hk : chk k = (0, 0)) (hn : k.length = n) (h : w.ownsRow base 31 4 (.slice (some ⟨g, 0, none⟩) n cap) n (flat k)) : KAt w g 0 n k := by
  obtain ⟨-, h1, h2, h3⟩ := chk_zero (by rw [hk])
  refine ⟨hn, by omega, by omega, closed_chk hk, (h.lt g rfl).2, fun i x hx => ?_, fun i x hx => ?_⟩
  · have := okB_bd (by omega) (h3 i x hx)
    exact this.2.2.1.1
  · have hi : i < n := by have := (List.getElem?_eq_some_iff.1 hx).1; omega
    obtain ⟨a0, a1, a2, a3⟩ := flat_at hx
    simp only [Nat.zero_add]
    exact ⟨(h.cellAt (i * 4) (by omega)).trans a0, (h.cellAt (i * 4 + 1) (by omega)).trans a1, (h.cellAt (i * 4 + 2) (by omega)).trans a2, (h.cellAt (i * 4 + 3) (by omega)).trans a3⟩

theorem owns_down {w : World} {base base' : Nat} {e : TypeId} {size : Nat} {v : Value} {n : Nat} {xs : List Value} (h : w.ownsRow base e size v n xs) (hb : base' ≤ base) : w.ownsRow base' e size v n xs := by
  refine ⟨h.1, ?_⟩
  rcases h.2 with h2 | ⟨g, cap, cur, hv, hg, r⟩
  · exact .inl h2
  · exact .inr ⟨g, cap, cur, hv, by omega, r⟩

end Go.Proofs.Ytbhbacphiinpeaa

