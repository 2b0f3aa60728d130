/- The kernel that a list of numbers makes, as it is laid out: plain lists; nothing of the program is in this text. -/
import Derived.Test.YtbhbacphiinpeaaBs
namespace Go.Proofs.Ytbhbacphiinpeaa
open Go.RowKit

/-- An instruction that works with registers 0 and 1 and the thread's own word alone. -/
def Pln (x : Ins) : Prop :=
  x = ⟨2, 0, 0, 1⟩ ∨ x = ⟨3, 1, 0, 2⟩ ∨ x = ⟨4, 0, 0, 2⟩ ∨ x = ⟨6, 1, 2, 0⟩ ∨ x = ⟨7, 1, 1, 0⟩ ∨ (∃ v : Nat, x = ⟨1, 1, (v : Int), 0⟩) ∨ x = ⟨10, 0, 2, 0⟩ ∨ x = ⟨9, 1, 2, 0⟩ ∨ x = ⟨4, 1, 2, 0⟩
def nmI (al : Bool) (r : Int) : Ins := if al then ⟨1, r, 3, 0⟩ else ⟨8, r, 0, 0⟩
def isJ (x : Ins) : Prop := x.o = 12 ∨ x.o = 13

theorem pln_o {x : Ins} (h : Pln x) : ¬ isJ x ∧ x.o ≠ 0 ∧ x.o ≠ 14 ∧ 1 ≤ x.o ∧ x.o ≤ 11 := by
  unfold isJ
  rcases h with rfl | rfl | rfl | rfl | rfl | ⟨v, rfl⟩ | rfl | rfl | rfl <;> simp
theorem nmI_o (al : Bool) (r : Int) : ¬ isJ (nmI al r) ∧ (nmI al r).o ≠ 0 ∧ (nmI al r).o ≠ 14 := by unfold isJ nmI; cases al <;> simp

/-- What may stand at place n. -/
def Kind (al : Bool) (ls le n : Nat) (x : Ins) : Prop :=
  (n = 0 ∧ x = nmI al 2) ∨ (0 < n ∧ ((n + 1 = ls ∧ x = nmI al 3) ∨ Pln x ∨ (n + 2 = le ∧ x = ⟨3, 3, 3, 1⟩) ∨ x = ⟨14, 0, 0, 0⟩ ∨ (x.o = 13 ∧ x.a = 1 ∧ n ≠ ls) ∨ (x.o = 13 ∧ x.a = 3 ∧ n = ls) ∨ x.o = 12))

/-- Where the Jump or Zero at n may lead: on, and neither into the loop nor out of it, nor over its last three; the loop's own Jump leads back. -/
def Tgt (ls le n len : Nat) (b : Int) : Prop :=
  (0 < ls ∧ n + 1 = le ∧ b = ls) ∨ (n + 1 ≠ le ∧ (n : Int) < b ∧ b ≤ len ∧ (0 < ls → (n = ls → b = le) ∧ (n < ls → b < ls ∨ (0 < le ∧ (le : Int) ≤ b)) ∧ (ls < n → le = 0 ∨ le ≤ n ∨ b + 3 ≤ le)))

/-- A kernel that is being made: ls the place of its loop's Zero (0: none), le the place behind the loop (0: none, or it is still open). -/
structure KF (s : St) (ls le : Nat) : Prop where
  pos : 0 < s.k.length
  sorted : s.op.Pairwise (fun a b => a.at0 < b.at0)
  ops : ∀ b ∈ s.op, 0 < b.at0 ∧ b.at0 < s.k.length
  ins : ∀ (n : Nat) x, s.k[n]? = some x → Kind s.al ls le n x
  jmp : ∀ (n : Nat) x, s.k[n]? = some x → isJ x → (∃ b ∈ s.op, b.at0 = n) ∨ Tgt ls le n s.k.length x.b
  wt : ∀ q : Nat, s.k[q]? = some ⟨14, 0, 0, 0⟩ → (∀ b ∈ s.op, q < b.at0) ∧ ∀ (n : Nat) x, s.k[n]? = some x → isJ x → (∃ b ∈ s.op, b.at0 = n) ∨ ((n < q → x.b ≤ q) ∧ (q < n → (q : Int) < x.b))
  lpo : ∀ b ∈ s.op, (b.loop = true → b.at0 = ls ∧ le = 0) ∧ (b.loop = false → b.at0 ≠ ls)
  lpc : 0 < le → ls + 3 < le ∧ le ≤ s.k.length ∧ (s.k[le - 3]? = some ⟨1, 1, 1, 0⟩ ∧ s.k[le - 2]? = some ⟨3, 3, 3, 1⟩ ∧ s.k[le - 1]? = some ⟨12, 0, ls, 0⟩) ∧ ∀ b ∈ s.op, b.at0 < ls ∨ le ≤ b.at0
  lps : 0 < ls → 1 < ls ∧ ls < s.k.length ∧ (le = 0 → ∃ b ∈ s.op, b.at0 = ls ∧ b.loop = true) ∧ s.k[ls - 1]? = some (nmI s.al 3) ∧ ∃ x, s.k[ls]? = some x ∧ x.o = 13
  lpn : s.lp = false → ls = 0
  lpz : ls = 0 → le = 0

theorem put_get {s : St} {x y : Ins} {n : Nat} (h : (s.put x).k[n]? = some y) : s.k[n]? = some y ∨ (n = s.k.length ∧ y = x) := by
  simp only [St.put] at h
  by_cases hn : n < s.k.length
  · rw [List.getElem?_append_left hn] at h; exact .inl h
  · have hl := (List.getElem?_eq_some_iff.1 h).1
    simp at hl
    have : n = s.k.length := by omega
    subst this
    simp at h
    exact .inr ⟨rfl, h.symm⟩

theorem Tgt.mono {ls le n l l' : Nat} {b : Int} (h : Tgt ls le n l b) (hl : l ≤ l') : Tgt ls le n l' b := by
  rcases h with h | ⟨h1, h2, h3, h4⟩
  · exact .inl h
  · exact .inr ⟨h1, h2, by omega, h4⟩

theorem kf_lt {s : St} {n : Nat} {x : Ins} (h : s.k[n]? = some x) : n < s.k.length := (List.getElem?_eq_some_iff.1 h).1

theorem KF.put {s : St} {ls le : Nat} {x : Ins} (h : KF s ls le) (hx : Pln x ∨ (x = ⟨14, 0, 0, 0⟩ ∧ s.op = [])) : KF (s.put x) ls le := by
  have hp := h.pos
  have hj : ¬ isJ x := by
    rcases hx with hx | ⟨rfl, -⟩
    · exact (pln_o hx).1
    · simp [isJ]
  have hlen := kput_len s x
  refine ⟨by omega, h.sorted, fun b hb => ?_, fun n y hy => ?_, fun n y hy ho => ?_, fun q hq => ?_, h.lpo, fun hle => ?_, fun hls => ?_, h.lpn, h.lpz⟩
  · have := h.ops b hb; omega
  · rcases put_get hy with hy | ⟨rfl, rfl⟩
    · exact h.ins n y hy
    · exact .inr ⟨by omega, by rcases hx with hx | ⟨rfl, -⟩; exact .inr (.inl hx); exact .inr (.inr (.inr (.inl rfl)))⟩
  · rcases put_get hy with hy | ⟨rfl, rfl⟩
    · rcases h.jmp n y hy ho with h1 | h1
      · exact .inl h1
      · exact .inr (h1.mono (by omega))
    · exact absurd ho hj
  · rcases put_get hq with hq | ⟨rfl, hq2⟩
    · obtain ⟨h1, h2⟩ := h.wt q hq
      refine ⟨h1, fun n y hy ho => ?_⟩
      rcases put_get hy with hy | ⟨rfl, rfl⟩
      · exact h2 n y hy ho
      · exact absurd ho hj
    · rcases hx with hx | ⟨-, hop⟩
      · rw [← hq2] at hx; exact absurd rfl (pln_o hx).2.2.1
      · refine ⟨fun b hb => ?_, fun n y hy ho => ?_⟩
        · rw [put_op, hop] at hb; simp at hb
        · rcases put_get hy with hy | ⟨rfl, rfl⟩
          · have hn := kf_lt hy
            refine .inr ⟨fun _ => ?_, fun hc => by omega⟩
            rcases h.jmp n y hy ho with ⟨b, hb, -⟩ | h1
            · rw [hop] at hb; simp at hb
            · rcases h1 with ⟨h2, h3, h4⟩ | ⟨-, -, h4, -⟩
              · have := (h.lps h2).2.1; omega
              · exact h4
          · exact absurd ho hj
  · obtain ⟨h1, h2, h3, h4⟩ := h.lpc hle
    exact ⟨h1, by omega, ⟨put_at h3.1, put_at h3.2.1, put_at h3.2.2⟩, h4⟩
  · obtain ⟨h1, h2, h3, h4, y, h5, h6⟩ := h.lps hls
    exact ⟨h1, by omega, h3, put_at h4, y, put_at h5, h6⟩

theorem pw_snoc {l : List Blk} {b : Blk} (h : l.Pairwise (fun a b => a.at0 < b.at0)) (hb : ∀ c ∈ l, c.at0 < b.at0) : (l ++ [b]).Pairwise (fun a b => a.at0 < b.at0) := by
  rw [List.pairwise_append]
  exact ⟨h, by simp, fun c hc d hd => by simp at hd; subst hd; exact hb c hc⟩

theorem mem_snoc {l : List Blk} {b c : Blk} : c ∈ l ++ [b] ↔ c ∈ l ∨ c = b := by simp

theorem KF.branch {s : St} {ls le : Nat} (h : KF s ls le) : KF ((s.opn ⟨s.k.length, false, true⟩).put ⟨13, 1, 0, 0⟩) ls le := by
  have hp := h.pos
  rw [opn_put]
  have hlen := kput_len s ⟨13, 1, 0, 0⟩
  have hlen' : ((s.put ⟨13, 1, 0, 0⟩).opn ⟨s.k.length, false, true⟩).k.length = s.k.length + 1 := hlen
  have hne : s.k.length ≠ ls := fun e => by
    have := (h.lps (by omega)).2.1; omega
  refine ⟨by omega, pw_snoc h.sorted fun c hc => (h.ops c hc).2, fun b hb => ?_, fun n y hy => ?_, fun n y hy ho => ?_, fun q hq => ?_, fun b hb => ?_, fun hle => ?_, fun hls => ?_, h.lpn, h.lpz⟩
  · rcases mem_snoc.1 hb with hb | rfl
    · have := h.ops b hb; omega
    · exact ⟨hp, by show s.k.length < _; omega⟩
  · rcases put_get hy with hy | ⟨rfl, rfl⟩
    · exact h.ins n y hy
    · exact .inr ⟨by omega, .inr (.inr (.inr (.inr (.inl ⟨rfl, rfl, hne⟩))))⟩
  · rcases put_get hy with hy | ⟨rfl, rfl⟩
    · rcases h.jmp n y hy ho with ⟨b, h1, h2⟩ | h1
      · exact .inl ⟨b, mem_snoc.2 (.inl h1), h2⟩
      · exact .inr (h1.mono (by omega))
    · exact .inl ⟨_, mem_snoc.2 (.inr rfl), rfl⟩
  · rcases put_get hq with hq | ⟨-, hq⟩
    · obtain ⟨h1, h2⟩ := h.wt q hq
      have := kf_lt hq
      refine ⟨fun b hb => ?_, fun n y hy ho => ?_⟩
      · rcases mem_snoc.1 hb with hb | rfl
        · exact h1 b hb
        · exact this
      · rcases put_get hy with hy | ⟨rfl, rfl⟩
        · rcases h2 n y hy ho with ⟨b, h3, h4⟩ | h3
          · exact .inl ⟨b, mem_snoc.2 (.inl h3), h4⟩
          · exact .inr h3
        · exact .inl ⟨_, mem_snoc.2 (.inr rfl), rfl⟩
    · simp at hq
  · rcases mem_snoc.1 hb with hb | rfl
    · exact h.lpo b hb
    · exact ⟨fun e => by simp at e, fun _ => hne⟩
  · obtain ⟨h1, h2, h3, h4⟩ := h.lpc hle
    refine ⟨h1, by omega, ⟨put_at h3.1, put_at h3.2.1, put_at h3.2.2⟩, fun b hb => ?_⟩
    rcases mem_snoc.1 hb with hb | rfl
    · exact h4 b hb
    · exact .inr h2
  · obtain ⟨h1, h2, h3, h4, y, h5, h6⟩ := h.lps hls
    refine ⟨h1, by omega, fun e => ?_, put_at h4, y, put_at h5, h6⟩
    obtain ⟨b, h7, h8⟩ := h3 e
    exact ⟨b, mem_snoc.2 (.inl h7), h8⟩

theorem KF.loop {s : St} (h : KF s 0 0) : KF (((({ s with lp := true } : St).names 3).opn ⟨s.k.length + 1, true, false⟩).put ⟨13, 3, 0, 0⟩) (s.k.length + 1) 0 := by
  have hp := h.pos
  rw [opn_put]
  have hnm : (({ s with lp := true } : St).names 3) = ({ s with lp := true } : St).put (nmI s.al 3) := rfl
  rw [hnm]
  have hl1 : ((({ s with lp := true } : St).put (nmI s.al 3)).put ⟨13, 3, 0, 0⟩).k.length = s.k.length + 2 := by simp [St.put]
  have hl2 : (((({ s with lp := true } : St).put (nmI s.al 3)).put ⟨13, 3, 0, 0⟩).opn ⟨s.k.length + 1, true, false⟩).k.length = s.k.length + 2 := hl1
  have get : ∀ {n : Nat} {y : Ins}, ((({ s with lp := true } : St).put (nmI s.al 3)).put ⟨13, 3, 0, 0⟩).k[n]? = some y → s.k[n]? = some y ∨ (n = s.k.length ∧ y = nmI s.al 3) ∨ (n = s.k.length + 1 ∧ y = ⟨13, 3, 0, 0⟩) := fun {n y} hy => by
    rcases put_get hy with hy | ⟨h1, h2⟩
    · rcases put_get hy with hy | ⟨h1, h2⟩
      · exact .inl hy
      · exact .inr (.inl ⟨h1, h2⟩)
    · exact .inr (.inr ⟨by simpa [St.put] using h1, h2⟩)
  have nj := nmI_o s.al 3
  refine ⟨by omega, pw_snoc h.sorted fun c hc => by have := (h.ops c hc).2; show c.at0 < s.k.length + 1; omega, fun b hb => ?_, fun n y hy => ?_, fun n y hy ho => ?_, fun q hq => ?_, fun b hb => ?_, fun hle => by omega, fun hls => ?_, fun e => by simp [St.put, St.opn] at e, fun e => by omega⟩
  · rcases mem_snoc.1 hb with hb | rfl
    · have := h.ops b hb; omega
    · exact ⟨by show 0 < s.k.length + 1; omega, by show s.k.length + 1 < _; omega⟩
  · rcases get hy with hy | ⟨rfl, rfl⟩ | ⟨rfl, rfl⟩
    · have hn := kf_lt hy
      rcases h.ins n y hy with h1 | ⟨h0, h1⟩
      · exact .inl h1
      · refine .inr ⟨h0, ?_⟩
        rcases h1 with ⟨h1, -⟩ | h1 | ⟨h1, -⟩ | h1 | h1 | ⟨-, -, h1⟩ | h1
        · omega
        · exact .inr (.inl h1)
        · omega
        · exact .inr (.inr (.inr (.inl h1)))
        · exact .inr (.inr (.inr (.inr (.inl ⟨h1.1, h1.2.1, by omega⟩))))
        · omega
        · exact .inr (.inr (.inr (.inr (.inr (.inr h1)))))
    · exact .inr ⟨hp, .inl ⟨rfl, rfl⟩⟩
    · exact .inr ⟨by omega, .inr (.inr (.inr (.inr (.inr (.inl ⟨rfl, rfl, rfl⟩)))))⟩
  · rcases get hy with hy | ⟨rfl, rfl⟩ | ⟨rfl, rfl⟩
    · have hn := kf_lt hy
      rcases h.jmp n y hy ho with ⟨b, h1, h2⟩ | h1
      · exact .inl ⟨b, mem_snoc.2 (.inl h1), h2⟩
      · right
        rcases h1 with ⟨h1, -⟩ | ⟨h1, h2, h3, -⟩
        · omega
        · exact .inr ⟨by omega, h2, by omega, fun _ => ⟨fun _ => by omega, fun _ => .inl (by omega), fun _ => .inl rfl⟩⟩
    · exact absurd ho nj.1
    · exact .inl ⟨_, mem_snoc.2 (.inr rfl), rfl⟩
  · rcases get hq with hq | ⟨-, hq⟩ | ⟨-, hq⟩
    · obtain ⟨h1, h2⟩ := h.wt q hq
      have hql := kf_lt hq
      refine ⟨fun b hb => ?_, fun n y hy ho => ?_⟩
      · rcases mem_snoc.1 hb with hb | rfl
        · exact h1 b hb
        · show q < s.k.length + 1; omega
      · rcases get hy with hy | ⟨rfl, rfl⟩ | ⟨rfl, rfl⟩
        · rcases h2 n y hy ho with ⟨b, h3, h4⟩ | h3
          · exact .inl ⟨b, mem_snoc.2 (.inl h3), h4⟩
          · exact .inr h3
        · exact absurd ho nj.1
        · exact .inl ⟨_, mem_snoc.2 (.inr rfl), rfl⟩
    · rw [← hq] at nj; exact absurd rfl nj.2.2
    · simp at hq
  · rcases mem_snoc.1 hb with hb | rfl
    · have h1 := h.lpo b hb
      have h2 := h.ops b hb
      refine ⟨fun e => ?_, fun _ => by omega⟩
      have := (h1.1 e).1
      omega
    · exact ⟨fun _ => ⟨rfl, rfl⟩, fun e => by simp at e⟩
  · refine ⟨by omega, by omega, fun _ => ⟨_, mem_snoc.2 (.inr rfl), rfl, rfl⟩, ?_, ⟨13, 3, 0, 0⟩, ?_, rfl⟩
    · exact put_at (put_new ({ s with lp := true } : St) _)
    · have := put_new (({ s with lp := true } : St).put (nmI s.al 3)) ⟨13, 3, 0, 0⟩
      have e : (({ s with lp := true } : St).put (nmI s.al 3)).k.length = s.k.length + 1 := by simp [St.put]
      rw [e] at this
      exact this

/-- A kernel with a tail behind it, and the target of one of its instructions set to its end. -/
def aimed (k tail : List Ins) (i : Nat) : List Ins := (k ++ tail).modify i fun x => { x with b := (((k ++ tail).length : Nat) : Int) }
theorem aimed_len (k tail : List Ins) (i : Nat) : (aimed k tail i).length = k.length + tail.length := by simp [aimed]
theorem aimed_get {k tail : List Ins} {i : Nat} (hi : i < k.length) {n : Nat} {x : Ins} (h : (aimed k tail i)[n]? = some x) :
    (n ≠ i ∧ k[n]? = some x) ∨ (n = i ∧ ∃ y, k[n]? = some y ∧ x = { y with b := ((k.length + tail.length : Nat) : Int) }) ∨ (k.length ≤ n ∧ tail[n - k.length]? = some x) := by
  unfold aimed at h
  rw [List.getElem?_modify] at h
  by_cases hn : n < k.length
  · rw [List.getElem?_append_left hn] at h
    by_cases e : i = n
    · subst e
      rw [List.getElem?_eq_getElem hn] at h
      simp at h
      exact .inr (.inl ⟨rfl, _, List.getElem?_eq_getElem hn, by rw [← h]; simp⟩)
    · simp [e] at h
      exact .inl ⟨fun h => e h.symm, by simpa using h⟩
  · rw [List.getElem?_append_right (by omega)] at h
    have e : ¬ i = n := by omega
    simp [e] at h
    exact .inr (.inr ⟨by omega, h⟩)
theorem aimed_put {k tail : List Ins} {i n : Nat} {x : Ins} (hn : n ≠ i) (h : k[n]? = some x) : (aimed k tail i)[n]? = some x := by
  have := (List.getElem?_eq_some_iff.1 h).1
  unfold aimed
  rw [List.getElem?_modify, List.getElem?_append_left this, h]
  have e : ¬ i = n := fun e => hn e.symm
  simp [e]
theorem aimed_tail {k tail : List Ins} {i n : Nat} {x : Ins} (hi : i < k.length) (h : tail[n]? = some x) : (aimed k tail i)[k.length + n]? = some x := by
  unfold aimed
  rw [List.getElem?_modify, List.getElem?_append_right (by omega)]
  have e : ¬ i = k.length + n := by omega
  simp [e, h]

end Go.Proofs.Ytbhbacphiinpeaa
