/- The kernel that a list of numbers makes, as it is laid out, second part: the ends of blocks; plain lists; nothing of the program is in this text. -/
import Derived.Test.YtbhbacphiinpeaaTa
namespace Go.Proofs.Ytbhbacphiinpeaa
open Go.RowKit

theorem sorted_last {ops : List Blk} {b : Blk} (h : (ops ++ [b]).Pairwise (fun a b => a.at0 < b.at0)) : ops.Pairwise (fun a b => a.at0 < b.at0) ∧ ∀ c ∈ ops, c.at0 < b.at0 := by
  rw [List.pairwise_append] at h
  exact ⟨h.1, fun c hc => h.2.2 c hc b (by simp)⟩

theorem kind_b {al : Bool} {ls le n : Nat} {y : Ins} (h : Kind al ls le n y) (hj : isJ y) (b : Int) : Kind al ls le n { y with b := b } := by
  rcases h with ⟨-, rfl⟩ | ⟨h0, h1⟩
  · exact absurd hj (nmI_o _ _).1
  · refine .inr ⟨h0, ?_⟩
    rcases h1 with ⟨-, rfl⟩ | h1 | ⟨-, rfl⟩ | rfl | h1 | h1 | h1
    · exact absurd hj (nmI_o _ _).1
    · exact absurd hj (pln_o h1).1
    · simp [isJ] at hj
    · simp [isJ] at hj
    · exact .inr (.inr (.inr (.inr (.inl h1))))
    · exact .inr (.inr (.inr (.inr (.inr (.inl h1)))))
    · exact .inr (.inr (.inr (.inr (.inr (.inr h1)))))

/-- A branch's block ends: its target is the end; a second side may begin there. -/
theorem KF.endB {s : St} {ls le : Nat} {ops : List Blk} {b : Blk} (h : KF s ls le) (hs : s.op = ops ++ [b]) (hb : b.loop = false) (two : Bool) (hz : ∃ x, s.k[b.at0]? = some x ∧ isJ x) :
    KF (⟨aimed s.k (if two then [⟨12, 0, 0, 0⟩] else []) b.at0, if two then ops ++ [⟨s.k.length, false, false⟩] else ops, s.lp, s.al⟩ : St) ls le := by
  have hp := h.pos
  have hbm : b ∈ s.op := by rw [hs]; simp
  have hom : ∀ c ∈ ops, c ∈ s.op := fun c hc => by rw [hs]; simp [hc]
  obtain ⟨hb0, hbl⟩ := h.ops b hbm
  have hbls := (h.lpo b hbm).2 hb
  have hso := sorted_last (hs ▸ h.sorted)
  obtain ⟨z, hz, hzj⟩ := hz
  obtain ⟨tail, ht⟩ : ∃ tail : List Ins, (if two then [⟨12, 0, 0, 0⟩] else []) = tail := ⟨_, rfl⟩
  obtain ⟨op', ho'⟩ : ∃ op', (if two then ops ++ [⟨s.k.length, false, false⟩] else ops) = op' := ⟨_, rfl⟩
  have hlen : (aimed s.k tail b.at0).length = s.k.length + tail.length := aimed_len _ _ _
  have hto : ∀ {n : Nat} {x : Ins}, tail[n]? = some x → n = 0 ∧ x = ⟨12, 0, 0, 0⟩ ∧ two = true := fun {n x} hx => by
    rw [← ht] at hx
    cases two
    · simp at hx
    · cases n with
      | zero => simp at hx; exact ⟨rfl, hx.symm, rfl⟩
      | succ n => simp at hx
  have hom' : ∀ c ∈ ops, c ∈ op' := fun c hc => by rw [← ho']; cases two <;> simp [hc]
  have hnew : two = true → (⟨s.k.length, false, false⟩ : Blk) ∈ op' := fun e => by rw [← ho', e]; simp
  have hin : ∀ c ∈ op', c ∈ ops ∨ (two = true ∧ c = ⟨s.k.length, false, false⟩) := fun c hc => by
    rw [← ho'] at hc
    cases two
    · exact .inl hc
    · simp only [if_true] at hc
      rcases mem_snoc.1 hc with hc | hc
      · exact .inl hc
      · exact .inr ⟨rfl, hc⟩
  rw [ht, ho']
  have htl : two = true → tail.length = 1 := fun e => by rw [← ht, e]; rfl
  have hbt : Tgt ls le b.at0 (s.k.length + tail.length) ((s.k.length + tail.length : Nat) : Int) := by
    refine .inr ⟨fun e => ?_, by omega, by omega, fun hls => ⟨fun e => absurd e hbls, fun hlt => ?_, fun hgt => ?_⟩⟩
    · obtain ⟨h1, h2, h3, h4⟩ := h.lpc (by omega)
      have := h4 b hbm
      omega
    · by_cases hle : le = 0
      · obtain ⟨c, hc1, hc2, hc3⟩ := (h.lps hls).2.2.1 hle
        rw [hs] at hc1
        rcases mem_snoc.1 hc1 with hc1 | rfl
        · have := hso.2 c hc1
          omega
        · omega
      · have := (h.lpc (by omega)).2.1
        exact .inr ⟨by omega, by omega⟩
    · by_cases hle : le = 0
      · exact .inl hle
      · have := (h.lpc (by omega)).2.2.2 b hbm
        omega
  refine ⟨by rw [hlen]; omega, ?_, fun c hc => ?_, fun n y hy => ?_, fun n y hy ho => ?_, fun q hq => ?_, fun c hc => ?_, fun hle => ?_, fun hls => ?_, h.lpn, h.lpz⟩
  · rw [← ho']
    cases two
    · exact hso.1
    · exact pw_snoc hso.1 fun c hc => (h.ops c (hom c hc)).2
  · show _ ∧ c.at0 < (aimed s.k tail b.at0).length
    rw [hlen]
    rcases hin c hc with hc | ⟨h2, rfl⟩
    · have := h.ops c (hom c hc); omega
    · have := htl h2
      exact ⟨hp, by show s.k.length < _; omega⟩
  · rcases aimed_get hbl hy with ⟨h1, h2⟩ | ⟨rfl, y', h2, rfl⟩ | ⟨h1, h2⟩
    · exact h.ins n y h2
    · rw [hz] at h2
      cases h2
      exact kind_b (h.ins _ _ hz) hzj _
    · obtain ⟨h3, rfl, -⟩ := hto h2
      exact .inr ⟨by omega, .inr (.inr (.inr (.inr (.inr (.inr rfl)))))⟩
  · show (∃ b ∈ op', b.at0 = n) ∨ Tgt ls le n (aimed s.k tail b.at0).length y.b
    rw [hlen]
    rcases aimed_get hbl hy with ⟨h1, h2⟩ | ⟨rfl, y', h2, rfl⟩ | ⟨h1, h2⟩
    · rcases h.jmp n y h2 ho with ⟨c, hc1, hc2⟩ | h3
      · rw [hs] at hc1
        rcases mem_snoc.1 hc1 with hc1 | rfl
        · exact .inl ⟨c, hom' c hc1, hc2⟩
        · exact absurd hc2.symm h1
      · exact .inr (h3.mono (by omega))
    · exact .inr hbt
    · obtain ⟨h3, rfl, h4⟩ := hto h2
      exact .inl ⟨_, hnew h4, by show s.k.length = n; omega⟩
  · rcases aimed_get hbl hq with ⟨h1, h2⟩ | ⟨rfl, y', h2, h3⟩ | ⟨h1, h2⟩
    · obtain ⟨h3, h4⟩ := h.wt q h2
      have hql := kf_lt h2
      have hqb := h3 b hbm
      refine ⟨fun c hc => ?_, fun n y hy ho => ?_⟩
      · rcases hin c hc with hc | ⟨-, rfl⟩
        · exact h3 c (hom c hc)
        · exact hql
      · rcases aimed_get hbl hy with ⟨g1, g2⟩ | ⟨rfl, y', g2, rfl⟩ | ⟨g1, g2⟩
        · rcases h4 n y g2 ho with ⟨c, hc1, hc2⟩ | g3
          · rw [hs] at hc1
            rcases mem_snoc.1 hc1 with hc1 | rfl
            · exact .inl ⟨c, hom' c hc1, hc2⟩
            · exact absurd hc2.symm g1
          · exact .inr g3
        · exact .inr ⟨fun e => by omega, fun _ => by show (q : Int) < ((s.k.length + tail.length : Nat) : Int); omega⟩
        · obtain ⟨g3, rfl, g4⟩ := hto g2
          exact .inl ⟨_, hnew g4, by show s.k.length = n; omega⟩
    · rw [hz] at h2
      cases h2
      rcases hzj with e | e <;> (rw [Ins.mk.injEq] at h3; omega)
    · obtain ⟨-, h4, -⟩ := hto h2
      simp at h4
  · rcases hin c hc with hc | ⟨h2, rfl⟩
    · exact h.lpo c (hom c hc)
    · refine ⟨fun e => by simp at e, fun _ e => ?_⟩
      have e : s.k.length = ls := e
      have := (h.lps (by omega)).2.1
      omega
  · obtain ⟨h1, h2, h3, h4⟩ := h.lpc hle
    refine ⟨h1, by show le ≤ (aimed s.k tail b.at0).length; rw [hlen]; omega, ⟨aimed_put (by have := h4 b hbm; omega) h3.1, aimed_put (by have := h4 b hbm; omega) h3.2.1, aimed_put (by have := h4 b hbm; omega) h3.2.2⟩, fun c hc => ?_⟩
    · rcases hin c hc with hc | ⟨-, rfl⟩
      · exact h4 c (hom c hc)
      · exact .inr h2
  · obtain ⟨h1, h2, h3, h4, y, h5, h6⟩ := h.lps hls
    refine ⟨h1, by show ls < (aimed s.k tail b.at0).length; rw [hlen]; omega, fun e => ?_, aimed_put (fun e => ?_) h4, y, aimed_put (fun e => hbls e.symm) h5, h6⟩
    · obtain ⟨c, h7, h8, h9⟩ := h3 e
      rw [hs] at h7
      rcases mem_snoc.1 h7 with h7 | rfl
      · exact ⟨c, hom' c h7, h8, h9⟩
      · rw [hb] at h9; simp at h9
    · rw [e, hz] at h4
      cases h4
      exact (nmI_o _ _).1 hzj

/-- The loop's block ends. -/
theorem KF.endL {s : St} {ls le : Nat} {ops : List Blk} {b : Blk} (h : KF s ls le) (hs : s.op = ops ++ [b]) (hb : b.loop = true) :
    KF (⟨aimed s.k [⟨1, 1, 1, 0⟩, ⟨3, 3, 3, 1⟩, ⟨12, 0, b.at0, 0⟩] b.at0, ops, s.lp, s.al⟩ : St) ls (s.k.length + 3) := by
  have hp := h.pos
  have hbm : b ∈ s.op := by rw [hs]; simp
  have hom : ∀ c ∈ ops, c ∈ s.op := fun c hc => by rw [hs]; simp [hc]
  obtain ⟨hb0, hbl⟩ := h.ops b hbm
  obtain ⟨e1, e2⟩ := (h.lpo b hbm).1 hb
  subst e2
  have hls : 0 < ls := by omega
  have hso := sorted_last (hs ▸ h.sorted)
  obtain ⟨l1, l2, l3, l4, z, hz, hz13⟩ := h.lps hls
  rw [e1]
  have hll : ls < s.k.length := l2
  have hlen : (aimed s.k [⟨1, 1, 1, 0⟩, ⟨3, 3, 3, 1⟩, ⟨12, 0, (ls : Int), 0⟩] ls).length = s.k.length + 3 := aimed_len _ _ _
  have hto : ∀ {n : Nat} {x : Ins}, ([⟨1, 1, 1, 0⟩, ⟨3, 3, 3, 1⟩, ⟨12, 0, (ls : Int), 0⟩] : List Ins)[n]? = some x → (n = 0 ∧ x = ⟨1, 1, 1, 0⟩) ∨ (n = 1 ∧ x = ⟨3, 3, 3, 1⟩) ∨ (n = 2 ∧ x = ⟨12, 0, (ls : Int), 0⟩) := fun {n x} hx => by
    rcases n with _ | _ | _ | n <;> simp at hx <;> simp [hx]
  have hlo : ∀ c ∈ ops, c.at0 < ls := fun c hc => by have := hso.2 c hc; omega
  refine ⟨by rw [hlen]; omega, hso.1, fun c hc => ?_, fun n y hy => ?_, fun n y hy ho => ?_, fun q hq => ?_, fun c hc => ?_, fun _ => ?_, fun _ => ?_, h.lpn, fun e => by omega⟩
  · show _ ∧ c.at0 < List.length _
    rw [hlen]
    have := h.ops c (hom c hc)
    omega
  · rcases aimed_get hll hy with ⟨h1, h2⟩ | ⟨rfl, y', h2, rfl⟩ | ⟨h1, h2⟩
    · have hn := kf_lt h2
      rcases h.ins n y h2 with g | ⟨g0, g⟩
      · exact .inl g
      · refine .inr ⟨g0, ?_⟩
        rcases g with g | g | ⟨g, -⟩ | g | g | g | g
        · exact .inl g
        · exact .inr (.inl g)
        · omega
        · exact .inr (.inr (.inr (.inl g)))
        · exact .inr (.inr (.inr (.inr (.inl g))))
        · exact .inr (.inr (.inr (.inr (.inr (.inl g)))))
        · exact .inr (.inr (.inr (.inr (.inr (.inr g)))))
    · rw [hz] at h2
      cases h2
      rcases h.ins n z hz with ⟨g, -⟩ | ⟨g0, g⟩
      · omega
      · refine .inr ⟨g0, ?_⟩
        rcases g with ⟨-, rfl⟩ | g | ⟨g, -⟩ | rfl | g | g | g
        · exact absurd (.inr hz13) (nmI_o _ _).1
        · exact absurd (.inr hz13) (pln_o g).1
        · omega
        · simp at hz13
        · exact absurd rfl g.2.2
        · exact .inr (.inr (.inr (.inr (.inr (.inl g)))))
        · omega
    · refine .inr ⟨by omega, ?_⟩
      rcases hto h2 with ⟨h3, rfl⟩ | ⟨h3, rfl⟩ | ⟨h3, rfl⟩
      · exact .inr (.inl (.inr (.inr (.inr (.inr (.inr (.inl ⟨1, rfl⟩)))))))
      · exact .inr (.inr (.inl ⟨by omega, rfl⟩))
      · exact .inr (.inr (.inr (.inr (.inr (.inr rfl)))))
  · show (∃ b ∈ ops, b.at0 = n) ∨ Tgt ls _ n (List.length _) y.b
    rw [hlen]
    rcases aimed_get hll hy with ⟨h1, h2⟩ | ⟨rfl, y', h2, rfl⟩ | ⟨h1, h2⟩
    · have hn := kf_lt h2
      rcases h.jmp n y h2 ho with ⟨c, hc1, hc2⟩ | h3
      · rw [hs] at hc1
        rcases mem_snoc.1 hc1 with hc1 | rfl
        · exact .inl ⟨c, hc1, hc2⟩
        · omega
      · right
        rcases h3 with ⟨-, h3, -⟩ | ⟨h3, h4, h5, h6⟩
        · omega
        · obtain ⟨h7, h8, h9⟩ := h6 hls
          refine .inr ⟨by omega, h4, by omega, fun _ => ⟨fun e => absurd e h1, fun e => ?_, fun e => .inr (.inr (by omega))⟩⟩
          rcases h8 e with h8 | ⟨h8, -⟩
          · exact .inl h8
          · omega
    · refine .inr (.inr ⟨by omega, ?_, ?_, fun _ => ⟨fun _ => ?_, fun e => by omega, fun e => by omega⟩⟩)
      · show (n : Int) < ((s.k.length + 3 : Nat) : Int); omega
      · show ((s.k.length + 3 : Nat) : Int) ≤ _; omega
      · rfl
    · rcases hto h2 with ⟨h3, rfl⟩ | ⟨h3, rfl⟩ | ⟨h3, rfl⟩
      · simp [isJ] at ho
      · simp [isJ] at ho
      · exact .inr (.inl ⟨hls, by omega, rfl⟩)
  · rcases aimed_get hll hq with ⟨h1, h2⟩ | ⟨rfl, y', h2, h3⟩ | ⟨h1, h2⟩
    · obtain ⟨h3, h4⟩ := h.wt q h2
      have hql := kf_lt h2
      have hqb := h3 b hbm
      refine ⟨fun c hc => h3 c (hom c hc), fun n y hy ho => ?_⟩
      rcases aimed_get hll hy with ⟨g1, g2⟩ | ⟨rfl, y', g2, rfl⟩ | ⟨g1, g2⟩
      · rcases h4 n y g2 ho with ⟨c, hc1, hc2⟩ | g3
        · rw [hs] at hc1
          rcases mem_snoc.1 hc1 with hc1 | rfl
          · exact .inl ⟨c, hc1, hc2⟩
          · omega
        · exact .inr g3
      · exact .inr ⟨fun e => by omega, fun _ => by show (q : Int) < ((s.k.length + 3 : Nat) : Int); omega⟩
      · rcases hto g2 with ⟨g3, rfl⟩ | ⟨g3, rfl⟩ | ⟨g3, rfl⟩
        · simp [isJ] at ho
        · simp [isJ] at ho
        · exact .inr ⟨fun e => by omega, fun _ => by show (q : Int) < (ls : Int); omega⟩
    · rw [hz] at h2
      cases h2
      rw [Ins.mk.injEq] at h3
      omega
    · rcases hto h2 with ⟨-, h4⟩ | ⟨-, h4⟩ | ⟨-, h4⟩ <;> simp at h4
  · have := hlo c hc
    refine ⟨fun e => ?_, fun _ => by omega⟩
    have := ((h.lpo c (hom c hc)).1 e).1
    omega
  · refine ⟨by omega, by show _ ≤ List.length _; rw [hlen]; omega, ?_, fun c hc => .inl (hlo c hc)⟩
    have t0 := aimed_tail (k := s.k) (tail := [⟨1, 1, 1, 0⟩, ⟨3, 3, 3, 1⟩, ⟨12, 0, (ls : Int), 0⟩]) (n := 0) hll rfl
    have t1 := aimed_tail (k := s.k) (tail := [⟨1, 1, 1, 0⟩, ⟨3, 3, 3, 1⟩, ⟨12, 0, (ls : Int), 0⟩]) (n := 1) hll rfl
    have t2 := aimed_tail (k := s.k) (tail := [⟨1, 1, 1, 0⟩, ⟨3, 3, 3, 1⟩, ⟨12, 0, (ls : Int), 0⟩]) (n := 2) hll rfl
    exact ⟨t0, t1, t2⟩
  · refine ⟨l1, by show ls < List.length _; rw [hlen]; omega, fun e => by omega, aimed_put (by omega) l4, { z with b := ((s.k.length + 3 : Nat) : Int) }, ?_, hz13⟩
    show (aimed _ _ _)[ls]? = _
    unfold aimed
    rw [List.getElem?_modify, List.getElem?_append_left hll, hz]
    simp

theorem KF.close {s : St} {ls le : Nat} (h : KF s ls le) (hf : Fine s) (second : Bool) : ∃ ls' le', KF (s.close second) ls' le' := by
  cases ho : s.op.getLast? with
  | none =>
    have ec : s.close second = s := by unfold St.close; rw [ho]
    rw [ec]
    exact ⟨ls, le, h⟩
  | some b =>
    obtain ⟨ops, hs⟩ := List.getLast?_eq_some_iff.1 ho
    rw [close_eq hs]
    have hz := hf.spot b (by rw [hs]; simp)
    cases hb : b.loop
    · have := h.endB hs hb (second && b.sides) hz
      refine ⟨ls, le, ?_⟩
      cases hc : second && b.sides
      · rw [hc] at this
        simpa [St.ends, St.other, hb, hc, aimed, St.aim] using this
      · rw [hc] at this
        simpa [St.ends, St.other, hb, hc, aimed, St.aim, St.put, St.opn] using this
    · have := h.endL hs hb
      refine ⟨ls, s.k.length + 3, ?_⟩
      simpa [St.ends, St.other, hb, aimed, St.aim, St.put] using this

theorem KF.enters {s : St} {ls le : Nat} (h : KF s ls le) (loop : Bool) : ∃ ls' le', KF (s.enters loop) ls' le' := by
  unfold St.enters
  cases hc : (loop && !s.lp)
  · simp only [Bool.false_eq_true, if_false]
    exact ⟨ls, le, h.branch⟩
  · simp only [if_true]
    have hlp : s.lp = false := by cases hl : s.lp <;> simp_all
    have e1 := h.lpn hlp
    subst e1
    have e2 := h.lpz rfl
    subst e2
    exact ⟨_, _, h.loop⟩

theorem KF.line {s : St} {ls le : Nat} (h : KF s ls le) (hf : Fine s) (v : Nat) : ∃ ls' le', KF (s.line v) ls' le' := by
  have hp : ∀ x : Ins, Pln x → ∃ ls' le', KF (s.put x) ls' le' := fun x hx => ⟨ls, le, h.put (.inl hx)⟩
  unfold St.line
  by_cases c0 : v % 12 = 0
  · rw [if_pos c0]; exact hp _ (.inl rfl)
  rw [if_neg c0]
  by_cases c1 : v % 12 = 1
  · rw [if_pos c1]; exact hp _ (.inr (.inl rfl))
  rw [if_neg c1]
  by_cases c2 : v % 12 = 2
  · rw [if_pos c2]; exact hp _ (.inr (.inr (.inl rfl)))
  rw [if_neg c2]
  by_cases c3 : v % 12 = 3
  · rw [if_pos c3]; exact hp _ (.inr (.inr (.inr (.inl rfl))))
  rw [if_neg c3]
  by_cases c4 : v % 12 = 4
  · rw [if_pos c4]; exact hp _ (.inr (.inr (.inr (.inr (.inl rfl)))))
  rw [if_neg c4]
  by_cases c5 : v % 12 = 5
  · rw [if_pos c5]; exact hp _ (.inr (.inr (.inr (.inr (.inr (.inl ⟨_, rfl⟩))))))
  rw [if_neg c5]
  by_cases c6 : v % 12 = 6
  · rw [if_pos c6]; exact hp _ (.inr (.inr (.inr (.inr (.inr (.inr (.inl rfl)))))))
  rw [if_neg c6]
  by_cases c7 : v % 12 = 7
  · rw [if_pos c7]; exact hp _ (.inr (.inr (.inr (.inr (.inr (.inr (.inr (.inl rfl))))))))
  rw [if_neg c7]
  by_cases c8 : v % 12 = 8 ∨ v % 12 = 9
  · rw [if_pos c8]; exact h.enters _
  rw [if_neg c8]
  by_cases c10 : v % 12 = 10
  · rw [if_pos c10]; exact h.close hf _
  rw [if_neg c10]
  by_cases c11 : s.op.length = 0
  · rw [if_pos c11]; exact ⟨ls, le, h.put (.inr ⟨rfl, List.length_eq_zero_iff.1 c11⟩)⟩
  · rw [if_neg c11]; exact hp _ (.inr (.inr (.inr (.inr (.inr (.inr (.inr (.inr rfl))))))))

theorem KF.lines {l : List Int} : ∀ {s : St} {ls le : Nat}, KF s ls le → Fine s → ∃ ls' le', KF (s.lines l) ls' le' := by
  induction l with
  | nil => exact fun h _ => ⟨_, _, h⟩
  | cons c l ih =>
    intro s ls le h hf
    obtain ⟨ls', le', h'⟩ := h.line hf (pickN c 1099511627776)
    exact ih h' (by have := hf.lines [c]; exact this.1)

theorem KF.closes : ∀ {n : Nat} {s : St} {ls le : Nat}, KF s ls le → Fine s → ∃ ls' le', KF (s.closes n) ls' le'
  | 0, s, ls, le, h, _ => ⟨ls, le, h⟩
  | n + 1, s, ls, le, h, hf => by
    unfold St.closes
    split
    · exact ⟨ls, le, h⟩
    · rename_i h0
      obtain ⟨ls', le', h'⟩ := h.close hf false
      refine h'.closes ?_
      cases ho : s.op.getLast? with
      | none => rw [List.getLast?_eq_none_iff] at ho; rw [ho] at h0; simp at h0
      | some b =>
        obtain ⟨ops, hs⟩ := List.getLast?_eq_some_iff.1 ho
        exact (hf.close hs false).1

theorem kf0 (al : Bool) : KF (kern0 al) 0 0 := by
  have hk : (kern0 al).k = [nmI al 2] := rfl
  have ho : (kern0 al).op = [] := rfl
  have get : ∀ {n : Nat} {x : Ins}, (kern0 al).k[n]? = some x → n = 0 ∧ x = nmI al 2 := fun {n x} h => by
    rw [hk] at h
    cases n with
    | zero => simp at h; exact ⟨rfl, h.symm⟩
    | succ n => simp at h
  refine ⟨by rw [hk]; simp, by rw [ho]; simp, fun b hb => by rw [ho] at hb; simp at hb, fun n x hx => .inl (get hx), fun n x hx hj => ?_, fun q hq => ?_, fun b hb => by rw [ho] at hb; simp at hb, fun e => by omega, fun e => by omega, fun _ => rfl, fun _ => rfl⟩
  · obtain ⟨-, rfl⟩ := get hx
    exact absurd hj (nmI_o _ _).1
  · have := (get hq).2
    have h2 := (nmI_o al 2).2.2
    rw [← this] at h2
    exact absurd rfl h2

theorem kf2 (l : List Int) (al : Bool) : ∃ ls le, KF (kern2 l al) ls le := by
  obtain ⟨ls, le, h⟩ := (kf0 al).lines (l := l.take 12) (fine0 al).1
  exact h.closes (fineAt l al 12 (Nat.le_refl _)).1

end Go.Proofs.Ytbhbacphiinpeaa
