/- Met, plain: what a turn of a warp does, by its three phases. -/
import Derived.Test.YtbhbacphiinpeabSw
namespace Go.Proofs.Ytbhbacphiinpeab
open Go.RowKit

def kMe : List Ins := [⟨8, 0, 0, 0⟩, ⟨10, 0, 0, 0⟩, ⟨14, 0, 0, 0⟩, ⟨9, 2, 0, 1⟩, ⟨14, 0, 0, 0⟩, ⟨1, 1, 99, 0⟩, ⟨10, 1, 0, 0⟩, ⟨0, 0, 0, 0⟩]

theorem own_run {k : List Ins} {J : List Int} {F : Nat} {p : Pl} {g : List Nat} {pc : Nat} {to : Int} {x : Ins} {ts' : List Thr} {mem' sg : List Int} (h : Goes 2000 p g pc to) (hx : k[pc]? = some x) (ho : isOwnP x.o) (he : eachL x g p.ts p.mem = (ts', mem', sg, none)) :
    runP k J 2000 (F + 1) p g pc to = runP k J 2000 F { p with ts := ts', mem := mem', steps := p.steps + 1, segs := p.segs + segC [] sg, log := p.log ++ [((pc : Int), (bits g : Int))] } g ((pc + 1 : Nat) : Int) to := by
  rw [step_own h hx ho]
  have : eachP (issuedP p g pc) g pc x = { p with ts := ts', mem := mem', steps := p.steps + 1, segs := p.segs + segC [] sg, log := p.log ++ [((pc : Int), (bits g : Int))] } := by
    unfold eachP issuedP
    simp only [he]
  rw [this]
  rfl

section
variable {s len : Nat}
theorem rg_ne (h1 : 1 ≤ len) : List.range' s len ≠ [] := by intro e; have := congrArg List.length e; simp at this; omega
theorem rg_mem (t : Nat) : t ∈ List.range' s len ↔ s ≤ t ∧ t < s + len := by simp [List.mem_range'_1]
theorem rg_get {ts : List Thr} {y : Nat → Thr} (h : ∀ j, j < len → ts[s + j]? = some (y (s + j))) {t : Nat} (ht : t ∈ List.range' s len) : ts[t]? = some (y t) := by
  have := (rg_mem t).1 ht
  have h2 := h (t - s) (by omega)
  rw [show s + (t - s) = t by omega] at h2
  exact h2
theorem rg_lt {ts : List Thr} {y : Nat → Thr} (h : ∀ j, j < len → ts[s + j]? = some (y (s + j))) : ∀ t ∈ List.range' s len, t < ts.length := fun _ ht => (List.getElem?_eq_some_iff.1 (rg_get h ht)).1
theorem rg_live {ts : List Thr} {y : Nat → Thr} (h : ∀ j, j < len → ts[s + j]? = some (y (s + j))) (hy : ∀ t, (y t).done = false) : liveL ts (List.range' s len) = List.range' s len := live_all1 fun t ht => ⟨_, rg_get h ht, hy t⟩
theorem rg_on {ts : List Thr} {y : Nat → Thr} (h : ∀ j, j < len → ts[s + j]? = some (y (s + j))) (F : Thr → Thr) : ∀ j, j < len → (onG (List.range' s len) F ts)[s + j]? = some ((fun t => F (y t)) (s + j)) := fun j hj => by
  rw [onG_at, h j hj]
  simp [hj]
end

def yA (t : Nat) : Thr := ⟨(t : Int), [0, 0, 0, 0], false⟩
def yB (t : Nat) : Thr := ⟨(t : Int), [(t : Int), 0, 0, 0], false⟩
def yC (v : Nat → Int) (t : Nat) : Thr := ⟨(t : Int), [(t : Int), 0, v t, 0], false⟩
def yD (v : Nat → Int) (t : Nat) : Thr := ⟨(t : Int), [(t : Int), 99, v t, 0], false⟩

/-- The first phase: each stores its name at its own address. -/
theorem me_play0 (J : List Int) {ts : List Thr} {mem : List Int} {s len : Nat} (h1 : 1 ≤ len) (hm : mem.length ≤ 32) (hl : s + len ≤ mem.length) (h : ∀ j, j < len → ts[s + j]? = some (yA (s + j))) :
    ∃ q, runP kMe J 2000 2000 ⟨ts, mem, 0, 0, 0, 0, 0, 0, [], 0, false, false, 0⟩ (List.range' s len) 0 (-1) = q ∧ q.ends = false ∧ q.st = 0 ∧ q.waits = true ∧ q.at0 = 3 ∧ q.steps = 3 ∧ q.log.length = 3 ∧ q.ts.length = ts.length ∧ q.mem.length = mem.length ∧
      (∀ i, q.ts[i]? = if s ≤ i ∧ i < s + len then some (yB i) else ts[i]?) ∧ (∀ i, q.mem[i]? = if s ≤ i ∧ i < s + len then some (i : Int) else mem[i]?) := by
  have r1 : eachL ⟨8, 0, 0, 0⟩ (List.range' s len) ts mem = (onG (List.range' s len) (fun t => t.put 0 t.name) ts, mem, [], none) := each_regs (fun t mem => by simp [oneP]) _ _ _ List.nodup_range' (rg_lt (y := yA) h)
  have a1 : ∀ j, j < len → (onG (List.range' s len) (fun t => t.put 0 t.name) ts)[s + j]? = some (yB (s + j)) := rg_on (y := yA) h (fun t => t.put 0 t.name)
  obtain ⟨mem2, sg, e1, e2, e3⟩ := each_store 0 len s _ mem yB hm (fun j hj => ⟨a1 j hj, by simp [Thr.get, yB], by omega⟩)
  have s1 := own_run (k := kMe) (J := J) (F := 1999) (p := ⟨ts, mem, 0, 0, 0, 0, 0, 0, [], 0, false, false, 0⟩) (g := List.range' s len) (pc := 0) (to := -1) ⟨rfl, rfl, rg_live (y := yA) h (fun _ => rfl), rg_ne h1, by simp, by simp⟩ rfl (by unfold isOwnP; simp) r1
  have s2 := own_run (k := kMe) (J := J) (F := 1998) (p := ⟨onG (List.range' s len) (fun t => t.put 0 t.name) ts, mem, 0, 1, 0, 0, 0, 0, [(0, (bits (List.range' s len) : Int))], 0, false, false, 0⟩) (g := List.range' s len) (pc := 1) (to := -1) ⟨rfl, rfl, rg_live (y := yB) a1 (fun _ => rfl), rg_ne h1, by simp, by simp⟩ rfl (by unfold isOwnP; simp) e1
  have s3 := step_wait (k := kMe) (J := J) (bud := 2000) (F := 1997) (p := ⟨onG (List.range' s len) (fun t => t.put 0 t.name) ts, mem2, 0, 2, 0 + segC [] sg, 0, 0, 0, [(0, (bits (List.range' s len) : Int)), (1, (bits (List.range' s len) : Int))], 0, false, false, 0⟩) (g := List.range' s len) (pc := 2) (to := -1) ⟨rfl, rfl, rg_live (y := yB) a1 (fun _ => rfl), rg_ne h1, by simp, by simp⟩ rfl rfl rfl
  refine ⟨_, Eq.trans s1 (Eq.trans s2 s3), rfl, rfl, rfl, rfl, rfl, rfl, by simp [onG, issuedP], e2, fun i => ?_, fun i => ?_⟩
  · show (onG (List.range' s len) (fun t => t.put 0 t.name) ts)[i]? = _
    by_cases hi : s ≤ i ∧ i < s + len
    · rw [if_pos hi]
      have := a1 (i - s) (by omega)
      rw [show s + (i - s) = i by omega] at this
      rw [this]
    · rw [if_neg hi, onG_at]
      cases ts[i]? with
      | none => rfl
      | some y => simp [hi]
  · show mem2[i]? = _
    rw [e3]
    rfl

/-- The second phase: each loads what the next one stored. -/
theorem me_play1 (J : List Int) {ts : List Thr} {mem : List Int} {s len : Nat} (h1 : 1 ≤ len) (hm : mem.length ≤ 32) (hl : s + len < mem.length) (h : ∀ j, j < len → ts[s + j]? = some (yB (s + j))) :
    ∃ q, runP kMe J 2000 2000 ⟨ts, mem, 0, 0, 0, 0, 0, 0, [], 0, false, false, 0⟩ (List.range' s len) 3 (-1) = q ∧ q.ends = false ∧ q.st = 0 ∧ q.waits = true ∧ q.at0 = 5 ∧ q.steps = 2 ∧ q.log.length = 2 ∧ q.ts.length = ts.length ∧ q.mem = mem ∧
      (∀ i, q.ts[i]? = if s ≤ i ∧ i < s + len then some (yC (fun t => mem.getD (t + 1) 0) i) else ts[i]?) := by
  obtain ⟨ts2, sg, e1, e2, e3⟩ := each_load len s ts mem yB hm (fun j hj => ⟨h j hj, by simp [Thr.get, yB], by omega⟩)
  have a1 : ∀ j, j < len → ts2[s + j]? = some (yC (fun t => mem.getD (t + 1) 0) (s + j)) := fun j hj => by rw [e3, if_pos (by omega)]; rfl
  have s1 := own_run (k := kMe) (J := J) (F := 1999) (p := ⟨ts, mem, 0, 0, 0, 0, 0, 0, [], 0, false, false, 0⟩) (g := List.range' s len) (pc := 3) (to := -1) ⟨rfl, rfl, rg_live (y := yB) h (fun _ => rfl), rg_ne h1, by simp, by simp⟩ rfl (by unfold isOwnP; simp) e1
  have s2 := step_wait (k := kMe) (J := J) (bud := 2000) (F := 1998) (p := ⟨ts2, mem, 0, 1, 0 + segC [] sg, 0, 0, 0, [(3, (bits (List.range' s len) : Int))], 0, false, false, 0⟩) (g := List.range' s len) (pc := 4) (to := -1) ⟨rfl, rfl, rg_live (y := yC _) a1 (fun _ => rfl), rg_ne h1, by simp, by simp⟩ rfl rfl rfl
  exact ⟨_, Eq.trans s1 s2, rfl, rfl, rfl, rfl, rfl, rfl, e2, rfl, fun i => e3 i⟩

/-- The third phase: each stores anew, and is done. -/
theorem me_play2 (J : List Int) {ts : List Thr} {mem : List Int} {s len : Nat} (v : Nat → Int) (h1 : 1 ≤ len) (hm : mem.length ≤ 32) (hl : s + len ≤ mem.length) (h : ∀ j, j < len → ts[s + j]? = some (yC v (s + j))) :
    ∃ q, runP kMe J 2000 2000 ⟨ts, mem, 0, 0, 0, 0, 0, 0, [], 0, false, false, 0⟩ (List.range' s len) 5 (-1) = q ∧ q.ends = false ∧ q.st = 0 ∧ q.waits = false ∧ q.steps = 3 ∧ q.log.length = 3 ∧ q.ts.length = ts.length ∧ q.mem.length = mem.length ∧
      (∀ i, q.ts[i]? = if s ≤ i ∧ i < s + len then some { yD v i with done := true } else ts[i]?) ∧ (∀ i, q.mem[i]? = if s ≤ i ∧ i < s + len then some 99 else mem[i]?) := by
  have r1 : eachL ⟨1, 1, 99, 0⟩ (List.range' s len) ts mem = (onG (List.range' s len) (fun t => t.put 1 99) ts, mem, [], none) := each_regs (fun t mem => by simp [oneP]) _ _ _ List.nodup_range' (rg_lt (y := yC v) h)
  have a1 : ∀ j, j < len → (onG (List.range' s len) (fun t => t.put 1 99) ts)[s + j]? = some (yD v (s + j)) := rg_on (y := yC v) h (fun t => t.put 1 99)
  obtain ⟨mem2, sg, e1, e2, e3⟩ := each_store 1 len s _ mem (yD v) hm (fun j hj => ⟨a1 j hj, by simp [Thr.get, yD], by omega⟩)
  have s1 := own_run (k := kMe) (J := J) (F := 1999) (p := ⟨ts, mem, 0, 0, 0, 0, 0, 0, [], 0, false, false, 0⟩) (g := List.range' s len) (pc := 5) (to := -1) ⟨rfl, rfl, rg_live (y := yC v) h (fun _ => rfl), rg_ne h1, by simp, by simp⟩ rfl (by unfold isOwnP; simp) r1
  have s2 := own_run (k := kMe) (J := J) (F := 1998) (p := ⟨onG (List.range' s len) (fun t => t.put 1 99) ts, mem, 0, 1, 0, 0, 0, 0, [(5, (bits (List.range' s len) : Int))], 0, false, false, 0⟩) (g := List.range' s len) (pc := 6) (to := -1) ⟨rfl, rfl, rg_live (y := yD v) a1 (fun _ => rfl), rg_ne h1, by simp, by simp⟩ rfl (by unfold isOwnP; simp) e1
  have s3 := step_exit (k := kMe) (J := J) (bud := 2000) (F := 1997) (p := ⟨onG (List.range' s len) (fun t => t.put 1 99) ts, mem2, 0, 2, 0 + segC [] sg, 0, 0, 0, [(5, (bits (List.range' s len) : Int)), (6, (bits (List.range' s len) : Int))], 0, false, false, 0⟩) (g := List.range' s len) (pc := 7) (to := -1) ⟨rfl, rfl, rg_live (y := yD v) a1 (fun _ => rfl), rg_ne h1, by simp, by simp⟩ rfl rfl (rg_lt (y := yD v) a1)
  refine ⟨_, Eq.trans s1 (Eq.trans s2 s3), rfl, rfl, rfl, rfl, rfl, ?_, e2, fun i => ?_, fun i => ?_⟩
  · show (doneAll (onG (List.range' s len) (fun t => t.put 1 99) ts) (List.range' s len)).length = ts.length
    rw [(doneAll_keeps _ _).1]; simp [onG]
  · show (doneAll (onG (List.range' s len) (fun t => t.put 1 99) ts) (List.range' s len))[i]? = _
    rw [done_at]
    by_cases hi : s ≤ i ∧ i < s + len
    · rw [if_pos hi]
      have := a1 (i - s) (by omega)
      rw [show s + (i - s) = i by omega] at this
      rw [this]
      simp [hi]
    · rw [if_neg hi, onG_at]
      cases ts[i]? with
      | none => rfl
      | some y => simp [hi]
  · show mem2[i]? = _
    rw [e3]
    rfl

end Go.Proofs.Ytbhbacphiinpeab
