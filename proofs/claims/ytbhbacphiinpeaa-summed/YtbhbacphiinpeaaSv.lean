/- Summed, plain: the whole run, whatever the picks. -/
import Derived.Test.YtbhbacphiinpeaaSu
namespace Go.Proofs.Ytbhbacphiinpeaa
open Go.RowKit

def szW (n i : Nat) : Nat := min 4 (n - 4 * i)
def totS (n : Nat) (S : Nat → Bool) : Nat → Nat
  | 0 => 0
  | c + 1 => totS n S c + (if S c then szW n c else 0)
theorem tot_put {n : Nat} {S : Nat → Bool} {i : Nat} (h : S i = false) : ∀ {c : Nat}, i < c → totS n (put1 S i) c = totS n S c + szW n i
  | 0, hc => by omega
  | c + 1, hc => by
    unfold totS
    by_cases e : c = i
    · subst e
      have key : ∀ d, d ≤ c → totS n (put1 S c) d = totS n S d := by
        intro d
        induction d with
        | zero => intro _; rfl
        | succ d ih => intro hd; unfold totS; rw [ih (by omega)]; simp [put1, show d ≠ c by omega]
      rw [key c (Nat.le_refl _), h]; simp [put1]
    · have := tot_put (n := n) h (show i < c by omega)
      have e2 : put1 S i c = S c := by simp [put1, e]
      rw [e2, this]; omega
theorem tot_none (n c : Nat) : totS n (fun _ => false) c = 0 := by
  induction c with
  | zero => rfl
  | succ c ih => unfold totS; rw [ih]; rfl
theorem tot_all {n : Nat} {S : Nat → Bool} : ∀ {c : Nat}, (∀ i, i < c → S i = true) → totS n S c = min n (4 * c)
  | 0, _ => by simp [totS]
  | c + 1, h => by unfold totS; rw [tot_all fun i hi => h i (by omega), h c (by omega), if_pos rfl]; unfold szW; omega

def SuInv (n c : Nat) (x0 : Int) (_ : Nat) (S : Nat → Bool) (ts : List Thr) (mem : List Int) (r : Rn) : Prop :=
  ts.length = n ∧ r.logs.length = c ∧ mem = [W64 (x0 + (totS n S c : Nat))] ∧ ∃ off : Nat → Nat,
    (∀ i, i < c → S i = true → off i + szW n i ≤ totS n S c) ∧ (∀ i j, i < c → j < c → S i = true → S j = true → i ≠ j → off i + szW n i ≤ off j ∨ off j + szW n j ≤ off i) ∧
    ∀ t, t < n → ts[t]? = some (if S (t / 4) then ⟨t, [0, W64 (x0 + ((off (t / 4) + t % 4 : Nat) : Int)), 0, 0], true⟩ else ⟨t, [0, 0, 0, 0], false⟩)

theorem su_phased (J : List Int) (n c : Nat) (hc : c = (n + 3) / 4) (x0 : Int) : Phased kSu J c 0 (fun _ => 0) (SuInv n c x0) := by
  refine ⟨fun p S ts mem r h => h.2.1, ?_, fun p S ts mem r hp => by omega⟩
  rintro p S ts mem r i hp hi hS ⟨h1, h2, h3, off, o1, o2, o3⟩
  have hlen : 1 ≤ szW n i := by unfold szW; omega
  have h4 : ∀ t, 4 * i ≤ t ∧ t < 4 * i + szW n i ↔ t < n ∧ t / 4 = i := fun t => by unfold szW; omega
  obtain ⟨q, hq, a1, a2, a3, a4, a5, a6, a7, a8⟩ := su_play J (ts := ts) (x := W64 (x0 + (totS n S c : Nat))) (s := 4 * i) (len := szW n i) hlen (fun t => (t : Int)) (by unfold W64 wrap64; omega) (fun j hj => by
    have := (h4 (4 * i + j)).1 ⟨by omega, by omega⟩
    rw [o3 _ this.1, this.2, hS]; rfl)
  subst h3
  refine ⟨q, by rw [h1]; exact hq, a1, a2, ?_, fun h => by omega, by rw [a4, a5], by rw [a5]; omega, ?_⟩
  · rw [a3]; simp; omega
  · have ht := tot_put (n := n) hS hi
    refine ⟨by rw [a7, h1], by simp [Rn.add, h2], ?_, fun j => if j = i then totS n S c else off j, ?_, ?_, ?_⟩
    · rw [a6, W64_add, ht]
      congr 2
      omega
    · intro j hj hSj
      rw [ht]
      by_cases e : j = i
      · subst e; simp
      · simp only [if_neg e]
        have : S j = true := by simpa [put1, e] using hSj
        have := o1 j hj this
        omega
    · intro j l hj hl hSj hSl hne
      by_cases e : j = i
      · have e' : l ≠ i := by omega
        simp only [if_pos e, if_neg e']
        have : S l = true := by simpa [put1, e'] using hSl
        exact .inr (o1 l hl this)
      · by_cases e' : l = i
        · simp only [if_neg e, if_pos e']
          have : S j = true := by simpa [put1, e] using hSj
          exact .inl (o1 j hj this)
        · simp only [if_neg e, if_neg e']
          exact o2 j l hj hl (by simpa [put1, e] using hSj) (by simpa [put1, e'] using hSl) hne
    · intro t htn
      rw [a8]
      by_cases e : t / 4 = i
      · rw [if_pos ((h4 t).2 ⟨htn, e⟩)]
        have e1 : put1 S i (t / 4) = true := by simp [put1, e]
        rw [if_pos e1]
        dsimp only
        rw [if_pos e, W64_add]
        have : x0 + (totS n S c : Int) + ((t : Int) - ((4 * i : Nat) : Int)) = x0 + ((totS n S c + t % 4 : Nat) : Int) := by omega
        rw [this]
      · rw [if_neg (fun h => e ((h4 t).1 h).2), o3 t htn]
        have e1 : put1 S i (t / 4) = S (t / 4) := by simp [put1, e]
        rw [e1]
        dsimp only
        rw [if_neg e]

theorem su_go (J : List Int) (n : Nat) (hn : 1 ≤ n) (hn2 : n ≤ 16) (x0 : Int) (hx : W64 x0 = x0) (picks : List Int) :
    ∃ m' R, goP picks 200 0 (newP kSu J n 0 [x0]) (rn0 ((n + 3) / 4)) = some (m', R) ∧ m'.st = 1 ∧ m'.mem = [W64 (x0 + (n : Int))] ∧ m'.ts.length = n ∧ ∃ d : Nat → Nat, (∀ t, t < n → d t < n ∧ m'.ts[t]? = some ⟨t, [0, W64 (x0 + (d t : Int)), 0, 0], true⟩) ∧ (∀ t u, t < n → u < n → d t = d u → t = u) ∧ (∀ t, t + 1 < n → (t + 1) % 4 ≠ 0 → d (t + 1) = d t + 1) := by
  obtain ⟨c, hc⟩ : ∃ c, c = (n + 3) / 4 := ⟨_, rfl⟩
  rw [← hc]
  have h0 : newP kSu J n 0 [x0] = ⟨kSu, J, (List.range n).map fun (i : Nat) => (⟨((0 : Nat) : Int) + (i : Int), [0, 0, 0, 0], false⟩ : Thr), wsOf c 0 0 (fun _ => 0) (fun _ => false), [x0], 0⟩ := by
    unfold newP
    rw [← hc]
    congr 1
    apply List.ext_getElem?
    intro j
    by_cases hj : j < c
    · rw [wsOf_get hj, List.getElem?_replicate, if_pos hj]; rfl
    · rw [List.getElem?_eq_none (by simp; omega), List.getElem?_eq_none (by rw [wsOf_len]; omega)]
  obtain ⟨S', ts', mem', r', ws', hg, hall, i1, i2, i3, off, o1, o2, o3⟩ := phased_go (su_phased J n c hc x0) (by omega) picks 200 0 0 (fun _ => false) ((List.range n).map fun (i : Nat) => (⟨((0 : Nat) : Int) + (i : Int), [0, 0, 0, 0], false⟩ : Thr)) [x0] (rn0 c) (Nat.le_refl _) (by rw [left_none]; omega) (by rw [left_none]; omega) (by
    refine ⟨by simp, by simp [rn0], by rw [tot_none]; simp [hx], fun _ => 0, fun i _ h => by simp at h, fun i j _ _ h => by simp at h, fun t ht => ?_⟩
    simp [ht])
  rw [h0]
  have ht : totS n S' c = n := by rw [tot_all hall]; omega
  rw [ht] at i3 o1
  refine ⟨_, _, hg, rfl, i3, i1, fun t => off (t / 4) + t % 4, ?_, ?_, ?_⟩
  · intro t htn
    have a := o1 (t / 4) (by omega) (hall _ (by omega))
    have b := o3 t htn
    rw [hall _ (by omega), if_pos rfl] at b
    refine ⟨?_, b⟩
    have : t % 4 < szW n (t / 4) := by unfold szW; omega
    show off (t / 4) + t % 4 < n
    omega
  · intro t u htn hun he
    dsimp only at he
    have a : t % 4 < szW n (t / 4) := by unfold szW; omega
    have b : u % 4 < szW n (u / 4) := by unfold szW; omega
    by_cases e : t / 4 = u / 4
    · rw [e] at he; omega
    · have := o2 (t / 4) (u / 4) (by omega) (by omega) (hall _ (by omega)) (hall _ (by omega)) e
      omega
  · intro t htn hm
    dsimp only
    have e : (t + 1) / 4 = t / 4 := by omega
    rw [e]
    omega

end Go.Proofs.Ytbhbacphiinpeaa
