/-
  Plain mathematics: which sections are used, found by rounds.
-/
import Derived.Test.YtdhmandnamajpaaDoorUsesA
namespace Go.Proofs.YtdhmandnamajpaaDoor
open Go.RowKit

def Mn (us us' : List Bool) : Prop := us.length = us'.length ∧ ∀ k, us.getD k false = true → us'.getD k false = true
theorem Mn.refl (us : List Bool) : Mn us us := ⟨rfl, fun _ h => h⟩
theorem Mn.trans {a b c : List Bool} (h : Mn a b) (k : Mn b c) : Mn a c := ⟨h.1.trans k.1, fun i hi => k.2 i (h.2 i hi)⟩
theorem mn_count : ∀ (us us' : List Bool), Mn us us' → us.count true ≤ us'.count true ∧ (us.count true = us'.count true → us = us') := by
  intro us
  induction us with
  | nil =>
    intro us' h
    have : us' = [] := List.length_eq_zero_iff.1 h.1.symm
    subst this
    exact ⟨Nat.le_refl _, fun _ => rfl⟩
  | cons u us ih =>
    intro us' h
    cases us' with
    | nil => have := h.1; simp at this
    | cons v vs =>
      have ht : Mn us vs := ⟨by simpa using h.1, fun k hk => by simpa [List.getD] using h.2 (k + 1) (by simpa [List.getD] using hk)⟩
      obtain ⟨i1, i2⟩ := ih vs ht
      have h0 : u = true → v = true := fun e => by have := h.2 0; simp [List.getD] at this; exact this e
      cases u <;> cases v
      · simp only [List.count_cons]
        refine ⟨by simpa using i1, fun e => ?_⟩
        rw [i2 (by simpa using e)]
      · simp only [List.count_cons]
        refine ⟨by simp; omega, fun e => ?_⟩
        simp at e
        omega
      · exact absurd (h0 rfl) (by simp)
      · simp only [List.count_cons]
        refine ⟨by simpa using i1, fun e => ?_⟩
        rw [i2 (by simpa using e)]

def setAll (us : List Bool) (ts : List Nat) : List Bool := ts.foldl (fun u t => u.set t true) us
theorem set_get (us : List Bool) (t k : Nat) : (us.set t true).getD k false = true ↔ us.getD k false = true ∨ (k = t ∧ t < us.length) := by
  simp only [List.getD]
  by_cases e : t = k
  · subst e
    by_cases hl : t < us.length
    · simp [hl]
    · rw [List.getElem?_eq_none (by simpa using hl), List.getElem?_eq_none (by simpa using hl)]
      simp [hl]
  · rw [List.getElem?_set_ne e]
    constructor
    · exact .inl
    · rintro (h | ⟨h, _⟩)
      · exact h
      · exact absurd h.symm e
theorem setAll_len (us : List Bool) (ts : List Nat) : (setAll us ts).length = us.length := by
  induction ts generalizing us with
  | nil => rfl
  | cons t ts ih => show (setAll (us.set t true) ts).length = _; rw [ih]; simp
theorem setAll_get (us : List Bool) (ts : List Nat) (k : Nat) : (setAll us ts).getD k false = true ↔ us.getD k false = true ∨ (k ∈ ts ∧ k < us.length) := by
  induction ts generalizing us with
  | nil => simp [setAll]
  | cons t ts ih =>
    show (setAll (us.set t true) ts).getD k false = true ↔ _
    rw [ih, set_get]
    simp only [List.length_set, List.mem_cons]
    constructor
    · rintro ((h | ⟨h1, h2⟩) | ⟨h1, h2⟩)
      · exact .inl h
      · exact .inr ⟨.inl h1, by omega⟩
      · exact .inr ⟨.inr h1, h2⟩
    · rintro (h | ⟨h1 | h1, h2⟩)
      · exact .inl (.inl h)
      · exact .inl (.inr ⟨h1, by omega⟩)
      · exact .inr ⟨h1, h2⟩
def procK (nms : List (List Nat)) (us : List Bool) (k : Nat) : List Bool := if us.getD k false then setAll us (nms.getD k []) else us
def roundU (nms : List (List Nat)) (us : List Bool) : Nat → List Bool
  | 0 => us
  | k + 1 => procK nms (roundU nms us k) k
def roundsU (nms : List (List Nat)) (n : Nat) (us : List Bool) : Nat → List Bool
  | 0 => us
  | r + 1 => roundU nms (roundsU nms n us r) n
theorem procK_mn (nms : List (List Nat)) (us : List Bool) (k : Nat) : Mn us (procK nms us k) := by
  unfold procK
  split
  · exact ⟨(setAll_len _ _).symm, fun i hi => (setAll_get _ _ _).2 (.inl hi)⟩
  · exact Mn.refl _
theorem roundU_mn (nms : List (List Nat)) (us : List Bool) (k : Nat) : Mn us (roundU nms us k) := by
  induction k with
  | zero => exact Mn.refl _
  | succ k ih => exact ih.trans (procK_mn _ _ _)
theorem roundsU_len (nms : List (List Nat)) (n : Nat) (us : List Bool) (r : Nat) : (roundsU nms n us r).length = us.length := by
  induction r with
  | zero => rfl
  | succ r ih => show (roundU nms (roundsU nms n us r) n).length = _; rw [← (roundU_mn nms _ n).1, ih]
/-- A round that changes nothing: all that the used ones name is used. -/
theorem round_fixed {nms : List (List Nat)} {us : List Bool} {n : Nat} (h : roundU nms us n = us) (k t : Nat) (hk : k < n) (hu : us.getD k false = true) (ht : t ∈ nms.getD k []) (hl : t < us.length) : us.getD t false = true := by
  have h1 : Mn (roundU nms us (k + 1)) (roundU nms us n) := by
    have : ∀ m, Mn (roundU nms us (k + 1)) (roundU nms us (k + 1 + m)) := by
      intro m
      induction m with
      | zero => exact Mn.refl _
      | succ m ih => exact ih.trans (procK_mn _ _ _)
    have := this (n - (k + 1))
    rw [show k + 1 + (n - (k + 1)) = n by omega] at this
    exact this
  rw [h] at h1
  have hmk := roundU_mn nms us k
  refine h1.2 t ?_
  show (procK nms (roundU nms us k) k).getD t false = true
  unfold procK
  rw [if_pos (hmk.2 k hu)]
  exact (setAll_get _ _ _).2 (.inr ⟨ht, by rw [← hmk.1]; exact hl⟩)
/-- Each round changes something, or nothing ever after. -/
theorem rounds_count (nms : List (List Nat)) (n : Nat) (us : List Bool) (r : Nat) : (∃ j, j < r ∧ roundU nms (roundsU nms n us j) n = roundsU nms n us j) ∨ us.count true + r ≤ (roundsU nms n us r).count true := by
  induction r with
  | zero => exact .inr (Nat.le_refl _)
  | succ r ih =>
    rcases ih with ⟨j, hj, e⟩ | h
    · exact .inl ⟨j, by omega, e⟩
    · obtain ⟨c1, c2⟩ := mn_count _ _ (roundU_mn nms (roundsU nms n us r) n)
      by_cases e : (roundsU nms n us r).count true = (roundU nms (roundsU nms n us r) n).count true
      · exact .inl ⟨r, by omega, (c2 e).symm⟩
      · right
        show us.count true + (r + 1) ≤ (roundU nms (roundsU nms n us r) n).count true
        omega
theorem rounds_stay {nms : List (List Nat)} {n : Nat} {us : List Bool} {j : Nat} (h : roundU nms (roundsU nms n us j) n = roundsU nms n us j) : ∀ m, roundsU nms n us (j + m) = roundsU nms n us j := by
  intro m
  induction m with
  | zero => rfl
  | succ m ih =>
    show roundU nms (roundsU nms n us (j + m)) n = _
    rw [ih, h]
theorem rch_proc {nms : List (List Nat)} {us : List Bool} (h : ∀ k, us.getD k false = true → Rch nms k) (i : Nat) : ∀ k, (procK nms us i).getD k false = true → Rch nms k := by
  intro k hk
  unfold procK at hk
  split at hk
  · rename_i hi
    rcases (setAll_get _ _ _).1 hk with h1 | ⟨h1, _⟩
    · exact h k h1
    · exact (h i hi).name h1
  · exact h k hk
theorem rch_round {nms : List (List Nat)} {us : List Bool} (h : ∀ k, us.getD k false = true → Rch nms k) (n : Nat) : ∀ k, (roundU nms us n).getD k false = true → Rch nms k := by
  induction n with
  | zero => exact h
  | succ n ih => exact rch_proc ih n
/-- After as many rounds as sections: the used ones. -/
theorem rounds_done (nms : List (List Nat)) (n : Nat) (hn : 0 < n) (hl : nms.length = n) (hlt : ∀ m ∈ nms, ∀ t ∈ m, t < n) (k : Nat) :
    (roundsU nms n ((List.replicate n false).set 0 true) n).getD k false = true ↔ Rch nms k := by
  have hus : ((List.replicate n false).set 0 true).length = n := by simp
  have hc : ((List.replicate n false).set 0 true).count true = 1 := by
    rw [count_set]
    · simp [List.count_replicate]
    · simp [hn]
  have h0 : ((List.replicate n false).set 0 true).getD 0 false = true := by simp [List.getD, hn]
  have hs : ∀ r k, (roundsU nms n ((List.replicate n false).set 0 true) r).getD k false = true → Rch nms k := by
    intro r
    induction r with
    | zero => exact fun k hk => (bfs_start nms n hn).rch k (((bfs_start nms n hn).mem k).1 hk)
    | succ r ih => exact rch_round ih n
  have hfix : roundU nms (roundsU nms n ((List.replicate n false).set 0 true) n) n = roundsU nms n ((List.replicate n false).set 0 true) n := by
    rcases rounds_count nms n ((List.replicate n false).set 0 true) n with ⟨j, hj, e⟩ | h
    · have := rounds_stay e (n - j)
      rw [show j + (n - j) = n by omega] at this
      rw [this]
      exact e
    · have hle : (roundsU nms n ((List.replicate n false).set 0 true) n).count true ≤ n := by
        have := List.count_le_length (a := true) (l := roundsU nms n ((List.replicate n false).set 0 true) n)
        rw [roundsU_len, hus] at this
        exact this
      omega
  have hm0 : ∀ r, (roundsU nms n ((List.replicate n false).set 0 true) r).getD 0 false = true := by
    intro r
    induction r with
    | zero => exact h0
    | succ r ih => exact (roundU_mn nms _ n).2 0 ih
  refine ⟨hs n k, fun hr => hr (fun k => (roundsU nms n ((List.replicate n false).set 0 true) n).getD k false = true) (hm0 n) ?_⟩
  intro i j hi hj
  have hin : i < n := by
    rcases Nat.lt_or_ge i n with h | h
    · exact h
    · simp [List.getD, List.getElem?_eq_none (show nms.length ≤ i by omega)] at hj
  have hmem : nms.getD i [] ∈ nms := by
    have : nms.getD i [] = nms[i]'(by omega) := by simp [List.getD, show i < nms.length by omega]
    rw [this]
    exact List.getElem_mem _
  exact round_fixed hfix i j hin hi hj (by rw [roundsU_len, hus]; exact hlt _ hmem j hj)
end Go.Proofs.YtdhmandnamajpaaDoor
