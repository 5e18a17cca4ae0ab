/-
  Plain mathematics: what the look at a section found holds along every way through it.
-/
import Derived.Test.YtdhmandnamajpaaDoorCSettle
namespace Go.Proofs.YtdhmandnamajpaaDoor
open Go.RowKit

/-- Heights only widen. -/
def Wid (hs hs' : List (Option (Int × Int))) : Prop := ∀ j h, hs.getD j none = some h → ∃ h', hs'.getD j none = some h' ∧ h'.1 ≤ h.1 ∧ h.2 ≤ h'.2
theorem Wid.refl (hs : List (Option (Int × Int))) : Wid hs hs := fun _ h e => ⟨h, e, by omega, by omega⟩
theorem Wid.trans {a b c : List (Option (Int × Int))} (h1 : Wid a b) (h2 : Wid b c) : Wid a c := fun j h e => by
  obtain ⟨h', e', p, q⟩ := h1 j h e
  obtain ⟨h'', e'', p', q'⟩ := h2 j h' e'
  exact ⟨h'', e'', by omega, by omega⟩
theorem merge_in (g : Int × Int) (o : Option (Int × Int)) : (mergeH g o).1 ≤ g.1 ∧ g.2 ≤ (mergeH g o).2 := by
  cases o with
  | none => exact ⟨Int.le_refl _, Int.le_refl _⟩
  | some h => simp only [mergeH]; omega
theorem giveH_wid {i j : Nat} {g : Int × Int} {hs hs' : List (Option (Int × Int))} (e : giveH i g hs j = some hs') : Wid hs hs' := by
  unfold giveH at e
  split at e
  · split at e
    · injection e with e; subst e; exact Wid.refl _
    · cases e
  · injection e with e
    subst e
    intro k h hk
    by_cases hjk : j = k
    · subst hjk
      have hlt : j < hs.length := by
        rcases Nat.lt_or_ge j hs.length with h1 | h1
        · exact h1
        · simp [List.getD, List.getElem?_eq_none h1] at hk
      refine ⟨mergeH g (hs.getD j none), ?_, ?_⟩
      · simp only [List.getD]; rw [List.getElem?_set_self hlt]; rfl
      · rw [hk]; simp only [mergeH]; omega
    · refine ⟨h, ?_, Int.le_refl _, Int.le_refl _⟩
      simp only [List.getD] at hk ⊢
      rw [List.getElem?_set_ne hjk]
      exact hk
theorem givesH_wid {i : Nat} {g : Int × Int} : ∀ {js : List Nat} {hs hs' : List (Option (Int × Int))}, givesH i g hs js = some hs' → Wid hs hs' := by
  intro js
  induction js with
  | nil => intro hs hs' e; simp only [givesH] at e; injection e with e; subst e; exact Wid.refl _
  | cons j js ih =>
    intro hs hs' e
    simp only [givesH] at e
    cases h1 : giveH i g hs j with
    | none => rw [h1] at e; cases e
    | some h2 => rw [h1] at e; exact (giveH_wid h1).trans (ih e)
theorem giveH_in {i j : Nat} {g : Int × Int} {hs hs' : List (Option (Int × Int))} (e : giveH i g hs j = some hs') (hj : j < hs.length) : ∃ h', hs'.getD j none = some h' ∧ h'.1 ≤ g.1 ∧ g.2 ≤ h'.2 := by
  unfold giveH at e
  split at e
  · split at e
    · rename_i h1
      injection e with e; subst e; exact ⟨g, h1, Int.le_refl _, Int.le_refl _⟩
    · cases e
  · injection e with e
    subst e
    refine ⟨mergeH g (hs.getD j none), ?_, merge_in _ _⟩
    simp only [List.getD]; rw [List.getElem?_set_self hj]; rfl
theorem giveH_size {i j : Nat} {g : Int × Int} {hs hs' : List (Option (Int × Int))} (e : giveH i g hs j = some hs') : hs'.length = hs.length := by
  unfold giveH at e
  split at e
  · split at e
    · injection e with e; subst e; rfl
    · cases e
  · injection e with e; subst e; simp
theorem givesH_in {i : Nat} {g : Int × Int} : ∀ {js : List Nat} {hs hs' : List (Option (Int × Int))}, givesH i g hs js = some hs' → ∀ j ∈ js, j < hs.length → ∃ h', hs'.getD j none = some h' ∧ h'.1 ≤ g.1 ∧ g.2 ≤ h'.2 := by
  intro js
  induction js with
  | nil => intro hs hs' _ j hj; cases hj
  | cons j js ih =>
    intro hs hs' e t ht hl
    simp only [givesH] at e
    cases h1 : giveH i g hs j with
    | none => rw [h1] at e; cases e
    | some h2 =>
      rw [h1] at e
      rcases List.mem_cons.1 ht with rfl | ht
      · obtain ⟨a, b, c, d⟩ := giveH_in h1 hl
        obtain ⟨a', b', c', d'⟩ := givesH_wid e t a b
        exact ⟨a', b', by omega, by omega⟩
      · exact ih e t ht (by rw [giveH_size h1]; exact hl)
theorem givesH_size {i : Nat} {g : Int × Int} : ∀ {js : List Nat} {hs hs' : List (Option (Int × Int))}, givesH i g hs js = some hs' → hs'.length = hs.length := by
  intro js
  induction js with
  | nil => intro hs hs' e; simp only [givesH] at e; injection e with e; subst e; rfl
  | cons j js ih =>
    intro hs hs' e
    simp only [givesH] at e
    cases h1 : giveH i g hs j with
    | none => rw [h1] at e; cases e
    | some h2 => rw [h1] at e; rw [ih e, giveH_size h1]
theorem hsAt_size (S : List Sec) (s : Sec) (l : List Ins) (k : Nat) : (hsAt S s l k).length = l.length := by
  induction k with
  | zero => simp [hsAt]
  | succ k ih =>
    simp only [hsAt]
    cases h : passH S s l k (l.getD k ins0) (hsAt S s l k) with
    | none => exact ih
    | some hs' =>
      unfold passH at h
      show hs'.length = l.length
      rw [givesH_size h, ih]
theorem hsAt_wid (S : List Sec) (s : Sec) (l : List Ins) (i k : Nat) (h : i ≤ k) : Wid (hsAt S s l i) (hsAt S s l k) := by
  induction k with
  | zero =>
    have : i = 0 := by omega
    subst this
    exact Wid.refl _
  | succ k ih =>
    by_cases e : i = k + 1
    · subst e; exact Wid.refl _
    · refine (ih (by omega)).trans ?_
      simp only [hsAt]
      cases hp : passH S s l k (l.getD k ins0) (hsAt S s l k) with
      | none => exact Wid.refl _
      | some hs' =>
        unfold passH at hp
        exact givesH_wid hp
/-- The heights of instruction i, when it is looked at (and ever after). -/
def hF (S : List Sec) (s : Sec) (l : List Ins) (i : Nat) : Option (Int × Int) := (hsAt S s l i).getD i none
/-- Every instruction was found good: so each has heights, and what it gives lies within those of each that it leads to. -/
theorem flow_edge {S : List Sec} {s : Sec} {l : List Ins} {i : Nat} (h : flowE S s l i = 0) :
    ∃ lo hi', hF S s l i = some (lo, hi') ∧ aheadE S s l i (l.getD i ins0) (some (lo, hi')) = 0 ∧
      ∀ j ∈ nextsI l i (l.getD i ins0), j < l.length → ∃ lo' hi'', hF S s l j = some (lo', hi'') ∧ lo' ≤ lo - takesI S s (l.getD i ins0) + bringsI S (l.getD i ins0) ∧ hi' - takesI S s (l.getD i ins0) + bringsI S (l.getD i ins0) ≤ hi'' := by
  unfold flowE passE at h
  split at h
  · rename_i h0; exact absurd h h0
  · rename_i h0
    have h0' : aheadE S s l i (l.getD i ins0) ((hsAt S s l i).getD i none) = 0 := Decidable.not_not.1 h0
    cases ho : (hsAt S s l i).getD i none with
    | none => rw [ho] at h0'; simp [aheadE] at h0'
    | some o =>
      obtain ⟨lo, hi'⟩ := o
      rw [ho] at h0'
      cases hp : passH S s l i (l.getD i ins0) (hsAt S s l i) with
      | none => rw [hp] at h; simp at h
      | some hs' =>
        refine ⟨lo, hi', ho, h0', fun j hj hjl => ?_⟩
        have hn : hsAt S s l (i + 1) = hs' := by simp only [hsAt]; rw [hp]; rfl
        unfold passH at hp
        rw [ho] at hp
        obtain ⟨h', e1, e2, e3⟩ := givesH_in hp j hj (by rw [hsAt_size]; exact hjl)
        simp only [afterI, Option.getD_some] at e2 e3
        rcases Nat.lt_or_ge i j with hlt | hge
        · obtain ⟨h2, f1, f2, f3⟩ := hsAt_wid S s l (i + 1) j hlt j h' (by rw [hn]; exact e1)
          exact ⟨h2.1, h2.2, f1, by omega, by omega⟩
        · refine ⟨h'.1, h'.2, ?_, e2, e3⟩
          unfold hF
          rw [← hsAt_stays S s l j (i + 1) (by omega), hn]
          exact e1
theorem greatH_le (hs : List (Option (Int × Int))) (n : Nat) : ∀ i h, i < n → hs.getD i none = some h → h.2 ≤ greatH hs n := by
  induction n with
  | zero => intro i h hi; omega
  | succ n ih =>
    intro i h hi e
    simp only [greatH]
    by_cases he : i = n
    · subst he; rw [e]; simp only [Option.getD_some]; omega
    · have := ih i h (by omega) e; omega
theorem hF_le {S : List Sec} {s : Sec} {l : List Ins} (hm : greatH (hsAt S s l l.length) l.length = s.m) {i : Nat} {o : Int × Int} (hi : i < l.length) (h : hF S s l i = some o) : o.2 ≤ s.m := by
  rw [← hm]
  refine greatH_le _ _ i o hi ?_
  rw [hsAt_stays S s l i _ (by omega)]
  exact h
theorem hF_zero {S : List Sec} {s : Sec} {l : List Ins} (hl : 0 < l.length) : hF S s l 0 = some (s.i, s.i) := by
  simp [hF, hsAt, List.getD, hl]
/-- No error: none of the numbers. -/
theorem firstE_all {f : Nat → Nat} {l : List Ins} : ∀ {n : Nat}, (firstE f l n).1 = 0 → ∀ k, k < n → f k = 0 := by
  intro n
  induction n with
  | zero => intro _ k hk; omega
  | succ n ih =>
    intro h k hk
    simp only [firstE] at h
    split at h
    · rename_i h1; exact absurd h h1
    · rename_i h1
      have h1' : (firstE f l n).1 = 0 := Decidable.not_not.1 h1
      split at h
      · rename_i h2; exact absurd h h2
      · rename_i h2
        have h2' : f n = 0 := Decidable.not_not.1 h2
        by_cases e : k = n
        · subst e; exact h2'
        · exact ih h1' k (by omega)
/-- What wholeE = 0 says. -/
structure SecOk (S : List Sec) (s : Sec) : Prop where
  split : splitE s.code = (0, 0) ∨ (splitE s.code).1 = 0
  ref : ∀ k, k < (codeI s.code).length → refE S (codeI s.code) ((codeI s.code).getD k ins0) = 0
  flow : ∀ k, k < (codeI s.code).length → flowE S s (codeI s.code) k = 0
  max : greatH (hsAt S s (codeI s.code) (codeI s.code).length) (codeI s.code).length = s.m
  nev : anyRet S (codeI s.code) = (s.o != 128)
theorem secOk {S : List Sec} {s : Sec} (h : (wholeE S s).1 = 0) : SecOk S s := by
  unfold wholeE at h
  split at h
  · rename_i h0; exact absurd h h0
  · rename_i h0
    split at h
    · rename_i h1; exact absurd h h1
    · rename_i h1
      split at h
      · rename_i h2; exact absurd h h2
      · rename_i h2
        simp only [sumsE] at h
        split at h
        · simp at h
        · rename_i h3
          split at h
          · simp at h
          · rename_i h4
            refine ⟨.inr (Decidable.not_not.1 h0), firstE_all (Decidable.not_not.1 h1), firstE_all (Decidable.not_not.1 h2), Decidable.not_not.1 h3, ?_⟩
            cases hA : anyRet S (codeI s.code) <;> cases hB : (s.o == 128) <;> simp [hA, hB] at h4 <;> simp [bne, hB]
end Go.Proofs.YtdhmandnamajpaaDoor
