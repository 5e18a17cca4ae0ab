/-
  Plain mathematics: the heights of an instruction that has been looked at stay.
-/
import Derived.Test.YtdhmandnamajpaaDoorCChain
namespace Go.Proofs.YtdhmandnamajpaaDoor
open Go.RowKit

theorem giveH_stays {i j t : Nat} {g : Int × Int} {hs hs' : List (Option (Int × Int))} (e : giveH i g hs j = some hs') (ht : t ≤ i) : hs'.getD t none = hs.getD t none := by
  unfold giveH at e
  split at e
  · split at e
    · injection e with e; subst e; rfl
    · cases e
  · injection e with e
    subst e
    simp only [List.getD]
    rw [List.getElem?_set_ne (by omega)]
theorem givesH_stays {i t : Nat} {g : Int × Int} (ht : t ≤ i) : ∀ {js : List Nat} {hs hs' : List (Option (Int × Int))}, givesH i g hs js = some hs' → hs'.getD t none = hs.getD t none := by
  intro js
  induction js with
  | nil => intro hs hs' e; simp only [givesH] at e; injection e with e; subst e; rfl
  | cons j js ih =>
    intro hs hs' e
    simp only [givesH] at e
    cases h1 : giveH i g hs j with
    | none => rw [h1] at e; cases e
    | some h2 => rw [h1] at e; rw [ih e, giveH_stays h1 ht]
theorem hsAt_stays (S : List Sec) (s : Sec) (l : List Ins) (i k : Nat) (h : i ≤ k) : (hsAt S s l k).getD i none = (hsAt S s l i).getD i none := by
  induction k with
  | zero =>
    have : i = 0 := by omega
    subst this
    rfl
  | succ k ih =>
    by_cases e : i = k + 1
    · subst e; rfl
    · rw [← ih (by omega)]
      simp only [hsAt]
      cases hp : passH S s l k (l.getD k ins0) (hsAt S s l k) with
      | none => rfl
      | some hs' =>
        unfold passH at hp
        exact givesH_stays (by omega) hp
/-- The greatest height, gathered while the look goes. -/
theorem greatH_stays (S : List Sec) (s : Sec) (l : List Ins) (n k : Nat) (h : n ≤ k) : greatH (hsAt S s l k) n = greatH (hsAt S s l n) n := by
  have key : ∀ m a b, m ≤ a → m ≤ b → greatH (hsAt S s l a) m = greatH (hsAt S s l b) m := by
    intro m
    induction m with
    | zero => intro a b _ _; rfl
    | succ m ih =>
      intro a b ha hb
      simp only [greatH]
      rw [ih a b (by omega) (by omega), hsAt_stays S s l m a (by omega), hsAt_stays S s l m b (by omega)]
  exact key n k n h (Nat.le_refl _)
end Go.Proofs.YtdhmandnamajpaaDoor
