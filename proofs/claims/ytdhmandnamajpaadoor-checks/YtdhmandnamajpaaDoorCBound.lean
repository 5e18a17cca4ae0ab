/-
  Plain mathematics: errors and heights are small.
-/
import Derived.Test.YtdhmandnamajpaaDoorLookE
namespace Go.Proofs.YtdhmandnamajpaaDoor
open Go.RowKit

theorem firstE_zero {E : Nat → Nat} {l : List Ins} {n : Nat} (h : (firstE E l n).1 = 0) : ∀ k, k < n → E k = 0 := by
  induction n with
  | zero => intro k hk; omega
  | succ n ih =>
    intro k hk
    simp only [firstE] at h
    by_cases h1 : (firstE E l n).1 ≠ 0
    · rw [if_pos h1] at h; exact absurd h h1
    · rw [if_neg h1] at h
      by_cases e : k = n
      · subst e
        by_cases h2 : E k ≠ 0
        · rw [if_pos h2] at h; exact h
        · omega
      · exact ih (by omega) k (by omega)
theorem firstE_le {E : Nat → Nat} {l : List Ins} {n B : Nat} (h : ∀ k, E k ≤ B) : (firstE E l n).1 ≤ B := by
  induction n with
  | zero => simp [firstE]
  | succ n ih =>
    simp only [firstE]
    split
    · exact ih
    · split
      · exact h n
      · exact Nat.zero_le _
theorem splitF_le (c : ByteArray) (f : Nat) : ∀ p, (splitF c f p).2.1 ≤ 20 := by
  induction f with
  | zero => intro p; simp [splitF]
  | succ f ih =>
    intro p
    rw [splitF_succ]
    split
    · simp
    · split
      · show opE c p ≤ 20
        unfold opE
        split <;> (try split) <;> omega
      · exact ih _
theorem splitF_len (c : ByteArray) (f : Nat) : ∀ p, (splitF c f p).1.length ≤ f := by
  induction f with
  | zero => intro p; simp [splitF]
  | succ f ih =>
    intro p
    rw [splitF_succ]
    split
    · simp
    · split
      · simp
      · have := ih (p + sizeI c p)
        simp only [List.length_cons]
        omega
theorem splitE_le (c : ByteArray) : (splitE c).1 ≤ 20 := splitF_le c c.size 0
theorem refE_le (S : List Sec) (l : List Ins) (x : Ins) : refE S l x ≤ 20 := by unfold refE; split <;> (try split) <;> omega
theorem aheadE_le (S : List Sec) (s : Sec) (l : List Ins) (i : Nat) (x : Ins) (o : Option (Int × Int)) : aheadE S s l i x o ≤ 20 := by
  unfold aheadE
  split
  · omega
  · split
    · omega
    · split
      · omega
      · split <;> omega
theorem passE_le (S : List Sec) (s : Sec) (l : List Ins) (i : Nat) (x : Ins) (hs : List (Option (Int × Int))) : passE S s l i x hs ≤ 20 := by
  unfold passE
  split
  · exact aheadE_le _ _ _ _ _ _
  · split <;> omega
theorem giveH_len {i : Nat} {g : Int × Int} : ∀ {js : List Nat} {hs hs' : List (Option (Int × Int))}, givesH i g hs js = some hs' → hs'.length = hs.length := by
  intro js
  induction js with
  | nil => intro hs hs' e; simp only [givesH] at e; injection e with e; subst e; rfl
  | cons j js ih =>
    intro hs hs' e
    simp only [givesH] at e
    cases h1 : giveH i g hs j with
    | none => rw [h1] at e; cases e
    | some h2 => rw [h1] at e; rw [ih e, giveH_length h1]
theorem hsAt_length (S : List Sec) (s : Sec) (l : List Ins) (k : Nat) : (hsAt S s l k).length = l.length := by
  induction k with
  | zero => simp [hsAt]
  | succ k ih =>
    simp only [hsAt]
    cases h : passH S s l k (l.getD k ins0) (hsAt S s l k) with
    | none => exact ih
    | some hs' =>
      unfold passH at h
      show hs'.length = l.length
      rw [giveH_len h, ih]
theorem small_hsAt {S : List Sec} {s : Sec} {l : List Ins} (hS : S.all secB = true) (hs : secB s = true) (hx : ∀ x ∈ l, (x.op = 2 ∨ x.n < 256) ∧ (namesB x = true → x.n < S.length)) (k : Nat) (hk : k ≤ l.length) : Small (9 + 300 * (k : Int)) (hsAt S s l k) := by
  induction k with
  | zero =>
    intro j o ho
    obtain ⟨d1, _⟩ := (secB_iff _).1 hs
    simp only [hsAt] at ho
    rcases getD_set _ _ _ _ _ ho with h | h | h
    · injection h with h; subst h; simp only; omega
    · simp only [List.getD, List.getElem?_replicate] at h
      split at h <;> simp at h
    · cases h
  | succ k ih =>
    have ih' := ih (by omega)
    simp only [hsAt]
    cases h : passH S s l k (l.getD k ins0) (hsAt S s l k) with
    | none => exact ih'.mono (by omega)
    | some hs' =>
      show Small _ hs'
      have hm : l.getD k ins0 ∈ l := by
        have : l.getD k ins0 = l[k]'(by omega) := by simp [List.getD, show k < l.length by omega]
        rw [this]
        exact List.getElem_mem _
      obtain ⟨b1, b2⟩ := hx _ hm
      obtain ⟨t1, t2⟩ := takes_le hS hs b1 b2
      obtain ⟨r1, r2⟩ := brings_le hS b1 b2
      unfold passH at h
      refine Small.gives ?_ (ih'.mono (by omega)) h
      cases ho : (hsAt S s l k).getD k none with
      | none => simp only [afterI, Option.getD_none]; omega
      | some o =>
        have := ih' k o ho
        simp only [afterI, Option.getD_some]
        omega
end Go.Proofs.YtdhmandnamajpaaDoor
