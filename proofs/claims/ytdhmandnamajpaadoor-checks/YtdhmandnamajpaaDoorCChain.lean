/-
  Plain mathematics: the instructions of a code stand one behind the other; heights stay small.
-/
import Derived.Test.YtdhmandnamajpaaDoorCSpec
namespace Go.Proofs.YtdhmandnamajpaaDoor
open Go.RowKit

theorem opE_zero {c : ByteArray} {p : Nat} (h : opE c p = 0) : byteN c p < 21 ∧ p + sizeI c p ≤ c.size := by
  unfold opE at h
  by_cases h1 : 21 ≤ byteN c p
  · rw [if_pos h1] at h; cases h
  · rw [if_neg h1] at h
    by_cases h2 : c.size < p + sizeI c p
    · rw [if_pos h2] at h; cases h
    · omega

/-- One behind the other. -/
structure Chained (l : List Ins) (n : Nat) : Prop where
  mono : ∀ (i j : Nat) (x y : Ins), i < j → l[i]? = some x → l[j]? = some y → x.pl < y.pl
  lt : ∀ (i : Nat) (x : Ins), l[i]? = some x → x.pl < n
  next : ∀ (i : Nat) (x y : Ins), l[i]? = some x → l[i + 1]? = some y → x.nx = y.pl
  last : ∀ (i : Nat) (x : Ins), l[i]? = some x → i + 1 = l.length → x.nx = n
  low : ∀ (i : Nat) (x : Ins), l[i]? = some x → x.pl < x.nx
  op : ∀ (i : Nat) (x : Ins), l[i]? = some x → x.op < 21 ∧ (x.op = 2 ∨ x.n < 256) ∧ x.to.length ≤ 256
  zero : ∀ (x : Ins), l[0]? = some x → x.pl = 0

theorem insI_small (c : ByteArray) (p : Nat) (h : opE c p = 0) : (insI c p).op < 21 ∧ ((insI c p).op = 2 ∨ (insI c p).n < 256) ∧ (insI c p).to.length ≤ 256 := by
  refine ⟨(opE_zero h).1, ?_, ?_⟩
  · show byteN c p = 2 ∨ (if byteN c p = 2 then 256 * byteN c (p + 1) + byteN c (p + 2) else if numOp (byteN c p) then byteN c (p + 1) else 0) < 256
    have := byteN_lt c (p + 1)
    by_cases h2 : byteN c p = 2
    · exact .inl h2
    · right
      rw [if_neg h2]
      split <;> omega
  · show (if byteN c p = 15 ∨ byteN c p = 16 then tos c (p + sizeI c p) (p + 1) 1 else if byteN c p = 17 then tos c (p + sizeI c p) (p + 2) (byteN c (p + 1) + 1) else []).length ≤ 256
    have := byteN_lt c (p + 1)
    split
    · simp [tos]
    · split
      · simp [tos]; omega
      · simp

theorem chain_facts {c : ByteArray} : ∀ {l : List Ins} {p q : Nat}, Chain c p l q → p ≤ c.size →
    (∀ (i : Nat) (x : Ins), l[i]? = some x → p ≤ x.pl ∧ x.pl < c.size ∧ x.pl < x.nx ∧ x.nx ≤ q ∧ x.op < 21 ∧ (x.op = 2 ∨ x.n < 256) ∧ x.to.length ≤ 256) ∧ (∀ (i j : Nat) (x y : Ins), i < j → l[i]? = some x → l[j]? = some y → x.nx ≤ y.pl) ∧ (∀ (i : Nat) (x y : Ins), l[i]? = some x → l[i + 1]? = some y → x.nx = y.pl) ∧
    (∀ (i : Nat) (x : Ins), l[i]? = some x → i + 1 = l.length → x.nx = q) ∧ (∀ (x : Ins), l[0]? = some x → x.pl = p) := by
  intro l
  induction l with
  | nil => intro p q h _; exact ⟨by simp, by simp, by simp, by simp, by simp⟩
  | cons y l ih =>
    intro p q h hp
    obtain ⟨h1, h2, rfl, h4⟩ := h
    have hz := sizeI_pos c p
    have ho := opE_zero h2
    obtain ⟨a1, a2, a3, a4, a5⟩ := ih h4 ho.2
    have hle := chain_len h4
    have hsm := insI_small c p h2
    refine ⟨?_, ?_, ?_, ?_, ?_⟩
    · intro i x hi
      cases i with
      | zero =>
        simp at hi; subst hi
        exact ⟨Nat.le_refl _, h1, by show p < p + sizeI c p; omega, by show p + sizeI c p ≤ q; omega, hsm⟩
      | succ i =>
        simp at hi
        obtain ⟨b1, b2, b3, b4, b5⟩ := a1 i x hi
        exact ⟨by omega, b2, b3, b4, b5⟩
    · intro i j x z hij hi hj
      cases j with
      | zero => omega
      | succ j =>
        simp at hj
        cases i with
        | zero => simp at hi; subst hi; exact (a1 j z hj).1
        | succ i => simp at hi; exact a2 i j x z (by omega) hi hj
    · intro i x z hi hj
      cases i with
      | zero => simp at hi hj; subst hi; exact (a5 z (by simpa using hj)).symm
      | succ i => simp at hi hj; exact a3 i x z hi hj
    · intro i x hi hl
      cases i with
      | zero =>
        simp at hi hl; subst hi
        have : l = [] := by cases l with
          | nil => rfl
          | cons _ _ => simp at hl
        subst this
        exact h4
      | succ i => simp at hi hl; exact a4 i x hi hl
    · intro x hx
      simp at hx; subst hx; rfl
theorem chained {c : ByteArray} {l : List Ins} (h : Chain c 0 l c.size) : Chained l c.size := by
  obtain ⟨a1, a2, a3, a4, a5⟩ := chain_facts h (Nat.zero_le _)
  refine ⟨?_, fun i x hi => (a1 i x hi).2.1, a3, a4, fun i x hi => (a1 i x hi).2.2.1, fun i x hi => (a1 i x hi).2.2.2.2, a5⟩
  intro i j x y hij hi hj
  have h1 := a2 i j x y hij hi hj
  have h2 := (a1 i x hi).2.2.1
  omega

/-- Where a target begins. -/
theorem idxP_spec {l : List Ins} {t : Int} (h : beginsB l t = true) : ∃ hj : idxP l t < l.length, (l[idxP l t].pl : Int) = t := by
  unfold beginsB at h
  have hj : l.findIdx (fun x => (x.pl : Int) == t) < l.length := by
    rw [List.findIdx_lt_length]
    rw [List.any_eq_true] at h
    exact h
  refine ⟨hj, ?_⟩
  have := List.findIdx_getElem (p := fun x : Ins => (x.pl : Int) == t) (w := hj)
  simpa [idxP] using this
theorem Chained.le_iff {l : List Ins} {n i j : Nat} (h : Chained l n) (hi : i < l.length) (hj : j < l.length) : l[j].pl ≤ l[i].pl ↔ j ≤ i := by
  constructor
  · intro hle
    rcases Nat.lt_or_ge i j with hlt | hge
    · have := h.mono i j l[i] l[j] hlt (by simp) (by simp)
      omega
    · exact hge
  · intro hle
    rcases Nat.lt_or_ge j i with hlt | hge
    · exact Nat.le_of_lt (h.mono j i l[j] l[i] hlt (by simp) (by simp))
    · have : i = j := by omega
      subst this
      exact Nat.le_refl _
theorem Chained.distinct {l : List Ins} {n j : Nat} (h : Chained l n) (hj : j < l.length) : ∀ k x, l[k]? = some x → k ≠ j → x.pl ≠ l[j].pl := by
  intro k x hk hne
  rcases Nat.lt_or_ge k j with hlt | hge
  · have := h.mono k j x l[j] hlt hk (by simp); omega
  · have := h.mono j k l[j] x (by omega) (by simp) hk; omega

/-- Heights within a bound. -/
def Small (B : Int) (hs : List (Option (Int × Int))) : Prop := ∀ k o, hs.getD k none = some o → -B ≤ o.1 ∧ o.1 ≤ B ∧ -B ≤ o.2 ∧ o.2 ≤ B
theorem Small.mono {B B' : Int} {hs : List (Option (Int × Int))} (h : Small B hs) (hB : B ≤ B') : Small B' hs := fun k o hk => by have := h k o hk; omega
theorem getD_set (hs : List (Option (Int × Int))) (j k : Nat) (v o : Option (Int × Int)) (h : (hs.set j v).getD k none = o) : o = v ∨ o = hs.getD k none ∨ o = none := by
  subst h
  simp only [List.getD]
  by_cases e : j = k
  · subst e
    rcases Nat.lt_or_ge j hs.length with hlt | hge
    · rw [List.getElem?_set_self hlt]; exact .inl rfl
    · rw [List.getElem?_eq_none (by simpa using hge)]; exact .inr (.inr rfl)
  · rw [List.getElem?_set_ne e]; exact .inr (.inl rfl)
theorem Small.give {B : Int} {hs hs' : List (Option (Int × Int))} {i j : Nat} {g : Int × Int} (h : Small B hs) (hg : -B ≤ g.1 ∧ g.1 ≤ B ∧ -B ≤ g.2 ∧ g.2 ≤ B) (e : giveH i g hs j = some hs') : Small B hs' := by
  unfold giveH at e
  split at e
  · split at e
    · injection e with e; subst e; exact h
    · cases e
  · injection e with e
    subst e
    intro k o hk
    rcases getD_set _ _ _ _ _ hk with h1 | h1 | h1
    · injection h1 with h1
      subst h1
      cases ho : hs.getD j none with
      | none => exact hg
      | some p =>
        have := h j p ho
        simp only [mergeH]
        omega
    · exact h k o h1.symm
    · cases h1
theorem Small.gives {B : Int} {i : Nat} {g : Int × Int} (hg : -B ≤ g.1 ∧ g.1 ≤ B ∧ -B ≤ g.2 ∧ g.2 ≤ B) : ∀ {js : List Nat} {hs hs' : List (Option (Int × Int))}, Small B hs → givesH i g hs js = some hs' → Small B hs' := by
  intro js
  induction js with
  | nil => intro hs hs' h e; simp only [givesH] at e; injection e with e; subst e; exact h
  | cons j js ih =>
    intro hs hs' h e
    simp only [givesH] at e
    cases h1 : giveH i g hs j with
    | none => rw [h1] at e; cases e
    | some h2 => rw [h1] at e; exact ih (h.give hg h1) e
theorem givesH_append (i : Nat) (g : Int × Int) : ∀ (a b : List Nat) (hs : List (Option (Int × Int))), givesH i g hs (a ++ b) = (givesH i g hs a).bind (fun h => givesH i g h b) := by
  intro a
  induction a with
  | nil => intro b hs; rfl
  | cons j a ih =>
    intro b hs
    simp only [List.cons_append, givesH]
    cases giveH i g hs j with
    | none => rfl
    | some h => exact ih b h
theorem givesH_one (i : Nat) (g : Int × Int) (hs : List (Option (Int × Int))) (j : Nat) : givesH i g hs [j] = giveH i g hs j := by
  simp only [givesH]
  cases giveH i g hs j <;> rfl
theorem giveH_length {i j : Nat} {g : Int × Int} {hs hs' : List (Option (Int × Int))} (e : giveH i g hs j = some hs') : hs'.length = hs.length := by
  unfold giveH at e
  split at e
  · split at e
    · injection e with e; subst e; rfl
    · cases e
  · injection e with e; subst e; simp

theorem passE_ahead {S : List Sec} {s : Sec} {l : List Ins} {i : Nat} {x : Ins} {hs : List (Option (Int × Int))} {e : Nat} (h : aheadE S s l i x (hs.getD i none) = e) (he : e ≠ 0) : passE S s l i x hs = e := by
  unfold passE
  rw [h, if_pos he]
theorem passE_back {S : List Sec} {s : Sec} {l : List Ins} {i : Nat} {x : Ins} {hs : List (Option (Int × Int))} (h : aheadE S s l i x (hs.getD i none) = 0) (hp : passH S s l i x hs = none) : passE S s l i x hs = 12 := by
  unfold passE
  rw [h, if_neg (by simp), hp]
theorem passE_ok {S : List Sec} {s : Sec} {l : List Ins} {i : Nat} {x : Ins} {hs hs' : List (Option (Int × Int))} (h : aheadE S s l i x (hs.getD i none) = 0) (hp : passH S s l i x hs = some hs') : passE S s l i x hs = 0 := by
  unfold passE
  rw [h, if_neg (by simp), hp]
theorem givesH_snoc {i : Nat} {g : Int × Int} {hs hsk : List (Option (Int × Int))} {js : List Nat} {k : Nat} (hk : k < js.length) (h : givesH i g hs (js.take k) = some hsk) : givesH i g hs (js.take (k + 1)) = giveH i g hsk js[k] := by
  rw [List.take_succ_eq_append_getElem hk, givesH_append, h]
  exact givesH_one i g hsk _
theorem givesH_stop {i : Nat} {g : Int × Int} {hs hsk : List (Option (Int × Int))} {js r : List Nat} {k : Nat} (hk : k < js.length) (h : givesH i g hs (js.take k) = some hsk) (hn : giveH i g hsk js[k] = none) : givesH i g hs (js ++ r) = none := by
  have e : js ++ r = js.take (k + 1) ++ (js.drop (k + 1) ++ r) := by rw [← List.append_assoc, List.take_append_drop]
  rw [e, givesH_append, givesH_snoc hk h, hn]
  rfl
end Go.Proofs.YtdhmandnamajpaaDoor
