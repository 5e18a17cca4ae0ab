import Derived.Test.YtdhmandnamajpaaGreatDoorY00
namespace Go.Proofs.YtdhmandnamajpaaGreatDoor
open Go.RowKit
theorem opE_zero {c : ByteArray} {p : Nat} (h : opE c p = 0) : byteN c p < 21 ∧ p + sizeI c p ≤ c.size := by
 unfold opE at h
 by_cases h1 : 21 ≤ byteN c p
 ·rw [if_pos h1] at h; cases h
 ·rw [if_neg h1] at h
  by_cases h2 : c.size < p + sizeI c p
  ·rw [if_pos h2] at h; cases h
  ·omega
structure Chained (l : List Ins) (n : Nat) : Prop where
 mono : ∀ (i j : Nat) (x y : Ins), i < j → l[i]? = some x → l[j]? = some y → x.pl < y.pl
 lt : ∀ (i : Nat) (x : Ins), l[i]? = some x → x.pl < n
 next : ∀ (i : Nat) (x y : Ins), l[i]? = some x → l[i + 1]? = some y → x.nx = y.pl
 last : ∀ (i : Nat) (x : Ins), l[i]? = some x → i + 1 = l.length → x.nx = n
 low : ∀ (i : Nat) (x : Ins), l[i]? = some x → x.pl < x.nx
 op : ∀ (i : Nat) (x : Ins), l[i]? = some x → x.op < 21 ∧ (x.op = 2 ∨ x.n < 256) ∧ x.to.length ≤ 256
 zero : ∀ (x : Ins), l[0]? = some x → x.pl = 0
theorem insI_small (c : ByteArray) (p : Nat) (h : opE c p = 0) : (insI c p).op < 21 ∧ ((insI c p).op = 2 ∨ (insI c p).n < 256) ∧ (insI c p).to.length ≤ 256 := by
 refine ⟨(opE_zero h).1, ?_, ?_⟩
 ·show byteN c p = 2 ∨ (if byteN c p = 2 then 256 * byteN c (p + 1) + byteN c (p + 2) else if numOp (byteN c p) then byteN c (p + 1) else 0) < 256
  have := byteN_lt c (p + 1)
  by_cases h2 : byteN c p = 2
  ·exact .inl h2
  ·right
   rw [if_neg h2]
   split <;> omega
 ·show (if byteN c p = 15 ∨ byteN c p = 16 then tos c (p + sizeI c p) (p + 1) 1 else if byteN c p = 17 then tos c (p + sizeI c p) (p + 2) (byteN c (p + 1) + 1) else []).length ≤ 256
  have := byteN_lt c (p + 1)
  split
  ·simp [tos]
  ·split
   ·simp [tos]; omega
   ·simp
theorem chain_facts {c : ByteArray} : ∀ {l : List Ins} {p q : Nat}, Chain c p l q → p ≤ c.size →
  (∀ (i : Nat) (x : Ins), l[i]? = some x → p ≤ x.pl ∧ x.pl < c.size ∧ x.pl < x.nx ∧ x.nx ≤ q ∧ x.op < 21 ∧ (x.op = 2 ∨ x.n < 256) ∧ x.to.length ≤ 256) ∧ (∀ (i j : Nat) (x y : Ins), i < j → l[i]? = some x → l[j]? = some y → x.nx ≤ y.pl) ∧ (∀ (i : Nat) (x y : Ins), l[i]? = some x → l[i + 1]? = some y → x.nx = y.pl) ∧
  (∀ (i : Nat) (x : Ins), l[i]? = some x → i + 1 = l.length → x.nx = q) ∧ (∀ (x : Ins), l[0]? = some x → x.pl = p) := by
 intro l
 induction l with
 | nil => intro p q h _; exact ⟨by simp, by simp, by simp, by simp, by simp⟩
 | cons y l ih =>
  intro p q h hp
  obtain ⟨h1, h2, rfl, h4⟩ := h
  have hz := sizeI_pos c p
  have ho := opE_zero h2
  obtain ⟨a1, a2, a3, a4, a5⟩ := ih h4 ho.2
  have hle := chain_len h4
  have hsm := insI_small c p h2
  refine ⟨?_, ?_, ?_, ?_, ?_⟩
  ·intro i x hi
   cases i with
   | zero =>
    simp at hi; subst hi
    exact ⟨Nat.le_refl _, h1, by show p < p + sizeI c p; omega, by show p + sizeI c p ≤ q; omega, hsm⟩
   | succ i =>
    simp at hi
    obtain ⟨b1, b2, b3, b4, b5⟩ := a1 i x hi
    exact ⟨by omega, b2, b3, b4, b5⟩
  ·intro i j x z hij hi hj
   cases j with
   | zero => omega
   | succ j =>
    simp at hj
    cases i with
    | zero => simp at hi; subst hi; exact (a1 j z hj).1
    | succ i => simp at hi; exact a2 i j x z (by omega) hi hj
  ·intro i x z hi hj
   cases i with
   | zero => simp at hi hj; subst hi; exact (a5 z (by simpa using hj)).symm
   | succ i => simp at hi hj; exact a3 i x z hi hj
  ·intro i x hi hl
   cases i with
   | zero =>
    simp at hi hl; subst hi
    have : l = [] := by cases l with
     | nil => rfl
     | cons _ _ => simp at hl
    subst this
    exact h4
   | succ i => simp at hi hl; exact a4 i x hi hl
  ·intro x hx
   simp at hx; subst hx; rfl
theorem chained {c : ByteArray} {l : List Ins} (h : Chain c 0 l c.size) : Chained l c.size := by
 obtain ⟨a1, a2, a3, a4, a5⟩ := chain_facts h (Nat.zero_le _)
 refine ⟨?_, fun i x hi => (a1 i x hi).2.1, a3, a4, fun i x hi => (a1 i x hi).2.2.1, fun i x hi => (a1 i x hi).2.2.2.2, a5⟩
 intro i j x y hij hi hj
 have h1 := a2 i j x y hij hi hj
 have h2 := (a1 i x hi).2.2.1
 omega
theorem idxP_spec {l : List Ins} {t : Int} (h : beginsB l t = true) : ∃ hj : idxP l t < l.length, (l[idxP l t].pl : Int) = t := by
 unfold beginsB at h
 have hj : l.findIdx (fun x => (x.pl : Int) == t) < l.length := by
  rw [List.findIdx_lt_length]
  rw [List.any_eq_true] at h
  exact h
 refine ⟨hj, ?_⟩
 have := List.findIdx_getElem (p := fun x : Ins => (x.pl : Int) == t) (w := hj)
 simpa [idxP] using this
theorem Chained.le_iff {l : List Ins} {n i j : Nat} (h : Chained l n) (hi : i < l.length) (hj : j < l.length) : l[j].pl ≤ l[i].pl ↔ j ≤ i := by
 constructor
 ·intro hle
  rcases Nat.lt_or_ge i j with hlt | hge
  ·have := h.mono i j l[i] l[j] hlt (by simp) (by simp)
   omega
  ·exact hge
 ·intro hle
  rcases Nat.lt_or_ge j i with hlt | hge
  ·exact Nat.le_of_lt (h.mono j i l[j] l[i] hlt (by simp) (by simp))
  ·have : i = j := by omega
   subst this
   exact Nat.le_refl _
theorem Chained.distinct {l : List Ins} {n j : Nat} (h : Chained l n) (hj : j < l.length) : ∀ k x, l[k]? = some x → k ≠ j → x.pl ≠ l[j].pl := by
 intro k x hk hne
 rcases Nat.lt_or_ge k j with hlt | hge
 ·have := h.mono k j x l[j] hlt hk (by simp); omega
 ·have := h.mono j k l[j] x (by omega) (by simp) hk; omega
def Small (B : Int) (hs : List (Option (Int × Int))) : Prop := ∀ k o, hs.getD k none = some o → -B ≤ o.1 ∧ o.1 ≤ B ∧ -B ≤ o.2 ∧ o.2 ≤ B
theorem Small.mono {B B' : Int} {hs : List (Option (Int × Int))} (h : Small B hs) (hB : B ≤ B') : Small B' hs := fun k o hk => by have := h k o hk; omega
theorem getD_set (hs : List (Option (Int × Int))) (j k : Nat) (v o : Option (Int × Int)) (h : (hs.set j v).getD k none = o) : o = v ∨ o = hs.getD k none ∨ o = none := by
 subst h
 simp only [List.getD]
 by_cases e : j = k
 ·subst e
  rcases Nat.lt_or_ge j hs.length with hlt | hge
  ·rw [List.getElem?_set_self hlt]; exact .inl rfl
  ·rw [List.getElem?_eq_none (by simpa using hge)]; exact .inr (.inr rfl)
 ·rw [List.getElem?_set_ne e]; exact .inr (.inl rfl)
theorem Small.give {B : Int} {hs hs' : List (Option (Int × Int))} {i j : Nat} {g : Int × Int} (h : Small B hs) (hg : -B ≤ g.1 ∧ g.1 ≤ B ∧ -B ≤ g.2 ∧ g.2 ≤ B) (e : giveH i g hs j = some hs') : Small B hs' := by
 unfold giveH at e
 split at e
 ·split at e
  ·injection e with e; subst e; exact h
  ·cases e
 ·injection e with e
  subst e
  intro k o hk
  rcases getD_set _ _ _ _ _ hk with h1 | h1 | h1
  ·injection h1 with h1
   subst h1
   cases ho : hs.getD j none with
   | none => exact hg
   | some p =>
    have := h j p ho
    simp only [mergeH]
    omega
  ·exact h k o h1.symm
  ·cases h1
theorem Small.gives {B : Int} {i : Nat} {g : Int × Int} (hg : -B ≤ g.1 ∧ g.1 ≤ B ∧ -B ≤ g.2 ∧ g.2 ≤ B) : ∀ {js : List Nat} {hs hs' : List (Option (Int × Int))}, Small B hs → givesH i g hs js = some hs' → Small B hs' := by
 intro js
 induction js with
 | nil => intro hs hs' h e; simp only [givesH] at e; injection e with e; subst e; exact h
 | cons j js ih =>
  intro hs hs' h e
  simp only [givesH] at e
  cases h1 : giveH i g hs j with
  | none => rw [h1] at e; cases e
  | some h2 => rw [h1] at e; exact ih (h.give hg h1) e
theorem givesH_append (i : Nat) (g : Int × Int) : ∀ (a b : List Nat) (hs : List (Option (Int × Int))), givesH i g hs (a ++ b) = (givesH i g hs a).bind (fun h => givesH i g h b) := by
 intro a
 induction a with
 | nil => intro b hs; rfl
 | cons j a ih =>
  intro b hs
  simp only [List.cons_append, givesH]
  cases giveH i g hs j with
  | none => rfl
  | some h => exact ih b h
theorem givesH_one (i : Nat) (g : Int × Int) (hs : List (Option (Int × Int))) (j : Nat) : givesH i g hs [j] = giveH i g hs j := by
 simp only [givesH]
 cases giveH i g hs j <;> rfl
theorem giveH_length {i j : Nat} {g : Int × Int} {hs hs' : List (Option (Int × Int))} (e : giveH i g hs j = some hs') : hs'.length = hs.length := by
 unfold giveH at e
 split at e
 ·split at e
  ·injection e with e; subst e; rfl
  ·cases e
 ·injection e with e; subst e; simp
theorem passE_ahead {S : List Sec} {s : Sec} {l : List Ins} {i : Nat} {x : Ins} {hs : List (Option (Int × Int))} {e : Nat} (h : aheadE S s l i x (hs.getD i none) = e) (he : e ≠ 0) : passE S s l i x hs = e := by
 unfold passE
 rw [h, if_pos he]
theorem passE_back {S : List Sec} {s : Sec} {l : List Ins} {i : Nat} {x : Ins} {hs : List (Option (Int × Int))} (h : aheadE S s l i x (hs.getD i none) = 0) (hp : passH S s l i x hs = none) : passE S s l i x hs = 12 := by
 unfold passE
 rw [h, if_neg (by simp), hp]
theorem passE_ok {S : List Sec} {s : Sec} {l : List Ins} {i : Nat} {x : Ins} {hs hs' : List (Option (Int × Int))} (h : aheadE S s l i x (hs.getD i none) = 0) (hp : passH S s l i x hs = some hs') : passE S s l i x hs = 0 := by
 unfold passE
 rw [h, if_neg (by simp), hp]
theorem givesH_snoc {i : Nat} {g : Int × Int} {hs hsk : List (Option (Int × Int))} {js : List Nat} {k : Nat} (hk : k < js.length) (h : givesH i g hs (js.take k) = some hsk) : givesH i g hs (js.take (k + 1)) = giveH i g hsk js[k] := by
 rw [List.take_succ_eq_append_getElem hk, givesH_append, h]
 exact givesH_one i g hsk _
theorem givesH_stop {i : Nat} {g : Int × Int} {hs hsk : List (Option (Int × Int))} {js r : List Nat} {k : Nat} (hk : k < js.length) (h : givesH i g hs (js.take k) = some hsk) (hn : giveH i g hsk js[k] = none) : givesH i g hs (js ++ r) = none := by
 have e : js ++ r = js.take (k + 1) ++ (js.drop (k + 1) ++ r) := by rw [← List.append_assoc, List.take_append_drop]
 rw [e, givesH_append, givesH_snoc hk h, hn]
 rfl
end Go.Proofs.YtdhmandnamajpaaGreatDoor
namespace Go.Proofs.YtdhmandnamajpaaGreatDoor
open Go.RowKit
theorem giveH_stays {i j t : Nat} {g : Int × Int} {hs hs' : List (Option (Int × Int))} (e : giveH i g hs j = some hs') (ht : t ≤ i) : hs'.getD t none = hs.getD t none := by
 unfold giveH at e
 split at e
 ·split at e
  ·injection e with e; subst e; rfl
  ·cases e
 ·injection e with e
  subst e
  simp only [List.getD]
  rw [List.getElem?_set_ne (by omega)]
theorem givesH_stays {i t : Nat} {g : Int × Int} (ht : t ≤ i) : ∀ {js : List Nat} {hs hs' : List (Option (Int × Int))}, givesH i g hs js = some hs' → hs'.getD t none = hs.getD t none := by
 intro js
 induction js with
 | nil => intro hs hs' e; simp only [givesH] at e; injection e with e; subst e; rfl
 | cons j js ih =>
  intro hs hs' e
  simp only [givesH] at e
  cases h1 : giveH i g hs j with
  | none => rw [h1] at e; cases e
  | some h2 => rw [h1] at e; rw [ih e, giveH_stays h1 ht]
theorem hsAt_stays (S : List Sec) (s : Sec) (l : List Ins) (i k : Nat) (h : i ≤ k) : (hsAt S s l k).getD i none = (hsAt S s l i).getD i none := by
 induction k with
 | zero =>
  have : i = 0 := by omega
  subst this
  rfl
 | succ k ih =>
  by_cases e : i = k + 1
  ·subst e; rfl
  ·rw [← ih (by omega)]
   simp only [hsAt]
   cases hp : passH S s l k (l.getD k ins0) (hsAt S s l k) with
   | none => rfl
   | some hs' =>
    unfold passH at hp
    exact givesH_stays (by omega) hp
theorem greatH_stays (S : List Sec) (s : Sec) (l : List Ins) (n k : Nat) (h : n ≤ k) : greatH (hsAt S s l k) n = greatH (hsAt S s l n) n := by
 have key : ∀ m a b, m ≤ a → m ≤ b → greatH (hsAt S s l a) m = greatH (hsAt S s l b) m := by
  intro m
  induction m with
  | zero => intro a b _ _; rfl
  | succ m ih =>
   intro a b ha hb
   simp only [greatH]
   rw [ih a b (by omega) (by omega), hsAt_stays S s l m a (by omega), hsAt_stays S s l m b (by omega)]
 exact key n k n h (Nat.le_refl _)
end Go.Proofs.YtdhmandnamajpaaGreatDoor
namespace Go.Proofs.YtdhmandnamajpaaGreatDoor
open Go.RowKit
def Wid (hs hs' : List (Option (Int × Int))) : Prop := ∀ j h, hs.getD j none = some h → ∃ h', hs'.getD j none = some h' ∧ h'.1 ≤ h.1 ∧ h.2 ≤ h'.2
theorem Wid.refl (hs : List (Option (Int × Int))) : Wid hs hs := fun _ h e => ⟨h, e, by omega, by omega⟩
theorem Wid.trans {a b c : List (Option (Int × Int))} (h1 : Wid a b) (h2 : Wid b c) : Wid a c := fun j h e => by
 obtain ⟨h', e', p, q⟩ := h1 j h e
 obtain ⟨h'', e'', p', q'⟩ := h2 j h' e'
 exact ⟨h'', e'', by omega, by omega⟩
theorem merge_in (g : Int × Int) (o : Option (Int × Int)) : (mergeH g o).1 ≤ g.1 ∧ g.2 ≤ (mergeH g o).2 := by
 cases o with
 | none => exact ⟨Int.le_refl _, Int.le_refl _⟩
 | some h => simp only [mergeH]; omega
theorem giveH_wid {i j : Nat} {g : Int × Int} {hs hs' : List (Option (Int × Int))} (e : giveH i g hs j = some hs') : Wid hs hs' := by
 unfold giveH at e
 split at e
 ·split at e
  ·injection e with e; subst e; exact Wid.refl _
  ·cases e
 ·injection e with e
  subst e
  intro k h hk
  by_cases hjk : j = k
  ·subst hjk
   have hlt : j < hs.length := by
    rcases Nat.lt_or_ge j hs.length with h1 | h1
    ·exact h1
    ·simp [List.getD, List.getElem?_eq_none h1] at hk
   refine ⟨mergeH g (hs.getD j none), ?_, ?_⟩
   ·simp only [List.getD]; rw [List.getElem?_set_self hlt]; rfl
   ·rw [hk]; simp only [mergeH]; omega
  ·refine ⟨h, ?_, Int.le_refl _, Int.le_refl _⟩
   simp only [List.getD] at hk ⊢
   rw [List.getElem?_set_ne hjk]
   exact hk
theorem givesH_wid {i : Nat} {g : Int × Int} : ∀ {js : List Nat} {hs hs' : List (Option (Int × Int))}, givesH i g hs js = some hs' → Wid hs hs' := by
 intro js
 induction js with
 | nil => intro hs hs' e; simp only [givesH] at e; injection e with e; subst e; exact Wid.refl _
 | cons j js ih =>
  intro hs hs' e
  simp only [givesH] at e
  cases h1 : giveH i g hs j with
  | none => rw [h1] at e; cases e
  | some h2 => rw [h1] at e; exact (giveH_wid h1).trans (ih e)
theorem giveH_in {i j : Nat} {g : Int × Int} {hs hs' : List (Option (Int × Int))} (e : giveH i g hs j = some hs') (hj : j < hs.length) : ∃ h', hs'.getD j none = some h' ∧ h'.1 ≤ g.1 ∧ g.2 ≤ h'.2 := by
 unfold giveH at e
 split at e
 ·split at e
  ·rename_i h1
   injection e with e; subst e; exact ⟨g, h1, Int.le_refl _, Int.le_refl _⟩
  ·cases e
 ·injection e with e
  subst e
  refine ⟨mergeH g (hs.getD j none), ?_, merge_in _ _⟩
  simp only [List.getD]; rw [List.getElem?_set_self hj]; rfl
theorem giveH_size {i j : Nat} {g : Int × Int} {hs hs' : List (Option (Int × Int))} (e : giveH i g hs j = some hs') : hs'.length = hs.length := by
 unfold giveH at e
 split at e
 ·split at e
  ·injection e with e; subst e; rfl
  ·cases e
 ·injection e with e; subst e; simp
theorem givesH_in {i : Nat} {g : Int × Int} : ∀ {js : List Nat} {hs hs' : List (Option (Int × Int))}, givesH i g hs js = some hs' → ∀ j ∈ js, j < hs.length → ∃ h', hs'.getD j none = some h' ∧ h'.1 ≤ g.1 ∧ g.2 ≤ h'.2 := by
 intro js
 induction js with
 | nil => intro hs hs' _ j hj; cases hj
 | cons j js ih =>
  intro hs hs' e t ht hl
  simp only [givesH] at e
  cases h1 : giveH i g hs j with
  | none => rw [h1] at e; cases e
  | some h2 =>
   rw [h1] at e
   rcases List.mem_cons.1 ht with rfl | ht
   ·obtain ⟨a, b, c, d⟩ := giveH_in h1 hl
    obtain ⟨a', b', c', d'⟩ := givesH_wid e t a b
    exact ⟨a', b', by omega, by omega⟩
   ·exact ih e t ht (by rw [giveH_size h1]; exact hl)
theorem givesH_size {i : Nat} {g : Int × Int} : ∀ {js : List Nat} {hs hs' : List (Option (Int × Int))}, givesH i g hs js = some hs' → hs'.length = hs.length := by
 intro js
 induction js with
 | nil => intro hs hs' e; simp only [givesH] at e; injection e with e; subst e; rfl
 | cons j js ih =>
  intro hs hs' e
  simp only [givesH] at e
  cases h1 : giveH i g hs j with
  | none => rw [h1] at e; cases e
  | some h2 => rw [h1] at e; rw [ih e, giveH_size h1]
theorem hsAt_size (S : List Sec) (s : Sec) (l : List Ins) (k : Nat) : (hsAt S s l k).length = l.length := by
 induction k with
 | zero => simp [hsAt]
 | succ k ih =>
  simp only [hsAt]
  cases h : passH S s l k (l.getD k ins0) (hsAt S s l k) with
  | none => exact ih
  | some hs' =>
   unfold passH at h
   show hs'.length = l.length
   rw [givesH_size h, ih]
theorem hsAt_wid (S : List Sec) (s : Sec) (l : List Ins) (i k : Nat) (h : i ≤ k) : Wid (hsAt S s l i) (hsAt S s l k) := by
 induction k with
 | zero =>
  have : i = 0 := by omega
  subst this
  exact Wid.refl _
 | succ k ih =>
  by_cases e : i = k + 1
  ·subst e; exact Wid.refl _
  ·refine (ih (by omega)).trans ?_
   simp only [hsAt]
   cases hp : passH S s l k (l.getD k ins0) (hsAt S s l k) with
   | none => exact Wid.refl _
   | some hs' =>
    unfold passH at hp
    exact givesH_wid hp
def hF (S : List Sec) (s : Sec) (l : List Ins) (i : Nat) : Option (Int × Int) := (hsAt S s l i).getD i none
theorem flow_edge {S : List Sec} {s : Sec} {l : List Ins} {i : Nat} (h : flowE S s l i = 0) :
  ∃ lo hi', hF S s l i = some (lo, hi') ∧ aheadE S s l i (l.getD i ins0) (some (lo, hi')) = 0 ∧
   ∀ j ∈ nextsI l i (l.getD i ins0), j < l.length → ∃ lo' hi'', hF S s l j = some (lo', hi'') ∧ lo' ≤ lo - takesI S s (l.getD i ins0) + bringsI S (l.getD i ins0) ∧ hi' - takesI S s (l.getD i ins0) + bringsI S (l.getD i ins0) ≤ hi'' := by
 unfold flowE passE at h
 split at h
 ·rename_i h0; exact absurd h h0
 ·rename_i h0
  have h0' : aheadE S s l i (l.getD i ins0) ((hsAt S s l i).getD i none) = 0 := Decidable.not_not.1 h0
  cases ho : (hsAt S s l i).getD i none with
  | none => rw [ho] at h0'; simp [aheadE] at h0'
  | some o =>
   obtain ⟨lo, hi'⟩ := o
   rw [ho] at h0'
   cases hp : passH S s l i (l.getD i ins0) (hsAt S s l i) with
   | none => rw [hp] at h; simp at h
   | some hs' =>
    refine ⟨lo, hi', ho, h0', fun j hj hjl => ?_⟩
    have hn : hsAt S s l (i + 1) = hs' := by simp only [hsAt]; rw [hp]; rfl
    unfold passH at hp
    rw [ho] at hp
    obtain ⟨h', e1, e2, e3⟩ := givesH_in hp j hj (by rw [hsAt_size]; exact hjl)
    simp only [afterI, Option.getD_some] at e2 e3
    rcases Nat.lt_or_ge i j with hlt | hge
    ·obtain ⟨h2, f1, f2, f3⟩ := hsAt_wid S s l (i + 1) j hlt j h' (by rw [hn]; exact e1)
     exact ⟨h2.1, h2.2, f1, by omega, by omega⟩
    ·refine ⟨h'.1, h'.2, ?_, e2, e3⟩
     unfold hF
     rw [← hsAt_stays S s l j (i + 1) (by omega), hn]
     exact e1
theorem greatH_le (hs : List (Option (Int × Int))) (n : Nat) : ∀ i h, i < n → hs.getD i none = some h → h.2 ≤ greatH hs n := by
 induction n with
 | zero => intro i h hi; omega
 | succ n ih =>
  intro i h hi e
  simp only [greatH]
  by_cases he : i = n
  ·subst he; rw [e]; simp only [Option.getD_some]; omega
  ·have := ih i h (by omega) e; omega
theorem hF_le {S : List Sec} {s : Sec} {l : List Ins} (hm : greatH (hsAt S s l l.length) l.length = s.m) {i : Nat} {o : Int × Int} (hi : i < l.length) (h : hF S s l i = some o) : o.2 ≤ s.m := by
 rw [← hm]
 refine greatH_le _ _ i o hi ?_
 rw [hsAt_stays S s l i _ (by omega)]
 exact h
theorem hF_zero {S : List Sec} {s : Sec} {l : List Ins} (hl : 0 < l.length) : hF S s l 0 = some (s.i, s.i) := by
 simp [hF, hsAt, List.getD, hl]
theorem firstE_all {f : Nat → Nat} {l : List Ins} : ∀ {n : Nat}, (firstE f l n).1 = 0 → ∀ k, k < n → f k = 0 := by
 intro n
 induction n with
 | zero => intro _ k hk; omega
 | succ n ih =>
  intro h k hk
  simp only [firstE] at h
  split at h
  ·rename_i h1; exact absurd h h1
  ·rename_i h1
   have h1' : (firstE f l n).1 = 0 := Decidable.not_not.1 h1
   split at h
   ·rename_i h2; exact absurd h h2
   ·rename_i h2
    have h2' : f n = 0 := Decidable.not_not.1 h2
    by_cases e : k = n
    ·subst e; exact h2'
    ·exact ih h1' k (by omega)
structure SecOk (S : List Sec) (s : Sec) : Prop where
 split : splitE s.code = (0, 0) ∨ (splitE s.code).1 = 0
 ref : ∀ k, k < (codeI s.code).length → refE S (codeI s.code) ((codeI s.code).getD k ins0) = 0
 flow : ∀ k, k < (codeI s.code).length → flowE S s (codeI s.code) k = 0
 max : greatH (hsAt S s (codeI s.code) (codeI s.code).length) (codeI s.code).length = s.m
 nev : anyRet S (codeI s.code) = (s.o != 128)
theorem secOk {S : List Sec} {s : Sec} (h : (wholeE S s).1 = 0) : SecOk S s := by
 unfold wholeE at h
 split at h
 ·rename_i h0; exact absurd h h0
 ·rename_i h0
  split at h
  ·rename_i h1; exact absurd h h1
  ·rename_i h1
   split at h
   ·rename_i h2; exact absurd h h2
   ·rename_i h2
    simp only [sumsE] at h
    split at h
    ·simp at h
    ·rename_i h3
     split at h
     ·simp at h
     ·rename_i h4
      refine ⟨.inr (Decidable.not_not.1 h0), firstE_all (Decidable.not_not.1 h1), firstE_all (Decidable.not_not.1 h2), Decidable.not_not.1 h3, ?_⟩
      cases hA : anyRet S (codeI s.code) <;> cases hB : (s.o == 128) <;> simp [hA, hB] at h4 <;> simp [bne, hB]
end Go.Proofs.YtdhmandnamajpaaGreatDoor
namespace Go.Proofs.YtdhmandnamajpaaGreatDoor
open Go.RowKit
structure MS where
 sec : Nat
 pl : Nat
 base : Nat
 st : List Nat
 fr : List (Nat × Nat × Nat)
 mem : List Nat
 out : List Nat
 gas : Nat
 steps : Nat
 fin : Option Nat
def w16 (x : Int) : Nat := (x % 65536).toNat
def topN (st : List Nat) (n : Nat) : Nat := st.getD (st.length - 1 - n) 0
def dropN (st : List Nat) (n : Nat) : List Nat := st.take (st.length - n)
def codeS (S : List Sec) (k : Nat) : ByteArray := (S[k]?.map Sec.code).getD ByteArray.empty
def maxS (S : List Sec) (k : Nat) : Int := (S[k]?.map Sec.m).getD 0
def sumI (op : Nat) (a b : Nat) : Nat :=
 if op = 4 then w16 ((a : Int) + b) else if op = 5 then w16 ((a : Int) - b) else if op = 6 then w16 ((a : Int) * b) else if op = 7 then (if a < b then 1 else 0) else (if a = b then 1 else 0)
def enterM (S : List Sec) (n : Nat) (m : MS) : MS :=
 if (64 : Int) < m.st.length + maxS S n - inS S n then { m with fin := some 4 } else { m with sec := n, pl := 0, base := m.st.length - (inS S n).toNat }
def doI (S : List Sec) (d : ByteArray) (x : Ins) (m : MS) : MS :=
 if x.op = 0 then { m with fin := some 0 }
 else if x.op = 1 then { m with fin := some 1 }
 else if x.op = 2 then { m with st := m.st ++ [x.n] }
 else if x.op = 3 then { m with st := dropN m.st 1 }
 else if x.op < 9 then { m with st := dropN m.st 2 ++ [sumI x.op (topN m.st 1) (topN m.st 0)] }
 else if x.op = 9 then { m with st := m.st ++ [topN m.st x.n] }
 else if x.op = 10 then { m with st := (m.st.set (m.st.length - 1 - (x.n + 1)) (topN m.st 0)).set (m.st.length - 1) (topN m.st (x.n + 1)) }
 else if x.op = 11 then (if 16 ≤ topN m.st 0 then { m with st := dropN m.st 1, fin := some 5 } else { m with st := dropN m.st 1 ++ [m.mem.getD (topN m.st 0) 0] })
 else if x.op = 12 then (if 16 ≤ topN m.st 0 then { m with st := dropN m.st 2, fin := some 5 } else { m with st := dropN m.st 2, mem := m.mem.set (topN m.st 0) (topN m.st 1) })
 else if x.op = 13 then { m with st := dropN m.st 1 ++ [byteN d (topN m.st 0)] }
 else if x.op = 14 then { m with st := dropN m.st 1, out := m.out ++ [topN m.st 0] }
 else if x.op = 15 then { m with pl := (x.to.getD 0 0).toNat }
 else if x.op = 16 then { m with st := dropN m.st 1, pl := if topN m.st 0 = 0 then m.pl else (x.to.getD 0 0).toNat }
 else if x.op = 17 then { m with st := dropN m.st 1, pl := if topN m.st 0 < x.to.length then (x.to.getD (topN m.st 0) 0).toNat else m.pl }
 else if x.op = 18 then (if m.fr.length = 8 then { m with fin := some 3 } else enterM S x.n { m with fr := m.fr ++ [(m.sec, m.pl, m.base)] })
 else if x.op = 19 then { m with sec := (m.fr.getLastD (0, 0, 0)).1, pl := (m.fr.getLastD (0, 0, 0)).2.1, base := (m.fr.getLastD (0, 0, 0)).2.2, fr := m.fr.dropLast }
 else enterM S x.n m
def nowI (S : List Sec) (m : MS) : Ins := insI (codeS S m.sec) m.pl
def paidM (x : Ins) (m : MS) : MS := { m with gas := m.gas - costT x.op, steps := m.steps + 1, pl := x.nx }
def stepM (S : List Sec) (d : ByteArray) (m : MS) : MS :=
 if m.gas < costT (nowI S m).op then { m with fin := some 2 } else doI S d (nowI S m) (paidM (nowI S m) m)
def runM (S : List Sec) (d : ByteArray) : Nat → MS → MS
 | 0, m => m
 | f + 1, m => if m.fin.isSome then m else runM S d f (stepM S d m)
def startM (gas : Nat) : MS := ⟨0, 0, 0, [], [], List.replicate 16 0, [], gas, 0, none⟩
def tellM (m : MS) : Nat × Nat × Int := (m.sec, m.pl, (m.st.length : Int) - m.base)
def traceM (S : List Sec) (d : ByteArray) : Nat → MS → List (Nat × Nat × Int)
 | 0, _ => []
 | f + 1, m => if m.fin.isSome then [] else if m.gas < costT (nowI S m).op then [] else tellM m :: traceM S d f (stepM S d m)
theorem costT_pos (op : Nat) : 1 ≤ costT op := by unfold costT; split <;> (try split) <;> omega
theorem enterM_gas (S : List Sec) (n : Nat) (m : MS) : (enterM S n m).gas = m.gas ∧ (enterM S n m).steps = m.steps ∧ (enterM S n m).out = m.out ∧ (enterM S n m).mem = m.mem ∧ (enterM S n m).st = m.st ∧ (enterM S n m).fr = m.fr := by
 unfold enterM; split <;> exact ⟨rfl, rfl, rfl, rfl, rfl, rfl⟩
theorem doI_0 (S : List Sec) (d : ByteArray) (x : Ins) (m : MS) (h : x.op = 0) : doI S d x m = { m with fin := some 0 } := by unfold doI; rw [if_pos (by omega)]
theorem doI_1 (S : List Sec) (d : ByteArray) (x : Ins) (m : MS) (h : x.op = 1) : doI S d x m = { m with fin := some 1 } := by unfold doI; rw [if_neg (by omega), if_pos (by omega)]
theorem doI_2 (S : List Sec) (d : ByteArray) (x : Ins) (m : MS) (h : x.op = 2) : doI S d x m = { m with st := m.st ++ [x.n] } := by unfold doI; rw [if_neg (by omega), if_neg (by omega), if_pos (by omega)]
theorem doI_3 (S : List Sec) (d : ByteArray) (x : Ins) (m : MS) (h : x.op = 3) : doI S d x m = { m with st := dropN m.st 1 } := by unfold doI; rw [if_neg (by omega), if_neg (by omega), if_neg (by omega), if_pos (by omega)]
theorem doI_sum (S : List Sec) (d : ByteArray) (x : Ins) (m : MS) (h : 4 ≤ x.op ∧ x.op < 9) : doI S d x m = { m with st := dropN m.st 2 ++ [sumI x.op (topN m.st 1) (topN m.st 0)] } := by unfold doI; rw [if_neg (by omega), if_neg (by omega), if_neg (by omega), if_neg (by omega), if_pos (by omega)]
theorem doI_9 (S : List Sec) (d : ByteArray) (x : Ins) (m : MS) (h : x.op = 9) : doI S d x m = { m with st := m.st ++ [topN m.st x.n] } := by unfold doI; rw [if_neg (by omega), if_neg (by omega), if_neg (by omega), if_neg (by omega), if_neg (by omega), if_pos (by omega)]
theorem doI_10 (S : List Sec) (d : ByteArray) (x : Ins) (m : MS) (h : x.op = 10) : doI S d x m = { m with st := (m.st.set (m.st.length - 1 - (x.n + 1)) (topN m.st 0)).set (m.st.length - 1) (topN m.st (x.n + 1)) } := by unfold doI; rw [if_neg (by omega), if_neg (by omega), if_neg (by omega), if_neg (by omega), if_neg (by omega), if_neg (by omega), if_pos (by omega)]
theorem doI_11 (S : List Sec) (d : ByteArray) (x : Ins) (m : MS) (h : x.op = 11) : doI S d x m = (if 16 ≤ topN m.st 0 then { m with st := dropN m.st 1, fin := some 5 } else { m with st := dropN m.st 1 ++ [m.mem.getD (topN m.st 0) 0] }) := by unfold doI; rw [if_neg (by omega), if_neg (by omega), if_neg (by omega), if_neg (by omega), if_neg (by omega), if_neg (by omega), if_neg (by omega), if_pos (by omega)]
theorem doI_12 (S : List Sec) (d : ByteArray) (x : Ins) (m : MS) (h : x.op = 12) : doI S d x m = (if 16 ≤ topN m.st 0 then { m with st := dropN m.st 2, fin := some 5 } else { m with st := dropN m.st 2, mem := m.mem.set (topN m.st 0) (topN m.st 1) }) := by unfold doI; rw [if_neg (by omega), if_neg (by omega), if_neg (by omega), if_neg (by omega), if_neg (by omega), if_neg (by omega), if_neg (by omega), if_neg (by omega), if_pos (by omega)]
theorem doI_13 (S : List Sec) (d : ByteArray) (x : Ins) (m : MS) (h : x.op = 13) : doI S d x m = { m with st := dropN m.st 1 ++ [byteN d (topN m.st 0)] } := by unfold doI; rw [if_neg (by omega), if_neg (by omega), if_neg (by omega), if_neg (by omega), if_neg (by omega), if_neg (by omega), if_neg (by omega), if_neg (by omega), if_neg (by omega), if_pos (by omega)]
theorem doI_14 (S : List Sec) (d : ByteArray) (x : Ins) (m : MS) (h : x.op = 14) : doI S d x m = { m with st := dropN m.st 1, out := m.out ++ [topN m.st 0] } := by unfold doI; rw [if_neg (by omega), if_neg (by omega), if_neg (by omega), if_neg (by omega), if_neg (by omega), if_neg (by omega), if_neg (by omega), if_neg (by omega), if_neg (by omega), if_neg (by omega), if_pos (by omega)]
theorem doI_15 (S : List Sec) (d : ByteArray) (x : Ins) (m : MS) (h : x.op = 15) : doI S d x m = { m with pl := (x.to.getD 0 0).toNat } := by unfold doI; rw [if_neg (by omega), if_neg (by omega), if_neg (by omega), if_neg (by omega), if_neg (by omega), if_neg (by omega), if_neg (by omega), if_neg (by omega), if_neg (by omega), if_neg (by omega), if_neg (by omega), if_pos (by omega)]
theorem doI_16 (S : List Sec) (d : ByteArray) (x : Ins) (m : MS) (h : x.op = 16) : doI S d x m = { m with st := dropN m.st 1, pl := if topN m.st 0 = 0 then m.pl else (x.to.getD 0 0).toNat } := by unfold doI; rw [if_neg (by omega), if_neg (by omega), if_neg (by omega), if_neg (by omega), if_neg (by omega), if_neg (by omega), if_neg (by omega), if_neg (by omega), if_neg (by omega), if_neg (by omega), if_neg (by omega), if_neg (by omega), if_pos (by omega)]
theorem doI_17 (S : List Sec) (d : ByteArray) (x : Ins) (m : MS) (h : x.op = 17) : doI S d x m = { m with st := dropN m.st 1, pl := if topN m.st 0 < x.to.length then (x.to.getD (topN m.st 0) 0).toNat else m.pl } := by unfold doI; rw [if_neg (by omega), if_neg (by omega), if_neg (by omega), if_neg (by omega), if_neg (by omega), if_neg (by omega), if_neg (by omega), if_neg (by omega), if_neg (by omega), if_neg (by omega), if_neg (by omega), if_neg (by omega), if_neg (by omega), if_pos (by omega)]
theorem doI_18 (S : List Sec) (d : ByteArray) (x : Ins) (m : MS) (h : x.op = 18) : doI S d x m = (if m.fr.length = 8 then { m with fin := some 3 } else enterM S x.n { m with fr := m.fr ++ [(m.sec, m.pl, m.base)] }) := by unfold doI; rw [if_neg (by omega), if_neg (by omega), if_neg (by omega), if_neg (by omega), if_neg (by omega), if_neg (by omega), if_neg (by omega), if_neg (by omega), if_neg (by omega), if_neg (by omega), if_neg (by omega), if_neg (by omega), if_neg (by omega), if_neg (by omega), if_pos (by omega)]
theorem doI_19 (S : List Sec) (d : ByteArray) (x : Ins) (m : MS) (h : x.op = 19) : doI S d x m = { m with sec := (m.fr.getLastD (0, 0, 0)).1, pl := (m.fr.getLastD (0, 0, 0)).2.1, base := (m.fr.getLastD (0, 0, 0)).2.2, fr := m.fr.dropLast } := by unfold doI; rw [if_neg (by omega), if_neg (by omega), if_neg (by omega), if_neg (by omega), if_neg (by omega), if_neg (by omega), if_neg (by omega), if_neg (by omega), if_neg (by omega), if_neg (by omega), if_neg (by omega), if_neg (by omega), if_neg (by omega), if_neg (by omega), if_neg (by omega), if_pos (by omega)]
theorem doI_20 (S : List Sec) (d : ByteArray) (x : Ins) (m : MS) (h : 20 ≤ x.op) : doI S d x m = enterM S x.n m := by unfold doI; rw [if_neg (by omega), if_neg (by omega), if_neg (by omega), if_neg (by omega), if_neg (by omega), if_neg (by omega), if_neg (by omega), if_neg (by omega), if_neg (by omega), if_neg (by omega), if_neg (by omega), if_neg (by omega), if_neg (by omega), if_neg (by omega), if_neg (by omega), if_neg (by omega)]
theorem op_cases (op : Nat) : op = 0 ∨ op = 1 ∨ op = 2 ∨ op = 3 ∨ (4 ≤ op ∧ op < 9) ∨ op = 9 ∨ op = 10 ∨ op = 11 ∨ op = 12 ∨ op = 13 ∨ op = 14 ∨ op = 15 ∨ op = 16 ∨ op = 17 ∨ op = 18 ∨ op = 19 ∨ 20 ≤ op := by omega
theorem doI_same (S : List Sec) (d : ByteArray) (x : Ins) (m : MS) {A : Type} (F : MS → A) (h : ∀ a b c e f g i j, F ⟨a, b, c, e, f, g, i, m.gas, m.steps, j⟩ = F m) : F (doI S d x m) = F m := by
 have hent : ∀ n (u : MS), u.gas = m.gas → u.steps = m.steps → F (enterM S n u) = F m := by
  intro n u h1 h2
  unfold enterM
  split <;> (rw [h1, h2]; exact h _ _ _ _ _ _ _ _)
 rcases op_cases x.op with o | o | o | o | o | o | o | o | o | o | o | o | o | o | o | o | o
 ·rw [doI_0 S d x m o]; exact h _ _ _ _ _ _ _ _
 ·rw [doI_1 S d x m o]; exact h _ _ _ _ _ _ _ _
 ·rw [doI_2 S d x m o]; exact h _ _ _ _ _ _ _ _
 ·rw [doI_3 S d x m o]; exact h _ _ _ _ _ _ _ _
 ·rw [doI_sum S d x m o]; exact h _ _ _ _ _ _ _ _
 ·rw [doI_9 S d x m o]; exact h _ _ _ _ _ _ _ _
 ·rw [doI_10 S d x m o]; exact h _ _ _ _ _ _ _ _
 ·rw [doI_11 S d x m o]; split <;> exact h _ _ _ _ _ _ _ _
 ·rw [doI_12 S d x m o]; split <;> exact h _ _ _ _ _ _ _ _
 ·rw [doI_13 S d x m o]; exact h _ _ _ _ _ _ _ _
 ·rw [doI_14 S d x m o]; exact h _ _ _ _ _ _ _ _
 ·rw [doI_15 S d x m o]; exact h _ _ _ _ _ _ _ _
 ·rw [doI_16 S d x m o]; exact h _ _ _ _ _ _ _ _
 ·rw [doI_17 S d x m o]; exact h _ _ _ _ _ _ _ _
 ·rw [doI_18 S d x m o]; split
  ·exact h _ _ _ _ _ _ _ _
  ·exact hent _ _ rfl rfl
 ·rw [doI_19 S d x m o]; exact h _ _ _ _ _ _ _ _
 ·rw [doI_20 S d x m o]; exact hent _ _ rfl rfl
theorem doI_gas (S : List Sec) (d : ByteArray) (x : Ins) (m : MS) : (doI S d x m).gas = m.gas ∧ (doI S d x m).steps = m.steps :=
 ⟨doI_same S d x m MS.gas (fun _ _ _ _ _ _ _ _ => rfl), doI_same S d x m MS.steps (fun _ _ _ _ _ _ _ _ => rfl)⟩
theorem stepM_gas (S : List Sec) (d : ByteArray) (m : MS) (h : (stepM S d m).fin = none) : (stepM S d m).gas < m.gas ∧ (stepM S d m).steps = m.steps + 1 ∧ (stepM S d m).gas + 1 ≤ m.gas := by
 unfold stepM at h ⊢
 have := costT_pos (nowI S m).op
 split at h
 ·cases h
 ·rename_i hc
  rw [if_neg hc, (doI_gas S d _ _).1, (doI_gas S d _ _).2]
  refine ⟨?_, rfl, ?_⟩
  ·show m.gas - costT (nowI S m).op < m.gas
   omega
  ·show m.gas - costT (nowI S m).op + 1 ≤ m.gas
   omega
end Go.Proofs.YtdhmandnamajpaaGreatDoor
namespace Go.Proofs.YtdhmandnamajpaaGreatDoor
open Go.RowKit
theorem chain_ins {c : ByteArray} : ∀ {l : List Ins} {p q : Nat}, Chain c p l q → ∀ (i : Nat) (x : Ins), l[i]? = some x → x = insI c x.pl := by
 intro l
 induction l with
 | nil => intro p q _ i x hi; simp at hi
 | cons y l ih =>
  intro p q h i x hi
  obtain ⟨_, _, rfl, h4⟩ := h
  cases i with
  | zero => simp at hi; subst hi; rfl
  | succ i => simp at hi; exact ih h4 i x hi
theorem splitF_chain {c : ByteArray} : ∀ (f p : Nat), p ≤ c.size → c.size - p ≤ f → (splitF c f p).2.1 = 0 → Chain c p (splitF c f p).1 c.size := by
 intro f
 induction f with
 | zero =>
  intro p hp hf _
  show p = c.size
  omega
 | succ f ih =>
  intro p hp hf h
  rw [splitF_succ] at h ⊢
  by_cases h1 : c.size ≤ p
  ·rw [if_pos h1]
   show p = c.size
   omega
  ·rw [if_neg h1] at h ⊢
   by_cases h2 : opE c p ≠ 0
   ·rw [if_pos h2] at h
    exact absurd h h2
   ·rw [if_neg h2] at h ⊢
    have h2' : opE c p = 0 := Decidable.not_not.1 h2
    have hz := sizeI_pos c p
    exact ⟨by omega, h2', rfl, ih _ (opE_zero h2').2 (by omega) h⟩
theorem chain_of_split {c : ByteArray} (h : (splitE c).1 = 0) : Chain c 0 (codeI c) c.size := splitF_chain c.size 0 (Nat.zero_le _) (by omega) h
structure Sound (S : List Sec) : Prop where
 fit : S.all secB = true
 len : 1 ≤ S.length
 few : S.length ≤ 6
 ok : ∀ k (hk : k < S.length), SecOk S S[k]
 first : inS S 0 = 0 ∧ outS S 0 = 128
structure AtH (S : List Sec) (k pl : Nat) (H : Int) : Prop where
 lt : k < S.length
 ex : ∃ i x o, (codeI S[k].code)[i]? = some x ∧ x.pl = pl ∧ hF S S[k] (codeI S[k].code) i = some o ∧ o.1 ≤ H ∧ H ≤ o.2
def FrR (S : List Sec) : List (Nat × Nat × Nat) → Nat → Nat → Prop
 | [], k, _ => outS S k = 128
 | (s, p, b) :: r, k, base => b ≤ base ∧ s < S.length ∧ (b : Int) + maxS S s ≤ 64 ∧ (outS S k ≠ 128 → AtH S s p (base + outS S k - b)) ∧ FrR S r s b
structure Good (S : List Sec) (m : MS) : Prop where
 here : AtH S m.sec m.pl ((m.st.length : Int) - m.base)
 base : m.base ≤ m.st.length
 room : (m.base : Int) + maxS S m.sec ≤ 64
 frames : FrR S m.fr.reverse m.sec m.base
 few : m.fr.length ≤ 8
 vals : ∀ v ∈ m.st, v < 65536
 mems : ∀ v ∈ m.mem, v < 65536
 mlen : m.mem.length = 16
 fin : m.fin = none
theorem Sound.chain {S : List Sec} (h : Sound S) {k : Nat} (hk : k < S.length) : Chain S[k].code 0 (codeI S[k].code) S[k].code.size := by
 refine chain_of_split ?_
 rcases (h.ok k hk).split with e | e
 ·rw [e]
 ·exact e
theorem Sound.sec {S : List Sec} (h : Sound S) {k : Nat} (hk : k < S.length) : secB S[k] = true := List.all_eq_true.1 h.fit _ (List.getElem_mem _)
theorem codeS_get (S : List Sec) (k : Nat) (h : k < S.length) : codeS S k = S[k].code := by simp [codeS, h]
theorem maxS_get (S : List Sec) (k : Nat) (h : k < S.length) : maxS S k = S[k].m := by simp [maxS, h]
theorem outS_at (S : List Sec) (n : Nat) (h : n < S.length) : outS S n = S[n].o := by simp [outS, h]
theorem inS_at (S : List Sec) (n : Nat) (h : n < S.length) : inS S n = S[n].i := by simp [inS, h]
theorem codeI_pos {S : List Sec} (h : Sound S) {k : Nat} (hk : k < S.length) : 0 < (codeI S[k].code).length := by
 have hc := h.chain hk
 have h1 := (secB_iff _).1 (h.sec hk)
 cases hl : codeI S[k].code with
 | nil => rw [hl] at hc; have : (0 : Nat) = S[k].code.size := hc; omega
 | cons _ _ => simp
structure Now (S : List Sec) (k pl : Nat) (H : Int) (x : Ins) : Prop where
 lt : k < S.length
 is : x = insI S[k].code pl
 opE : opE S[k].code pl = 0
 plt : pl < S[k].code.size
 op : x.op < 21
 low : takesI S S[k] x ≤ H
 high : H ≤ S[k].m
 num : x.op = 2 ∨ x.n < 256
 name : namesB x = true → x.n < S.length ∧ (x.op = 18 → outS S x.n ≠ 128)
 ret : returnsB S x = true → S[k].o ≠ 128 ∧ H = wantI S S[k] x ∧ (x.op = 20 → outS S x.n ≤ S[k].o)
 next : lastT x.op = false → AtH S k x.nx (H - takesI S S[k] x + bringsI S x)
 to : ∀ t ∈ x.to, 0 ≤ t ∧ AtH S k t.toNat (H - takesI S S[k] x + bringsI S x)
theorem atH_now {S : List Sec} (hS : Sound S) {k pl : Nat} {H : Int} (h : AtH S k pl H) : Now S k pl H (insI (codeS S k) pl) := by
 obtain ⟨hk, i, x, o, hx, rfl, ho, hlo, hhi⟩ := h
 rw [codeS_get S k hk]
 have hch := hS.chain hk
 have hCh := chained hch
 have hil : i < (codeI S[k].code).length := (List.getElem?_eq_some_iff.1 hx).1
 have e : x = insI S[k].code x.pl := chain_ins hch i x hx
 have hg : (codeI S[k].code).getD i ins0 = x := by simp [List.getD, hx]
 obtain ⟨lo, hi, f1, f2, f3⟩ := flow_edge ((hS.ok k hk).flow i hil)
 rw [ho] at f1
 obtain rfl := Option.some.inj f1
 rw [hg] at f2 f3
 simp only [aheadE] at f2
 split at f2
 ·cases f2
 rename_i a1
 split at f2
 ·cases f2
 rename_i a2
 split at f2
 ·cases f2
 rename_i a3
 have hop := hCh.op i x hx
 have href := (hS.ok k hk).ref i hil
 rw [hg] at href
 unfold refE at href
 split at href
 ·cases href
 rename_i r1
 split at href
 ·cases href
 rename_i r2
 rw [← e]
 have hfacts := chain_facts hch (Nat.zero_le _)
 have hplace : ∀ j, j ∈ nextsI (codeI S[k].code) i x → (hj : j < (codeI S[k].code).length) → AtH S k (codeI S[k].code)[j].pl (H - takesI S S[k] x + bringsI S x) := by
  intro j hj hjl
  obtain ⟨lo', hi', g1, g2, g3⟩ := f3 j hj hjl
  exact ⟨hk, j, _, _, by simp [hjl], rfl, g1, by simp only at hlo ⊢; omega, by simp only at hhi ⊢; omega⟩
 refine ⟨hk, e, ?_, hCh.lt i x hx, hop.1, by simp only at hlo; omega, ?_, hop.2.1, ?_, ?_, ?_, ?_⟩
 ·have : ∀ {l : List Ins} {p q : Nat}, Chain S[k].code p l q → ∀ (i : Nat) (y : Ins), l[i]? = some y → Go.Proofs.YtdhmandnamajpaaGreatDoor.opE S[k].code y.pl = 0 := by
   intro l
   induction l with
   | nil => intro p q _ i y hi; simp at hi
   | cons z l ih =>
    intro p q h i y hi
    obtain ⟨_, b, rfl, h4⟩ := h
    cases i with
    | zero => simp at hi; subst hi; exact b
    | succ i => simp at hi; exact ih h4 i y hi
  exact this hch i x hx
 ·have := hF_le (hS.ok k hk).max hil ho
  omega
 ·intro hn
  rw [hn] at r2
  simp only [Bool.true_and, Bool.not_eq_true', Bool.not_eq_false] at r2
  unfold mayNameB at r2
  rw [Bool.and_eq_true, decide_eq_true_eq] at r2
  refine ⟨r2.1, fun h18 => ?_⟩
  have h2 := r2.2
  simpa [h18] using h2
 ·intro hr
  rw [hr] at a2
  simp only [Bool.true_and, Bool.not_eq_true', Bool.not_eq_false] at a2
  unfold mayReturnB at a2
  simp only [Bool.and_eq_true, bne_iff_ne, ne_eq, beq_iff_eq, Bool.not_eq_true'] at a2
  obtain ⟨⟨⟨b1, b2⟩, b3⟩, b4⟩ := a2
  refine ⟨b2, by simp only at hlo hhi b3 b4; omega, fun h20 => ?_⟩
  rw [h20] at b1
  simp at b1
  exact b1
 ·intro hl
  rw [hl] at a3
  simp only [Bool.not_false, Bool.true_and, beq_iff_eq] at a3
  have hj : i + 1 < (codeI S[k].code).length := by omega
  have := hplace (i + 1) (by simp [nextsI, hl]) hj
  rw [hCh.next i x _ hx (by simp [hj] : (codeI S[k].code)[i + 1]? = some (codeI S[k].code)[i + 1])]
  exact this
 ·intro t ht
  have hb : beginsB (codeI S[k].code) t = true := by
   cases hb : beginsB (codeI S[k].code) t with
   | true => rfl
   | false =>
    exfalso
    apply r1
    rw [List.any_eq_true]
    exact ⟨t, ht, by rw [hb]; rfl⟩
  obtain ⟨hj, ej⟩ := idxP_spec hb
  have := hplace (idxP (codeI S[k].code) t) (by simp only [nextsI, List.mem_append, List.mem_map]; exact .inl ⟨t, ht, rfl⟩) hj
  refine ⟨by omega, ?_⟩
  rw [← ej]
  simpa using this
end Go.Proofs.YtdhmandnamajpaaGreatDoor
