import Derived.Test.YtdhmandnamajpaaGreatDoorY00
import Derived.Test.YtdhmandnamajpaaGreatDoorY16
import Derived.Test.YtdhmandnamajpaaGreatDoorY09
import Derived.Test.YtdhmandnamajpaaGreatDoorY15
namespace Go.Proofs.YtdhmandnamajpaaGreatDoor
open Go.RowKit
theorem firstE_zero {E : Nat → Nat} {l : List Ins} {n : Nat} (h : (firstE E l n).1 = 0) : ∀ k, k < n → E k = 0 := by
 induction n with
 | zero => intro k hk; omega
 | succ n ih =>
  intro k hk
  simp only [firstE] at h
  by_cases h1 : (firstE E l n).1 ≠ 0
  ·rw [if_pos h1] at h; exact absurd h h1
  ·rw [if_neg h1] at h
   by_cases e : k = n
   ·subst e
    by_cases h2 : E k ≠ 0
    ·rw [if_pos h2] at h; exact h
    ·omega
   ·exact ih (by omega) k (by omega)
theorem firstE_le {E : Nat → Nat} {l : List Ins} {n B : Nat} (h : ∀ k, E k ≤ B) : (firstE E l n).1 ≤ B := by
 induction n with
 | zero => simp [firstE]
 | succ n ih =>
  simp only [firstE]
  split
  ·exact ih
  ·split
   ·exact h n
   ·exact Nat.zero_le _
theorem splitF_le (c : ByteArray) (f : Nat) : ∀ p, (splitF c f p).2.1 ≤ 20 := by
 induction f with
 | zero => intro p; simp [splitF]
 | succ f ih =>
  intro p
  rw [splitF_succ]
  split
  ·simp
  ·split
   ·show opE c p ≤ 20
    unfold opE
    split <;> (try split) <;> omega
   ·exact ih _
theorem splitF_len (c : ByteArray) (f : Nat) : ∀ p, (splitF c f p).1.length ≤ f := by
 induction f with
 | zero => intro p; simp [splitF]
 | succ f ih =>
  intro p
  rw [splitF_succ]
  split
  ·simp
  ·split
   ·simp
   ·have := ih (p + sizeI c p)
    simp only [List.length_cons]
    omega
theorem splitE_le (c : ByteArray) : (splitE c).1 ≤ 20 := splitF_le c c.size 0
theorem refE_le (S : List Sec) (l : List Ins) (x : Ins) : refE S l x ≤ 20 := by unfold refE; split <;> (try split) <;> omega
theorem aheadE_le (S : List Sec) (s : Sec) (l : List Ins) (i : Nat) (x : Ins) (o : Option (Int × Int)) : aheadE S s l i x o ≤ 20 := by
 unfold aheadE
 split
 ·omega
 ·split
  ·omega
  ·split
   ·omega
   ·split <;> omega
theorem passE_le (S : List Sec) (s : Sec) (l : List Ins) (i : Nat) (x : Ins) (hs : List (Option (Int × Int))) : passE S s l i x hs ≤ 20 := by
 unfold passE
 split
 ·exact aheadE_le _ _ _ _ _ _
 ·split <;> omega
theorem giveH_len {i : Nat} {g : Int × Int} : ∀ {js : List Nat} {hs hs' : List (Option (Int × Int))}, givesH i g hs js = some hs' → hs'.length = hs.length := by
 intro js
 induction js with
 | nil => intro hs hs' e; simp only [givesH] at e; injection e with e; subst e; rfl
 | cons j js ih =>
  intro hs hs' e
  simp only [givesH] at e
  cases h1 : giveH i g hs j with
  | none => rw [h1] at e; cases e
  | some h2 => rw [h1] at e; rw [ih e, giveH_length h1]
theorem hsAt_length (S : List Sec) (s : Sec) (l : List Ins) (k : Nat) : (hsAt S s l k).length = l.length := by
 induction k with
 | zero => simp [hsAt]
 | succ k ih =>
  simp only [hsAt]
  cases h : passH S s l k (l.getD k ins0) (hsAt S s l k) with
  | none => exact ih
  | some hs' =>
   unfold passH at h
   show hs'.length = l.length
   rw [giveH_len h, ih]
theorem small_hsAt {S : List Sec} {s : Sec} {l : List Ins} (hS : S.all secB = true) (hs : secB s = true) (hx : ∀ x ∈ l, (x.op = 2 ∨ x.n < 256) ∧ (namesB x = true → x.n < S.length)) (k : Nat) (hk : k ≤ l.length) : Small (9 + 300 * (k : Int)) (hsAt S s l k) := by
 induction k with
 | zero =>
  intro j o ho
  obtain ⟨d1, _⟩ := (secB_iff _).1 hs
  simp only [hsAt] at ho
  rcases getD_set _ _ _ _ _ ho with h | h | h
  ·injection h with h; subst h; simp only; omega
  ·simp only [List.getD, List.getElem?_replicate] at h
   split at h <;> simp at h
  ·cases h
 | succ k ih =>
  have ih' := ih (by omega)
  simp only [hsAt]
  cases h : passH S s l k (l.getD k ins0) (hsAt S s l k) with
  | none => exact ih'.mono (by omega)
  | some hs' =>
   show Small _ hs'
   have hm : l.getD k ins0 ∈ l := by
    have : l.getD k ins0 = l[k]'(by omega) := by simp [List.getD, show k < l.length by omega]
    rw [this]
    exact List.getElem_mem _
   obtain ⟨b1, b2⟩ := hx _ hm
   obtain ⟨t1, t2⟩ := takes_le hS hs b1 b2
   obtain ⟨r1, r2⟩ := brings_le hS b1 b2
   unfold passH at h
   refine Small.gives ?_ (ih'.mono (by omega)) h
   cases ho : (hsAt S s l k).getD k none with
   | none => simp only [afterI, Option.getD_none]; omega
   | some o =>
    have := ih' k o ho
    simp only [afterI, Option.getD_some]
    omega
end Go.Proofs.YtdhmandnamajpaaGreatDoor
namespace Go.Proofs.YtdhmandnamajpaaGreatDoor
open Go.RowKit Go.Joins
set_option maxHeartbeats 4000000
set_option maxRecDepth 100000
def loN (o : Option (Int × Int)) : Int := (o.map Prod.fst).getD (-1)
def hiN (o : Option (Int × Int)) : Int := (o.map Prod.snd).getD (-1)
def loV (hs : List (Option (Int × Int))) : Array Value := (hs.map (fun o => Value.int .i64 (loN o))).toArray
def hiV (hs : List (Option (Int × Int))) : Array Value := (hs.map (fun o => Value.int .i64 (hiN o))).toArray
structure HR (w : World) (P A C : Nat) (hs : List (Option (Int × Int))) : Prop where
 blk : w.heap[P]? = some (.cells #[.slice (some ⟨A, 0, none⟩) hs.length hs.length, .slice (some ⟨C, 0, none⟩) hs.length hs.length] 154 (0, 0))
 lo : w.heap[A]? = some (.cells (loV hs) 3 (0, 0))
 hi : w.heap[C]? = some (.cells (hiV hs) 3 (0, 0))
 ne : A ≠ C ∧ P ≠ A ∧ P ≠ C
theorem HR.below {w w' : World} {P A C : Nat} {hs : List (Option (Int × Int))} (h : HR w P A C hs) (hb : Below w.heap.size w w') : HR w' P A C hs := ⟨keepB hb h.blk, keepB hb h.lo, keepB hb h.hi, h.ne⟩
theorem HR.cells {w : World} {P A C : Nat} {hs : List (Option (Int × Int))} (h : HR w P A C hs) (j : Nat) (hj : j < hs.length) :
  w.cell? ⟨A, j, none⟩ = some (.int .i64 (loN (hs.getD j none))) ∧ w.cell? ⟨C, j, none⟩ = some (.int .i64 (hiN (hs.getD j none))) := by
 constructor
 ·rw [cell_of_block h.lo]; simp [loV, hj, List.getD]
 ·rw [cell_of_block h.hi]; simp [hiV, hj, List.getD]
theorem HR.head {w : World} {P A C : Nat} {hs : List (Option (Int × Int))} (h : HR w P A C hs) :
  w.cell? ⟨P, 0, none⟩ = some (.slice (some ⟨A, 0, none⟩) hs.length hs.length) ∧ w.cell? ⟨P, 1, none⟩ = some (.slice (some ⟨C, 0, none⟩) hs.length hs.length) := by
 constructor <;> (rw [cell_of_block h.blk]; rfl)
theorem HR.lts {w : World} {P A C : Nat} {hs : List (Option (Int × Int))} (h : HR w P A C hs) : P < w.heap.size ∧ A < w.heap.size ∧ C < w.heap.size := ⟨blt h.blk, blt h.lo, blt h.hi⟩
theorem HR.froz {w : World} {P A C : Nat} {hs : List (Option (Int × Int))} (h : HR w P A C hs) (j : Nat) : w.frozen? ⟨A, j, none⟩ = false ∧ w.frozen? ⟨C, j, none⟩ = false := ⟨unfrozen_of_block h.lo j, unfrozen_of_block h.hi j⟩
theorem HR.set {w : World} {P A C : Nat} {hs : List (Option (Int × Int))} (h : HR w P A C hs) (j : Nat) (lo hi : Int) :
  HR ((w.setCell ⟨A, j, none⟩ (.int .i64 lo)).setCell ⟨C, j, none⟩ (.int .i64 hi)) P A C (hs.set j (some (lo, hi))) where
 blk := by
  rw [List.length_set]
  exact (Below.heap_setCell _ _ _ _ h.ne.2.2).trans ((Below.heap_setCell _ _ _ _ h.ne.2.1).trans h.blk)
 lo := by
  have e : (loV hs).setIfInBounds j (.int .i64 lo) = loV (hs.set j (some (lo, hi))) := by simp [loV, List.map_set, loN]
  rw [← e]
  exact (Below.heap_setCell _ _ _ _ h.ne.1).trans (block_setCell h.lo _)
 hi := by
  have e : (hiV hs).setIfInBounds j (.int .i64 hi) = hiV (hs.set j (some (lo, hi))) := by simp [hiV, List.map_set, hiN]
  rw [← e]
  exact block_setCell ((Below.heap_setCell _ _ _ _ (Ne.symm h.ne.1)).trans h.hi) _
 ne := h.ne
def TosB (w : World) (B : Nat) (ta : Option Addr) (to : List Int) : Prop := to = [] ∨ ∃ q, ta = some ⟨q, 0, none⟩ ∧ q < B ∧ ∀ j t, to[j]? = some t → w.cell? ⟨q, j, none⟩ = some (.int .i64 t)
structure RIns (w : World) (B g : Nat) (l : List Ins) : Prop where
 lt : g < B
 le : B ≤ w.heap.size
 cells : ∀ k x, l[k]? = some x → w.cell? ⟨g, k * 5, none⟩ = some (.int .i64 x.pl) ∧ w.cell? ⟨g, k * 5 + 1, none⟩ = some (.int .i64 x.op) ∧ (∃ N, w.cell? ⟨g, k * 5 + 2, none⟩ = some (.int .i64 N) ∧ numsAs x N) ∧
  (∃ ta tc, w.cell? ⟨g, k * 5 + 3, none⟩ = some (.slice ta x.to.length tc) ∧ TosB w B ta x.to) ∧ w.cell? ⟨g, k * 5 + 4, none⟩ = some (.int .i64 x.nx)
theorem TosB.below {w w' : World} {B : Nat} {ta : Option Addr} {to : List Int} (h : TosB w B ta to) (hb : Below B w w') : TosB w' B ta to := by
 rcases h with h | ⟨q, e, hq, hc⟩
 ·exact .inl h
 ·exact .inr ⟨q, e, hq, fun j t hj => ((bcell hb).1 _ _ hq).trans (hc j t hj)⟩
theorem TosB.at0 {w : World} {B : Nat} {ta : Option Addr} {to : List Int} {tc : Nat} (h : TosB w B ta to) (hB : B ≤ w.heap.size) (hn : to = [] → ta = none ∧ tc = 0) : TosAt0 w w.heap.size (.slice ta to.length tc) to := by
 rcases h with h | ⟨q, e, hq, hc⟩
 ·obtain ⟨rfl, rfl⟩ := hn h
  subst h
  exact .inl ⟨rfl, rfl⟩
 ·subst e
  exact .inr ⟨q, tc, rfl, by omega, by omega, hc⟩
theorem RIns.below {w w' : World} {B g : Nat} {l : List Ins} (h : RIns w B g l) (hb : Below B w w') : RIns w' B g l where
 lt := h.lt
 le := Nat.le_trans h.le (by have := hb.size; omega)
 cells := fun k x hk => by
  obtain ⟨a, b, ⟨N, c, c'⟩, ⟨ta, tc, d, d'⟩, e⟩ := h.cells k x hk
  obtain ⟨hc, _⟩ := bcell hb
  exact ⟨(hc _ _ h.lt).trans a, (hc _ _ h.lt).trans b, ⟨N, (hc _ _ h.lt).trans c, c'⟩, ⟨ta, tc, (hc _ _ h.lt).trans d, d'.below hb⟩, (hc _ _ h.lt).trans e⟩
theorem RIns.places {w : World} {B g : Nat} {l : List Ins} (h : RIns w B g l) : ∀ k (hk : k < l.length), w.cell? ⟨g, k * 5, none⟩ = some (.int .i64 l[k].pl) := fun k hk => (h.cells k l[k] (by simp [hk])).1
def NNeg (hs : List (Option (Int × Int))) : Prop := ∀ j o, hs.getD j none = some o → 0 ≤ o.1
theorem NNeg.give {hs hs' : List (Option (Int × Int))} {i j : Nat} {g : Int × Int} (h : NNeg hs) (hg : 0 ≤ g.1) (e : giveH i g hs j = some hs') : NNeg hs' := by
 unfold giveH at e
 split at e
 ·split at e
  ·injection e with e; subst e; exact h
  ·cases e
 ·injection e with e
  subst e
  intro k o hk
  rcases getD_set _ _ _ _ _ hk with h1 | h1 | h1
  ·injection h1 with h1
   subst h1
   cases ho : hs.getD j none with
   | none => exact hg
   | some u => have := h j u ho; simp only [mergeH]; omega
  ·exact h k o h1.symm
  ·cases h1
theorem loN_neg {hs : List (Option (Int × Int))} (h : NNeg hs) (j : Nat) : loN (hs.getD j none) < 0 ↔ hs.getD j none = none := by
 cases ho : hs.getD j none with
 | none => simp [loN]
 | some o => have := h j o ho; simp [loN]; omega
end Go.Proofs.YtdhmandnamajpaaGreatDoor
