/-
  The reference: pass.
-/
import Derived.Test.YtdhmandnamajpaaDoorRefAll
import Derived.Test.YtdhmandnamajpaaDoorRefD
import Derived.Test.YtdhmandnamajpaaDoorCBound
namespace Go.Proofs.YtdhmandnamajpaaDoor
open Go.RowKit Go.Joins

set_option maxHeartbeats 4000000
set_option maxRecDepth 100000

/-- The heights as the reference has them: -1: none yet. -/
def loN (o : Option (Int × Int)) : Int := (o.map Prod.fst).getD (-1)
def hiN (o : Option (Int × Int)) : Int := (o.map Prod.snd).getD (-1)
def loV (hs : List (Option (Int × Int))) : Array Value := (hs.map (fun o => Value.int .i64 (loN o))).toArray
def hiV (hs : List (Option (Int × Int))) : Array Value := (hs.map (fun o => Value.int .i64 (hiN o))).toArray
structure HR (w : World) (P A C : Nat) (hs : List (Option (Int × Int))) : Prop where
  blk : w.heap[P]? = some (.cells #[.slice (some ⟨A, 0, none⟩) hs.length hs.length, .slice (some ⟨C, 0, none⟩) hs.length hs.length] 82 (0, 0))
  lo : w.heap[A]? = some (.cells (loV hs) 3 (0, 0))
  hi : w.heap[C]? = some (.cells (hiV hs) 3 (0, 0))
  ne : A ≠ C ∧ P ≠ A ∧ P ≠ C
theorem HR.below {w w' : World} {P A C : Nat} {hs : List (Option (Int × Int))} (h : HR w P A C hs) (hb : Below w.heap.size w w') : HR w' P A C hs := ⟨keepB hb h.blk, keepB hb h.lo, keepB hb h.hi, h.ne⟩
theorem HR.cells {w : World} {P A C : Nat} {hs : List (Option (Int × Int))} (h : HR w P A C hs) (j : Nat) (hj : j < hs.length) :
    w.cell? ⟨A, j, none⟩ = some (.int .i64 (loN (hs.getD j none))) ∧ w.cell? ⟨C, j, none⟩ = some (.int .i64 (hiN (hs.getD j none))) := by
  constructor
  · rw [cell_of_block h.lo]; simp [loV, hj, List.getD]
  · rw [cell_of_block h.hi]; simp [hiV, hj, List.getD]
theorem HR.head {w : World} {P A C : Nat} {hs : List (Option (Int × Int))} (h : HR w P A C hs) :
    w.cell? ⟨P, 0, none⟩ = some (.slice (some ⟨A, 0, none⟩) hs.length hs.length) ∧ w.cell? ⟨P, 1, none⟩ = some (.slice (some ⟨C, 0, none⟩) hs.length hs.length) := by
  constructor <;> (rw [cell_of_block h.blk]; rfl)
theorem HR.lts {w : World} {P A C : Nat} {hs : List (Option (Int × Int))} (h : HR w P A C hs) : P < w.heap.size ∧ A < w.heap.size ∧ C < w.heap.size := ⟨blt h.blk, blt h.lo, blt h.hi⟩
theorem HR.froz {w : World} {P A C : Nat} {hs : List (Option (Int × Int))} (h : HR w P A C hs) (j : Nat) : w.frozen? ⟨A, j, none⟩ = false ∧ w.frozen? ⟨C, j, none⟩ = false := ⟨unfrozen_of_block h.lo j, unfrozen_of_block h.hi j⟩
theorem HR.set {w : World} {P A C : Nat} {hs : List (Option (Int × Int))} (h : HR w P A C hs) (j : Nat) (lo hi : Int) :
    HR ((w.setCell ⟨A, j, none⟩ (.int .i64 lo)).setCell ⟨C, j, none⟩ (.int .i64 hi)) P A C (hs.set j (some (lo, hi))) where
  blk := by
    rw [List.length_set]
    exact (Below.heap_setCell _ _ _ _ h.ne.2.2).trans ((Below.heap_setCell _ _ _ _ h.ne.2.1).trans h.blk)
  lo := by
    have e : (loV hs).setIfInBounds j (.int .i64 lo) = loV (hs.set j (some (lo, hi))) := by simp [loV, List.map_set, loN]
    rw [← e]
    exact (Below.heap_setCell _ _ _ _ h.ne.1).trans (block_setCell h.lo _)
  hi := by
    have e : (hiV hs).setIfInBounds j (.int .i64 hi) = hiV (hs.set j (some (lo, hi))) := by simp [hiV, List.map_set, hiN]
    rw [← e]
    exact block_setCell ((Below.heap_setCell _ _ _ _ (Ne.symm h.ne.1)).trans h.hi) _
  ne := h.ne

/-- The instructions as the reference has them, all below B. -/
def TosB (w : World) (B : Nat) (ta : Option Addr) (to : List Int) : Prop := to = [] ∨ ∃ q, ta = some ⟨q, 0, none⟩ ∧ q < B ∧ ∀ j t, to[j]? = some t → w.cell? ⟨q, j, none⟩ = some (.int .i64 t)
structure RIns (w : World) (B g : Nat) (l : List Ins) : Prop where
  lt : g < B
  le : B ≤ w.heap.size
  cells : ∀ k x, l[k]? = some x → w.cell? ⟨g, k * 5, none⟩ = some (.int .i64 x.pl) ∧ w.cell? ⟨g, k * 5 + 1, none⟩ = some (.int .i64 x.op) ∧ (∃ N, w.cell? ⟨g, k * 5 + 2, none⟩ = some (.int .i64 N) ∧ numsAs x N) ∧
    (∃ ta tc, w.cell? ⟨g, k * 5 + 3, none⟩ = some (.slice ta x.to.length tc) ∧ TosB w B ta x.to) ∧ w.cell? ⟨g, k * 5 + 4, none⟩ = some (.int .i64 x.nx)
theorem TosB.below {w w' : World} {B : Nat} {ta : Option Addr} {to : List Int} (h : TosB w B ta to) (hb : Below B w w') : TosB w' B ta to := by
  rcases h with h | ⟨q, e, hq, hc⟩
  · exact .inl h
  · exact .inr ⟨q, e, hq, fun j t hj => ((bcell hb).1 _ _ hq).trans (hc j t hj)⟩
theorem TosB.at0 {w : World} {B : Nat} {ta : Option Addr} {to : List Int} {tc : Nat} (h : TosB w B ta to) (hB : B ≤ w.heap.size) (hn : to = [] → ta = none ∧ tc = 0) : TosAt0 w w.heap.size (.slice ta to.length tc) to := by
  rcases h with h | ⟨q, e, hq, hc⟩
  · obtain ⟨rfl, rfl⟩ := hn h
    subst h
    exact .inl ⟨rfl, rfl⟩
  · subst e
    exact .inr ⟨q, tc, rfl, by omega, by omega, hc⟩
theorem RIns.below {w w' : World} {B g : Nat} {l : List Ins} (h : RIns w B g l) (hb : Below B w w') : RIns w' B g l where
  lt := h.lt
  le := Nat.le_trans h.le (by have := hb.size; omega)
  cells := fun k x hk => by
    obtain ⟨a, b, ⟨N, c, c'⟩, ⟨ta, tc, d, d'⟩, e⟩ := h.cells k x hk
    obtain ⟨hc, _⟩ := bcell hb
    exact ⟨(hc _ _ h.lt).trans a, (hc _ _ h.lt).trans b, ⟨N, (hc _ _ h.lt).trans c, c'⟩, ⟨ta, tc, (hc _ _ h.lt).trans d, d'.below hb⟩, (hc _ _ h.lt).trans e⟩
theorem RIns.places {w : World} {B g : Nat} {l : List Ins} (h : RIns w B g l) : ∀ k (hk : k < l.length), w.cell? ⟨g, k * 5, none⟩ = some (.int .i64 l[k].pl) := fun k hk => (h.cells k l[k] (by simp [hk])).1

/-- Heights that were got are not below 0. -/
def NNeg (hs : List (Option (Int × Int))) : Prop := ∀ j o, hs.getD j none = some o → 0 ≤ o.1
theorem NNeg.give {hs hs' : List (Option (Int × Int))} {i j : Nat} {g : Int × Int} (h : NNeg hs) (hg : 0 ≤ g.1) (e : giveH i g hs j = some hs') : NNeg hs' := by
  unfold giveH at e
  split at e
  · split at e
    · injection e with e; subst e; exact h
    · cases e
  · injection e with e
    subst e
    intro k o hk
    rcases getD_set _ _ _ _ _ hk with h1 | h1 | h1
    · injection h1 with h1
      subst h1
      cases ho : hs.getD j none with
      | none => exact hg
      | some u => have := h j u ho; simp only [mergeH]; omega
    · exact h k o h1.symm
    · cases h1
theorem loN_neg {hs : List (Option (Int × Int))} (h : NNeg hs) (j : Nat) : loN (hs.getD j none) < 0 ↔ hs.getD j none = none := by
  cases ho : hs.getD j none with
  | none => simp [loN]
  | some o => have := h j o ho; simp [loN]; omega
theorem jV (js : List Nat) : iV (js.map (fun j => ((j : Nat) : Int))) = js.map (fun j => Value.int .i64 (j : Nat)) := by simp [iV]

theorem givesH_app_none {i : Nat} {g : Int × Int} : ∀ {js r : List Nat} {hs : List (Option (Int × Int))}, givesH i g hs js = none → givesH i g hs (js ++ r) = none := by
  intro js
  induction js with
  | nil => intro r hs e; simp [givesH] at e
  | cons k js ih =>
    intro r hs e
    simp only [List.cons_append, givesH] at e ⊢
    cases h1 : giveH i g hs k with
    | none => rfl
    | some h2 => rw [h1] at e; exact ih e
end Go.Proofs.YtdhmandnamajpaaDoor
