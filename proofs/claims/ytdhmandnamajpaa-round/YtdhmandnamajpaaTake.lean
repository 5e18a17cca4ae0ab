/-
  The reader: take.
-/
import Derived.Test.YtdhmandnamajpaaPSpec
import Derived.Test.YtdhmandnamajpaaSmall
import Derived.Lib.SmallJoins
namespace Go.Proofs.Ytdhmandnamajpaa
open Go.RowKit Go.Joins

/-- A reader at block r: what is left of b from p on; its error. -/
def RdAt (w : World) (r : Nat) (b : ByteArray) (p : Nat) (e : Int) : Prop :=
  w.heap[r]? = some (.cells #[.string (b.extract p b.size), .int .i64 e] 46 (0, 0))

theorem RdAt.facts {w : World} {r : Nat} {b : ByteArray} {p : Nat} {e : Int} (h : RdAt w r b p e) :
    w.cell? ⟨r, 0, none⟩ = some (.string (b.extract p b.size)) ∧ w.cell? ⟨r, 1, none⟩ = some (.int .i64 e) ∧ w.frozen? ⟨r, 0, none⟩ = false ∧ w.frozen? ⟨r, 1, none⟩ = false ∧ r < w.heap.size := by
  refine ⟨by rw [cell_of_block h]; rfl, by rw [cell_of_block h]; rfl, unfrozen_of_block h 0, unfrozen_of_block h 1, ?_⟩
  rcases Nat.lt_or_ge r w.heap.size with hlt | hge
  · exact hlt
  · unfold RdAt at h; rw [Array.getElem?_eq_none hge] at h; cases h

theorem grown_refl (w : World) (row : Option Nat) : w.grownBy w row := ⟨rfl, rfl, rfl, Nat.le_refl _, fun _ _ _ => rfl⟩
theorem grown_set (w : World) (r i : Nat) (v : Value) : w.grownBy (w.setCell ⟨r, i, none⟩ v) (some r) where
  os := rfl
  tape := rfl
  output := rfl
  size := by simp [World.setCell]
  block := fun k _ hne => Below.heap_setCell _ _ _ _ (fun e => hne (by rw [e]))
theorem grown_trans {a b c : World} {row : Option Nat} (h : a.grownBy b row) (k : b.grownBy c row) : a.grownBy c row where
  os := k.os.trans h.os
  tape := k.tape.trans h.tape
  output := k.output.trans h.output
  size := Nat.le_trans h.size k.size
  block := fun i hi hne => (k.block i (Nat.lt_of_lt_of_le hi h.size) hne).trans (h.block i hi hne)

theorem rd_set0 {w : World} {r : Nat} {b : ByteArray} {p : Nat} {e : Int} (h : RdAt w r b p e) (q : Nat) : RdAt (w.setCell ⟨r, 0, none⟩ (.string (b.extract q b.size))) r b q e := block_setCell h _
theorem rd_set1 {w : World} {r : Nat} {b : ByteArray} {p : Nat} {e : Int} (h : RdAt w r b p e) (e' : Int) : RdAt (w.setCell ⟨r, 1, none⟩ (.int .i64 e')) r b p e' := block_setCell h _

set_option maxHeartbeats 400000

/-- Behind an error nothing is taken. -/
theorem take_err (b : ByteArray) (r p k : Nat) (e : Int) (w : World) (h : RdAt w r b p e) (he : (e == 0) = false) :
    Calls Try.prog 31 #[.pointer (some ⟨r, 0, none⟩), .int .i64 k] w fun x w' => x = .returned (.string ByteArray.empty) ∧ w' = w := by
  obtain ⟨c0, c1, f0, f1, hr⟩ := h.facts
  clear h
  go_enter Try.func31, Try.ntmps31
  go_wp2
  go_ret
  exact ⟨rfl, rfl⟩

theorem take_short (b : ByteArray) (r p k : Nat) (w : World) (h : RdAt w r b p 0) (hp : p ≤ b.size) (hs : b.size < p + k) :
    Calls Try.prog 31 #[.pointer (some ⟨r, 0, none⟩), .int .i64 k] w fun x w' => x = .returned (.string ByteArray.empty) ∧ RdAt w' r b p 2 ∧ w.grownBy w' (some r) := by
  obtain ⟨c0, c1, f0, f1, hr⟩ := h.facts
  have HR : Hid (RdAt w r b p 0) := h
  have hsz := ext_size b p
  clear h
  go_enter Try.func31, Try.ntmps31
  go_wp2
  go_ret
  exact ⟨rfl, rd_set1 HR.out 2, grown_set _ _ _ _⟩

theorem take_ok (b : ByteArray) (r p k : Nat) (w : World) (h : RdAt w r b p 0) (hk : k ≤ 70000) (hs : p + k ≤ b.size) :
    Calls Try.prog 31 #[.pointer (some ⟨r, 0, none⟩), .int .i64 k] w fun x w' => x = .returned (.string (b.extract p (p + k))) ∧ RdAt w' r b (p + k) 0 ∧ w.grownBy w' (some r) := by
  obtain ⟨c0, c1, f0, f1, hr⟩ := h.facts
  have HR : Hid (RdAt w r b p 0) := h
  have hsz := ext_size b p
  have e1 := ext_ext b p 0 k hs
  have e2 := ext_ext b p k (b.size - p) (by omega)
  rw [show p + (b.size - p) = b.size by omega] at e2
  simp only [Nat.add_zero] at e1
  clear h
  go_enter Try.func31, Try.ntmps31
  go_wp2
  go_ret
  exact ⟨rfl, rd_set0 HR.out _, grown_set _ _ _ _⟩
end Go.Proofs.Ytdhmandnamajpaa
