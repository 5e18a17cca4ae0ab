/-
  Read's own memory.
-/
import Derived.Test.YtdhmandnamajpaaHead2
namespace Go.Proofs.Ytdhmandnamajpaa
open Go.RowKit Go.Joins

structure Mem (w : World) (A H n : Nat) (cs ls : Array Value) (d : ByteArray) : Prop where
  res : w.heap[A]? = some (.cells #[.slice none 0 0, .string ⟨#[]⟩] 24 (0, 0))
  secs : w.heap[H]? = some (.cells cs 36 (0, 0))
  ssize : cs.size = n * 4
  cont : w.heap[H + 1]? = some (.cells #[.slice (some ⟨H, 0, none⟩) n n, .string d] 24 (0, 0))
  lens : w.heap[H + 1 + 1]? = some (.cells ls 48 (0, 0))
  lsize : ls.size = 6
  lnat : ∀ i, i < 6 → ∃ m : Nat, ls[i]? = some (.int .i64 m)

theorem lt_of_some {w : World} {k : Nat} {o : Obj} (h : w.heap[k]? = some o) : k < w.heap.size := by
  rcases Nat.lt_or_ge k w.heap.size with hlt | hge
  · exact hlt
  · rw [Array.getElem?_eq_none hge] at h; cases h

theorem keep_block {w w' : World} {r k : Nat} {o : Obj} (h : w.heap[k]? = some o) (hg : w.grownBy w' (some r)) (hne : k ≠ r) : w'.heap[k]? = some o := by
  rw [hg.block k (lt_of_some h) (fun e => hne (Option.some.inj e))]
  exact h

theorem Mem.grown {w w' : World} {A H n r : Nat} {cs ls : Array Value} {d : ByteArray} (h : Mem w A H n cs ls d) (hg : w.grownBy w' (some r)) (h1 : A ≠ r) (h2 : r < H) : Mem w' A H n cs ls d :=
  ⟨keep_block h.res hg h1, keep_block h.secs hg (by omega), h.ssize, keep_block h.cont hg (by omega), keep_block h.lens hg (by omega), h.lsize, h.lnat⟩
theorem Mem.drew {w : World} {A H n : Nat} {cs ls : Array Value} {d : ByteArray} (h : Mem w A H n cs ls d) : Mem w.drew A H n cs ls d := ⟨h.res, h.secs, h.ssize, h.cont, h.lens, h.lsize, h.lnat⟩
theorem Mem.drewN {w : World} {A H n q : Nat} {cs ls : Array Value} {d : ByteArray} (h : Mem w A H n cs ls d) : Mem (w.drewN q) A H n cs ls d := ⟨h.res, h.secs, h.ssize, h.cont, h.lens, h.lsize, h.lnat⟩
theorem Mem.setSec {w : World} {A H n : Nat} {cs ls : Array Value} {d : ByteArray} (h : Mem w A H n cs ls d) (hA : A < H) (i : Nat) (v : Value) : Mem (w.setCell ⟨H, i, none⟩ v) A H n (cs.setIfInBounds i v) ls d :=
  ⟨by rw [Below.heap_setCell _ _ _ _ (by show A ≠ H; omega)]; exact h.res, block_setCell h.secs v, by simp [h.ssize], by rw [Below.heap_setCell _ _ _ _ (by show H + 1 ≠ H; omega)]; exact h.cont, by rw [Below.heap_setCell _ _ _ _ (by show H + 1 + 1 ≠ H; omega)]; exact h.lens, h.lsize, h.lnat⟩
theorem Mem.setLen {w : World} {A H n : Nat} {cs ls : Array Value} {d : ByteArray} (h : Mem w A H n cs ls d) (hA : A < H) (i m : Nat) : Mem (w.setCell ⟨H + 1 + 1, i, none⟩ (.int .i64 m)) A H n cs (ls.setIfInBounds i (.int .i64 m)) d :=
  ⟨by rw [Below.heap_setCell _ _ _ _ (by show A ≠ H + 1 + 1; omega)]; exact h.res, by rw [Below.heap_setCell _ _ _ _ (by show H ≠ H + 1 + 1; omega)]; exact h.secs, h.ssize, by rw [Below.heap_setCell _ _ _ _ (by show H + 1 ≠ H + 1 + 1; omega)]; exact h.cont, block_setCell h.lens _, by simp [h.lsize], fun j hj => by
    by_cases e : i = j
    · subst e; exact ⟨m, by rw [Array.getElem?_setIfInBounds_self_of_lt (by rw [h.lsize]; exact hj)]⟩
    · rw [Array.getElem?_setIfInBounds_ne e]; exact h.lnat j hj⟩
theorem Mem.setDat {w : World} {A H n : Nat} {cs ls : Array Value} {d : ByteArray} (h : Mem w A H n cs ls d) (hA : A < H) (t : ByteArray) : Mem (w.setCell ⟨H + 1, 1, none⟩ (.string t)) A H n cs ls t :=
  ⟨by rw [Below.heap_setCell _ _ _ _ (by show A ≠ H + 1; omega)]; exact h.res, by rw [Below.heap_setCell _ _ _ _ (by show H ≠ H + 1; omega)]; exact h.secs, h.ssize, block_setCell h.cont _, by rw [Below.heap_setCell _ _ _ _ (by show H + 1 + 1 ≠ H + 1; omega)]; exact h.lens, h.lsize, h.lnat⟩

theorem Mem.old {w : World} {A H n : Nat} {cs ls : Array Value} {d : ByteArray} (h : Mem w A H n cs ls d) (i : Nat) (hi : i < n * 4) : ∃ v, w.cell? ⟨H, i, none⟩ = some v := by
  rw [cell_of_block h.secs]
  exact ⟨_, Array.getElem?_eq_getElem (by rw [h.ssize]; exact hi)⟩
theorem Mem.oldLen {w : World} {A H n : Nat} {cs ls : Array Value} {d : ByteArray} (h : Mem w A H n cs ls d) (i : Nat) (hi : i < 6) : ∃ v, w.cell? ⟨H + 1 + 1, i, none⟩ = some v := by
  rw [cell_of_block h.lens]
  exact ⟨_, Array.getElem?_eq_getElem (by rw [h.lsize]; exact hi)⟩

/-- The heads that have been read; the lengths; the codes. -/
def SecDone (b : ByteArray) (cs : Array Value) (k : Nat) : Prop := ∀ i, i < k → cs[i * 4]? = some (.int .i64 (hsec b i).i) ∧ cs[i * 4 + 1]? = some (.int .i64 (hsec b i).o) ∧ cs[i * 4 + 2]? = some (.int .i64 (hsec b i).m)
def LenDone (b : ByteArray) (ls : Array Value) (k : Nat) : Prop := ∀ i, i < k → ls[i]? = some (.int .i64 (clen b i))
def CodeDone (b : ByteArray) (n : Nat) (cs : Array Value) (k : Nat) : Prop := ∀ i, i < k → cs[i * 4 + 3]? = some (.string (psec b n i).code)

theorem SecDone.step {b : ByteArray} {cs : Array Value} {k n : Nat} (h : SecDone b cs k) (hs : cs.size = n * 4) (hk : k < n) (v : Value) :
    SecDone b ((((cs.setIfInBounds (k * 4) (.int .i64 (num1 b (3 + 5 * k) : Nat))).setIfInBounds (k * 4 + 1) (.int .i64 (num1 b (3 + 5 * k + 1) : Nat))).setIfInBounds (k * 4 + 2) (.int .i64 (num1 b (3 + 5 * k + 2) : Nat))).setIfInBounds (k * 4 + 3) v) (k + 1) := by
  intro i hi
  by_cases e : i = k
  · subst e
    refine ⟨?_, ?_, ?_⟩
    · rw [Array.getElem?_setIfInBounds_ne (by omega), Array.getElem?_setIfInBounds_ne (by omega), Array.getElem?_setIfInBounds_ne (by omega), Array.getElem?_setIfInBounds_self_of_lt (by omega)]; rfl
    · rw [Array.getElem?_setIfInBounds_ne (by omega), Array.getElem?_setIfInBounds_ne (by omega), Array.getElem?_setIfInBounds_self_of_lt (by simp; omega)]; rfl
    · rw [Array.getElem?_setIfInBounds_ne (by omega), Array.getElem?_setIfInBounds_self_of_lt (by simp; omega)]; rfl
  · obtain ⟨h0, h1, h2⟩ := h i (by omega)
    refine ⟨?_, ?_, ?_⟩
    · rw [Array.getElem?_setIfInBounds_ne (by omega), Array.getElem?_setIfInBounds_ne (by omega), Array.getElem?_setIfInBounds_ne (by omega), Array.getElem?_setIfInBounds_ne (by omega)]; exact h0
    · rw [Array.getElem?_setIfInBounds_ne (by omega), Array.getElem?_setIfInBounds_ne (by omega), Array.getElem?_setIfInBounds_ne (by omega), Array.getElem?_setIfInBounds_ne (by omega)]; exact h1
    · rw [Array.getElem?_setIfInBounds_ne (by omega), Array.getElem?_setIfInBounds_ne (by omega), Array.getElem?_setIfInBounds_ne (by omega), Array.getElem?_setIfInBounds_ne (by omega)]; exact h2
theorem LenDone.step {b : ByteArray} {ls : Array Value} {k : Nat} (h : LenDone b ls k) (hs : ls.size = 6) (hk : k < 6) : LenDone b (ls.setIfInBounds k (.int .i64 (clen b k : Nat))) (k + 1) := by
  intro i hi
  by_cases e : i = k
  · subst e; rw [Array.getElem?_setIfInBounds_self_of_lt (by omega)]
  · rw [Array.getElem?_setIfInBounds_ne (by omega)]; exact h i (by omega)
theorem SecDone.code {b : ByteArray} {cs : Array Value} {k : Nat} (h : SecDone b cs k) (j : Nat) (v : Value) : SecDone b (cs.setIfInBounds (j * 4 + 3) v) k := by
  intro i hi
  obtain ⟨h0, h1, h2⟩ := h i hi
  exact ⟨by rw [Array.getElem?_setIfInBounds_ne (by omega)]; exact h0, by rw [Array.getElem?_setIfInBounds_ne (by omega)]; exact h1, by rw [Array.getElem?_setIfInBounds_ne (by omega)]; exact h2⟩
theorem CodeDone.step {b : ByteArray} {cs : Array Value} {k n : Nat} (h : CodeDone b n cs k) (hs : n * 4 ≤ cs.size) (hk : k < n) : CodeDone b n (cs.setIfInBounds (k * 4 + 3) (.string (psec b n k).code)) (k + 1) := by
  intro i hi
  by_cases e : i = k
  · subst e; rw [Array.getElem?_setIfInBounds_self_of_lt (by omega)]
  · rw [Array.getElem?_setIfInBounds_ne (by omega)]; exact h i (by omega)

/-- All read: the sections lie there. -/
theorem secs_at {w : World} {H n : Nat} {cs : Array Value} {b : ByteArray} (h : w.heap[H]? = some (.cells cs 36 (0, 0))) (hs : SecDone b cs n) (hc : CodeDone b n cs n) : SecsAt w H 0 (psecs b n) := by
  refine ⟨lt_of_some h, fun k s hk => ?_⟩
  have hkn : k < n := by
    have := (List.getElem?_eq_some_iff.1 hk).1
    simpa [psecs] using this
  have : s = psec b n k := by
    simp [psecs, hkn] at hk
    exact hk.symm
  subst this
  obtain ⟨h0, h1, h2⟩ := hs k hkn
  have h3 := hc k hkn
  simp only [Nat.zero_add]
  exact ⟨by rw [cell_of_block h]; exact h0, by rw [cell_of_block h]; exact h1, by rw [cell_of_block h]; exact h2, by rw [cell_of_block h]; exact h3⟩
theorem Kept.below {B B' r : Nat} {w w' : World} (h : Kept B r w w') (h1 : B' ≤ B) (h2 : B' ≤ r) : Below B' w w' := ⟨h.os, h.tape, h.output, h.size, fun k hk => h.block k (by omega) (by omega)⟩
theorem psecs_length (b : ByteArray) (n : Nat) : (psecs b n).length = n := by simp [psecs]
end Go.Proofs.Ytdhmandnamajpaa
