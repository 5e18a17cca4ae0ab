/-
  strings.Clone: the same bytes; nothing that was there has turned.
-/
import Derived.Test.YtakjcpkehmjgpaaNumber
import Derived.Lib.BufferWrite
import Derived.Lib.UnsafeStr
import Derived.Laws.MakeOwn
namespace Go.Proofs.Ytakjcpkehmjgpaa
open Go.RowKit

theorem Try.infoByte : (Try.prog.info? 5).map (fun i => (i.zero, i.size, i.bytes)) = some (some (.int .u8 0), 1, 1) := by kernel_rfl
theorem Try.cellsByte : Try.prog.cellsOf 5 = 1 := by kernel_rfl

/-- A string's bytes fill a row of as many cells: what the row holds behind the copy. -/
theorem filled (s : ByteArray) (M : Array Value) (hM : M.size = s.size) : (M.toList.take 0 ++ Lib.byteCells s.data.toList ++ M.toList.drop (0 + s.size)).toArray = (Lib.byteCells s.data.toList).toArray := by
  have : M.toList.drop (0 + s.size) = [] := List.drop_eq_nil_iff.2 (by simp [hM])
  rw [this]
  simp
theorem filled_size (s : ByteArray) : (Lib.byteCells s.data.toList).toArray.size = s.size := by rw [List.size_toArray, Lib.byteCells_length]; simp

/-- The three operations of the copy, each as it runs: a row M is made, it is filled, its bytes are the string. -/
theorem clone_ops (s : ByteArray) (w : World) (hs : 0 < s.size) (hl : s.size ≤ 70000) :
    ∃ M : Array Value,
      (∀ W : World, (Instr.makeSlice 42 (.int .i64 (s.size : Int)) (.int .i64 (s.size : Int))).run Try.prog W = .ok (.slice (some ⟨W.heap.size, 0, none⟩) s.size s.size) (W.alloc (.cells M 5))) ∧
      (Builtin.copy_ #[42, 9] 3 #[.slice (some ⟨w.heap.size, 0, none⟩) s.size s.size, .string s]).run Try.prog (w.alloc (.cells M 5)) = .ok (goInt s.size) ((w.alloc (.cells M 5)).setRow w.heap.size (Lib.byteCells s.data.toList).toArray) ∧
      (Builtin.unsafeString_ #[57, 3] 9 #[.pointer (some ⟨w.heap.size, 0, none⟩), .int .i64 (s.size : Int)]).run Try.prog ((w.alloc (.cells M 5)).setRow w.heap.size (Lib.byteCells s.data.toList).toArray) = .ok (.string s) (((w.alloc (.cells M 5)).setRow w.heap.size (Lib.byteCells s.data.toList).toArray).freeze ⟨w.heap.size, 0, none⟩ s.size) := by
  obtain ⟨ti, hti, hzero, hone, hbyte⟩ := info_parts Try.infoByte
  have hM : (madeCells (Value.int .u8 0).cells ((s.size : Int).toNat * ti.size)).size = s.size := by rw [size_madeCells, hone]; simp
  generalize hgen : madeCells (Value.int .u8 0).cells ((s.size : Int).toNat * ti.size) = M at hM
  have hrow := heap_alloc_new w (.cells M 5)
  have hset : ((w.alloc (.cells M 5)).setRow w.heap.size (Lib.byteCells s.data.toList).toArray).heap[w.heap.size]? = some (.cells (Lib.byteCells s.data.toList).toArray 5 (0, 0)) := setRow_heap _ _ M _ 5 (0, 0) hrow
  refine ⟨M, fun W => ?_, ?_, ?_⟩
  · rw [run_make W 42 5 ti (.int .u8 0) Try.underlying42 hti hzero .i64 .i64 (s.size : Int) (s.size : Int) (by omega) (by omega) (by rw [hbyte]; omega) (by omega), hgen]
    simp
  · rw [Lib.run_copy_row_string _ 42 9 3 5 w.heap.size 0 s.size s.size s M 5 Try.underlying42 (by rw [hti]; simp [hone]) hrow (Nat.le_refl _) (by omega), filled s M hM]
  · have hlen : s.data.toList.length = s.size := by simp
    have := Lib.run_unsafeString_row (P := Try.prog) ((w.alloc (.cells M 5)).setRow w.heap.size (Lib.byteCells s.data.toList).toArray) 57 3 9 5 Try.underlying57 Try.cellsByte w.heap.size s.size
      (by unfold World.shape?; rw [hset]; exact congrArg some (congrArg (Prod.mk _) (filled_size s))) s.data.toList (by intro e; rw [e] at hlen; simp at hlen; omega) (by omega) (by omega)
      (fun j x hx => by
        have hadd : (⟨w.heap.size, 0, none⟩ : Addr).add j = ⟨w.heap.size, j, none⟩ := by unfold Addr.add; split <;> simp_all
        rw [hadd, Joins.cell_of_block hset]
        simp [Lib.byteCells, hx])
    rw [hlen] at this
    rw [this]

set_option maxHeartbeats 1000000 in
set_option maxRecDepth 100000 in
theorem sl_clone (s : ByteArray) (w : World) (hlim : s.size ≤ 70000) :
    Calls Try.prog 38 #[.string s] w fun e w' => e = .returned (.string s) ∧ Below w.heap.size w w' := by
  rcases Nat.eq_zero_or_pos s.size with h0 | h0
  · obtain rfl : s = ⟨#[]⟩ := ByteArray.ext (Array.eq_empty_of_size_eq_zero h0)
    go_enter Try.func38, Try.ntmps38
    go_wp2
    go_ret
    exact ⟨rfl, Below.refl _ _⟩
  · obtain ⟨M, mk, cp, us⟩ := clone_ops s w h0 hlim
    go_enter Try.func38, Try.ntmps38
    go_wp2
    go_ret
    refine ⟨rfl, Lib.below_freeze (((Below.refl _ w).alloc (Nat.le_refl _) (.cells M 5)).trans ?_) (p := ⟨w.heap.size, 0, none⟩) (Nat.le_refl _) _⟩
    exact ⟨rfl, rfl, rfl, by simp, fun k hk => setRow_other _ _ _ _ (by omega)⟩

theorem str_clone (s : ByteArray) (w : World) (hlim : s.size ≤ 70000) :
    Calls Try.prog 36 #[.string s] w fun e w' => e = .returned (.string s) ∧ Below w.heap.size w w' := by
  go_enter Try.func36, Try.ntmps36
  go_wp2_with (first | (go_at_call 38; refine (sl_clone s _ hlim).mono ?_; rintro e w' ⟨rfl, hb⟩))
  go_ret
  exact ⟨rfl, hb⟩

theorem below_grown {w w' : World} (h : Below w.heap.size w w') (row : Option Nat) : w.grownBy w' row :=
  ⟨h.os, h.tape, h.output, h.size, fun k hk _ => h.block k hk⟩

theorem rd_below {w w' : World} {r p : Nat} {b : ByteArray} {e : Int} (h : RdAt w r b p e) (hb : Below w.heap.size w w') : RdAt w' r b p e := by
  obtain ⟨_, _, _, _, hr⟩ := h.facts
  unfold RdAt
  rw [hb.block r hr]
  exact h

/-- text: a copy of what is taken. -/
theorem text_err (b : ByteArray) (r p k : Nat) (e : Int) (w : World) (h : RdAt w r b p e) (he : (e == 0) = false) :
    Calls Try.prog 26 #[.pointer (some ⟨r, 0, none⟩), .int .i64 k] w fun x w' => x = .returned (.string ByteArray.empty) ∧ RdAt w' r b p e ∧ w.grownBy w' (some r) := by
  have HR : Hid (RdAt w r b p e) := h
  clear h
  go_enter Try.func26, Try.ntmps26
  go_wp2_with (first | (go_at_call 31; refine (take_err b r p _ e _ HR.out he).mono ?_; rintro x w' ⟨rfl, rfl⟩) | (go_at_call 36; refine (str_clone ByteArray.empty _ (by decide)).mono ?_; rintro x w1 ⟨rfl, hb⟩))
  go_ret
  exact ⟨rfl, rd_below HR.out hb, below_grown hb _⟩

theorem text_short (b : ByteArray) (r p k : Nat) (w : World) (h : RdAt w r b p 0) (hp : p ≤ b.size) (hs : b.size < p + k) :
    Calls Try.prog 26 #[.pointer (some ⟨r, 0, none⟩), .int .i64 k] w fun x w' => x = .returned (.string ByteArray.empty) ∧ RdAt w' r b p 2 ∧ w.grownBy w' (some r) := by
  have HR : Hid (RdAt w r b p 0) := h
  clear h
  go_enter Try.func26, Try.ntmps26
  go_wp2_with (first | (go_at_call 31; refine (take_short b r p _ _ HR.out hp hs).mono ?_; rintro x w' ⟨rfl, hr1, hg⟩) | (go_at_call 36; refine (str_clone ByteArray.empty _ (by decide)).mono ?_; rintro x w1 ⟨rfl, hb⟩))
  go_ret
  exact ⟨rfl, rd_below hr1 hb, grown_trans hg (below_grown hb _)⟩

theorem text_ok (b : ByteArray) (r p k : Nat) (w : World) (h : RdAt w r b p 0) (hk : k ≤ 70000) (hs : p + k ≤ b.size) :
    Calls Try.prog 26 #[.pointer (some ⟨r, 0, none⟩), .int .i64 k] w fun x w' => x = .returned (.string (b.extract p (p + k))) ∧ RdAt w' r b (p + k) 0 ∧ w.grownBy w' (some r) := by
  have HR : Hid (RdAt w r b p 0) := h
  clear h
  have hsz : (b.extract p (p + k)).size ≤ 70000 := by simp [ByteArray.size_extract]; omega
  go_enter Try.func26, Try.ntmps26
  go_wp2_with (first | (go_at_call 31; refine (take_ok b r p _ _ HR.out hk hs).mono ?_; rintro x w' ⟨rfl, hr1, hg⟩) | (go_at_call 36; refine (str_clone (b.extract p (p + k)) _ hsz).mono ?_; rintro x w1 ⟨rfl, hb⟩))
  go_ret
  exact ⟨rfl, rd_below hr1 hb, grown_trans hg (below_grown hb _)⟩

theorem text_any (b : ByteArray) (r p k : Nat) (e : Int) (w : World) (h : RdAt w r b p e) (hp : e = 0 → p ≤ b.size) (hk : e = 0 → k ≤ 70000) :
    Calls Try.prog 26 #[.pointer (some ⟨r, 0, none⟩), .int .i64 k] w fun x w' => ∃ (t : ByteArray) (p' : Nat) (e' : Int), x = .returned (.string t) ∧ Went w w' r b e (if b.size < p + k then 2 else 0) e' p' ∧ (e' = 0 → t = b.extract p (p + k) ∧ p' = p + k) := by
  by_cases he : e = 0
  · subst he
    by_cases hs : b.size < p + k
    · refine (text_short b r p k w h (hp rfl) hs).mono ?_
      rintro x w' ⟨rfl, hr, hg⟩
      exact ⟨_, p, 2, rfl, ⟨hr, hg, fun h => absurd rfl h, fun _ => by simp [hs], fun h => by simp at h⟩, fun h => by simp at h⟩
    · refine (text_ok b r p k w h (hk rfl) (by omega)).mono ?_
      rintro x w' ⟨rfl, hr, hg⟩
      exact ⟨_, p + k, 0, rfl, ⟨hr, hg, fun h => absurd rfl h, fun _ => by simp [hs], fun _ => by omega⟩, fun _ => ⟨rfl, rfl⟩⟩
  · refine (text_err b r p k e w h (by simpa using he)).mono ?_
    rintro x w' ⟨rfl, hr, hg⟩
    exact ⟨_, p, e, rfl, ⟨hr, hg, fun _ => rfl, fun h => absurd h he, fun h => absurd h he⟩, fun h => absurd h he⟩
end Go.Proofs.Ytakjcpkehmjgpaa
