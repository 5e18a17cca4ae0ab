/-
  strings.Clone: the same bytes; nothing that was there has turned.
-/
import Derived.Test.YtakjcpkehmjgpaaNumber
import Derived.Lib.BufferWrite
import Derived.Lib.UnsafeStr
import Derived.Laws.MakeOwn
namespace Go.Proofs.Ytakjcpkehmjgpaa
open Go.RowKit

theorem Try.infoByte : (Try.prog.info? 5).map (fun i => (i.zero, i.size, i.bytes)) = some (some (.int .u8 0), 1, 1) := by kernel_rfl
theorem Try.cellsByte : Try.prog.cellsOf 5 = 1 := by kernel_rfl

set_option maxHeartbeats 1000000 in
set_option maxRecDepth 100000 in
theorem sl_clone (s : ByteArray) (w : World) (hlim : s.size ≤ 70000) :
    Calls Try.prog 38 #[.string s] w fun e w' => e = .returned (.string s) ∧ Below w.heap.size w w' := by
  by_cases h0 : s.size = 0
  · have hs : s = ⟨#[]⟩ := ByteArray.ext (Array.eq_empty_of_size_eq_zero h0)
    subst hs
    go_enter Try.func38, Try.ntmps38
    go_wp2
    go_ret
    exact ⟨rfl, Below.refl _ _⟩
  · obtain ⟨i0, hi, hz0, hz1, hz2⟩ := info_parts Try.infoByte
    have hinfo : (Try.prog.info? 5).map (·.size) = some 1 := by rw [hi]; simp [hz1]
    obtain ⟨M, hM⟩ : ∃ M, M = madeCells (Value.int .u8 0).cells (((s.size : Nat) : Int).toNat * i0.size) := ⟨_, rfl⟩
    have hMs : M.size = s.size := by rw [hM, size_madeCells, hz1]; simp
    have hmk : ∀ W : World, (Instr.makeSlice 42 (.int .i64 (s.size : Int)) (.int .i64 (s.size : Int))).run Try.prog W = .ok (.slice (some ⟨W.heap.size, 0, none⟩) s.size s.size) (W.alloc (.cells M 5)) := fun W => by
      have h := run_make (P := Try.prog) W 42 5 i0 (.int .u8 0) Try.underlying42 hi hz0 .i64 .i64 (s.size : Int) (s.size : Int) (by omega) (by omega) (by rw [hz2]; omega) (by omega)
      rw [← hM] at h
      simpa using h
    clear hM
    have hcp := Lib.run_copy_row_string (P := Try.prog) (w.alloc (.cells M 5)) 42 9 3 5 w.heap.size 0 s.size s.size s M 5 Try.underlying42 hinfo (heap_alloc_new w _) (Nat.le_refl _) (by omega)
    obtain ⟨Y, hY⟩ : ∃ Y, Y = (M.toList.take 0 ++ Lib.byteCells s.data.toList ++ M.toList.drop (0 + s.size)).toArray := ⟨_, rfl⟩
    rw [← hY] at hcp
    have hYl : Y.toList = Lib.byteCells s.data.toList := by
      rw [hY, List.toList_toArray, List.take_zero, List.nil_append, List.drop_of_length_le (by rw [Array.length_toList]; omega), List.append_nil]
    have hYs : Y.size = s.size := by rw [← Array.length_toList, hYl, Lib.byteCells_length, ← Lib.size_eq]
    have hgY : ((w.alloc (.cells M 5)).setRow w.heap.size Y).heap[w.heap.size]? = some (.cells Y 5 (0, 0)) := setRow_heap _ _ M _ 5 (0, 0) (heap_alloc_new w _)
    have hne : s.data.toList ≠ [] := fun e => h0 (by rw [Lib.size_eq, e]; rfl)
    have hUS := Lib.run_unsafeString_row (P := Try.prog) ((w.alloc (.cells M 5)).setRow w.heap.size Y) 57 3 9 5 Try.underlying57 Try.cellsByte w.heap.size Y.size (by unfold World.shape?; rw [hgY]) s.data.toList hne (by rw [← Lib.size_eq]; omega) (by rw [← Lib.size_eq]; omega)
      (fun j x hx => Lib.cells_of_row hgY Y.size j _ (by rw [List.take_of_length_le (by rw [Array.length_toList]; exact Nat.le_refl _), hYl]; simp [Lib.byteCells, hx]))
    rw [← Lib.size_eq] at hUS
    clear hY
    go_enter Try.func38, Try.ntmps38
    go_wp2
    go_ret
    have hb1 : Below w.heap.size w (w.alloc (.cells M 5)) := (Below.refl _ w).alloc (Nat.le_refl _) _
    have hb2 : Below w.heap.size (w.alloc (.cells M 5)) ((w.alloc (.cells M 5)).setRow w.heap.size Y) := ⟨rfl, rfl, rfl, by simp, fun k hk => setRow_other _ _ _ _ (by omega)⟩
    exact ⟨rfl, Lib.below_freeze (hb1.trans hb2) (p := ⟨w.heap.size, 0, none⟩) (Nat.le_refl _) _⟩

theorem str_clone (s : ByteArray) (w : World) (hlim : s.size ≤ 70000) :
    Calls Try.prog 36 #[.string s] w fun e w' => e = .returned (.string s) ∧ Below w.heap.size w w' := by
  go_enter Try.func36, Try.ntmps36
  go_wp2_with (first | (go_at_call 38; refine (sl_clone s _ hlim).mono ?_; rintro e w' ⟨rfl, hb⟩))
  go_ret
  exact ⟨rfl, hb⟩

theorem below_grown {w w' : World} (h : Below w.heap.size w w') (row : Option Nat) : w.grownBy w' row :=
  ⟨h.os, h.tape, h.output, h.size, fun k hk _ => h.block k hk⟩

theorem rd_below {w w' : World} {r p : Nat} {b : ByteArray} {e : Int} (h : RdAt w r b p e) (hb : Below w.heap.size w w') : RdAt w' r b p e := by
  obtain ⟨_, _, _, _, hr⟩ := h.facts
  unfold RdAt
  rw [hb.block r hr]
  exact h

/-- text: a copy of what is taken. -/
theorem text_err (b : ByteArray) (r p k : Nat) (e : Int) (w : World) (h : RdAt w r b p e) (he : (e == 0) = false) :
    Calls Try.prog 26 #[.pointer (some ⟨r, 0, none⟩), .int .i64 k] w fun x w' => x = .returned (.string ByteArray.empty) ∧ RdAt w' r b p e ∧ w.grownBy w' (some r) := by
  have HR : Hid (RdAt w r b p e) := h
  clear h
  go_enter Try.func26, Try.ntmps26
  go_wp2_with (first | (go_at_call 31; refine (take_err b r p _ e _ HR.out he).mono ?_; rintro x w' ⟨rfl, rfl⟩) | (go_at_call 36; refine (str_clone ByteArray.empty _ (by decide)).mono ?_; rintro x w1 ⟨rfl, hb⟩))
  go_ret
  exact ⟨rfl, rd_below HR.out hb, below_grown hb _⟩

theorem text_short (b : ByteArray) (r p k : Nat) (w : World) (h : RdAt w r b p 0) (hp : p ≤ b.size) (hs : b.size < p + k) :
    Calls Try.prog 26 #[.pointer (some ⟨r, 0, none⟩), .int .i64 k] w fun x w' => x = .returned (.string ByteArray.empty) ∧ RdAt w' r b p 2 ∧ w.grownBy w' (some r) := by
  have HR : Hid (RdAt w r b p 0) := h
  clear h
  go_enter Try.func26, Try.ntmps26
  go_wp2_with (first | (go_at_call 31; refine (take_short b r p _ _ HR.out hp hs).mono ?_; rintro x w' ⟨rfl, hr1, hg⟩) | (go_at_call 36; refine (str_clone ByteArray.empty _ (by decide)).mono ?_; rintro x w1 ⟨rfl, hb⟩))
  go_ret
  exact ⟨rfl, rd_below hr1 hb, grown_trans hg (below_grown hb _)⟩

theorem text_ok (b : ByteArray) (r p k : Nat) (w : World) (h : RdAt w r b p 0) (hk : k ≤ 70000) (hs : p + k ≤ b.size) :
    Calls Try.prog 26 #[.pointer (some ⟨r, 0, none⟩), .int .i64 k] w fun x w' => x = .returned (.string (b.extract p (p + k))) ∧ RdAt w' r b (p + k) 0 ∧ w.grownBy w' (some r) := by
  have HR : Hid (RdAt w r b p 0) := h
  clear h
  have hsz : (b.extract p (p + k)).size ≤ 70000 := by simp [ByteArray.size_extract]; omega
  go_enter Try.func26, Try.ntmps26
  go_wp2_with (first | (go_at_call 31; refine (take_ok b r p _ _ HR.out hk hs).mono ?_; rintro x w' ⟨rfl, hr1, hg⟩) | (go_at_call 36; refine (str_clone (b.extract p (p + k)) _ hsz).mono ?_; rintro x w1 ⟨rfl, hb⟩))
  go_ret
  exact ⟨rfl, rd_below hr1 hb, grown_trans hg (below_grown hb _)⟩

theorem text_any (b : ByteArray) (r p k : Nat) (e : Int) (w : World) (h : RdAt w r b p e) (hp : e = 0 → p ≤ b.size) (hk : e = 0 → k ≤ 70000) :
    Calls Try.prog 26 #[.pointer (some ⟨r, 0, none⟩), .int .i64 k] w fun x w' => ∃ (t : ByteArray) (p' : Nat) (e' : Int), x = .returned (.string t) ∧ Went w w' r b e (if b.size < p + k then 2 else 0) e' p' ∧ (e' = 0 → t = b.extract p (p + k) ∧ p' = p + k) := by
  by_cases he : e = 0
  · subst he
    by_cases hs : b.size < p + k
    · refine (text_short b r p k w h (hp rfl) hs).mono ?_
      rintro x w' ⟨rfl, hr, hg⟩
      exact ⟨_, p, 2, rfl, ⟨hr, hg, fun h => absurd rfl h, fun _ => by simp [hs], fun h => by simp at h⟩, fun h => by simp at h⟩
    · refine (text_ok b r p k w h (hk rfl) (by omega)).mono ?_
      rintro x w' ⟨rfl, hr, hg⟩
      exact ⟨_, p + k, 0, rfl, ⟨hr, hg, fun h => absurd rfl h, fun _ => by simp [hs], fun _ => by omega⟩, fun _ => ⟨rfl, rfl⟩⟩
  · refine (text_err b r p k e w h (by simpa using he)).mono ?_
    rintro x w' ⟨rfl, hr, hg⟩
    exact ⟨_, p, e, rfl, ⟨hr, hg, fun _ => rfl, fun h => absurd h he, fun h => absurd h he⟩, fun h => absurd h he⟩
end Go.Proofs.Ytakjcpkehmjgpaa
