/-
  strings.Clone: the same bytes; nothing that was there has turned.
-/
import Derived.Test.YtdhmandnamajpaaNumber
import Derived.Shelf.Strconv.Clone
namespace Go.Proofs.Ytdhmandnamajpaa
open Go.RowKit Go.Shelf

/-- Which numbers of this program stand for those of the shelf's contract on the library's Clone. -/
def cloneRen : Shelf.Ren := ⟨fun _ => 38, fun t => if t = 5 then 5 else if t = 9 then 9 else if t = 3 then 3 else if t = 4 then 4 else if t = 37 then 42 else if t = 127 then 57 else 0, fun g => g⟩
theorem clone_lays : LaysM.n316 Try.prog cloneRen where
  mixed := by kernel_rfl
  f316 := by kernel_rfl
  t0 := by kernel_rfl
  a0 := fun _ => by kernel_rfl
  z0 := fun _ => by kernel_rfl
  v0 := fun _ => by kernel_rfl
  t3 := by kernel_rfl
  a3 := fun _ => by kernel_rfl
  z3 := fun _ => by kernel_rfl
  v3 := fun _ => by kernel_rfl
  t4 := by kernel_rfl
  a4 := fun _ => by kernel_rfl
  z4 := fun _ => by kernel_rfl
  v4 := fun _ => by kernel_rfl
  t9 := by kernel_rfl
  a9 := fun _ => by kernel_rfl
  z9 := fun _ => by kernel_rfl
  v9 := fun _ => by kernel_rfl
  t37 := by kernel_rfl
  a37 := fun _ => by kernel_rfl
  z37 := fun _ => by kernel_rfl
  v37 := fun _ => by kernel_rfl
  t127 := by kernel_rfl
  a127 := fun _ => by kernel_rfl
  z127 := fun _ => by kernel_rfl
  v127 := fun _ => by kernel_rfl
  t5 := by kernel_rfl
  a5 := fun _ => by kernel_rfl
  z5 := fun _ => by kernel_rfl
  v5 := fun _ => by kernel_rfl
  i0 := by kernel_rfl
  i3 := by kernel_rfl
  i4 := by kernel_rfl
  i5 := by kernel_rfl
  i9 := by kernel_rfl
  i37 := by kernel_rfl
  i127 := by kernel_rfl

theorem sl_clone (s : ByteArray) (w : World) (hlim : s.size ≤ 70000) :
    Calls Try.prog 38 #[.string s] w fun e w' => e = .returned (.string s) ∧ Below w.heap.size w w' :=
  Any.stringslite_Clone clone_lays s w (by omega)

theorem str_clone (s : ByteArray) (w : World) (hlim : s.size ≤ 70000) :
    Calls Try.prog 36 #[.string s] w fun e w' => e = .returned (.string s) ∧ Below w.heap.size w w' := by
  go_enter Try.func36, Try.ntmps36
  go_wp2_with (first | (go_at_call 38; refine (sl_clone s _ hlim).mono ?_; rintro e w' ⟨rfl, hb⟩))
  go_ret
  exact ⟨rfl, hb⟩

theorem below_grown {w w' : World} (h : Below w.heap.size w w') (row : Option Nat) : w.grownBy w' row :=
  ⟨h.os, h.tape, h.output, h.size, fun k hk _ => h.block k hk⟩

theorem rd_below {w w' : World} {r p : Nat} {b : ByteArray} {e : Int} (h : RdAt w r b p e) (hb : Below w.heap.size w w') : RdAt w' r b p e := by
  obtain ⟨_, _, _, _, hr⟩ := h.facts
  unfold RdAt
  rw [hb.block r hr]
  exact h

/-- text: a copy of what is taken. -/
theorem text_err (b : ByteArray) (r p k : Nat) (e : Int) (w : World) (h : RdAt w r b p e) (he : (e == 0) = false) :
    Calls Try.prog 26 #[.pointer (some ⟨r, 0, none⟩), .int .i64 k] w fun x w' => x = .returned (.string ByteArray.empty) ∧ RdAt w' r b p e ∧ w.grownBy w' (some r) := by
  have HR : Hid (RdAt w r b p e) := h
  clear h
  go_enter Try.func26, Try.ntmps26
  go_wp2_with (first | (go_at_call 31; refine (take_err b r p _ e _ HR.out he).mono ?_; rintro x w' ⟨rfl, rfl⟩) | (go_at_call 36; refine (str_clone ByteArray.empty _ (by decide)).mono ?_; rintro x w1 ⟨rfl, hb⟩))
  go_ret
  exact ⟨rfl, rd_below HR.out hb, below_grown hb _⟩

theorem text_short (b : ByteArray) (r p k : Nat) (w : World) (h : RdAt w r b p 0) (hp : p ≤ b.size) (hs : b.size < p + k) :
    Calls Try.prog 26 #[.pointer (some ⟨r, 0, none⟩), .int .i64 k] w fun x w' => x = .returned (.string ByteArray.empty) ∧ RdAt w' r b p 2 ∧ w.grownBy w' (some r) := by
  have HR : Hid (RdAt w r b p 0) := h
  clear h
  go_enter Try.func26, Try.ntmps26
  go_wp2_with (first | (go_at_call 31; refine (take_short b r p _ _ HR.out hp hs).mono ?_; rintro x w' ⟨rfl, hr1, hg⟩) | (go_at_call 36; refine (str_clone ByteArray.empty _ (by decide)).mono ?_; rintro x w1 ⟨rfl, hb⟩))
  go_ret
  exact ⟨rfl, rd_below hr1 hb, grown_trans hg (below_grown hb _)⟩

theorem text_ok (b : ByteArray) (r p k : Nat) (w : World) (h : RdAt w r b p 0) (hk : k ≤ 70000) (hs : p + k ≤ b.size) :
    Calls Try.prog 26 #[.pointer (some ⟨r, 0, none⟩), .int .i64 k] w fun x w' => x = .returned (.string (b.extract p (p + k))) ∧ RdAt w' r b (p + k) 0 ∧ w.grownBy w' (some r) := by
  have HR : Hid (RdAt w r b p 0) := h
  clear h
  have hsz : (b.extract p (p + k)).size ≤ 70000 := by simp [ByteArray.size_extract]; omega
  go_enter Try.func26, Try.ntmps26
  go_wp2_with (first | (go_at_call 31; refine (take_ok b r p _ _ HR.out hk hs).mono ?_; rintro x w' ⟨rfl, hr1, hg⟩) | (go_at_call 36; refine (str_clone (b.extract p (p + k)) _ hsz).mono ?_; rintro x w1 ⟨rfl, hb⟩))
  go_ret
  exact ⟨rfl, rd_below hr1 hb, grown_trans hg (below_grown hb _)⟩

theorem text_any (b : ByteArray) (r p k : Nat) (e : Int) (w : World) (h : RdAt w r b p e) (hp : e = 0 → p ≤ b.size) (hk : e = 0 → k ≤ 70000) :
    Calls Try.prog 26 #[.pointer (some ⟨r, 0, none⟩), .int .i64 k] w fun x w' => ∃ (t : ByteArray) (p' : Nat) (e' : Int), x = .returned (.string t) ∧ Went w w' r b e (if b.size < p + k then 2 else 0) e' p' ∧ (e' = 0 → t = b.extract p (p + k) ∧ p' = p + k) := by
  by_cases he : e = 0
  · subst he
    by_cases hs : b.size < p + k
    · refine (text_short b r p k w h (hp rfl) hs).mono ?_
      rintro x w' ⟨rfl, hr, hg⟩
      exact ⟨_, p, 2, rfl, ⟨hr, hg, fun h => absurd rfl h, fun _ => by simp [hs], fun h => by simp at h⟩, fun h => by simp at h⟩
    · refine (text_ok b r p k w h (hk rfl) (by omega)).mono ?_
      rintro x w' ⟨rfl, hr, hg⟩
      exact ⟨_, p + k, 0, rfl, ⟨hr, hg, fun h => absurd rfl h, fun _ => by simp [hs], fun _ => by omega⟩, fun _ => ⟨rfl, rfl⟩⟩
  · refine (text_err b r p k e w h (by simpa using he)).mono ?_
    rintro x w' ⟨rfl, hr, hg⟩
    exact ⟨_, p, e, rfl, ⟨hr, hg, fun _ => rfl, fun h => absurd h he, fun h => absurd h he⟩, fun h => absurd h he⟩
end Go.Proofs.Ytdhmandnamajpaa
