/-
  Small lemmas for both writers.
-/
import Derived.Test.YtdhmandnamajpaaTwo
namespace Go.Proofs.Ytdhmandnamajpaa
open Go.RowKit

theorem u8L_head (n : Nat) : u8L [75, 1, (n : Int)] = [75, 1, UInt8.ofNat n] := by simp [u8L]
theorem u8L_sec (s : Sec) : u8L [s.i, s.o, s.m] = [oneL s.i, oneL s.o, oneL s.m] := by simp [u8L, oneL]
theorem take_snoc (S : List Sec) (k : Nat) (h : k < S.length) : S.take (k + 1) = S.take k ++ [S[k]] := List.take_succ_eq_append_getElem h
theorem wrap8 {x : Int} (h0 : 0 ≤ x) (h1 : x ≤ 255) : IntKind.u8.wrap x = x := by
  rw [IntKind.wrap_u8]; omega
end Go.Proofs.Ytdhmandnamajpaa
