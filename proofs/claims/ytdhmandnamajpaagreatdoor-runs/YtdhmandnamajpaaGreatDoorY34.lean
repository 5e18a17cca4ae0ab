import Derived.Test.YtdhmandnamajpaaGreatDoorY00
import Derived.Test.YtdhmandnamajpaaGreatDoorY31
import Derived.Deep.AppendLies
namespace Go.Proofs.YtdhmandnamajpaaGreatDoor
open Go.RowKit Go.Joins
set_option maxHeartbeats 400000
def refNum (b : ByteArray) (p k : Nat) : Int := if b.size < p + k then -1 else if k = 1 then (num1 b p : Nat) else (num2 b p : Nat)
def refWrong (n : Int) (ok : Bool) : Int := if n < 0 then 2 else if ok then 0 else 3
theorem ref_number1 (b : ByteArray) (p : Nat) (w : World) (hp : p ≤ 100000) :
  Calls Tryz.prog 58 #[.string b, .int .i64 p, .int .i64 1] w fun x w' => x = .returned (.int .i64 (refNum b p 1)) ∧ ∃ n, w' = w.drewN n := by
 by_cases hs : b.size < p + 1
 ·have e : Hid (refNum b p 1 = -1) := by show refNum b p 1 = -1; simp [refNum, hs]
  go_enter Tryz.func58, Tryz.ntmps58
  go_wp2
  go_ret
  exact ⟨ret_int e.out.symm, 0, rfl⟩
 ·have e : Hid (refNum b p 1 = (b[p].toNat : Int)) := by show refNum b p 1 = _; simp [refNum, hs, num1, byteN_get b p (by omega)]
  go_enter Tryz.func58, Tryz.ntmps58
  go_wp2
  go_ret
  exact ⟨ret_int (by rw [e.out]; exact wrap_small _ (by have := UInt8.toNat_lt b[p]; omega)), 0, rfl⟩
set_option maxRecDepth 8000 in
set_option maxHeartbeats 1000000 in
theorem ref_number2 (b : ByteArray) (p : Nat) (w : World) (hp : p ≤ 100000) :
  Calls Tryz.prog 58 #[.string b, .int .i64 p, .int .i64 2] w fun x w' => x = .returned (.int .i64 (refNum b p 2)) ∧ ∃ n, w' = w.drewN n := by
 by_cases hs : b.size < p + 2
 ·have e : Hid (refNum b p 2 = -1) := by show refNum b p 2 = -1; simp [refNum, hs]
  go_enter Tryz.func58, Tryz.ntmps58
  go_wp2
  go_ret
  exact ⟨ret_int e.out.symm, 0, rfl⟩
 ·have e : Hid (refNum b p 2 = 256 * (b[p].toNat : Int) + (b[p + 1].toNat : Int)) := by show refNum b p 2 = _; simp [refNum, hs, num2, byteN_get b p (by omega), byteN_get b (p + 1) (by omega)]
  have i0 : (p : Int) < (b.size : Int) := by omega
  have i1 : (p : Int) + 1 < (b.size : Int) := by omega
  have i2 : (0 : Int) ≤ (p : Int) := by omega
  have i0' : p < b.size := by omega
  have i1' : p + 1 < b.size := by omega
  have hw : IntKind.i64.wrap ((p : Int) + 1) = (p : Int) + 1 := by rw [IntKind.wrap_i64]; omega
  have hidx : ∀ w : World, (Instr.index 9 (.string b) (.int .i64 ((p : Int) + 1))).run Tryz.prog w = .ok (.int .u8 (b[p + 1].toNat : Int)) w := fun w => by
   rw [run_index_string w 9 b .i64 _ Tryz.underlying9, dif_pos ⟨by omega, by omega⟩]
   have : ((p : Int) + 1).toNat = p + 1 := by omega
   simp only [this]
  have hx0 := UInt8.toNat_lt b[p]
  have hx1 := UInt8.toNat_lt b[p + 1]
  go_enter Tryz.func58, Tryz.ntmps58
  go_wp2
  go_quiet (fail)
  go_wp2
  go_ret
  exact ⟨ret_int e.out.symm, _, rfl⟩
theorem ref_wrong (n : Int) (ok : Bool) (w : World) :
  Calls Tryz.prog 59 #[.int .i64 n, .bool ok] w fun x w' => x = .returned (.int .i64 (refWrong n ok)) ∧ w' = w := by
 by_cases hn : n < 0
 ·have e : Hid (refWrong n ok = 2) := by show refWrong n ok = 2; simp [refWrong, hn]
  go_enter Tryz.func59, Tryz.ntmps59
  go_wp2
  go_ret
  exact ⟨ret_int e.out.symm, rfl⟩
 ·cases ok
  ·have e : Hid (refWrong n false = 3) := by show refWrong n false = 3; simp [refWrong, hn]
   go_enter Tryz.func59, Tryz.ntmps59
   go_wp2
   go_ret
   exact ⟨ret_int e.out.symm, rfl⟩
  ·have e : Hid (refWrong n true = 0) := by show refWrong n true = 0; simp [refWrong, hn]
   go_enter Tryz.func59, Tryz.ntmps59
   go_wp2
   go_ret
   exact ⟨ret_int e.out.symm, rfl⟩
theorem wrong_one (b : ByteArray) (p : Nat) (hi : Int) : refWrong (refNum b p 1) (decide (refNum b p 1 ≤ hi)) = er b p 1 (inB 0 hi (num1 b p : Int)) := by
 unfold refNum er
 by_cases hs : b.size < p + 1
 ·simp [hs, refWrong]
 ·simp only [hs, if_false, if_true, refWrong]
  rw [if_neg (by omega)]
  have : inB 0 hi (num1 b p : Int) = decide ((num1 b p : Int) ≤ hi) := by simp [inB]
  rw [this]
theorem wrong_out (b : ByteArray) (p : Nat) : refWrong (refNum b p 1) (outB (refNum b p 1)) = er b p 1 (outB (num1 b p : Int)) := by
 unfold refNum er
 by_cases hs : b.size < p + 1
 ·simp [hs, refWrong]
 ·simp only [hs, if_false, if_true, refWrong]
  rw [if_neg (by omega)]
theorem wrong_code (b : ByteArray) (p : Nat) (ok : Bool) (h : ok = inB 1 120 (refNum b p 2)) : refWrong (refNum b p 2) ok = er b p 2 (inB 1 120 (num2 b p : Int)) := by
 subst h
 unfold refNum er
 by_cases hs : b.size < p + 2
 ·simp [hs, refWrong]
 ·simp only [hs, if_false, refWrong]
  rw [if_neg (by simp)]
  simp
theorem wrong_data (b : ByteArray) (p : Nat) : refWrong (refNum b p 2) (decide (refNum b p 2 ≤ 60)) = er b p 2 (inB 0 60 (num2 b p : Int)) := by
 unfold refNum er
 by_cases hs : b.size < p + 2
 ·simp [hs, refWrong]
 ·simp only [hs, if_false, refWrong]
  rw [if_neg (by simp)]
  have : inB 0 60 (num2 b p : Int) = decide ((num2 b p : Int) ≤ 60) := by simp [inB]
  rw [this]
  simp
theorem wrong_count (b : ByteArray) (ok : Bool) (h : ok = inB 1 6 (refNum b 2 1)) : refWrong (refNum b 2 1) ok = er b 2 1 (inB 1 6 (num1 b 2 : Int)) := by
 subst h
 unfold refNum er
 by_cases hs : b.size < 2 + 1
 ·simp [hs, refWrong]
 ·simp only [hs, if_false, if_true, refWrong]
  rw [if_neg (by omega)]
theorem num_ok (b : ByteArray) (p : Nat) (h : ¬ b.size < p + 1) : refNum b p 1 = (num1 b p : Int) := by simp [refNum, h]
theorem num_ok2 (b : ByteArray) (p : Nat) (h : ¬ b.size < p + 2) : refNum b p 2 = (num2 b p : Int) := by simp [refNum, h]
end Go.Proofs.YtdhmandnamajpaaGreatDoor
namespace Go.Proofs.YtdhmandnamajpaaGreatDoor
open Go.RowKit Go.Joins
set_option maxHeartbeats 2000000 in
set_option maxRecDepth 100000 in
theorem refParse_magic (b : ByteArray) (w : World) (hm : magicB b = true) :
  Calls Tryz.prog 34 #[.string b] w fun x w' => x = .returned (.tuple #[.agg #[.slice none 0 0, .string ByteArray.empty], .int .i64 1]) ∧ Below w.heap.size w w' := by
 have hcase : (b.size = 1 ∧ ¬ byteN b 0 = 75) ∨ (2 ≤ b.size ∧ ¬ byteN b 0 = 75) ∨ (2 ≤ b.size ∧ byteN b 0 = 75 ∧ ¬ byteN b 1 = 1) := by
  simp [magicB] at hm
  omega
 rcases hcase with ⟨h1, h2⟩ | ⟨h1, h2⟩ | ⟨h1, h2, h3⟩
 ·have hpos : 0 < b.size := by omega
  rw [byteN_get b 0 hpos] at h2
  have i0 : (0 : Int) < (b.size : Int) := by omega
  have t0 : ((b[0].toNat : Int) != 75) = true := by simp; omega
  have H1 := hid h1
  have H2 := hid h2
  clear h1 h2 hm
  go_enter Tryz.func34, Tryz.ntmps34
  go_wp2
  refine bodyPost_ret (v := .tuple #[.agg #[.slice none 0 0, .string ⟨#[]⟩], .int .i64 1]) (by simp [results, Tryz.results34, go_sem]) rfl ⟨rfl, ((Below.refl _ _).alloc (Nat.le_refl _) _).alloc (by simp) _⟩
 ·have hpos : 0 < b.size := by omega
  rw [byteN_get b 0 hpos] at h2
  have i0 : (0 : Int) < (b.size : Int) := by omega
  have t0 : ((b[0].toNat : Int) != 75) = true := by simp; omega
  have H1 := hid h1
  have H2 := hid h2
  clear h1 h2 hm
  go_enter Tryz.func34, Tryz.ntmps34
  go_wp2
  refine bodyPost_ret (v := .tuple #[.agg #[.slice none 0 0, .string ⟨#[]⟩], .int .i64 1]) (by simp [results, Tryz.results34, go_sem]) rfl ⟨rfl, ((Below.refl _ _).alloc (Nat.le_refl _) _).alloc (by simp) _⟩
 ·have hpos : 0 < b.size := by omega
  have hpos1 : 1 < b.size := by omega
  rw [byteN_get b 0 hpos] at h2
  rw [byteN_get b 1 hpos1] at h3
  have i0 : (0 : Int) < (b.size : Int) := by omega
  have i1 : (1 : Int) < (b.size : Int) := by omega
  have t0 : ((b[0].toNat : Int) != 75) = false := by simp [h2]
  have t1 : ((b[1].toNat : Int) != 1) = true := by simp; omega
  have H1 := hid h1
  have H2 := hid h2
  have H3 := hid h3
  clear h1 h2 h3 hm
  go_enter Tryz.func34, Tryz.ntmps34
  go_wp2
  refine bodyPost_ret (v := .tuple #[.agg #[.slice none 0 0, .string ⟨#[]⟩], .int .i64 1]) (by simp [results, Tryz.results34, go_sem]) rfl ⟨rfl, ((Below.refl _ _).alloc (Nat.le_refl _) _).alloc (by simp) _⟩
theorem not_magic (b : ByteArray) (hm : magicB b = false) : (b.size = 0) ∨ (b.size = 1 ∧ byteN b 0 = 75) ∨ (2 ≤ b.size ∧ byteN b 0 = 75 ∧ byteN b 1 = 1) := by
 simp [magicB] at hm
 omega
theorem refWrong_ne (N : Int) (ok : Bool) (h : refWrong N ok ≠ 0) : (refWrong N ok == 0) = false := by simpa using h
set_option maxHeartbeats 4000000 in
set_option maxRecDepth 100000 in
theorem refParse_count (b : ByteArray) (w : World) (hm : magicB b = false) (he : er b 2 1 (inB 1 6 (num1 b 2 : Int)) ≠ 0) :
  Calls Tryz.prog 34 #[.string b] w fun x w' => x = .returned (.tuple #[.agg #[.slice none 0 0, .string ByteArray.empty], .int .i64 (er b 2 1 (inB 1 6 (num1 b 2 : Int)))]) ∧ Below w.heap.size w w' := by
 have hN : refNum b 2 1 < 1 ∨ 6 < refNum b 2 1 := by
  rcases (show refNum b 2 1 < 1 ∨ 6 < refNum b 2 1 ∨ (1 ≤ refNum b 2 1 ∧ refNum b 2 1 ≤ 6) by omega) with h | h | ⟨h1, h2⟩
  ·exact .inl h
  ·exact .inr h
  ·exfalso
   apply he
   rw [← wrong_count b true (by rw [inB_true h1 h2])]
   simp [refWrong]
   omega
 have HE : Hid (refWrong (refNum b 2 1) false = er b 2 1 (inB 1 6 (num1 b 2 : Int))) := wrong_count b false (by rcases hN with h | h <;> first | rw [inB_low h] | rw [inB_high h])
 have te : (refWrong (refNum b 2 1) false == 0) = false := refWrong_ne _ _ (by rw [HE.out]; exact he)
 have hcases := not_magic b hm
 clear hm he
 have hN : refNum b 2 1 < 1 ∨ (6 < refNum b 2 1 ∧ 1 ≤ refNum b 2 1 ∧ decide (refNum b 2 1 ≤ 6) = false) := by
  rcases hN with h | h
  ·exact .inl h
  ·exact .inr ⟨h, by omega, by simp; omega⟩
 rcases hcases with h1 | ⟨h1, h2⟩ | ⟨h1, h2, h3⟩
 ·have i0 : ¬ (0 : Int) < (b.size : Int) := by omega
  have i1 : ¬ (1 : Int) < (b.size : Int) := by omega
  have H1 := hid h1
  clear h1
  rcases hN with hN | ⟨hN, hN1, hN2⟩
  all_goals
   go_enter Tryz.func34, Tryz.ntmps34
   go_wp2_with (first | (go_at_call 58; refine (ref_number1 b 2 _ (by omega)).mono ?_; rintro x w1 ⟨rfl, nq, rfl⟩) | (go_at_call 59; refine (ref_wrong _ _ _).mono ?_; rintro x w2 ⟨rfl, rfl⟩))
   go_loopw [6, 7, 8, 9, 10] (fun se sa sl sz i wr => se = .int .i64 (refWrong (refNum b 2 1) false) ∧ sa = .int .i64 3 ∧ sl = .slice none 0 0 ∧ sz = .slice none 0 0 ∧ i = .int .i64 0 ∧ ∃ q, wr = ((w.alloc (.cells #[.slice none 0 0, .string ⟨#[]⟩] 40)).alloc (.cells #[.slice none 0 0, .string ⟨#[]⟩] 40)).drewN q) (fun _ _ _ _ _ _ => 0)
   case atStart => exact ⟨rfl, rfl, rfl, rfl, rfl, _, rfl⟩
   case round =>
    obtain ⟨rfl, rfl, rfl, rfl, rfl, q, rfl⟩ := hrel
    go_wp2
    go_loopw [7, 16] (fun sa i wr => sa = .int .i64 3 ∧ i = .int .i64 0 ∧ ∃ q, wr = ((w.alloc (.cells #[.slice none 0 0, .string ⟨#[]⟩] 40)).alloc (.cells #[.slice none 0 0, .string ⟨#[]⟩] 40)).drewN q) (fun _ _ _ => 0)
    case atStart => exact ⟨rfl, rfl, _, rfl⟩
    case round =>
     obtain ⟨rfl, rfl, q', rfl⟩ := hrel
     go_wp2
     refine bodyPost_ret (v := .tuple #[.agg #[.slice none 0 0, .string ⟨#[]⟩], .int .i64 (refWrong (refNum b 2 1) false)]) (by simp [results, Tryz.results34, go_sem]) rfl ⟨by rw [HE.out]; rfl, ?_⟩
     first
      | exact (((Below.refl _ _).alloc (Nat.le_refl _) _).alloc (by simp) _).trans (below_draws _ _ _)
      | exact (((((Below.refl _ _).alloc (Nat.le_refl _) _).alloc (by simp) _).trans (below_draws _ _ _)).setCell (Nat.le_refl _) _).setCell (Nat.le_refl _) _
 ·have hpos : 0 < b.size := by omega
  rw [byteN_get b 0 hpos] at h2
  have i0 : (0 : Int) < (b.size : Int) := by omega
  have i1 : ¬ (1 : Int) < (b.size : Int) := by omega
  have t0 : ((b[0].toNat : Int) != 75) = false := by simp [h2]
  have H1 := hid h1
  have H2 := hid h2
  clear h1 h2
  rcases hN with hN | ⟨hN, hN1, hN2⟩
  all_goals
   go_enter Tryz.func34, Tryz.ntmps34
   go_wp2_with (first | (go_at_call 58; refine (ref_number1 b 2 _ (by omega)).mono ?_; rintro x w1 ⟨rfl, nq, rfl⟩) | (go_at_call 59; refine (ref_wrong _ _ _).mono ?_; rintro x w2 ⟨rfl, rfl⟩))
   go_loopw [6, 7, 8, 9, 10] (fun se sa sl sz i wr => se = .int .i64 (refWrong (refNum b 2 1) false) ∧ sa = .int .i64 3 ∧ sl = .slice none 0 0 ∧ sz = .slice none 0 0 ∧ i = .int .i64 0 ∧ ∃ q, wr = ((w.alloc (.cells #[.slice none 0 0, .string ⟨#[]⟩] 40)).alloc (.cells #[.slice none 0 0, .string ⟨#[]⟩] 40)).drewN q) (fun _ _ _ _ _ _ => 0)
   case atStart => exact ⟨rfl, rfl, rfl, rfl, rfl, _, rfl⟩
   case round =>
    obtain ⟨rfl, rfl, rfl, rfl, rfl, q, rfl⟩ := hrel
    go_wp2
    go_loopw [7, 16] (fun sa i wr => sa = .int .i64 3 ∧ i = .int .i64 0 ∧ ∃ q, wr = ((w.alloc (.cells #[.slice none 0 0, .string ⟨#[]⟩] 40)).alloc (.cells #[.slice none 0 0, .string ⟨#[]⟩] 40)).drewN q) (fun _ _ _ => 0)
    case atStart => exact ⟨rfl, rfl, _, rfl⟩
    case round =>
     obtain ⟨rfl, rfl, q', rfl⟩ := hrel
     go_wp2
     refine bodyPost_ret (v := .tuple #[.agg #[.slice none 0 0, .string ⟨#[]⟩], .int .i64 (refWrong (refNum b 2 1) false)]) (by simp [results, Tryz.results34, go_sem]) rfl ⟨by rw [HE.out]; rfl, ?_⟩
     first
      | exact (((Below.refl _ _).alloc (Nat.le_refl _) _).alloc (by simp) _).trans (below_draws _ _ _)
      | exact (((((Below.refl _ _).alloc (Nat.le_refl _) _).alloc (by simp) _).trans (below_draws _ _ _)).setCell (Nat.le_refl _) _).setCell (Nat.le_refl _) _
 ·have hpos : 0 < b.size := by omega
  have hpos1 : 1 < b.size := by omega
  rw [byteN_get b 0 hpos] at h2
  rw [byteN_get b 1 hpos1] at h3
  have i0 : (0 : Int) < (b.size : Int) := by omega
  have i1 : (1 : Int) < (b.size : Int) := by omega
  have t0 : ((b[0].toNat : Int) != 75) = false := by simp [h2]
  have t1 : ((b[1].toNat : Int) != 1) = false := by simp [h3]
  have H1 := hid h1
  have H2 := hid h2
  have H3 := hid h3
  clear h1 h2 h3
  rcases hN with hN | ⟨hN, hN1, hN2⟩
  all_goals
   go_enter Tryz.func34, Tryz.ntmps34
   go_wp2_with (first | (go_at_call 58; refine (ref_number1 b 2 _ (by omega)).mono ?_; rintro x w1 ⟨rfl, nq, rfl⟩) | (go_at_call 59; refine (ref_wrong _ _ _).mono ?_; rintro x w2 ⟨rfl, rfl⟩))
   go_loopw [6, 7, 8, 9, 10] (fun se sa sl sz i wr => se = .int .i64 (refWrong (refNum b 2 1) false) ∧ sa = .int .i64 3 ∧ sl = .slice none 0 0 ∧ sz = .slice none 0 0 ∧ i = .int .i64 0 ∧ ∃ q, wr = ((w.alloc (.cells #[.slice none 0 0, .string ⟨#[]⟩] 40)).alloc (.cells #[.slice none 0 0, .string ⟨#[]⟩] 40)).drewN q) (fun _ _ _ _ _ _ => 0)
   case atStart => exact ⟨rfl, rfl, rfl, rfl, rfl, _, rfl⟩
   case round =>
    obtain ⟨rfl, rfl, rfl, rfl, rfl, q, rfl⟩ := hrel
    go_wp2
    go_loopw [7, 16] (fun sa i wr => sa = .int .i64 3 ∧ i = .int .i64 0 ∧ ∃ q, wr = ((w.alloc (.cells #[.slice none 0 0, .string ⟨#[]⟩] 40)).alloc (.cells #[.slice none 0 0, .string ⟨#[]⟩] 40)).drewN q) (fun _ _ _ => 0)
    case atStart => exact ⟨rfl, rfl, _, rfl⟩
    case round =>
     obtain ⟨rfl, rfl, q', rfl⟩ := hrel
     go_wp2
     refine bodyPost_ret (v := .tuple #[.agg #[.slice none 0 0, .string ⟨#[]⟩], .int .i64 (refWrong (refNum b 2 1) false)]) (by simp [results, Tryz.results34, go_sem]) rfl ⟨by rw [HE.out]; rfl, ?_⟩
     first
      | exact (((Below.refl _ _).alloc (Nat.le_refl _) _).alloc (by simp) _).trans (below_draws _ _ _)
      | exact (((((Below.refl _ _).alloc (Nat.le_refl _) _).alloc (by simp) _).trans (below_draws _ _ _)).setCell (Nat.le_refl _) _).setCell (Nat.le_refl _) _
end Go.Proofs.YtdhmandnamajpaaGreatDoor
