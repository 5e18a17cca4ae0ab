/-
  Within: whether all numbers of a container are within their limits.
-/
import Derived.Test.YtdhmandnamajpaaDoorSmall
namespace Go.Proofs.YtdhmandnamajpaaDoor
open Go.RowKit

/-- No section, or too many. -/
theorem within_count (n : Nat) (v : Option Addr) (d : ByteArray) (cap : Nat) (w : World) (hn : inB 1 6 (n : Int) = false) :
    Calls Tryd.prog 33 #[.agg #[.slice v n cap, .string d]] w fun e w' => e = .returned (.bool false) ∧ Below w.heap.size w w' := by
  go_enter Tryd.func33, Tryd.ntmps33
  go_wp2_with (first | (go_at_call 49; refine (count_fits _ _).mono ?_; rintro e w' ⟨rfl, rfl⟩))
  go_ret
  exact ⟨rfl, (Below.refl _ _).alloc (Nat.le_refl _) _⟩

theorem all_false {S : List Sec} {k : Nat} (hk : k < S.length) (h : secB S[k] = false) : S.all secB = false := by
  rw [List.all_eq_false]
  exact ⟨S[k], by simp, by simp [h]⟩

set_option maxHeartbeats 400000 in
theorem within_some (S : List Sec) (d : ByteArray) (b off cap : Nat) (w : World) (hn : inB 1 6 (S.length : Int) = true) (hS : SecsAt w b off S) :
    Calls Tryd.prog 33 #[.agg #[.slice (some ⟨b, off, none⟩) S.length cap, .string d]] w fun e w' => e = .returned (.bool (fitB S d)) ∧ Below w.heap.size w w' := by
  have hlen := inB_iff.1 hn
  have hb := hS.1
  have HS : Hid (SecsAt w b off S) := hS
  clear hS
  go_enter Tryd.func33, Tryd.ntmps33
  go_wp2_with (first | (go_at_call 49; refine (count_fits _ _).mono ?_; rintro e w' ⟨rfl, rfl⟩))
  go_loopw [13] (fun i wr => ∃ k : Nat, k ≤ S.length ∧ i = .int .i64 k ∧ (S.take k).all secB = true ∧ Below (w.heap.size + 1) (w.alloc (.cells #[.slice (some ⟨b, off, none⟩) S.length cap, .string d] 24)) wr) (fun i _ => S.length - (intOf i).toNat)
  case atStart => exact ⟨0, Nat.zero_le _, rfl, by simp, Below.refl _ _⟩
  case round =>
    obtain ⟨k, hk, rfl, hall, hbel⟩ := hrel
    by_cases hlt : k < S.length
    · obtain ⟨c0, c1, c2, c3⟩ := (SecsAt.below (HS.out.alloc _) (Nat.lt_succ_of_lt hb) hbel).at k hlt
      have hsz : w.heap.size + 1 ≤ wr.heap.size := by have := hbel.size; simpa using this
      cases hs : secB S[k]
      · go_wp2_with (first | (go_at_call 55; refine (section_fits S[k] _).mono ?_; rintro e w' ⟨rfl, hb'⟩))
        go_ret
        refine ⟨ret_bool (by simp [fitB, all_false hlt hs]), ?_⟩
        exact ((((Below.refl _ _).alloc (Nat.le_refl _) _).trans (hbel.mono (by omega))).alloc (by omega) _).trans (hb'.mono (by simp; omega))
      · go_wp2_with (first | (go_at_call 55; refine (section_fits S[k] _).mono ?_; rintro e w' ⟨rfl, hb'⟩))
        go_roundw
        case rel => exact ⟨k + 1, by omega, by go_num, by rw [all_take_succ _ _ hlt, hall, hs]; rfl, (hbel.alloc (by omega) _).trans (hb'.mono (by simp; omega))⟩
        case measure => simp [intOf]; omega
    · obtain ⟨hc, hf⟩ := bcell hbel
      go_wp2_with (first | (go_at_call 51; refine (data_fits _ _).mono ?_; rintro e w' ⟨rfl, rfl⟩))
      go_ret
      refine ⟨ret_bool ?_, ?_⟩
      · rw [List.take_of_length_le (by omega)] at hall
        simp [fitB, hn, hall]
      · exact ((Below.refl _ _).alloc (Nat.le_refl _) _).trans (hbel.mono (by omega))
end Go.Proofs.YtdhmandnamajpaaDoor
