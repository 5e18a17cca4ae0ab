/-
  The reference's Fits.
-/
import Derived.Test.YtdhmandnamajpaaDoorWithin
namespace Go.Proofs.YtdhmandnamajpaaDoor
open Go.RowKit

theorem fits_count (n : Nat) (v : Option Addr) (d : ByteArray) (cap : Nat) (w : World) (hn : inB 1 6 (n : Int) = false) :
    Calls Tryd.prog 23 #[.agg #[.slice v n cap, .string d]] w fun e w' => e = .returned (.bool false) ∧ Below w.heap.size w w' := by
  cases hd : inB 0 60 (d.size : Int)
  all_goals
    go_enter Tryd.func23, Tryd.ntmps23
    go_wp2_with (first | (go_at_call 37; refine (ref_in _ _ _ _).mono ?_; rintro e w' ⟨rfl, rfl⟩))
    go_ret
    exact ⟨rfl, (Below.refl _ _).alloc (Nat.le_refl _) _⟩

theorem fits_data (n : Nat) (v : Option Addr) (d : ByteArray) (cap : Nat) (w : World) (hn : inB 1 6 (n : Int) = true) (hd : inB 0 60 (d.size : Int) = false) :
    Calls Tryd.prog 23 #[.agg #[.slice v n cap, .string d]] w fun e w' => e = .returned (.bool false) ∧ Below w.heap.size w w' := by
  go_enter Tryd.func23, Tryd.ntmps23
  go_wp2_with (first | (go_at_call 37; refine (ref_in _ _ _ _).mono ?_; rintro e w' ⟨rfl, rfl⟩))
  go_ret
  exact ⟨rfl, (Below.refl _ _).alloc (Nat.le_refl _) _⟩

set_option maxHeartbeats 1000000 in
theorem fits_some (S : List Sec) (d : ByteArray) (b off cap : Nat) (w : World) (hn : inB 1 6 (S.length : Int) = true) (hd : inB 0 60 (d.size : Int) = true) (hS : SecsAt w b off S) :
    Calls Tryd.prog 23 #[.agg #[.slice (some ⟨b, off, none⟩) S.length cap, .string d]] w fun e w' => e = .returned (.bool (fitB S d)) ∧ Below w.heap.size w w' := by
  have hlen := inB_iff.1 hn
  have hb := hS.1
  have HS : Hid (SecsAt w b off S) := hS
  clear hS
  go_enter Tryd.func23, Tryd.ntmps23
  go_wp2_with (first | (go_at_call 37; refine (ref_in _ _ _ _).mono ?_; rintro e w' ⟨rfl, rfl⟩))
  go_loopw [5] (fun i wr => ∃ k : Nat, k ≤ S.length ∧ i = .int .i64 k ∧ (S.take k).all secB = true ∧ Below (w.heap.size + 1) (w.alloc (.cells #[.slice (some ⟨b, off, none⟩) S.length cap, .string d] 24)) wr) (fun i _ => S.length - (intOf i).toNat)
  case atStart => exact ⟨0, Nat.zero_le _, rfl, by simp, Below.refl _ _⟩
  case round =>
    obtain ⟨k, hk, rfl, hall, hbel⟩ := hrel
    obtain ⟨hc, hf⟩ := bcell hbel
    by_cases hlt : k < S.length
    · obtain ⟨c0, c1, c2, c3⟩ := (SecsAt.below (HS.out.alloc _) (Nat.lt_succ_of_lt hb) hbel).at k hlt
      have hsz : w.heap.size + 1 ≤ wr.heap.size := by have := hbel.size; simpa using this
      have hsec : Hid (secB S[k] = (inB 0 9 S[k].i && outB S[k].o && inB 0 40 S[k].m && inB 1 120 (S[k].code.size : Int))) := rfl
      have hb0 : wr.cell? ⟨w.heap.size, 0, none⟩ = some (.slice (some ⟨b, off, none⟩) S.length cap) := by rw [hc _ _ (Nat.lt_succ_self _)]; simp
      have hb1 : wr.cell? ⟨w.heap.size, 1, none⟩ = some (.string d) := by rw [hc _ _ (Nat.lt_succ_self _)]; simp
      clear hc hf
      cases h1 : inB 0 9 S[k].i
      all_goals cases h2 : outB S[k].o
      all_goals cases h3 : inB 0 40 S[k].m
      all_goals cases h4 : inB 1 120 (S[k].code.size : Int)
      case true.true.true.true =>
        go_wp2_with (first | (go_at_call 37; refine (ref_in _ _ _ _).mono ?_; rintro e w' ⟨rfl, rfl⟩) | (go_at_call 38; refine (ref_gives _ _).mono ?_; rintro e w' ⟨rfl, rfl⟩))
        go_roundw
        case rel => exact ⟨k + 1, by omega, by go_num, by rw [all_take_succ _ _ hlt, hall, hsec.out, h1, h2, h3, h4]; rfl, hbel.alloc (by omega) _⟩
        case measure => simp [intOf]; omega
      all_goals
        go_wp2_with (first | (go_at_call 37; refine (ref_in _ _ _ _).mono ?_; rintro e w' ⟨rfl, rfl⟩) | (go_at_call 38; refine (ref_gives _ _).mono ?_; rintro e w' ⟨rfl, rfl⟩))
        go_ret
        refine ⟨ret_bool ?_, (((Below.refl _ _).alloc (Nat.le_refl _) _).trans (hbel.mono (by omega))).alloc (by omega) _⟩
        rw [fitB, all_false hlt (by rw [hsec.out, h1, h2, h3, h4]; rfl)]
        simp
    · go_wp2
      go_ret
      refine ⟨ret_bool ?_, ?_⟩
      · rw [List.take_of_length_le (by omega)] at hall
        simp [fitB, hn, hall, hd]
      · exact ((Below.refl _ _).alloc (Nat.le_refl _) _).trans (hbel.mono (by omega))
end Go.Proofs.YtdhmandnamajpaaDoor
