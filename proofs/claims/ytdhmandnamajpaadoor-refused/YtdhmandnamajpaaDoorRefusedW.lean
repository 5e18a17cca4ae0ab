/-
  The law Refused: the walks.
-/
import Derived.Test.YtdhmandnamajpaaDoorKeelC
namespace Go.Proofs.YtdhmandnamajpaaDoor
open Go.RowKit Go.Joins

set_option maxHeartbeats 1000000

theorem neg_tmod_eq (c : Int) (n : Int) (hc : c < 0) : -((c + 1).tmod n) = (-(c + 1)) % n := by
  rw [← Int.neg_tmod, Int.tmod_eq_emod_of_nonneg (by omega)]
theorem keep_pick (c : Int) (n : Nat) (w : World) (h1 : -9223372036854775808 ≤ c) (h2 : c ≤ 9223372036854775807) (hn : n = 20 ∨ n = 4) :
    Calls Tryd.prog 13 #[.int .i64 c, .int .i64 n] w fun e w' => ∃ r : Nat, e = .returned (.int .i64 r) ∧ r < n ∧ w' = w := by
  rcases hn with rfl | rfl
  · by_cases hc : c < 0
    · go_enter Tryd.func13, Tryd.ntmps13
      go_wp2_with fail
      go_ret
      refine ⟨((-(c + 1)) % 20).toNat, ret_int ?_, by omega, rfl⟩
      rw [neg_tmod_eq c 20 hc]
      omega
    · go_enter Tryd.func13, Tryd.ntmps13
      go_wp2_with fail
      go_ret
      exact ⟨(c % 20).toNat, ret_int (by omega), by omega, rfl⟩
  · by_cases hc : c < 0
    · go_enter Tryd.func13, Tryd.ntmps13
      go_wp2_with fail
      go_ret
      refine ⟨((-(c + 1)) % 4).toNat, ret_int ?_, by omega, rfl⟩
      rw [neg_tmod_eq c 4 hc]
      omega
    · go_enter Tryd.func13, Tryd.ntmps13
      go_wp2_with fail
      go_ret
      exact ⟨(c % 4).toNat, ret_int (by omega), by omega, rfl⟩

/-- The sample's sections, in block B. -/
def SmpAt (w : World) (B : Nat) (M : Int) : Prop := w.heap[B]? = some (.cells #[.int .i64 0, .int .i64 128, .int .i64 1, .string ⟨#[2, 0, 5, 18, 1, 14, 0]⟩, .int .i64 1, .int .i64 1, .int .i64 M, .string ⟨#[9, 0, 6, 19]⟩] 33 (0, 0))
theorem SmpAt.secs {w : World} {B : Nat} {M : Int} (h : SmpAt w B M) : SecsAt w B 0 [smp0, smp1 M] := by
  refine ⟨blt h, fun k s hk => ?_⟩
  match k, hk with
  | 0, hk =>
    simp at hk
    subst hk
    refine ⟨?_, ?_, ?_, ?_⟩ <;> (rw [cell_of_block h]; rfl)
  | 1, hk =>
    simp at hk
    subst hk
    refine ⟨?_, ?_, ?_, ?_⟩ <;> (rw [cell_of_block h]; rfl)
  | k + 2, hk => simp at hk
theorem keep_sample (w : World) :
    Calls Tryd.prog 26 #[] w fun e w' => ∃ B, e = .returned (.agg #[.slice (some ⟨B, 0, none⟩) 2 2, .string ⟨#[]⟩]) ∧ w.heap.size ≤ B ∧ SmpAt w' B 2 ∧ Below w.heap.size w w' := by
  go_enter Tryd.func26, Tryd.ntmps26
  go_wp2_with fail
  refine bodyPost_ret (v := .agg #[.slice (some ⟨w.heap.size + 1, 0, none⟩) 2 2, .string ⟨#[]⟩]) (by simp [results, Tryd.results26, go_sem]) rfl ⟨w.heap.size + 1, rfl, by omega, ?_, below2 _ _ _⟩
  exact blk_top _ _ (by simp)

theorem keep_looked (w : World) (hR : RowsAt w) :
    Calls Tryd.prog 12 #[] w fun e w' => e = .returned (.bool true) ∧ Below w.heap.size w w' := by
  have HR := hidc hR
  have h00 := hR.1
  clear hR
  go_enter Tryd.func12, Tryd.ntmps12
  go_wp2_with fail
  refine (keep_sample w).mono ?_
  rintro e w1 ⟨B, rfl, hB, hs, hb1⟩
  have HB1 := hidc (hb1.alloc (by have := hb1.size; omega) (.cells #[.slice (some ⟨B, 0, none⟩) 2 2, .string ⟨#[]⟩] 24))
  have HS1 : Hid (SmpAt (w1.alloc (.cells #[.slice (some ⟨B, 0, none⟩) 2 2, .string ⟨#[]⟩] 24)) B 2) := (Below.heap_alloc _ _ _ (blt hs)).trans hs
  have hBw : B < w1.heap.size := blt hs
  have hsz1 := hb1.size
  clear hs hb1
  go_wp2_with fail
  refine (keel_check_is [smp0, smp1 2] ⟨#[]⟩ B 0 2 _ (HR.out.below h00 HB1.out) (by decide) HS1.out.secs smp_ok).mono ?_
  rintro e w2 ⟨rfl, hb2⟩
  have hA : w2.heap[w1.heap.size]? = some (.cells #[.slice (some ⟨B, 0, none⟩) 2 2, .string ⟨#[]⟩] 24 (0, 0)) := keepB hb2 (heap_alloc_new w1 _)
  have HS2 : Hid (SmpAt w2 B 2) := keepB hb2 HS1.out
  have a0 : w2.cell? ⟨w1.heap.size, 0, none⟩ = some (.slice (some ⟨B, 0, none⟩) 2 2) := by rw [cell_of_block hA]; rfl
  have a1 : w2.cell? ⟨w1.heap.size, 1, none⟩ = some (.string ⟨#[]⟩) := by rw [cell_of_block hA]; rfl
  have b6 : w2.cell? ⟨B, 6, none⟩ = some (.int .i64 2) := by rw [cell_of_block HS2.out]; rfl
  have y6 : w2.frozen? ⟨B, 6, none⟩ = false := unfrozen_of_block HS2.out 6
  have HS3 : Hid (SmpAt (w2.setCell ⟨B, 6, none⟩ (.int .i64 3)) B 3) := block_setCell HS2.out _
  have HB2 := hidc ((HB1.out.trans (hb2.mono (by have := HB1.out.size; omega))).setCell (p := ⟨B, 6, none⟩) hB (.int .i64 3))
  have hne : w1.heap.size ≠ B := by omega
  have hszf : w.heap.size ≤ (w2.setCell ⟨B, 6, none⟩ (.int .i64 3)).heap.size := HB2.out.size
  clear hb2 hA
  go_wp2_with fail
  refine (keel_check_is [smp0, smp1 3] ⟨#[]⟩ B 0 2 _ (HR.out.below h00 HB2.out) (by decide) HS3.out.secs smp_max).mono ?_
  rintro e w3 ⟨rfl, hb3⟩
  have HB3 := hidc (HB2.out.trans (hb3.mono hszf))
  clear hb3
  go_wp2_with fail
  go_ret
  exact ⟨rfl, HB3.out⟩
end Go.Proofs.YtdhmandnamajpaaDoor
