/-
  The reference's number and wrong; keel.Parse.
-/
import Derived.Test.YtdhmandnamajpaaRead
namespace Go.Proofs.Ytdhmandnamajpaa
open Go.RowKit Go.Joins

set_option maxHeartbeats 400000

theorem keel_parse (b : ByteArray) (w : World) :
    Calls Try.prog 6 #[.string b] w fun x w' => ∃ sv, x = .returned (.tuple #[.agg #[sv, .string (pD b)], .int .i64 (parseE b)]) ∧ SlAt w.heap.size w' sv (pS b) ∧ Below w.heap.size w w' := by
  go_enter Try.func6, Try.ntmps6
  go_wp2_with fail
  refine (read_any b _).mono ?_
  rintro x w1 ⟨sv, rfl, hs, hb⟩
  have hA : w1.heap[w.heap.size]? = some (.cells #[.slice none 0 0, .string ⟨#[]⟩] 24 (0, 0)) := by
    rw [hb.block w.heap.size (by simp)]
    exact heap_alloc_new w _
  have ca0 := cell_of_block hA 0
  have ca1 := cell_of_block hA 1
  have fa0 := unfrozen_of_block hA 0
  have fa1 := unfrozen_of_block hA 1
  have HS := hid hs
  have HB := hid hb
  clear hs hb
  have hsv : ∃ a n c, sv = .slice a n c := by
    rcases HS.out with ⟨h, _⟩ | ⟨_, _, _, h, _⟩
    · exact ⟨_, _, _, h⟩
    · exact ⟨_, _, _, h⟩
  obtain ⟨ao, nn, cp, hv⟩ := hsv
  subst hv
  go_wp2
  have HBk : ((w1.setCell ⟨w.heap.size, 0, none⟩ (.slice ao nn cp)).setCell ⟨w.heap.size, 1, none⟩ (.string (pD b))).heap[w.heap.size]? = some (.cells #[.slice ao nn cp, .string (pD b)] 24 (0, 0)) := block_setCell (block_setCell hA _) _
  have b0 := cell_of_block HBk 0
  have b1 := cell_of_block HBk 1
  refine bodyPost_ret (v := .tuple #[.agg #[.slice ao nn cp, .string (pD b)], .int .i64 (parseE b)]) (by simp [results, Try.results6, go_sem, b0, b1]) rfl ⟨_, rfl, ?_, ?_⟩
  · rcases HS.out with h | ⟨g, off, c, h1, h2, h3⟩
    · exact .inl h
    · refine .inr ⟨g, off, c, h1, by simp at h2; omega, ?_⟩
      obtain ⟨y1, y2⟩ := h3
      refine ⟨by simpa [World.setCell] using y1, fun k s hk => ?_⟩
      have hne : g ≠ w.heap.size := by simp at h2; omega
      have hc : ∀ o, ((w1.setCell ⟨w.heap.size, 0, none⟩ (.slice ao nn cp)).setCell ⟨w.heap.size, 1, none⟩ (.string (pD b))).cell? ⟨g, o, none⟩ = w1.cell? ⟨g, o, none⟩ := fun o => by
        unfold World.cell?
        rw [Below.heap_setCell _ _ _ _ hne, Below.heap_setCell _ _ _ _ hne]
      rw [hc, hc, hc, hc]
      exact y2 k s hk
  · exact ((((Below.refl _ _).alloc (Nat.le_refl _) _).trans (HB.out.mono (by simp))).setCell (Nat.le_refl _) _).setCell (Nat.le_refl _) _

/-- number: -1 where it is not there. -/
def refNum (b : ByteArray) (p k : Nat) : Int := if b.size < p + k then -1 else if k = 1 then (num1 b p : Nat) else (num2 b p : Nat)
def refWrong (n : Int) (ok : Bool) : Int := if n < 0 then 2 else if ok then 0 else 3

theorem ref_number1 (b : ByteArray) (p : Nat) (w : World) (hp : p ≤ 100000) :
    Calls Try.prog 14 #[.string b, .int .i64 p, .int .i64 1] w fun x w' => x = .returned (.int .i64 (refNum b p 1)) ∧ ∃ n, w' = w.drewN n := by
  by_cases hs : b.size < p + 1
  · have e : Hid (refNum b p 1 = -1) := by show refNum b p 1 = -1; simp [refNum, hs]
    go_enter Try.func14, Try.ntmps14
    go_wp2
    go_ret
    exact ⟨ret_int e.out.symm, 0, rfl⟩
  · have e : Hid (refNum b p 1 = (b[p].toNat : Int)) := by show refNum b p 1 = _; simp [refNum, hs, num1, byteN_get b p (by omega)]
    go_enter Try.func14, Try.ntmps14
    go_wp2
    go_ret
    exact ⟨ret_int (by rw [e.out]; exact wrap_small _ (by have := UInt8.toNat_lt b[p]; omega)), 0, rfl⟩

set_option maxHeartbeats 1000000 in
theorem ref_number2 (b : ByteArray) (p : Nat) (w : World) (hp : p ≤ 100000) :
    Calls Try.prog 14 #[.string b, .int .i64 p, .int .i64 2] w fun x w' => x = .returned (.int .i64 (refNum b p 2)) ∧ ∃ n, w' = w.drewN n := by
  by_cases hs : b.size < p + 2
  · have e : Hid (refNum b p 2 = -1) := by show refNum b p 2 = -1; simp [refNum, hs]
    go_enter Try.func14, Try.ntmps14
    go_wp2
    go_ret
    exact ⟨ret_int e.out.symm, 0, rfl⟩
  · have e : Hid (refNum b p 2 = 256 * (b[p].toNat : Int) + (b[p + 1].toNat : Int)) := by show refNum b p 2 = _; simp [refNum, hs, num2, byteN_get b p (by omega), byteN_get b (p + 1) (by omega)]
    have i0 : (p : Int) < (b.size : Int) := by omega
    have i1 : (p : Int) + 1 < (b.size : Int) := by omega
    have i2 : (0 : Int) ≤ (p : Int) := by omega
    have i0' : p < b.size := by omega
    have i1' : p + 1 < b.size := by omega
    have hw : IntKind.i64.wrap ((p : Int) + 1) = (p : Int) + 1 := by rw [IntKind.wrap_i64]; omega
    have hidx : ∀ w : World, (Instr.index 9 (.string b) (.int .i64 ((p : Int) + 1))).run Try.prog w = .ok (.int .u8 (b[p + 1].toNat : Int)) w := fun w => by
      rw [run_index_string w 9 b .i64 _ Try.underlying9, dif_pos ⟨by omega, by omega⟩]
      have : ((p : Int) + 1).toNat = p + 1 := by omega
      simp only [this]
    have hx0 := UInt8.toNat_lt b[p]
    have hx1 := UInt8.toNat_lt b[p + 1]
    go_enter Try.func14, Try.ntmps14
    go_wp2
    go_quiet (fail)
    go_wp2
    go_ret
    exact ⟨ret_int e.out.symm, _, rfl⟩

theorem ref_wrong (n : Int) (ok : Bool) (w : World) :
    Calls Try.prog 15 #[.int .i64 n, .bool ok] w fun x w' => x = .returned (.int .i64 (refWrong n ok)) ∧ w' = w := by
  by_cases hn : n < 0
  · have e : Hid (refWrong n ok = 2) := by show refWrong n ok = 2; simp [refWrong, hn]
    go_enter Try.func15, Try.ntmps15
    go_wp2
    go_ret
    exact ⟨ret_int e.out.symm, rfl⟩
  · cases ok
    · have e : Hid (refWrong n false = 3) := by show refWrong n false = 3; simp [refWrong, hn]
      go_enter Try.func15, Try.ntmps15
      go_wp2
      go_ret
      exact ⟨ret_int e.out.symm, rfl⟩
    · have e : Hid (refWrong n true = 0) := by show refWrong n true = 0; simp [refWrong, hn]
      go_enter Try.func15, Try.ntmps15
      go_wp2
      go_ret
      exact ⟨ret_int e.out.symm, rfl⟩

/-- What the reference finds is what is wrong. -/
theorem wrong_one (b : ByteArray) (p : Nat) (hi : Int) : refWrong (refNum b p 1) (decide (refNum b p 1 ≤ hi)) = er b p 1 (inB 0 hi (num1 b p : Int)) := by
  unfold refNum er
  by_cases hs : b.size < p + 1
  · simp [hs, refWrong]
  · simp only [hs, if_false, if_true, refWrong]
    rw [if_neg (by omega)]
    have : inB 0 hi (num1 b p : Int) = decide ((num1 b p : Int) ≤ hi) := by simp [inB]
    rw [this]
theorem wrong_out (b : ByteArray) (p : Nat) : refWrong (refNum b p 1) (outB (refNum b p 1)) = er b p 1 (outB (num1 b p : Int)) := by
  unfold refNum er
  by_cases hs : b.size < p + 1
  · simp [hs, refWrong]
  · simp only [hs, if_false, if_true, refWrong]
    rw [if_neg (by omega)]
theorem wrong_code (b : ByteArray) (p : Nat) (ok : Bool) (h : ok = inB 1 120 (refNum b p 2)) : refWrong (refNum b p 2) ok = er b p 2 (inB 1 120 (num2 b p : Int)) := by
  subst h
  unfold refNum er
  by_cases hs : b.size < p + 2
  · simp [hs, refWrong]
  · simp only [hs, if_false, refWrong]
    rw [if_neg (by simp)]
    simp
theorem wrong_data (b : ByteArray) (p : Nat) : refWrong (refNum b p 2) (decide (refNum b p 2 ≤ 60)) = er b p 2 (inB 0 60 (num2 b p : Int)) := by
  unfold refNum er
  by_cases hs : b.size < p + 2
  · simp [hs, refWrong]
  · simp only [hs, if_false, refWrong]
    rw [if_neg (by simp)]
    have : inB 0 60 (num2 b p : Int) = decide ((num2 b p : Int) ≤ 60) := by simp [inB]
    rw [this]
    simp
theorem wrong_count (b : ByteArray) (ok : Bool) (h : ok = inB 1 6 (refNum b 2 1)) : refWrong (refNum b 2 1) ok = er b 2 1 (inB 1 6 (num1 b 2 : Int)) := by
  subst h
  unfold refNum er
  by_cases hs : b.size < 2 + 1
  · simp [hs, refWrong]
  · simp only [hs, if_false, if_true, refWrong]
    rw [if_neg (by omega)]
theorem num_ok (b : ByteArray) (p : Nat) (h : ¬ b.size < p + 1) : refNum b p 1 = (num1 b p : Int) := by simp [refNum, h]
theorem num_ok2 (b : ByteArray) (p : Nat) (h : ¬ b.size < p + 2) : refNum b p 2 = (num2 b p : Int) := by simp [refNum, h]
end Go.Proofs.Ytdhmandnamajpaa
