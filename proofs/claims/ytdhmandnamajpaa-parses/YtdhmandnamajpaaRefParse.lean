/-
  The reference's Parse.
-/
import Derived.Test.YtdhmandnamajpaaRefNum
import Derived.Deep.AppendLies
namespace Go.Proofs.Ytdhmandnamajpaa
open Go.RowKit Go.Joins

set_option maxHeartbeats 2000000 in
set_option maxRecDepth 100000 in
theorem refParse_magic (b : ByteArray) (w : World) (hm : magicB b = true) :
    Calls Try.prog 7 #[.string b] w fun x w' => x = .returned (.tuple #[.agg #[.slice none 0 0, .string ByteArray.empty], .int .i64 1]) ∧ Below w.heap.size w w' := by
  have hcase : (b.size = 1 ∧ ¬ byteN b 0 = 75) ∨ (2 ≤ b.size ∧ ¬ byteN b 0 = 75) ∨ (2 ≤ b.size ∧ byteN b 0 = 75 ∧ ¬ byteN b 1 = 1) := by
    simp [magicB] at hm
    omega
  rcases hcase with ⟨h1, h2⟩ | ⟨h1, h2⟩ | ⟨h1, h2, h3⟩
  · have hpos : 0 < b.size := by omega
    rw [byteN_get b 0 hpos] at h2
    have i0 : (0 : Int) < (b.size : Int) := by omega
    have t0 : ((b[0].toNat : Int) != 75) = true := by simp; omega
    have H1 := hid h1
    have H2 := hid h2
    clear h1 h2 hm
    go_enter Try.func7, Try.ntmps7
    go_wp2
    refine bodyPost_ret (v := .tuple #[.agg #[.slice none 0 0, .string ⟨#[]⟩], .int .i64 1]) (by simp [results, Try.results7, go_sem]) rfl ⟨rfl, ((Below.refl _ _).alloc (Nat.le_refl _) _).alloc (by simp) _⟩
  · have hpos : 0 < b.size := by omega
    rw [byteN_get b 0 hpos] at h2
    have i0 : (0 : Int) < (b.size : Int) := by omega
    have t0 : ((b[0].toNat : Int) != 75) = true := by simp; omega
    have H1 := hid h1
    have H2 := hid h2
    clear h1 h2 hm
    go_enter Try.func7, Try.ntmps7
    go_wp2
    refine bodyPost_ret (v := .tuple #[.agg #[.slice none 0 0, .string ⟨#[]⟩], .int .i64 1]) (by simp [results, Try.results7, go_sem]) rfl ⟨rfl, ((Below.refl _ _).alloc (Nat.le_refl _) _).alloc (by simp) _⟩
  · have hpos : 0 < b.size := by omega
    have hpos1 : 1 < b.size := by omega
    rw [byteN_get b 0 hpos] at h2
    rw [byteN_get b 1 hpos1] at h3
    have i0 : (0 : Int) < (b.size : Int) := by omega
    have i1 : (1 : Int) < (b.size : Int) := by omega
    have t0 : ((b[0].toNat : Int) != 75) = false := by simp [h2]
    have t1 : ((b[1].toNat : Int) != 1) = true := by simp; omega
    have H1 := hid h1
    have H2 := hid h2
    have H3 := hid h3
    clear h1 h2 h3 hm
    go_enter Try.func7, Try.ntmps7
    go_wp2
    refine bodyPost_ret (v := .tuple #[.agg #[.slice none 0 0, .string ⟨#[]⟩], .int .i64 1]) (by simp [results, Try.results7, go_sem]) rfl ⟨rfl, ((Below.refl _ _).alloc (Nat.le_refl _) _).alloc (by simp) _⟩

theorem not_magic (b : ByteArray) (hm : magicB b = false) : (b.size = 0) ∨ (b.size = 1 ∧ byteN b 0 = 75) ∨ (2 ≤ b.size ∧ byteN b 0 = 75 ∧ byteN b 1 = 1) := by
  simp [magicB] at hm
  omega

/-- The number of sections is wrong, or is not there. -/
theorem refWrong_ne (N : Int) (ok : Bool) (h : refWrong N ok ≠ 0) : (refWrong N ok == 0) = false := by simpa using h

set_option maxHeartbeats 4000000 in
set_option maxRecDepth 100000 in
theorem refParse_count (b : ByteArray) (w : World) (hm : magicB b = false) (he : er b 2 1 (inB 1 6 (num1 b 2 : Int)) ≠ 0) :
    Calls Try.prog 7 #[.string b] w fun x w' => x = .returned (.tuple #[.agg #[.slice none 0 0, .string ByteArray.empty], .int .i64 (er b 2 1 (inB 1 6 (num1 b 2 : Int)))]) ∧ Below w.heap.size w w' := by
  have hN : refNum b 2 1 < 1 ∨ 6 < refNum b 2 1 := by
    rcases (show refNum b 2 1 < 1 ∨ 6 < refNum b 2 1 ∨ (1 ≤ refNum b 2 1 ∧ refNum b 2 1 ≤ 6) by omega) with h | h | ⟨h1, h2⟩
    · exact .inl h
    · exact .inr h
    · exfalso
      apply he
      rw [← wrong_count b true (by rw [inB_true h1 h2])]
      simp [refWrong]
      omega
  have HE : Hid (refWrong (refNum b 2 1) false = er b 2 1 (inB 1 6 (num1 b 2 : Int))) := wrong_count b false (by rcases hN with h | h <;> first | rw [inB_low h] | rw [inB_high h])
  have te : (refWrong (refNum b 2 1) false == 0) = false := refWrong_ne _ _ (by rw [HE.out]; exact he)
  have hcases := not_magic b hm
  clear hm he
  have hN : refNum b 2 1 < 1 ∨ (6 < refNum b 2 1 ∧ 1 ≤ refNum b 2 1 ∧ decide (refNum b 2 1 ≤ 6) = false) := by
    rcases hN with h | h
    · exact .inl h
    · exact .inr ⟨h, by omega, by simp; omega⟩
  rcases hcases with h1 | ⟨h1, h2⟩ | ⟨h1, h2, h3⟩
  · have i0 : ¬ (0 : Int) < (b.size : Int) := by omega
    have i1 : ¬ (1 : Int) < (b.size : Int) := by omega
    have H1 := hid h1
    clear h1
    rcases hN with hN | ⟨hN, hN1, hN2⟩
    all_goals
      go_enter Try.func7, Try.ntmps7
      go_wp2_with (first | (go_at_call 14; refine (ref_number1 b 2 _ (by omega)).mono ?_; rintro x w1 ⟨rfl, nq, rfl⟩) | (go_at_call 15; refine (ref_wrong _ _ _).mono ?_; rintro x w2 ⟨rfl, rfl⟩))
      go_loopw [6, 7, 8, 9, 10] (fun se sa sl sz i wr => se = .int .i64 (refWrong (refNum b 2 1) false) ∧ sa = .int .i64 3 ∧ sl = .slice none 0 0 ∧ sz = .slice none 0 0 ∧ i = .int .i64 0 ∧ ∃ q, wr = ((w.alloc (.cells #[.slice none 0 0, .string ⟨#[]⟩] 24)).alloc (.cells #[.slice none 0 0, .string ⟨#[]⟩] 24)).drewN q) (fun _ _ _ _ _ _ => 0)
      case atStart => exact ⟨rfl, rfl, rfl, rfl, rfl, _, rfl⟩
      case round =>
        obtain ⟨rfl, rfl, rfl, rfl, rfl, q, rfl⟩ := hrel
        go_wp2
        go_loopw [7, 16] (fun sa i wr => sa = .int .i64 3 ∧ i = .int .i64 0 ∧ ∃ q, wr = ((w.alloc (.cells #[.slice none 0 0, .string ⟨#[]⟩] 24)).alloc (.cells #[.slice none 0 0, .string ⟨#[]⟩] 24)).drewN q) (fun _ _ _ => 0)
        case atStart => exact ⟨rfl, rfl, _, rfl⟩
        case round =>
          obtain ⟨rfl, rfl, q', rfl⟩ := hrel
          go_wp2
          refine bodyPost_ret (v := .tuple #[.agg #[.slice none 0 0, .string ⟨#[]⟩], .int .i64 (refWrong (refNum b 2 1) false)]) (by simp [results, Try.results7, go_sem]) rfl ⟨by rw [HE.out]; rfl, ?_⟩
          first
            | exact (((Below.refl _ _).alloc (Nat.le_refl _) _).alloc (by simp) _).trans (below_draws _ _ _)
            | exact (((((Below.refl _ _).alloc (Nat.le_refl _) _).alloc (by simp) _).trans (below_draws _ _ _)).setCell (Nat.le_refl _) _).setCell (Nat.le_refl _) _
  · have hpos : 0 < b.size := by omega
    rw [byteN_get b 0 hpos] at h2
    have i0 : (0 : Int) < (b.size : Int) := by omega
    have i1 : ¬ (1 : Int) < (b.size : Int) := by omega
    have t0 : ((b[0].toNat : Int) != 75) = false := by simp [h2]
    have H1 := hid h1
    have H2 := hid h2
    clear h1 h2
    rcases hN with hN | ⟨hN, hN1, hN2⟩
    all_goals
      go_enter Try.func7, Try.ntmps7
      go_wp2_with (first | (go_at_call 14; refine (ref_number1 b 2 _ (by omega)).mono ?_; rintro x w1 ⟨rfl, nq, rfl⟩) | (go_at_call 15; refine (ref_wrong _ _ _).mono ?_; rintro x w2 ⟨rfl, rfl⟩))
      go_loopw [6, 7, 8, 9, 10] (fun se sa sl sz i wr => se = .int .i64 (refWrong (refNum b 2 1) false) ∧ sa = .int .i64 3 ∧ sl = .slice none 0 0 ∧ sz = .slice none 0 0 ∧ i = .int .i64 0 ∧ ∃ q, wr = ((w.alloc (.cells #[.slice none 0 0, .string ⟨#[]⟩] 24)).alloc (.cells #[.slice none 0 0, .string ⟨#[]⟩] 24)).drewN q) (fun _ _ _ _ _ _ => 0)
      case atStart => exact ⟨rfl, rfl, rfl, rfl, rfl, _, rfl⟩
      case round =>
        obtain ⟨rfl, rfl, rfl, rfl, rfl, q, rfl⟩ := hrel
        go_wp2
        go_loopw [7, 16] (fun sa i wr => sa = .int .i64 3 ∧ i = .int .i64 0 ∧ ∃ q, wr = ((w.alloc (.cells #[.slice none 0 0, .string ⟨#[]⟩] 24)).alloc (.cells #[.slice none 0 0, .string ⟨#[]⟩] 24)).drewN q) (fun _ _ _ => 0)
        case atStart => exact ⟨rfl, rfl, _, rfl⟩
        case round =>
          obtain ⟨rfl, rfl, q', rfl⟩ := hrel
          go_wp2
          refine bodyPost_ret (v := .tuple #[.agg #[.slice none 0 0, .string ⟨#[]⟩], .int .i64 (refWrong (refNum b 2 1) false)]) (by simp [results, Try.results7, go_sem]) rfl ⟨by rw [HE.out]; rfl, ?_⟩
          first
            | exact (((Below.refl _ _).alloc (Nat.le_refl _) _).alloc (by simp) _).trans (below_draws _ _ _)
            | exact (((((Below.refl _ _).alloc (Nat.le_refl _) _).alloc (by simp) _).trans (below_draws _ _ _)).setCell (Nat.le_refl _) _).setCell (Nat.le_refl _) _
  · have hpos : 0 < b.size := by omega
    have hpos1 : 1 < b.size := by omega
    rw [byteN_get b 0 hpos] at h2
    rw [byteN_get b 1 hpos1] at h3
    have i0 : (0 : Int) < (b.size : Int) := by omega
    have i1 : (1 : Int) < (b.size : Int) := by omega
    have t0 : ((b[0].toNat : Int) != 75) = false := by simp [h2]
    have t1 : ((b[1].toNat : Int) != 1) = false := by simp [h3]
    have H1 := hid h1
    have H2 := hid h2
    have H3 := hid h3
    clear h1 h2 h3
    rcases hN with hN | ⟨hN, hN1, hN2⟩
    all_goals
      go_enter Try.func7, Try.ntmps7
      go_wp2_with (first | (go_at_call 14; refine (ref_number1 b 2 _ (by omega)).mono ?_; rintro x w1 ⟨rfl, nq, rfl⟩) | (go_at_call 15; refine (ref_wrong _ _ _).mono ?_; rintro x w2 ⟨rfl, rfl⟩))
      go_loopw [6, 7, 8, 9, 10] (fun se sa sl sz i wr => se = .int .i64 (refWrong (refNum b 2 1) false) ∧ sa = .int .i64 3 ∧ sl = .slice none 0 0 ∧ sz = .slice none 0 0 ∧ i = .int .i64 0 ∧ ∃ q, wr = ((w.alloc (.cells #[.slice none 0 0, .string ⟨#[]⟩] 24)).alloc (.cells #[.slice none 0 0, .string ⟨#[]⟩] 24)).drewN q) (fun _ _ _ _ _ _ => 0)
      case atStart => exact ⟨rfl, rfl, rfl, rfl, rfl, _, rfl⟩
      case round =>
        obtain ⟨rfl, rfl, rfl, rfl, rfl, q, rfl⟩ := hrel
        go_wp2
        go_loopw [7, 16] (fun sa i wr => sa = .int .i64 3 ∧ i = .int .i64 0 ∧ ∃ q, wr = ((w.alloc (.cells #[.slice none 0 0, .string ⟨#[]⟩] 24)).alloc (.cells #[.slice none 0 0, .string ⟨#[]⟩] 24)).drewN q) (fun _ _ _ => 0)
        case atStart => exact ⟨rfl, rfl, _, rfl⟩
        case round =>
          obtain ⟨rfl, rfl, q', rfl⟩ := hrel
          go_wp2
          refine bodyPost_ret (v := .tuple #[.agg #[.slice none 0 0, .string ⟨#[]⟩], .int .i64 (refWrong (refNum b 2 1) false)]) (by simp [results, Try.results7, go_sem]) rfl ⟨by rw [HE.out]; rfl, ?_⟩
          first
            | exact (((Below.refl _ _).alloc (Nat.le_refl _) _).alloc (by simp) _).trans (below_draws _ _ _)
            | exact (((((Below.refl _ _).alloc (Nat.le_refl _) _).alloc (by simp) _).trans (below_draws _ _ _)).setCell (Nat.le_refl _) _).setCell (Nat.le_refl _) _
end Go.Proofs.Ytdhmandnamajpaa
