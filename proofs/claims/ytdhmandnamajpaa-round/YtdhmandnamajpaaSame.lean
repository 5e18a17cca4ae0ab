/-
  same: two containers that hold the same.
-/
import Derived.Test.YtdhmandnamajpaaRefNum
import Derived.Deep.QuietTactic
import Derived.BigQuiet
namespace Go.Proofs.Ytdhmandnamajpaa
open Go.RowKit Go.Joins

set_option maxHeartbeats 1000000 in
theorem same_zero (a a' : Option Addr) (c c' : Nat) (d : ByteArray) (w : World) :
    Calls Try.prog 8 #[.agg #[.slice a 0 c, .string d], .agg #[.slice a' 0 c', .string d]] w fun e w' => e = .returned (.bool true) ∧ Below w.heap.size w w' := by
  go_enter Try.func8, Try.ntmps8
  go_wp2
  go_loopw [5] (fun i wr => i = .int .i64 0 ∧ Below (w.heap.size + 2) ((w.alloc (.cells #[.slice a 0 c, .string d] 24)).alloc (.cells #[.slice a' 0 c', .string d] 24)) wr) (fun _ _ => 0)
  case atStart => exact ⟨rfl, Below.refl _ _⟩
  case round =>
    obtain ⟨rfl, hbel⟩ := hrel
    have c0 : wr.cell? ⟨w.heap.size, 0, none⟩ = some (.slice a 0 c) := by rw [(bcell hbel).1 _ _ (by omega)]; simp
    go_wp2
    go_ret
    exact ⟨rfl, (((Below.refl _ _).alloc (Nat.le_refl _) _).alloc (by simp) _).trans (hbel.mono (by omega))⟩

set_option maxHeartbeats 1000000 in
theorem same_some (S : List Sec) (g off cap g2 off2 cap2 : Nat) (d : ByteArray) (w : World) (h1 : SecsAt w g off S) (h2 : SecsAt w g2 off2 S) (hl : S.length ≤ 6) :
    Calls Try.prog 8 #[.agg #[.slice (some ⟨g, off, none⟩) S.length cap, .string d], .agg #[.slice (some ⟨g2, off2, none⟩) S.length cap2, .string d]] w fun e w' => e = .returned (.bool true) ∧ Below w.heap.size w w' := by
  have H1 := hid h1
  have H2 := hid h2
  have hg1 := h1.1
  have hg2 := h2.1
  clear h1 h2
  go_enter Try.func8, Try.ntmps8
  go_wp2
  go_loopw [5] (fun i wr => ∃ k q : Nat, k ≤ S.length ∧ i = .int .i64 k ∧ wr = (((w.alloc (.cells #[.slice (some ⟨g, off, none⟩) S.length cap, .string d] 24)).alloc (.cells #[.slice (some ⟨g2, off2, none⟩) S.length cap2, .string d] 24)).drewN q)) (fun i _ => S.length - (intOf i).toNat)
  case atStart => exact ⟨0, 0, Nat.zero_le _, rfl, rfl⟩
  case round =>
    obtain ⟨k, q, hk, rfl, rfl⟩ := hrel
    by_cases hlt : k < S.length
    · obtain ⟨a0, a1, a2, a3⟩ := ((H1.out.alloc (.cells #[.slice (some ⟨g, off, none⟩) S.length cap, .string d] 24)).alloc (.cells #[.slice (some ⟨g2, off2, none⟩) S.length cap2, .string d] 24)).at k hlt
      obtain ⟨e0, e1, e2, e3⟩ := ((H2.out.alloc (.cells #[.slice (some ⟨g, off, none⟩) S.length cap, .string d] 24)).alloc (.cells #[.slice (some ⟨g2, off2, none⟩) S.length cap2, .string d] 24)).at k hlt
      have z0 : (0 : Int) ≤ (k : Int) := by omega
      have z1 : (k : Int) < (S.length : Int) := by omega
      go_wp2
      go_quiet (fail)
      go_wp2
      go_roundw
      case rel => exact ⟨k + 1, _, by omega, by go_num, rfl⟩
      case measure => simp [intOf]; omega
    · go_wp2
      go_ret
      exact ⟨rfl, (((Below.refl _ _).alloc (Nat.le_refl _) _).alloc (by simp) _).trans (below_draws _ _ _)⟩

/-- Two slices of the same sections. -/
theorem same_any (S : List Sec) (B B' : Nat) (v v' : Value) (d : ByteArray) (w : World) (h1 : SlAt B w v S) (h2 : SlAt B' w v' S) (hl : S.length ≤ 6) :
    Calls Try.prog 8 #[.agg #[v, .string d], .agg #[v', .string d]] w fun e w' => e = .returned (.bool true) ∧ Below w.heap.size w w' := by
  rcases h1 with ⟨rfl, h⟩ | ⟨g, off, cap, rfl, _, h1⟩
  · rcases h2 with ⟨rfl, _⟩ | ⟨g2, off2, cap2, rfl, _, h2⟩
    · exact same_zero _ _ _ _ d w
    · subst h; exact same_zero _ _ _ _ d w
  · rcases h2 with ⟨rfl, h⟩ | ⟨g2, off2, cap2, rfl, _, h2⟩
    · subst h; exact same_zero _ _ _ _ d w
    · exact same_some S g off cap g2 off2 cap2 d w h1 h2 hl

theorem SlAt.form {B : Nat} {w : World} {v : Value} {S : List Sec} (h : SlAt B w v S) : ∃ a n c, v = .slice a n c := by
  rcases h with ⟨rfl, _⟩ | ⟨g, off, cap, rfl, _⟩
  · exact ⟨_, _, _, rfl⟩
  · exact ⟨_, _, _, rfl⟩
theorem SlAt.below {B B2 : Nat} {w w' : World} {v : Value} {S : List Sec} (h : SlAt B w v S) (hb : Below B2 w w') (hB : w.heap.size ≤ B2) : SlAt B w' v S := by
  rcases h with h | ⟨g, off, cap, hv, hg, hs⟩
  · exact .inl h
  · exact .inr ⟨g, off, cap, hv, hg, hs.below (Nat.lt_of_lt_of_le hs.1 hB) hb⟩
theorem SlAt.alloc {B : Nat} {w : World} {v : Value} {S : List Sec} (h : SlAt B w v S) (o : Obj) : SlAt B (w.alloc o) v S := h.below ((Below.refl _ _).alloc (Nat.le_refl _) o) (Nat.le_refl _)

/-- What both Parses answer. -/
def Parsed (b : ByteArray) (w : World) (x : Ending) (w' : World) : Prop := ∃ sv, x = .returned (.tuple #[.agg #[sv, .string (pD b)], .int .i64 (parseE b)]) ∧ SlAt w.heap.size w' sv (pS b) ∧ Below w.heap.size w w'

theorem pS_length (b : ByteArray) : (pS b).length ≤ 6 := by
  unfold pS
  by_cases h : parseE b = 0
  · rw [if_pos h, psecs_length]
    unfold parseE at h
    cases hm : magicB b with
    | true => simp [hm] at h
    | false =>
      simp only [hm] at h
      by_cases he : er b 2 1 (inB 1 6 (num1 b 2 : Int)) = 0
      · have := inB_iff.1 (er_zero he).2
        omega
      · simp [he] at h
  · rw [if_neg h]; simp

set_option maxHeartbeats 1000000 in
theorem parses_walk (b : ByteArray) (w : World) (hr : ∀ w : World, Calls Try.prog 7 #[.string b] w (Parsed b w)) :
    Calls Try.prog 3 #[.string b] w fun e w' => e = .returned (.bool true) ∧ Below w.heap.size w w' := by
  have HRR := hid hr
  have hk : ∀ w : World, Calls Try.prog 6 #[.string b] w (Parsed b w) := fun w => keel_parse b w
  have HKK := hid hk
  have hl := hid (pS_length b)
  clear hr hk
  go_enter Try.func3, Try.ntmps3
  go_wp2_with fail
  refine (HKK.out _).mono ?_
  rintro x w1 ⟨sv, rfl, hs1, hb1⟩
  obtain ⟨a1, n1, c1, hv1⟩ := hs1.form
  subst hv1
  have HS1 := hid hs1
  have HB1 := hid hb1
  clear hs1 hb1
  go_wp2_with fail
  refine (HRR.out _).mono ?_
  rintro x w2 ⟨sv2, rfl, hs2, hb2⟩
  obtain ⟨a2, n2, c2, hv2⟩ := hs2.form
  subst hv2
  have HS2 := hid hs2
  have HB2 := hid hb2
  have hz2 : w1.heap.size < w2.heap.size := by have := hb2.size; simp at this; omega
  have d0 : w2.cell? ⟨w1.heap.size, 0, none⟩ = some (.slice a1 n1 c1) := by rw [(bcell hb2).1 _ _ (by simp)]; simp
  have d1 : w2.cell? ⟨w1.heap.size, 1, none⟩ = some (.string (pD b)) := by rw [(bcell hb2).1 _ _ (by simp)]; simp
  clear hs2 hb2
  go_wp2_with fail
  refine (same_any (pS b) w.heap.size (w1.heap.size + 1) _ _ (pD b) _ (((HS1.out.alloc _).below HB2.out (Nat.le_refl _)).alloc _) ?_ hl.out).mono ?_
  · have := HS2.out.alloc (.cells #[.slice a2 n2 c2, .string (pD b)] 24)
    simpa using this
  rintro x w3 ⟨rfl, hb3⟩
  go_wp2_with (go_at_call 9; refine (law_num _ _).mono ?_; rintro e w' ⟨rfl, rfl⟩)
  go_ret
  refine ⟨rfl, ((((HB1.out.alloc HB1.out.size _).trans (HB2.out.mono (by have := HB1.out.size; simp; omega))).alloc (by have := HB1.out.size; omega) _).trans (hb3.mono (by have := HB1.out.size; simp; omega)))⟩
end Go.Proofs.Ytdhmandnamajpaa
