/-
  The reader: begin, head, end.
-/
import Derived.Test.YtdhmandnamajpaaClone
import Derived.Deep.RegionHeld
import Derived.Deep.RegionHeld3
import Derived.Deep.QuietTactic
import Derived.BigQuiet
namespace Go.Proofs.Ytdhmandnamajpaa
open Go.RowKit

/-- end: what is left is too much. -/
theorem end_err (b : ByteArray) (r p : Nat) (e : Int) (w : World) (h : RdAt w r b p e) (he : (e == 0) = false) :
    Calls Try.prog 27 #[.pointer (some ⟨r, 0, none⟩)] w fun x w' => x = .returned (.tuple #[]) ∧ w' = w := by
  obtain ⟨c0, c1, f0, f1, hr⟩ := h.facts
  clear h
  go_enter Try.func27, Try.ntmps27
  go_wp2
  go_end0
  exact ⟨rfl, rfl⟩
theorem end_none (b : ByteArray) (r p : Nat) (w : World) (h : RdAt w r b p 0) (hp : p = b.size) :
    Calls Try.prog 27 #[.pointer (some ⟨r, 0, none⟩)] w fun x w' => x = .returned (.tuple #[]) ∧ w' = w := by
  obtain ⟨c0, c1, f0, f1, hr⟩ := h.facts
  have e0 : b.extract p b.size = ByteArray.empty := by
    subst hp
    apply ByteArray.ext
    simp
  rw [e0] at c0
  clear h
  go_enter Try.func27, Try.ntmps27
  go_wp2
  go_end0
  exact ⟨rfl, rfl⟩
theorem end_more (b : ByteArray) (r p : Nat) (w : World) (h : RdAt w r b p 0) (hp : p < b.size) :
    Calls Try.prog 27 #[.pointer (some ⟨r, 0, none⟩)] w fun x w' => x = .returned (.tuple #[]) ∧ RdAt w' r b p 4 ∧ w.grownBy w' (some r) := by
  obtain ⟨c0, c1, f0, f1, hr⟩ := h.facts
  have HR : Hid (RdAt w r b p 0) := h
  have hne : (b.extract p b.size).toList.isEmpty = false := by
    rw [ByteArray.toList_eq, List.isEmpty_eq_false_iff]
    intro hnil
    have := congrArg List.length hnil
    simp at this
    omega
  clear h
  go_enter Try.func27, Try.ntmps27
  go_wp2
  go_end0
  exact ⟨rfl, rd_set1 HR.out 4, grown_set _ _ _ _⟩

theorem end_any (b : ByteArray) (r p : Nat) (e : Int) (w : World) (h : RdAt w r b p e) (hp : e = 0 → p ≤ b.size) :
    Calls Try.prog 27 #[.pointer (some ⟨r, 0, none⟩)] w fun x w' => x = .returned (.tuple #[]) ∧ ∃ p' e', Went w w' r b e (if p < b.size then 4 else 0) e' p' := by
  by_cases he : e = 0
  · subst he
    by_cases hs : p < b.size
    · refine (end_more b r p w h hs).mono ?_
      rintro x w' ⟨rfl, hr, hg⟩
      exact ⟨rfl, p, 4, hr, hg, fun h => absurd rfl h, fun _ => by simp [hs], fun h => by simp at h⟩
    · refine (end_none b r p w h (by have := hp rfl; omega)).mono ?_
      rintro x w' ⟨rfl, rfl⟩
      exact ⟨rfl, p, 0, h, grown_refl _ _, fun h => absurd rfl h, fun _ => by simp [hs], fun _ => hp rfl⟩
  · refine (end_err b r p e w h (by simpa using he)).mono ?_
    rintro x w' ⟨rfl, rfl⟩
    exact ⟨rfl, p, e, h, grown_refl _ _, fun _ => rfl, fun h => absurd h he, fun h => absurd h he⟩

theorem rd_drew {w : World} {r p n : Nat} {b : ByteArray} {e : Int} (h : RdAt w r b p e) : RdAt (w.drewN n) r b p e := h
theorem grown_drew (w : World) (n : Nat) (row : Option Nat) : w.grownBy (w.drewN n) row := ⟨rfl, rfl, rfl, Nat.le_refl _, fun _ _ _ => rfl⟩

/-- What 'begin' finds. -/
def beginE (b : ByteArray) : Int := if magicB b then 1 else if b.size < 2 then 2 else 0
theorem magic_two (b : ByteArray) (h : 2 ≤ b.size) : magicB b = (!(byteN b 0 == 75) || !(byteN b 1 == 1)) := by
  have h0 : decide (0 < b.size) = true := by simp; omega
  have h1 : decide (1 < b.size) = true := by simp; omega
  simp [magicB, h0, h1]

set_option maxHeartbeats 1000000 in
theorem begin_two (b : ByteArray) (r : Nat) (w : World) (h : RdAt w r b 0 0) (h2 : 2 ≤ b.size) :
    Calls Try.prog 21 #[.pointer (some ⟨r, 0, none⟩)] w fun x w' => x = .returned (.tuple #[]) ∧ ∃ p' e', Went w w' r b 0 (beginE b) e' p' ∧ (e' = 0 → p' = 2) := by
  obtain ⟨c0, c1, f0, f1, hr⟩ := h.facts
  have HR : Hid (RdAt w r b 0 0) := h
  rw [ext_full] at c0
  clear h
  have g0 := hid (byteN_get b 0 (by omega))
  have g1 := hid (byteN_get b 1 (by omega))
  have HM := hid (magic_two b h2)
  have m0 : (⟨#[75, 1]⟩ : ByteArray)[0].toNat = 75 := rfl
  have m1 : (⟨#[75, 1]⟩ : ByteArray)[1].toNat = 1 := rfl
  rcases (show (b.size : Int) = 2 ∨ (2 : Int) < b.size by omega) with hz | hz
  all_goals
    go_enter Try.func21, Try.ntmps21
    go_wp2
    go_loopw [9] (fun i wr => ∃ k nq : Nat, k ≤ 2 ∧ i = .int .i64 k ∧ Hid (1 ≤ k → byteN b 0 = 75) ∧ Hid (2 ≤ k → byteN b 1 = 1) ∧ wr = w.drewN nq) (fun i _ => 2 - (intOf i).toNat)
    case atStart => exact ⟨0, 0, by omega, rfl, fun h => absurd h (by omega), fun h => absurd h (by omega), rfl⟩
    case round =>
      obtain ⟨k, nq, hk, rfl, K0, K1, rfl⟩ := hrel
      rcases (show k = 0 ∨ k = 1 ∨ k = 2 by omega) with rfl | rfl | rfl
      · have i0 : (0 : Int) < b.size := by omega
        have i0' : 0 < b.size := by omega
        by_cases h75 : b[0].toNat = 75
        · have t75 : ((b[0].toNat : Int) == 75) = true := by rw [h75]; rfl
          go_wp2
          go_quiet (fail)
          go_wp2
          go_roundw
          case rel => exact ⟨1, _, by omega, rfl, fun _ => g0.out.trans h75, fun h => absurd h (by omega), rfl⟩
          case measure => simp [intOf]
        · have t75 : ((b[0].toNat : Int) == 75) = false := by simp; omega
          have H75 := hid h75
          clear h75
          go_wp2
          go_quiet (fail)
          go_wp2
          refine bodyPost_ret (results_none rfl _ _ _) rfl ?_
          refine ⟨rfl, 0, 1, ⟨rd_set1 (rd_drew HR.out) 1, grown_trans (grown_drew _ _ _) (grown_set _ _ _ _), fun h => absurd rfl h, fun _ => ?_, fun h => by simp at h⟩, fun h => by simp at h⟩
          have : (byteN b 0 == 75) = false := by rw [g0.out]; simpa using H75.out
          simp [beginE, HM.out, this]
      · have i1 : (1 : Int) < b.size := by omega
        have i1' : 1 < b.size := by omega
        by_cases h75 : b[1].toNat = 1
        · have t75 : ((b[1].toNat : Int) == 1) = true := by rw [h75]; rfl
          go_wp2
          go_quiet (fail)
          go_wp2
          go_roundw
          case rel => exact ⟨2, _, by omega, rfl, fun _ => K0.out (by omega), fun _ => g1.out.trans h75, rfl⟩
          case measure => simp [intOf]
        · have t75 : ((b[1].toNat : Int) == 1) = false := by simp; omega
          have H75 := hid h75
          clear h75
          go_wp2
          go_quiet (fail)
          go_wp2
          refine bodyPost_ret (results_none rfl _ _ _) rfl ?_
          refine ⟨rfl, 0, 1, ⟨rd_set1 (rd_drew HR.out) 1, grown_trans (grown_drew _ _ _) (grown_set _ _ _ _), fun h => absurd rfl h, fun _ => ?_, fun h => by simp at h⟩, fun h => by simp at h⟩
          have : (byteN b 1 == 1) = false := by rw [g1.out]; simpa using H75.out
          simp [beginE, HM.out, this]
      · go_wp2_with (go_at_call 31; refine (take_ok b r 0 2 _ (rd_drew HR.out) (by omega) (by omega)).mono ?_; rintro x w' ⟨rfl, hr1, hg⟩)
        go_end0
        refine ⟨rfl, 2, 0, ⟨hr1, grown_trans (grown_drew _ _ _) hg, fun h => absurd rfl h, fun _ => ?_, fun _ => by omega⟩, fun _ => rfl⟩
        have hn : ¬ b.size < 2 := by omega
        simp [beginE, HM.out, K0.out (by omega), K1.out (by omega), hn]

set_option maxHeartbeats 1000000 in
theorem begin_one (b : ByteArray) (r : Nat) (w : World) (h : RdAt w r b 0 0) (h1 : b.size = 1) :
    Calls Try.prog 21 #[.pointer (some ⟨r, 0, none⟩)] w fun x w' => x = .returned (.tuple #[]) ∧ ∃ p' e', Went w w' r b 0 (beginE b) e' p' ∧ (e' = 0 → p' = 2) := by
  obtain ⟨c0, c1, f0, f1, hr⟩ := h.facts
  have HR : Hid (RdAt w r b 0 0) := h
  rw [ext_full] at c0
  clear h
  have hpos : 0 < b.size := by omega
  have g0 := hid (byteN_get b 0 hpos)
  have HM : Hid (magicB b = !(byteN b 0 == 75)) := by
    have h0 : decide (0 < b.size) = true := decide_eq_true (by omega)
    have h1 : decide (1 < b.size) = false := decide_eq_false (by omega)
    show magicB b = _
    simp [magicB, h0, h1]
  have m0 : (⟨#[75, 1]⟩ : ByteArray)[0].toNat = 75 := rfl
  have hz : (b.size : Int) = 1 := by omega
  have H1 := hid h1
  clear h1
  go_enter Try.func21, Try.ntmps21
  go_wp2
  go_loopw [9] (fun i wr => ∃ k nq : Nat, k ≤ 1 ∧ i = .int .i64 k ∧ Hid (1 ≤ k → byteN b 0 = 75) ∧ wr = w.drewN nq) (fun i _ => 1 - (intOf i).toNat)
  case atStart => exact ⟨0, 0, by omega, rfl, fun h => absurd h (by omega), rfl⟩
  case round =>
    obtain ⟨k, nq, hk, rfl, K0, rfl⟩ := hrel
    rcases (show k = 0 ∨ k = 1 by omega) with rfl | rfl
    · have i0 : (0 : Int) < b.size := by omega
      by_cases h75 : b[0].toNat = 75
      · have t75 : ((b[0].toNat : Int) == 75) = true := by rw [h75]; rfl
        go_wp2
        go_quiet (fail)
        go_wp2
        go_roundw
        case rel => exact ⟨1, _, by omega, rfl, fun _ => g0.out.trans h75, rfl⟩
        case measure => simp [intOf]
      · have t75 : ((b[0].toNat : Int) == 75) = false := by simp; omega
        have H75 := hid h75
        clear h75
        go_wp2
        go_quiet (fail)
        go_wp2
        refine bodyPost_ret (results_none rfl _ _ _) rfl ?_
        refine ⟨rfl, 0, 1, ⟨rd_set1 (rd_drew HR.out) 1, grown_trans (grown_drew _ _ _) (grown_set _ _ _ _), fun h => absurd rfl h, fun _ => ?_, fun h => by simp at h⟩, fun h => by simp at h⟩
        have : (byteN b 0 == 75) = false := by rw [g0.out]; simpa using H75.out
        simp [beginE, HM.out, this]
    · go_wp2_with (go_at_call 31; refine (take_short b r 0 2 _ (rd_drew HR.out) (by omega) (by omega)).mono ?_; rintro x w' ⟨rfl, hr1, hg⟩)
      go_end0
      refine ⟨rfl, 0, 2, ⟨hr1, grown_trans (grown_drew _ _ _) hg, fun h => absurd rfl h, fun _ => ?_, fun h => by simp at h⟩, fun h => by simp at h⟩
      have hn : b.size < 2 := by omega
      simp [beginE, HM.out, K0.out (by omega), hn]

theorem begin_nil (b : ByteArray) (r : Nat) (w : World) (h : RdAt w r b 0 0) (h1 : b.size = 0) :
    Calls Try.prog 21 #[.pointer (some ⟨r, 0, none⟩)] w fun x w' => x = .returned (.tuple #[]) ∧ ∃ p' e', Went w w' r b 0 (beginE b) e' p' ∧ (e' = 0 → p' = 2) := by
  obtain ⟨c0, c1, f0, f1, hr⟩ := h.facts
  have HR : Hid (RdAt w r b 0 0) := h
  rw [ext_full] at c0
  clear h
  have HM : Hid (beginE b = 2) := by
    have h0 : decide (0 < b.size) = false := decide_eq_false (by omega)
    have h1 : decide (1 < b.size) = false := decide_eq_false (by omega)
    have h2 : b.size < 2 := by omega
    show beginE b = 2
    simp [beginE, magicB, h0, h1, h2]
  have hz : (b.size : Int) = 0 := by omega
  have H1 := hid h1
  clear h1
  go_enter Try.func21, Try.ntmps21
  go_wp2
  go_loopw [9] (fun i wr => i = .int .i64 0 ∧ wr = w) (fun _ _ => 0)
  case atStart => exact ⟨rfl, rfl⟩
  case round =>
    obtain ⟨rfl, rfl⟩ := hrel
    go_wp2_with (go_at_call 31; refine (take_short b r 0 2 _ HR.out (by omega) (by omega)).mono ?_; rintro x w' ⟨rfl, hr1, hg⟩)
    go_end0
    exact ⟨rfl, 0, 2, ⟨hr1, hg, fun h => absurd rfl h, fun _ => HM.out.symm, fun h => by simp at h⟩, fun h => by simp at h⟩

theorem begin_any (b : ByteArray) (r : Nat) (w : World) (h : RdAt w r b 0 0) :
    Calls Try.prog 21 #[.pointer (some ⟨r, 0, none⟩)] w fun x w' => x = .returned (.tuple #[]) ∧ ∃ p' e', Went w w' r b 0 (beginE b) e' p' ∧ (e' = 0 → p' = 2) := by
  rcases (show b.size = 0 ∨ b.size = 1 ∨ 2 ≤ b.size by omega) with h0 | h1 | h2
  · exact begin_nil b r w h h0
  · exact begin_one b r w h h1
  · exact begin_two b r w h h2
end Go.Proofs.Ytdhmandnamajpaa
