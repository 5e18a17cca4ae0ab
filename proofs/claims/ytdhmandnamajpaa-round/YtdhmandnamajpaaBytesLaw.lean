/-
  Bytes, and the law 'Writes', as walks.
-/
import Derived.Test.YtdhmandnamajpaaWrite
import Derived.Test.YtdhmandnamajpaaRefBytes
namespace Go.Proofs.Ytdhmandnamajpaa
open Go.RowKit

theorem keel_bytes (A : Value) (r : ByteArray) (en : Int) (x y : Value) (hx : A = .agg #[x, y]) (w : World) (C : World → Prop) (hC : ∀ w w', C w → Below w.heap.size w w' → C w') (hw : C w)
    (hF : ∀ w : World, C w → Calls Try.prog 17 #[A] w fun e w' => e = .returned (.tuple #[.string r, .int .i64 en]) ∧ Below w.heap.size w w') :
    Calls Try.prog 10 #[A] w fun e w' => e = .returned (.tuple #[.string r, .int .i64 en]) ∧ Below w.heap.size w w' := by
  subst hx
  have HC : Hid (∀ o, C (w.alloc o)) := fun o => hC _ _ hw ((Below.refl _ _).alloc (Nat.le_refl _) o)
  have HF : Hid _ := hF
  clear hF hC hw
  go_enter Try.func10, Try.ntmps10
  go_wp2_with (first | (go_at_call 17; refine (HF.out _ (HC.out _)).mono ?_; rintro e w' ⟨rfl, hb⟩))
  go_ret2
  exact ⟨rfl, ((Below.refl _ _).alloc (Nat.le_refl _) _).trans (hb.mono (by simp))⟩

theorem writes_walk (r d : ByteArray) (v : Option Addr) (n cap : Nat) (en : Int) (w : World) (C : World → Prop) (hC : ∀ w w', C w → Below w.heap.size w w' → C w') (hw : C w)
    (hF : ∀ w : World, C w → Calls Try.prog 10 #[.agg #[.slice v n cap, .string d]] w fun e w' => e = .returned (.tuple #[.string r, .int .i64 en]) ∧ Below w.heap.size w w')
    (hG : ∀ w : World, C w → Calls Try.prog 11 #[.agg #[.slice v n cap, .string d]] w fun e w' => e = .returned (.tuple #[.string r, .int .i64 en]) ∧ Below w.heap.size w w') :
    Calls Try.prog 4 #[.agg #[.slice v n cap, .string d]] w fun e w' => e = .returned (.bool true) ∧ Below w.heap.size w w' := by
  have HC : Hid (∀ o, C (w.alloc o)) := fun o => hC _ _ hw ((Below.refl _ _).alloc (Nat.le_refl _) o)
  have HF : Hid _ := hF
  have HG : Hid _ := hG
  have HCC : Hid _ := hC
  clear hF hG hC hw
  go_enter Try.func4, Try.ntmps4
  go_wp2_with (first | (go_at_call 10; refine (HF.out _ (HC.out _)).mono ?_; rintro e w1 ⟨rfl, hb1⟩; have q0 : w1.cell? ⟨w.heap.size, 0, none⟩ = some (.slice v n cap) := by { rw [(bcell hb1).1 _ _ (by simp)]; simp }; have q1 : w1.cell? ⟨w.heap.size, 1, none⟩ = some (.string d) := by { rw [(bcell hb1).1 _ _ (by simp)]; simp }) | (go_at_call 11; refine (HG.out _ (HCC.out _ _ (HC.out _) hb1)).mono ?_; rintro e w2 ⟨rfl, hb2⟩) | (go_at_call 9; refine (law_num _ _).mono ?_; rintro e w' ⟨rfl, rfl⟩))
  go_ret
  refine ⟨rfl, (((Below.refl _ _).alloc (Nat.le_refl _) _).trans (hb1.mono (by simp))).trans (hb2.mono ?_)⟩
  have := hb1.size; simp at this; omega
end Go.Proofs.Ytdhmandnamajpaa
