/-
  The statement on 'Checks', proved: the row, then its tied card.
-/
import Derived.Test.YtdhmandnamajpaaDoorCards
import Derived.Test.YtdhmandnamajpaaDoorTie
import Derived.Test.YtdhmandnamajpaaDoorLaidR
import Derived.Test.YtdhmandnamajpaaDoorGoes
import Derived.Test.YtdhmandnamajpaaDoorChkR
import Derived.Test.YtdhmandnamajpaaDoorKeelC
import Derived.Test.YtdhmandnamajpaaDoorOpen
import Derived.Stop.Joined
namespace Go.Proofs.YtdhmandnamajpaaDoor.checks
open Go.ChangeShapes Go.WideShapes Go.ChangeAt Go.WideMaps Go.WideElems Go.RowKit

theorem own : ownKnob Tryd.prog.godebug = none := by kernel_rfl
theorem laidOut : laidOutB Tryd.prog = true := by kernel_rfl
def laid1 : List (String × DataW Unit) := [("keel/ops.rows", Rows.laid_keel_ops_rows)]
theorem door_met (os : Os) (args : Array Value) : laidMetH Tryd.prog laid1 ((World.doorLaid Tryd.prog 400 os).forCall (fun _ _ => 0) ⟨#[], args, []⟩).memory :=
  laidMetH_of_parts3 (fuel := 8) (laidMet_of_run' 8 (by kernel_rfl) (by kernel_rfl)) (by kernel_rfl) (by kernel_rfl)

set_option maxHeartbeats 1000000
theorem num_walk (e : Int) (w : World) : Calls Tryd.prog 11 #[.int .i64 e] w fun x w' => x = .returned (.int .i64 e) ∧ w' = w := by
  go_enter Tryd.func11, Tryd.ntmps11
  go_wp2
  go_ret
  exact ⟨rfl, rfl⟩

theorem checks_walk (v : Value) (hv : ∃ a n c, v = .slice a n c) (d : ByteArray) (w : World) (Q : Nat → Nat → Nat → Prop) (hU : ∀ {e k p e' k' p'}, Q e k p → Q e' k' p' → e = e' ∧ k = k' ∧ p = p') (P : World → Prop) (hP : ∀ w w', P w → Below w.heap.size w w' → P w') (h0 : P w)
    (h1 : ∀ w, P w → Calls Tryd.prog 9 #[.agg #[v, .string d]] w fun x w' => ∃ e k p : Nat, x = .returned (.tuple #[.int .i64 e, .int .i64 k, .int .i64 p]) ∧ Q e k p ∧ Below w.heap.size w w')
    (h2 : ∀ w, P w → Calls Tryd.prog 10 #[.agg #[v, .string d]] w fun x w' => ∃ e k p : Nat, x = .returned (.tuple #[.int .i64 e, .int .i64 k, .int .i64 p]) ∧ Q e k p ∧ Below w.heap.size w w') :
    Calls Tryd.prog 3 #[.agg #[v, .string d]] w fun x w' => x = .returned (.bool true) ∧ Below w.heap.size w w' := by
  obtain ⟨a, n, c, rfl⟩ := hv
  have H1 := hidc h1
  have H2 := hidc h2
  have HP := hidc hP
  have HU := hidc (fun e k p e' k' p' => @hU e k p e' k' p')
  have HP0 := hidc (hP _ _ h0 ((Below.refl w.heap.size w).alloc (Nat.le_refl _) (.cells #[.slice a n c, .string d] 24)))
  clear h1 h2 hP h0 hU
  go_enter Tryd.func3, Tryd.ntmps3
  go_wp2_with fail
  refine (H1.out _ HP0.out).mono ?_
  rintro x w1 ⟨e, k, p, rfl, hq1, hb1⟩
  have HQ1 := hidc hq1
  have HP1 := hidc (HP.out _ _ HP0.out hb1)
  have HB1 := hidc (((Below.refl w.heap.size w).alloc (Nat.le_refl _) (.cells #[.slice a n c, .string d] 24)).trans (hb1.mono (by simp)))
  have u0 : w1.cell? ⟨w.heap.size, 0, none⟩ = some (.slice a n c) := by rw [(bcell hb1).1 _ _ (by simp)]; simp
  have u1 : w1.cell? ⟨w.heap.size, 1, none⟩ = some (.string d) := by rw [(bcell hb1).1 _ _ (by simp)]; simp
  have hs1 : w.heap.size + 1 ≤ w1.heap.size := by have := hb1.size; simpa using this
  clear hb1 hq1
  go_wp2_with fail
  refine (H2.out _ HP1.out).mono ?_
  rintro x w2 ⟨e', k', p', rfl, hq2, hb2⟩
  have HB2 := hidc (HB1.out.trans (hb2.mono (by omega)))
  obtain ⟨rfl, rfl, rfl⟩ := HU.out _ _ _ _ _ _ HQ1.out hq2
  clear hb2 u0 u1 hq2
  go_wp2_with (go_at_call 11; refine (num_walk _ _).mono ?_; rintro x w3 ⟨rfl, rfl⟩)
  go_ret
  exact ⟨rfl, HB2.out⟩

theorem walk_count (n : Nat) (v : Option Addr) (d : ByteArray) (cap : Nat) (w : World) (hn : inB 1 6 (n : Int) = false) :
    Calls Tryd.prog 3 #[.agg #[.slice v n cap, .string d]] w fun e w' => e = .returned (.bool true) ∧ Below w.heap.size w w' := by
  refine checks_walk _ ⟨_, _, _, rfl⟩ d w (fun e k p => e = 3 ∧ k = 0 ∧ p = 0) (by rintro e k p e' k' p' ⟨rfl, rfl, rfl⟩ ⟨rfl, rfl, rfl⟩; exact ⟨rfl, rfl, rfl⟩) (fun _ => True) (fun _ _ _ _ => trivial) trivial (fun w' _ => ?_) (fun w' _ => ?_)
  · exact (keel_check_count n v d cap w' hn).mono fun x w'' ⟨h1, h2⟩ => ⟨3, 0, 0, h1, ⟨rfl, rfl, rfl⟩, h2⟩
  · exact (ref_check_count n v d cap w' hn).mono fun x w'' ⟨h1, h2⟩ => ⟨3, 0, 0, h1, ⟨rfl, rfl, rfl⟩, h2⟩
theorem walk_some (S : List Sec) (d : ByteArray) (b off cap : Nat) (w : World) (hn : inB 1 6 (S.length : Int) = true) (hS : SecsAt w b off S) (hR : RowsAt w) :
    Calls Tryd.prog 3 #[.agg #[.slice (some ⟨b, off, none⟩) S.length cap, .string d]] w fun e w' => e = .returned (.bool true) ∧ Below w.heap.size w w' := by
  refine checks_walk _ ⟨_, _, _, rfl⟩ d w (CheckIs S d) (fun h h' => h.unique h') (fun w => SecsAt w b off S ∧ RowsAt w) (fun w w' h hb => ⟨h.1.below h.1.1 hb, h.2.below h.2.1 hb⟩) ⟨hS, hR⟩ (fun w' h => ?_) (fun w' h => ?_)
  · exact keel_check_some S d b off cap w' h.2 hn h.1
  · exact ref_check_some S d b off cap w' hn h.1

set_option maxRecDepth 100000 in
theorem lifted (os : Os) (started : os.Started) (H : Type) (enc : TypeId × Value → H) :
    ReturnsInHanded {} Tryd.checked os 3 .any (fun w args => (Rows.checksSpec.pre enc Tryd.prog Tryd.f3 [] false w args ∧ laidMetH Tryd.prog laid1 w) ∧ sizedMet enc Tryd.prog Tryd.f3 (OpenSpec.ofChange Rows.checksSpec) false w args)
      (Rows.checksSpec.post enc Tryd.prog Tryd.f3 false true false false) := by
  refine returnsInHanded_of_change_and (C := Tryd.checked) (X := fun w _ => laidMetH Tryd.prog laid1 w) (fun _ _ _ hh h => h.of_heap hh) own started (by kernel_rfl) Tryd.func3
    (ChangeSpec.witness_shaped (enc := enc) (C := Tryd.checked) (os := os) (X := fun w _ => laidMetH Tryd.prog laid1 w) false (World.doorLaid Tryd.prog 400 os) #[.agg #[.slice none 0 0, .string ⟨#[]⟩]] 8 rfl (World.shaped_of_RefB (by kernel_rfl) (by kernel_rfl)) (by kernel_rfl) (by kernel_rfl) (by kernel_rfl) (door_met os _)) ?_
  intro W base args ds gs before hval0 hW _ _ hL _
  have hval : ∀ (j : Nat) t v, Tryd.f3.params[j]? = some t → args[j]? = some v → Value.okWide Tryd.prog W .any base t v := hval0
  have hW' := hW
  obtain ⟨p, q, hA0, hV, rfl, hfz, hnd⟩ := hW
  have hA : DataW.TrodAll enc Tryd.prog W 0 (fun _ => true) true Tryd.f3.params.toList args.toList ds p := hA0
  rw [Tryd.params3] at hA hval
  obtain ⟨v0, d0, rfl, rfl, h0⟩ := trodAll_one hA
  obtain ⟨rfl, rfl⟩ := trodVars_none hV
  obtain ⟨ao, n, cap, dat, rfl, _, hn⟩ := open_cont (hval 0 24 v0 rfl rfl) h0
  clear hA0 hval0
  simp only [List.append_nil] at hW'
  have hlt : ∀ x ∈ p, x.block < W.heap.size := fun x hx => by simpa using hW'.lt x hx
  have walk : Calls Tryd.prog 3 #[.agg #[.slice ao n cap, .string dat]] W fun e w' => e = .returned (.bool true) ∧ Below W.heap.size W w' := by
    cases hb : inB 1 6 (n : Int) with
    | false => exact walk_count n ao dat cap W hb
    | true =>
      rcases hn with rfl | ⟨b, off, S, rfl, rfl, hS, _⟩
      · simp [inB] at hb
      · exact walk_some S dat b off cap W hb hS (rows_of_laid hL)
  refine walk.mono fun e W' ⟨he, hb⟩ => ?_
  subst he
  exact ⟨_, rfl, _, _, _, [], p, [], hW', trodAll_mk1 (shut_bool Tryd.underlying4 _), trodAll_mk1 (Below.trod laidOut (by kernel_rfl) (of_decide_eq_true (by kernel_rfl)) h0 hb hlt), rfl, hb.frame _, fun h => by cases h⟩

theorem row : Rows.ChecksSaid :=
  OpenClaim.holds_of_wide 3 Tryd.f3 rfl rfl rfl rfl rfl rfl rfl ⟨rfl, rfl, rfl, rfl, rfl⟩ rfl rfl rfl rfl rfl (by kernel_rfl) Tryd.func3 (by kernel_rfl)
    (of_decide_eq_true (by kernel_rfl)) (by unfold Func.isWrapper; first | (rw [if_pos (by decide +kernel)]; kernel_rfl) | (rw [if_neg (by decide +kernel)]; exact ⟨rfl, rfl⟩))
    (fun os started H enc _ => lifted os started H enc)

/-- THE STATEMENT: the tied card. -/
theorem proved : Rows.ChecksCardSaid :=
  tied_goes [.data] true (true, "049cbb7ee97b47705bb9d30e9915f6a23e373facef4897cb64a5a1676dc73b65") false
    row (by kernel_rfl) checks_row_tie rfl ⟨rfl, rfl⟩ (by kernel_rfl) rfl
    (fun f fn hf hfn => by
      obtain rfl : f = 3 := Option.some.inj ((show Tryd.prog.funcNamed "keel/keellaw.Checks" = some 3 by kernel_rfl).symm.trans hf) |>.symm
      obtain rfl : fn = Tryd.f3 := (Option.some.inj (Tryd.func3.symm.trans hfn)).symm
      exact ⟨by kernel_rfl, fun j t ht => by
        rw [Tryd.params3] at ht
        have hm : t ∈ [24] := by simpa using Array.mem_of_getElem? ht
        have hall : ([24].all fun u => !Tryd.prog.wantsStandIn u) = true := by kernel_rfl
        exact (show Tryd.prog.wantsStandIn t = false by simpa using List.all_eq_true.1 hall t hm)⟩)
    (by kernel_rfl)
end Go.Proofs.YtdhmandnamajpaaDoor.checks
namespace Go.Proofs.YtdhmandnamajpaaDoor
theorem checks_holds : Rows.ChecksCardSaid := checks.proved
end Go.Proofs.YtdhmandnamajpaaDoor
