/-
  The statement on 'Round', proved.
-/
import Derived.Test.YtdhmandnamajpaaRows
import Derived.Test.YtdhmandnamajpaaRound
import Derived.Test.YtdhmandnamajpaaOpen
import Derived.ProofKit
import Derived.OpenShut
namespace Go.Proofs.Ytdhmandnamajpaa.round
open Go.ChangeShapes Go.WideShapes Go.ChangeAt Go.RowKit
open Go.ChangeMaps (open_string shut_string)

theorem own : ownKnob Try.prog.godebug = none := by kernel_rfl
theorem laidOut : laidOutB Try.prog = true := by kernel_rfl

set_option maxRecDepth 100000 in
theorem lifted (os : Os) (started : os.Started) (H : Type) (enc : TypeId × Value → H) :
    ReturnsInHanded {} Try.checked os 5 .any (Rows.roundSpec.pre6 enc Try.prog Try.f5 Rows.roundRow.domain false) (Rows.roundSpec.post enc Try.prog Try.f5 false true false false) := by
  refine returnsInHanded_of_change (C := Try.checked) own started (by kernel_rfl) Try.func5
    (ChangeSpec.witness6 (enc := enc) (C := Try.checked) false ⟨#[], #[.string ⟨#[]⟩, .agg #[.slice none 0 0, .string ⟨#[]⟩]], []⟩ 8 (by kernel_rfl) (by kernel_rfl) (by kernel_rfl) (by kernel_rfl)) ?_
  intro W base args ds gs before hval0 hW _ _
  have hval : ∀ (j : Nat) t v, Try.f5.params[j]? = some t → args[j]? = some v → Value.okWide Try.prog W .any base t v := hval0
  have hW' := hW
  obtain ⟨p, q, hA0, hV, rfl, hfz, hnd⟩ := hW
  have hA : DataW.TrodAll enc Try.prog W 0 (fun _ => true) true Try.f5.params.toList args.toList ds p := hA0
  rw [Try.params5] at hA hval
  obtain ⟨v0, v1, d0, d1, p0, p1, rfl, rfl, rfl, h0, h1⟩ := trodAll_two hA
  obtain ⟨rfl, rfl⟩ := trodVars_none hV
  obtain ⟨s, rfl, rfl, rfl, hs⟩ := open_string Try.underlying9 (hval 0 9 v0 rfl rfl) h0
  obtain ⟨ao, n, cap, dat, rfl, _, hn⟩ := open_cont (hval 1 24 v1 rfl rfl) h1
  clear hA0 hval0
  simp only [List.append_nil, List.nil_append] at hW'
  have hlt : ∀ x ∈ p1, x.block < W.heap.size := fun x hx => by simpa using hW'.lt x hx
  have walk : Calls Try.prog 5 #[.string s, .agg #[.slice ao n cap, .string dat]] W fun e w' => e = .returned (.bool true) ∧ Below W.heap.size W w' := by
    cases hb : inB 1 6 (n : Int) with
    | false => exact round_no s dat ao n cap W (fun _ => True) (fun _ _ _ _ => trivial) trivial (fun w _ => bytes_count n ao dat cap w hb)
    | true =>
      rcases hn with rfl | ⟨b, off, S, rfl, rfl, hS, _⟩
      · simp [inB] at hb
      · cases hf : fitB S dat with
        | false => exact round_no s dat _ _ cap W (fun w => SecsAt w b off S) (fun _ _ h hb => h.below h.1 hb) hS (fun w hw => bytes_no S dat b off cap w hw hb hf)
        | true => exact round_yes s dat S b off cap W hS hf
  refine walk.mono fun e W' ⟨he, hb⟩ => ?_
  subst he
  exact ⟨_, rfl, _, _, _, [], p1, [], hW', trodAll_mk1 (shut_bool Try.underlying4 _), trodAll_mk2 (p := []) (shut_string Try.underlying9 hs) (Below.trod laidOut (by kernel_rfl) (of_decide_eq_true (by kernel_rfl)) h1 hb hlt), rfl, hb.frame _, fun h => by cases h⟩

/-- THE STATEMENT. -/
theorem proved : Rows.RoundSaid :=
  OpenClaim.holds_of_wide 5 Try.f5 rfl rfl rfl rfl rfl rfl rfl ⟨rfl, rfl, rfl, rfl, rfl⟩ rfl rfl rfl rfl rfl (by kernel_rfl) Try.func5 (by kernel_rfl)
    (of_decide_eq_true (by kernel_rfl)) (by unfold Func.isWrapper; first | (rw [if_pos (by decide +kernel)]; kernel_rfl) | (rw [if_neg (by decide +kernel)]; exact ⟨rfl, rfl⟩))
    (fun os started H enc _ => lifted os started H enc)
end Go.Proofs.Ytdhmandnamajpaa.round
namespace Go.Proofs.Ytdhmandnamajpaa
theorem round_holds : Rows.RoundSaid := round.proved
end Go.Proofs.Ytdhmandnamajpaa
