/-
  The statement on 'Writes', proved.
-/
import Derived.Test.YtdhmandnamajpaaRows
import Derived.Test.YtdhmandnamajpaaBytesLaw
import Derived.Test.YtdhmandnamajpaaOpen
namespace Go.Proofs.Ytdhmandnamajpaa.writes
open Go.ChangeShapes Go.WideShapes Go.ChangeAt Go.RowKit

theorem own : ownKnob Try.prog.godebug = none := by kernel_rfl
theorem laidOut : laidOutB Try.prog = true := by kernel_rfl

theorem walk_count (n : Nat) (v : Option Addr) (d : ByteArray) (cap : Nat) (w : World) (hn : inB 1 6 (n : Int) = false) :
    Calls Try.prog 4 #[.agg #[.slice v n cap, .string d]] w fun e w' => e = .returned (.bool true) ∧ Below w.heap.size w w' := by
  refine writes_walk ByteArray.empty d v n cap 3 w (fun _ => True) (fun _ _ _ _ => trivial) trivial (fun w' _ => ?_) (fun w' _ => ?_)
  · exact keel_bytes _ _ _ _ _ rfl w' (fun _ => True) (fun _ _ _ _ => trivial) trivial (fun w'' _ => write_no n v d cap w'' (fun _ => True) (fun _ _ _ _ => trivial) trivial (fun w3 _ => within_count n v d cap w3 hn))
  · exact refBytes_no n v d cap w' (fun _ => True) (fun _ _ _ _ => trivial) trivial (fun w3 _ => fits_count n v d cap w3 hn)

theorem secs_below {b off : Nat} {S : List Sec} (w w' : World) (h : SecsAt w b off S) (hb : Below w.heap.size w w') : SecsAt w' b off S := h.below h.1 hb

theorem walk_some (S : List Sec) (d : ByteArray) (b off cap : Nat) (w : World) (hn : inB 1 6 (S.length : Int) = true) (hS : SecsAt w b off S) :
    Calls Try.prog 4 #[.agg #[.slice (some ⟨b, off, none⟩) S.length cap, .string d]] w fun e w' => e = .returned (.bool true) ∧ Below w.heap.size w w' := by
  cases hf : fitB S d with
  | false =>
    have hfits : ∀ w : World, SecsAt w b off S → Calls Try.prog 18 #[.agg #[.slice (some ⟨b, off, none⟩) S.length cap, .string d]] w fun e w' => e = .returned (.bool false) ∧ Below w.heap.size w w' := fun w hw => by
      cases hd : inB 0 60 (d.size : Int) with
      | false => exact fits_data _ _ d cap w hn hd
      | true => exact hf ▸ fits_some S d b off cap w hn hd hw
    refine writes_walk ByteArray.empty d _ _ cap 3 w (fun w => SecsAt w b off S) secs_below hS (fun w' hw => ?_) (fun w' hw => ?_)
    · exact keel_bytes _ _ _ _ _ rfl w' (fun w => SecsAt w b off S) secs_below hw (fun w'' h2 => write_no _ _ d cap w'' (fun w => SecsAt w b off S) secs_below h2 (fun w3 h3 => hf ▸ within_some S d b off cap w3 hn h3))
    · exact refBytes_no _ _ d cap w' (fun w => SecsAt w b off S) secs_below hw hfits
  | true =>
    have hd : inB 0 60 (d.size : Int) = true := by simp only [fitB, Bool.and_eq_true] at hf; exact hf.2
    refine writes_walk (mkB (bytesL S d)) d _ _ cap 0 w (fun w => SecsAt w b off S) secs_below hS (fun w' hw => ?_) (fun w' hw => ?_)
    · exact keel_bytes _ _ _ _ _ rfl w' (fun w => SecsAt w b off S) secs_below hw (fun w'' h2 => write_yes S d b off cap w'' hf h2 (fun w3 h3 => hf ▸ within_some S d b off cap w3 hn h3))
    · exact refBytes_yes S d b off cap w' hf hw (fun w3 h3 => hf ▸ fits_some S d b off cap w3 hn hd h3)

set_option maxRecDepth 100000 in
theorem lifted (os : Os) (started : os.Started) (H : Type) (enc : TypeId × Value → H) :
    ReturnsInHanded {} Try.checked os 4 .any (Rows.writesSpec.pre6 enc Try.prog Try.f4 Rows.writesRow.domain false) (Rows.writesSpec.post enc Try.prog Try.f4 false true false false) := by
  refine returnsInHanded_of_change (C := Try.checked) own started (by kernel_rfl) Try.func4
    (ChangeSpec.witness6 (enc := enc) (C := Try.checked) false ⟨#[], #[.agg #[.slice none 0 0, .string ⟨#[]⟩]], []⟩ 8 (by kernel_rfl) (by kernel_rfl) (by kernel_rfl) (by kernel_rfl)) ?_
  intro W base args ds gs before hval0 hW _ _
  have hval : ∀ (j : Nat) t v, Try.f4.params[j]? = some t → args[j]? = some v → Value.okWide Try.prog W .any base t v := hval0
  have hW' := hW
  obtain ⟨p, q, hA0, hV, rfl, hfz, hnd⟩ := hW
  have hA : DataW.TrodAll enc Try.prog W 0 (fun _ => true) true Try.f4.params.toList args.toList ds p := hA0
  rw [Try.params4] at hA hval
  obtain ⟨v0, d0, rfl, rfl, h0⟩ := trodAll_one hA
  obtain ⟨rfl, rfl⟩ := trodVars_none hV
  obtain ⟨ao, n, cap, dat, rfl, _, hn⟩ := open_cont (hval 0 24 v0 rfl rfl) h0
  clear hA0 hval0
  simp only [List.append_nil] at hW'
  have hlt : ∀ x ∈ p, x.block < W.heap.size := fun x hx => by simpa using hW'.lt x hx
  have walk : Calls Try.prog 4 #[.agg #[.slice ao n cap, .string dat]] W fun e w' => e = .returned (.bool true) ∧ Below W.heap.size W w' := by
    cases hb : inB 1 6 (n : Int) with
    | false => exact walk_count n ao dat cap W hb
    | true =>
      rcases hn with rfl | ⟨b, off, S, rfl, rfl, hS, _⟩
      · simp [inB] at hb
      · exact walk_some S dat b off cap W hb hS
  refine walk.mono fun e W' ⟨he, hb⟩ => ?_
  subst he
  exact ⟨_, rfl, _, _, _, [], p, [], hW', trodAll_mk1 (shut_bool Try.underlying4 _), trodAll_mk1 (Below.trod laidOut (by kernel_rfl) (of_decide_eq_true (by kernel_rfl)) h0 hb hlt), rfl, hb.frame _, fun h => by cases h⟩

/-- THE STATEMENT. -/
theorem proved : Rows.WritesSaid :=
  OpenClaim.holds_of_wide 4 Try.f4 rfl rfl rfl rfl rfl rfl rfl ⟨rfl, rfl, rfl, rfl, rfl⟩ rfl rfl rfl rfl rfl (by kernel_rfl) Try.func4 (by kernel_rfl)
    (of_decide_eq_true (by kernel_rfl)) (by unfold Func.isWrapper; first | (rw [if_pos (by decide +kernel)]; kernel_rfl) | (rw [if_neg (by decide +kernel)]; exact ⟨rfl, rfl⟩))
    (fun os started H enc _ => lifted os started H enc)
end Go.Proofs.Ytdhmandnamajpaa.writes
namespace Go.Proofs.Ytdhmandnamajpaa
theorem writes_holds : Rows.WritesSaid := writes.proved
end Go.Proofs.Ytdhmandnamajpaa
