/-
  The statement on 'Parses', proved.
-/
import Derived.Test.YtdhmandnamajpaaRows
import Derived.Test.YtdhmandnamajpaaSame
import Derived.Test.YtdhmandnamajpaaRefBody
import Derived.ProofKit
import Derived.OpenShut
namespace Go.Proofs.Ytdhmandnamajpaa.parses
open Go.ChangeShapes Go.WideShapes Go.ChangeAt Go.RowKit
open Go.ChangeMaps (open_string shut_string)

theorem own : ownKnob Try.prog.godebug = none := by kernel_rfl
theorem laidOut : laidOutB Try.prog = true := by kernel_rfl

theorem ref_parse (b : ByteArray) (w : World) : Calls Try.prog 7 #[.string b] w (Parsed b w) := by
  cases hm : magicB b with
  | true =>
    have hE : parseE b = 1 := by simp [parseE, hm]
    refine (refParse_magic b w hm).mono ?_
    rintro x w' ⟨rfl, hb⟩
    refine ⟨.slice none 0 0, ?_, .inl ⟨rfl, by simp [pS, hE]⟩, hb⟩
    simp [hE, pD]
  | false =>
    by_cases he : er b 2 1 (inB 1 6 (num1 b 2 : Int)) = 0
    · obtain ⟨h3, hin⟩ := er_zero he
      have hi := inB_iff.1 hin
      have hE : parseE b = bodyE b (num1 b 2) := by simp [parseE, hm, he]
      refine (refParse_body b w (num1 b 2) hm rfl (by omega) (by omega) (by omega)).mono ?_
      rintro x w' ⟨sv, dat, e, rfl, h1, h2, h3, hb⟩
      by_cases z : e = 0
      · obtain ⟨y1, y2⟩ := h2 z
        have hz : parseE b = 0 := by rw [hE, ← h1]; exact z
        refine ⟨sv, ?_, ?_, hb⟩
        · rw [y1, z, hz]; simp [pD, hz]
        · simpa [pS, hz] using y2
      · obtain ⟨y1, y2⟩ := h3 z
        have hz : ¬ parseE b = 0 := by rw [hE, ← h1]; exact z
        refine ⟨sv, ?_, .inl ⟨y1, by simp [pS, hz]⟩, hb⟩
        rw [y2, h1, ← hE]
        simp [pD, hz]
    · have hE : parseE b = er b 2 1 (inB 1 6 (num1 b 2 : Int)) := by simp [parseE, hm, he]
      have hz : ¬ parseE b = 0 := by rw [hE]; exact he
      refine (refParse_count b w hm he).mono ?_
      rintro x w' ⟨rfl, hb⟩
      refine ⟨.slice none 0 0, ?_, .inl ⟨rfl, by simp [pS, hz]⟩, hb⟩
      rw [← hE]
      simp [pD, hz]

set_option maxRecDepth 100000 in
theorem lifted (os : Os) (started : os.Started) (H : Type) (enc : TypeId × Value → H) :
    ReturnsInHanded {} Try.checked os 3 .any (Rows.parsesSpec.pre6 enc Try.prog Try.f3 Rows.parsesRow.domain false) (Rows.parsesSpec.post enc Try.prog Try.f3 false true false false) := by
  refine returnsInHanded_of_change (C := Try.checked) own started (by kernel_rfl) Try.func3
    (ChangeSpec.witness6 (enc := enc) (C := Try.checked) false ⟨#[], #[.string ⟨#[]⟩], []⟩ 8 (by kernel_rfl) (by kernel_rfl) (by kernel_rfl) (by kernel_rfl)) ?_
  intro W base args ds gs before hval0 hW _ _
  have hval : ∀ (j : Nat) t v, Try.f3.params[j]? = some t → args[j]? = some v → Value.okWide Try.prog W .any base t v := hval0
  have hW' := hW
  obtain ⟨p, q, hA0, hV, rfl, hfz, hnd⟩ := hW
  have hA : DataW.TrodAll enc Try.prog W 0 (fun _ => true) true Try.f3.params.toList args.toList ds p := hA0
  rw [Try.params3] at hA hval
  obtain ⟨v0, d0, rfl, rfl, h0⟩ := trodAll_one hA
  obtain ⟨rfl, rfl⟩ := trodVars_none hV
  obtain ⟨s, rfl, rfl, rfl, hs⟩ := open_string Try.underlying9 (hval 0 9 v0 rfl rfl) h0
  clear hA0 hval0
  simp only [List.append_nil] at hW'
  refine (parses_walk s W (ref_parse s)).mono fun e W' ⟨he, hb⟩ => ?_
  subst he
  exact ⟨_, rfl, _, _, _, [], [], [], hW', trodAll_mk1 (shut_bool Try.underlying4 _), trodAll_mk1 (shut_string Try.underlying9 hs), rfl, hb.frame _, fun h => by cases h⟩

/-- THE STATEMENT. -/
theorem proved : Rows.ParsesSaid :=
  OpenClaim.holds_of_wide 3 Try.f3 rfl rfl rfl rfl rfl rfl rfl ⟨rfl, rfl, rfl, rfl, rfl⟩ rfl rfl rfl rfl rfl (by kernel_rfl) Try.func3 (by kernel_rfl)
    (of_decide_eq_true (by kernel_rfl)) (by unfold Func.isWrapper; first | (rw [if_pos (by decide +kernel)]; kernel_rfl) | (rw [if_neg (by decide +kernel)]; exact ⟨rfl, rfl⟩))
    (fun os started H enc _ => lifted os started H enc)
end Go.Proofs.Ytdhmandnamajpaa.parses
namespace Go.Proofs.Ytdhmandnamajpaa
theorem parses_holds : Rows.ParsesSaid := parses.proved
end Go.Proofs.Ytdhmandnamajpaa
