/-
  sample and written.
-/
import Derived.Test.YtdhmandnamajpaaBytesLaw
import Derived.Test.YtdhmandnamajpaaSame
import Derived.Test.YtdhmandnamajpaaRMath3
namespace Go.Proofs.Ytdhmandnamajpaa
open Go.RowKit Go.Joins

def code0 : ByteArray := ⟨#[2, 0, 5, 18, 1, 14, 0]⟩
def code1 : ByteArray := ⟨#[9, 0, 6, 19]⟩
def sampleS : List Sec := [⟨0, 128, 1, code0⟩, ⟨1, 1, 2, code1⟩]

theorem sample_any (w : World) :
    Calls Try.prog 20 #[] w fun x w' => ∃ g, x = .returned (.agg #[.slice (some ⟨g, 0, none⟩) 2 2, .string ⟨#[]⟩]) ∧ SecsAt w' g 0 sampleS ∧ Below w.heap.size w w' := by
  go_enter Try.func20, Try.ntmps20
  go_wp2
  refine bodyPost_ret (v := .agg #[.slice (some ⟨w.heap.size + 1, 0, none⟩) 2 2, .string ⟨#[]⟩]) (by simp [results, Try.results20, go_sem]) rfl ⟨w.heap.size + 1, rfl, ⟨by simp, ?_⟩, ((Below.refl _ _).alloc (Nat.le_refl _) _).alloc (by simp) _⟩
  intro k s hk
  rcases (show k = 0 ∨ k = 1 ∨ 2 ≤ k by omega) with rfl | rfl | h
  · simp [sampleS] at hk
    subst hk
    exact ⟨by simp, by simp, by simp, by simp [code0]⟩
  · simp [sampleS] at hk
    subst hk
    exact ⟨by simp, by simp, by simp, by simp [code1]⟩
  · rw [List.getElem?_eq_none (by simpa [sampleS] using h)] at hk
    cases hk

theorem sample_fits : fitB sampleS ⟨#[]⟩ = true := by decide
theorem sample_size : (mkB (bytesL sampleS ⟨#[]⟩)).size = 26 := by rw [mkB_size]; decide

/-- Bytes of a container that fits, or does not. -/
theorem bytes_yes (S : List Sec) (d : ByteArray) (b off cap : Nat) (w : World) (hS : SecsAt w b off S) (hf : fitB S d = true) :
    Calls Try.prog 10 #[.agg #[.slice (some ⟨b, off, none⟩) S.length cap, .string d]] w fun e w' => e = .returned (.tuple #[.string (mkB (bytesL S d)), .int .i64 0]) ∧ Below w.heap.size w w' := by
  have hn : inB 1 6 (S.length : Int) = true := by simp only [fitB, Bool.and_eq_true] at hf; exact hf.1.1
  exact keel_bytes _ _ _ _ _ rfl w (fun w => SecsAt w b off S) (fun _ _ h hb => h.below h.1 hb) hS (fun w'' h2 => write_yes S d b off cap w'' hf h2 (fun w3 h3 => hf ▸ within_some S d b off cap w3 hn h3))
theorem bytes_no (S : List Sec) (d : ByteArray) (b off cap : Nat) (w : World) (hS : SecsAt w b off S) (hn : inB 1 6 (S.length : Int) = true) (hf : fitB S d = false) :
    Calls Try.prog 10 #[.agg #[.slice (some ⟨b, off, none⟩) S.length cap, .string d]] w fun e w' => e = .returned (.tuple #[.string ByteArray.empty, .int .i64 3]) ∧ Below w.heap.size w w' :=
  keel_bytes _ _ _ _ _ rfl w (fun w => SecsAt w b off S) (fun _ _ h hb => h.below h.1 hb) hS (fun w'' h2 => write_no _ _ d cap w'' (fun w => SecsAt w b off S) (fun _ _ h hb => h.below h.1 hb) h2 (fun w3 h3 => hf ▸ within_some S d b off cap w3 hn h3))
theorem bytes_count (n : Nat) (v : Option Addr) (d : ByteArray) (cap : Nat) (w : World) (hn : inB 1 6 (n : Int) = false) :
    Calls Try.prog 10 #[.agg #[.slice v n cap, .string d]] w fun e w' => e = .returned (.tuple #[.string ByteArray.empty, .int .i64 3]) ∧ Below w.heap.size w w' :=
  keel_bytes _ _ _ _ _ rfl w (fun _ => True) (fun _ _ _ _ => trivial) trivial (fun w'' _ => write_no n v d cap w'' (fun _ => True) (fun _ _ _ _ => trivial) trivial (fun w3 _ => within_count n v d cap w3 hn))

theorem mkB_list (l : List UInt8) : (mkB l).data.toList = l := by simp [mkB]
/-- What Parse answers of the bytes of a container; of one more; of one less. -/
theorem parse_ok (S : List Sec) (d : ByteArray) (w : World) (hf : fitB S d = true) :
    Calls Try.prog 6 #[.string (mkB (bytesL S d))] w fun x w' => ∃ sv, x = .returned (.tuple #[.agg #[sv, .string d], .int .i64 0]) ∧ SlAt w.heap.size w' sv S ∧ Below w.heap.size w w' := by
  obtain ⟨h1, h2, h3⟩ := bytes_parse S d (mkB (bytesL S d)) hf (mkB_list _)
  refine (keel_parse _ w).mono ?_
  rintro x w' ⟨sv, rfl, hs, hb⟩
  rw [h1, h3]
  rw [h2] at hs
  exact ⟨sv, rfl, hs, hb⟩
theorem parse_more (S : List Sec) (d : ByteArray) (u : UInt8) (b : ByteArray) (w : World) (hf : fitB S d = true) (hb : b.data.toList = bytesL S d ++ [u]) :
    Calls Try.prog 6 #[.string b] w fun x w' => ∃ a c, x = .returned (.tuple #[.agg #[.slice a 0 c, .string ByteArray.empty], .int .i64 4]) ∧ Below w.heap.size w w' := by
  have h1 := bytes_more S d b u hf hb
  refine (keel_parse _ w).mono ?_
  rintro x w' ⟨sv, rfl, hs, hb⟩
  have e1 : pD b = ByteArray.empty := by simp [pD, h1]
  have e2 : pS b = [] := by simp [pS, h1]
  rw [h1, e1]
  rw [e2] at hs
  rcases hs with ⟨rfl, _⟩ | ⟨g, off, cap, rfl, _⟩
  · exact ⟨none, 0, rfl, hb⟩
  · exact ⟨_, _, rfl, hb⟩
theorem parse_less (S : List Sec) (d : ByteArray) (b : ByteArray) (w : World) (hf : fitB S d = true) (hb : b.data.toList = (bytesL S d).take ((bytesL S d).length - 1)) :
    Calls Try.prog 6 #[.string b] w fun x w' => ∃ a c, x = .returned (.tuple #[.agg #[.slice a 0 c, .string ByteArray.empty], .int .i64 2]) ∧ Below w.heap.size w w' := by
  have h1 := bytes_less S d b hf hb
  refine (keel_parse _ w).mono ?_
  rintro x w' ⟨sv, rfl, hs, hb⟩
  have e1 : pD b = ByteArray.empty := by simp [pD, h1]
  have e2 : pS b = [] := by simp [pS, h1]
  rw [h1, e1]
  rw [e2] at hs
  rcases hs with ⟨rfl, _⟩ | ⟨g, off, cap, rfl, _⟩
  · exact ⟨none, 0, rfl, hb⟩
  · exact ⟨_, _, rfl, hb⟩
theorem append_list (l : List UInt8) (a : ByteArray) : (mkB l ++ a).data.toList = l ++ a.data.toList := by rw [data_append, mkB_list]

set_option maxHeartbeats 2000000 in
set_option maxRecDepth 100000 in
theorem written_any (w : World) : Calls Try.prog 12 #[] w fun x w' => x = .returned (.bool true) ∧ Below w.heap.size w w' := by
  have hsz := sample_size
  obtain ⟨r, hr⟩ : ∃ r, r = mkB (bytesL sampleS ⟨#[]⟩) := ⟨_, rfl⟩
  rw [← hr] at hsz
  have HR := hid hr
  clear hr
  go_enter Try.func12, Try.ntmps12
  go_wp2_with fail
  refine (sample_any _).mono ?_
  rintro x w1 ⟨g, rfl, hs1, hb1⟩
  have HS1 := hid hs1
  have HB1 := hid hb1
  clear hs1 hb1
  go_wp2_with fail
  refine (bytes_yes sampleS ⟨#[]⟩ g 0 2 _ HS1.out sample_fits).mono ?_
  rw [← HR.out]
  rintro x w2 ⟨rfl, hb2⟩
  have HB2 := hid (HB1.out.trans (hb2.mono HB1.out.size))
  clear hb2
  go_wp2_with fail
  rw [HR.out]
  refine (parse_ok sampleS ⟨#[]⟩ _ sample_fits).mono ?_
  rintro x w3 ⟨sv, rfl, hs3, hb3⟩
  rw [← HR.out]
  rcases hs3 with ⟨_, h⟩ | ⟨g3, off3, cap3, hv3, _, hs3⟩
  · simp [sampleS] at h
  rw [show sampleS.length = 2 from rfl] at hv3
  subst hv3
  have HS3 := hid hs3
  have HB3 := hid (HB2.out.trans (hb3.mono HB2.out.size))
  have hg3 := hs3.1
  clear hs3 hb3
  go_wp2_with fail
  refine (parse_more sampleS ⟨#[]⟩ 120 _ _ sample_fits (by rw [HR.out, append_list])).mono ?_
  rintro x w4 ⟨a4, c4, rfl, hb4⟩
  have HB4 := hid ((HB3.out.alloc HB3.out.size (.cells #[.slice (some ⟨g3, off3, none⟩) 2 cap3, .string ⟨#[]⟩] 24)).trans (hb4.mono (by have := HB3.out.size; simp; omega)))
  have HS4 := hid ((HS3.out.alloc (.cells #[.slice (some ⟨g3, off3, none⟩) 2 cap3, .string ⟨#[]⟩] 24)).below (B := w3.heap.size + 1) (by omega) (hb4.mono (by simp)))
  have e40 : w4.cell? ⟨w3.heap.size, 0, none⟩ = some (.slice (some ⟨g3, off3, none⟩) 2 cap3) := by rw [(bcell hb4).1 _ _ (by simp)]; simp
  have e41 : w4.cell? ⟨w3.heap.size, 1, none⟩ = some (.string ⟨#[]⟩) := by rw [(bcell hb4).1 _ _ (by simp)]; simp
  have hz4 : w3.heap.size < w4.heap.size := by have := hb4.size; simp at this; omega
  clear hb4
  go_wp2_with fail
  refine (bytes_count 0 none ⟨#[]⟩ 0 _ (by decide)).mono ?_
  rintro x w5 ⟨rfl, hb5⟩
  have HB5 := hid ((HB4.out.alloc HB4.out.size (.cells #[.slice a4 0 c4, .string ByteArray.empty] 24)).trans (hb5.mono (by have := HB4.out.size; simp; omega)))
  have e50 : w5.cell? ⟨w3.heap.size, 0, none⟩ = some (.slice (some ⟨g3, off3, none⟩) 2 cap3) := by rw [(bcell hb5).1 _ _ (by simp; omega), World.cell?_alloc_past _ _ _ hz4]; exact e40
  obtain ⟨s0, s1, s2, s3⟩ := ((HS4.out.alloc (.cells #[.slice a4 0 c4, .string ByteArray.empty] 24)).below (B := w4.heap.size + 1) (by omega) (hb5.mono (by simp))).at 1 (by decide)
  obtain ⟨r0, r1, r2, r3⟩ := ((HS4.out.alloc (.cells #[.slice a4 0 c4, .string ByteArray.empty] 24)).below (B := w4.heap.size + 1) (by omega) (hb5.mono (by simp))).at 0 (by decide)
  have u0 : w5.cell? ⟨g3, off3 + 1 * 4, none⟩ = some (.int .i64 1) := s0
  have u3 : w5.cell? ⟨g3, off3 + 1 * 4 + 3, none⟩ = some (.string ⟨#[9, 0, 6, 19]⟩) := s3
  have v1 : w5.cell? ⟨g3, off3 + 0 * 4 + 1, none⟩ = some (.int .i64 128) := r1
  clear hb5 e40 e41 s0 s1 s2 s3 r0 r1 r2 r3
  go_wp2
  go_ret
  exact ⟨rfl, HB5.out⟩
end Go.Proofs.Ytdhmandnamajpaa
