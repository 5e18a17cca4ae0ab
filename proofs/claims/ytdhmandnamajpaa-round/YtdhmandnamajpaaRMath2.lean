/-
  Parse of Bytes, and Bytes of Parse: plain mathematics.
-/
import Derived.Test.YtdhmandnamajpaaRMath
namespace Go.Proofs.Ytdhmandnamajpaa

theorem ext_list (b : ByteArray) (i j : Nat) : (b.extract i j).data.toList = (b.data.toList.drop i).take (j - i) := by
  simp [ByteArray.data_extract, List.extract_eq_take_drop]
theorem ba_ext {a b : ByteArray} (h : a.data.toList = b.data.toList) : a = b := by
  apply ByteArray.ext
  exact Array.toList_inj.1 h

section
variable {b : ByteArray} {S : List Sec} {d : ByteArray} {R : List UInt8}

theorem Begins.drop (h : Begins b S d R) (x : Nat) : b.data.toList.drop (5 + 5 * S.length + x) = R.drop x := by
  have e : b.data.toList = ([75, 1, UInt8.ofNat S.length] ++ headsL S ++ twoL d.size) ++ R := by rw [h]; simp
  have hl : ([75, 1, UInt8.ofNat S.length] ++ headsL S ++ twoL d.size).length = 5 + 5 * S.length := by simp [headsL_length, twoL]; omega
  rw [e, List.drop_append, hl, List.drop_of_length_le (by rw [hl]; omega)]
  simp

theorem codes_split (S : List Sec) (i : Nat) (hi : i < S.length) : codesL S = codesL (S.take i) ++ (S[i].code.data.toList ++ codesL (S.drop (i + 1))) := by
  have e : S = S.take i ++ S[i] :: S.drop (i + 1) := by rw [List.getElem_cons_drop]; simp
  have : codesL S = codesL (S.take i ++ S[i] :: S.drop (i + 1)) := by rw [← e]
  rw [this]
  unfold codesL
  rw [List.flatMap_append, List.flatMap_cons]

theorem Begins.codes (h : Begins b S d (codesL S ++ d.data.toList)) (hf : fitB S d = true) : psecs b S.length = S ∧ pdat b S.length = d := by
  have hf0 := hf
  simp only [fitB, Bool.and_eq_true] at hf
  obtain ⟨⟨hn, hs⟩, hd⟩ := hf
  obtain ⟨_, _, hdl, hpe⟩ := h.parse hf0
  constructor
  · apply List.ext_getElem
    · simp [psecs]
    intro i h1 h2
    have hsi := List.all_eq_true.1 hs S[i] (by simp)
    obtain ⟨a0, a1, a2, a3⟩ := h.sec i h2 hsi
    have c0 := h.cposAt hs i (by omega)
    have hcode : b.extract (cpos b S.length i) (cpos b S.length (i + 1)) = S[i].code := by
      apply ba_ext
      rw [ext_list, c0, h.drop, show cpos b S.length (i + 1) = cpos b S.length i + clen b i from rfl, c0, codes_split S i h2]
      have hl : clen b i = S[i].code.data.toList.length := by unfold clen; rw [a3]; simp
      rw [List.append_assoc, List.drop_left, Nat.add_sub_cancel_left, hl, List.append_assoc, List.take_left]
    simp only [psecs, List.getElem_map, List.getElem_range]
    unfold psec hsec
    rw [hcode, a0, a1, a2]
  · apply ba_ext
    have c0 := h.cposAt hs S.length (Nat.le_refl _)
    rw [List.take_of_length_le (Nat.le_refl _)] at c0
    unfold pdat
    rw [ext_list, hpe, c0, h.drop, List.drop_left]
    apply List.take_of_length_le
    simp
end

/-- The bytes of a container, as a string. -/
theorem begins_bytes (S : List Sec) (d b : ByteArray) (hb : b.data.toList = bytesL S d) : Begins b S d (codesL S ++ d.data.toList) := by
  unfold Begins
  rw [hb]
  simp [bytesL]
theorem bytes_parse (S : List Sec) (d b : ByteArray) (hf : fitB S d = true) (hb : b.data.toList = bytesL S d) : parseE b = 0 ∧ pS b = S ∧ pD b = d := by
  have h := begins_bytes S d b hb
  obtain ⟨h1, h2, _, _⟩ := h.parse hf
  have hz : parseE b = 0 := by rw [h1]; simp
  obtain ⟨h3, h4⟩ := h.codes hf
  exact ⟨hz, by simp [pS, hz, h2, h3], by simp [pD, hz, h2, h4]⟩
/-- A byte more. -/
theorem bytes_more (S : List Sec) (d b : ByteArray) (u : UInt8) (hf : fitB S d = true) (hb : b.data.toList = bytesL S d ++ [u]) : parseE b = 4 := by
  have h : Begins b S d (codesL S ++ (d.data.toList ++ [u])) := by unfold Begins; rw [hb]; simp [bytesL]
  rw [(h.parse hf).1, if_neg (by simp), if_pos (by simp)]
/-- A byte less. -/
theorem bytes_less (S : List Sec) (d b : ByteArray) (hf : fitB S d = true) (hb : b.data.toList = (bytesL S d).take ((bytesL S d).length - 1)) : parseE b = 2 := by
  have hpos : 0 < (codesL S ++ d.data.toList).length := by
    have hf0 := hf
    simp only [fitB, Bool.and_eq_true] at hf0
    have hn := inB_iff.1 hf0.1.1
    have h0 : 0 < S.length := by omega
    have := (secB_iff S[0]).1 (List.all_eq_true.1 hf0.1.2 S[0] (by simp))
    rw [codes_split S 0 h0]
    simp
    omega
  have h : Begins b S d ((codesL S ++ d.data.toList).take ((codesL S ++ d.data.toList).length - 1)) := by
    unfold Begins
    rw [hb]
    have e : bytesL S d = ([75, 1, UInt8.ofNat S.length] ++ (headsL S ++ twoL d.size)) ++ (codesL S ++ d.data.toList) := by simp [bytesL]
    rw [e, List.take_append, List.take_of_length_le (by simp only [List.length_append] at hpos ⊢; omega)]
    have : (([75, 1, UInt8.ofNat S.length] ++ (headsL S ++ twoL d.size)) ++ (codesL S ++ d.data.toList)).length - 1 - ([75, 1, UInt8.ofNat S.length] ++ (headsL S ++ twoL d.size)).length = (codesL S ++ d.data.toList).length - 1 := by
      simp only [List.length_append] at hpos ⊢
      omega
    rw [this]
    simp
  have hl : ((codesL S ++ d.data.toList).take ((codesL S ++ d.data.toList).length - 1)).length < (codesL S).length + d.size := by
    simp at hpos ⊢
    omega
  rw [(h.parse hf).1, if_pos hl]
end Go.Proofs.Ytdhmandnamajpaa
