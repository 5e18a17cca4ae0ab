/-
  Bytes that begin as a container's bytes do: what Parse finds in them.
-/
import Derived.Test.YtdhmandnamajpaaPChain
namespace Go.Proofs.Ytdhmandnamajpaa

theorem headL_length (s : Sec) : (headL s).length = 5 := by simp [headL, twoL]
theorem heads_get (S : List Sec) (R : List UInt8) (i j : Nat) (hi : i < S.length) (hj : j < 5) : (headsL S ++ R)[5 * i + j]? = (headL S[i])[j]? := by
  induction S generalizing i with
  | nil => simp at hi
  | cons s S ih =>
    have e : headsL (s :: S) = headL s ++ headsL S := by simp [headsL]
    rw [e, List.append_assoc]
    have hl := headL_length s
    cases i with
    | zero => rw [List.getElem?_append_left (by omega)]; simp
    | succ i =>
      rw [List.getElem?_append_right (by omega), hl, show 5 * (i + 1) + j - 5 = 5 * i + j by omega]
      simp only [List.length_cons, Nat.add_lt_add_iff_right] at hi
      rw [ih i hi]
      simp
theorem heads_behind (S : List Sec) (R : List UInt8) (j : Nat) : (headsL S ++ R)[5 * S.length + j]? = R[j]? := by
  rw [List.getElem?_append_right (by rw [headsL_length]; omega), headsL_length]
  congr 1
  omega

/-- b begins as the bytes of (S, d) do, up to the codes; R is behind. -/
def Begins (b : ByteArray) (S : List Sec) (d : ByteArray) (R : List UInt8) : Prop := b.data.toList = [75, 1, UInt8.ofNat S.length] ++ (headsL S ++ (twoL d.size ++ R))

theorem byteN_of {b : ByteArray} {p : Nat} {u : UInt8} (h : b.data.toList[p]? = some u) : byteN b p = u.toNat := by
  unfold byteN
  rw [List.getD, h]
  rfl

section
variable {b : ByteArray} {S : List Sec} {d : ByteArray} {R : List UInt8}

theorem Begins.size (h : Begins b S d R) : b.size = 5 + 5 * S.length + R.length := by
  have := congrArg List.length h
  simp [headsL_length, twoL] at this
  omega
theorem Begins.get (h : Begins b S d R) (p : Nat) : b.data.toList[3 + p]? = (headsL S ++ (twoL d.size ++ R))[p]? := by
  rw [h, List.getElem?_append_right (by simp)]
  simp
theorem Begins.b0 (h : Begins b S d R) : byteN b 0 = 75 := byteN_of (u := 75) (by rw [h]; rfl)
theorem Begins.b1 (h : Begins b S d R) : byteN b 1 = 1 := byteN_of (u := 1) (by rw [h]; rfl)
theorem Begins.b2 (h : Begins b S d R) (hl : S.length ≤ 6) : num1 b 2 = S.length := by
  have := byteN_of (b := b) (p := 2) (u := UInt8.ofNat S.length) (by rw [h]; rfl)
  unfold num1
  rw [this, UInt8.toNat_ofNat']
  omega
theorem Begins.at (h : Begins b S d R) (i j : Nat) (hi : i < S.length) (hj : j < 5) (u : UInt8) (hu : (headL S[i])[j]? = some u) : byteN b (3 + 5 * i + j) = u.toNat := by
  apply byteN_of
  rw [show 3 + 5 * i + j = 3 + (5 * i + j) by omega, h.get, heads_get S _ i j hi hj]
  exact hu
theorem Begins.data (h : Begins b S d R) (hd : d.size ≤ 1000) : num2 b (3 + 5 * S.length) = d.size := by
  have h0 : byteN b (3 + 5 * S.length) = d.size / 256 := by
    have := byteN_of (b := b) (p := 3 + 5 * S.length) (u := UInt8.ofNat (d.size / 256)) (by
      rw [h.get, show 5 * S.length = 5 * S.length + 0 by omega, heads_behind]; rfl)
    rw [this, UInt8.toNat_ofNat']; omega
  have h1 : byteN b (3 + 5 * S.length + 1) = d.size % 256 := by
    have := byteN_of (b := b) (p := 3 + 5 * S.length + 1) (u := UInt8.ofNat (d.size % 256)) (by
      rw [show 3 + 5 * S.length + 1 = 3 + (5 * S.length + 1) by omega, h.get, heads_behind]; rfl)
    rw [this, UInt8.toNat_ofNat']; omega
  unfold num2
  omega
theorem oneL_nat {x : Int} (h0 : 0 ≤ x) (h1 : x ≤ 255) : (oneL x).toNat = x.toNat := by unfold oneL; rw [UInt8.toNat_ofNat']; omega
theorem Begins.sec (h : Begins b S d R) (i : Nat) (hi : i < S.length) (hs : secB S[i] = true) :
    (num1 b (3 + 5 * i) : Int) = S[i].i ∧ (num1 b (3 + 5 * i + 1) : Int) = S[i].o ∧ (num1 b (3 + 5 * i + 2) : Int) = S[i].m ∧ num2 b (3 + 5 * i + 3) = S[i].code.size := by
  obtain ⟨h1, h2, h3, h4, h5⟩ := (secB_iff S[i]).1 hs
  have a0 := h.at i 0 hi (by omega) _ rfl
  have a1 := h.at i 1 hi (by omega) _ rfl
  have a2 := h.at i 2 hi (by omega) _ rfl
  have a3 := h.at i 3 hi (by omega) (UInt8.ofNat (S[i].code.size / 256)) rfl
  have a4 := h.at i 4 hi (by omega) (UInt8.ofNat (S[i].code.size % 256)) rfl
  rw [oneL_nat (by omega) (by omega)] at a0 a1 a2
  rw [UInt8.toNat_ofNat'] at a3 a4
  unfold num1 num2
  refine ⟨?_, ?_, ?_, ?_⟩
  · rw [show 3 + 5 * i = 3 + 5 * i + 0 by omega, a0]; omega
  · rw [a1]; omega
  · rw [a2]; omega
  · rw [a3, show 3 + 5 * i + 3 + 1 = 3 + 5 * i + 4 by omega, a4]; omega

theorem Begins.head (h : Begins b S d R) (i : Nat) (hi : i < S.length) (hs : secB S[i] = true) : headE b (3 + 5 * i) = 0 := by
  obtain ⟨h1, h2, h3, h4, h5⟩ := (secB_iff S[i]).1 hs
  obtain ⟨a0, a1, a2, a3⟩ := h.sec i hi hs
  have hz := h.size
  have e1 : er b (3 + 5 * i) 1 (inB 0 9 (num1 b (3 + 5 * i) : Int)) = 0 := by unfold er; rw [if_neg (by omega), a0, inB_true h1.1 h1.2]; rfl
  have e2 : er b (3 + 5 * i + 1) 1 (outB (num1 b (3 + 5 * i + 1) : Int)) = 0 := by unfold er; rw [if_neg (by omega), a1, outB_iff.2 h2]; rfl
  have e3 : er b (3 + 5 * i + 2) 1 (inB 0 40 (num1 b (3 + 5 * i + 2) : Int)) = 0 := by unfold er; rw [if_neg (by omega), a2, inB_true h3.1 h3.2]; rfl
  have e4 : er b (3 + 5 * i + 3) 2 (inB 1 120 (num2 b (3 + 5 * i + 3) : Int)) = 0 := by unfold er; rw [if_neg (by omega), a3, inB_true (by omega) (by omega)]; rfl
  unfold headE
  rw [e1, if_neg (by simp), e2, if_neg (by simp), e3, if_neg (by simp), e4]
theorem Begins.heads (h : Begins b S d R) (hs : S.all secB = true) (k : Nat) (hk : k ≤ S.length) : headsE b k = 0 := by
  induction k with
  | zero => rfl
  | succ k ih =>
    have h1 := h.head k (by omega) (List.all_eq_true.1 hs S[k] (by simp))
    simp [headsE, ih (by omega), h1]
theorem Begins.cposAt (h : Begins b S d R) (hs : S.all secB = true) (k : Nat) (hk : k ≤ S.length) : cpos b S.length k = 5 + 5 * S.length + (codesL (S.take k)).length := by
  induction k with
  | zero => simp [cpos, codesL]
  | succ k ih =>
    have h1 := (h.sec k (by omega) (List.all_eq_true.1 hs S[k] (by simp))).2.2.2
    show cpos b S.length k + clen b k = _
    rw [ih (by omega), List.take_succ_eq_append_getElem (by omega), codesL_snoc, List.length_append]
    unfold clen
    rw [h1]
    simp
    omega
theorem Begins.parse (h : Begins b S d R) (hf : fitB S d = true) :
    parseE b = (if R.length < (codesL S).length + d.size then 2 else if (codesL S).length + d.size < R.length then 4 else 0) ∧ num1 b 2 = S.length ∧ dlen b S.length = d.size ∧ pend b S.length = 5 + 5 * S.length + (codesL S).length + d.size := by
  simp only [fitB, Bool.and_eq_true] at hf
  obtain ⟨⟨hn, hs⟩, hd⟩ := hf
  have hn' := inB_iff.1 hn
  have hd' := inB_iff.1 hd
  have hz := h.size
  have hb2 := h.b2 (by omega)
  have hdl : dlen b S.length = d.size := h.data (by omega)
  have hcp := h.cposAt hs S.length (Nat.le_refl _)
  rw [List.take_of_length_le (Nat.le_refl _)] at hcp
  have hpe : pend b S.length = 5 + 5 * S.length + (codesL S).length + d.size := by unfold pend; rw [hcp, hdl]
  refine ⟨?_, hb2, hdl, hpe⟩
  have hm : magicB b = false := by simp [magicB, h.b0, h.b1]
  have e0 : er b 2 1 (inB 1 6 (num1 b 2 : Int)) = 0 := by unfold er; rw [if_neg (by omega), hb2, hn]; rfl
  have e1 : er b (3 + 5 * S.length) 2 (inB 0 60 (dlen b S.length : Int)) = 0 := by unfold er; rw [if_neg (by omega), hdl, hd]; rfl
  unfold parseE bodyE tailE
  rw [hm, e0, hb2, h.heads hs _ (Nat.le_refl _), e1, hpe]
  simp only [Bool.false_eq_true, if_false, ne_eq, not_true_eq_false]
  by_cases x : R.length < (codesL S).length + d.size
  · rw [if_pos x, if_pos (by omega)]
  · rw [if_neg x, if_neg (by omega)]
    by_cases y : (codesL S).length + d.size < R.length
    · rw [if_pos y, if_pos (by omega)]
    · rw [if_neg y, if_neg (by omega)]
end
end Go.Proofs.Ytdhmandnamajpaa
