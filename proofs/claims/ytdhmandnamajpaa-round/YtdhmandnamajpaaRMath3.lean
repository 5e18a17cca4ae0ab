/-
  Bytes of what Parse gave are the bytes.
-/
import Derived.Test.YtdhmandnamajpaaRMath2
namespace Go.Proofs.Ytdhmandnamajpaa

theorem headsE_each (b : ByteArray) (n : Nat) (h : headsE b n = 0) (i : Nat) (hi : i < n) : headE b (3 + 5 * i) = 0 := by
  induction n with
  | zero => omega
  | succ n ih =>
    have h' : (if headsE b n ≠ 0 then headsE b n else headE b (3 + 5 * n)) = 0 := h
    by_cases z : headsE b n = 0
    · rw [if_neg (by simp [z])] at h'
      by_cases e : i = n
      · subst e; exact h'
      · exact ih z (by omega)
    · rw [if_pos z] at h'; exact absurd h' z
theorem headE_zero (b : ByteArray) (p : Nat) (h : headE b p = 0) : p + 5 ≤ b.size ∧ inB 0 9 (num1 b p : Int) = true ∧ outB (num1 b (p + 1) : Int) = true ∧ inB 0 40 (num1 b (p + 2) : Int) = true ∧ inB 1 120 (num2 b (p + 3) : Int) = true := by
  unfold headE at h
  by_cases z1 : er b p 1 (inB 0 9 (num1 b p : Int)) = 0
  · rw [if_neg (by simp [z1])] at h
    by_cases z2 : er b (p + 1) 1 (outB (num1 b (p + 1) : Int)) = 0
    · rw [if_neg (by simp [z2])] at h
      by_cases z3 : er b (p + 2) 1 (inB 0 40 (num1 b (p + 2) : Int)) = 0
      · rw [if_neg (by simp [z3])] at h
        exact ⟨by have := (er_zero h).1; omega, (er_zero z1).2, (er_zero z2).2, (er_zero z3).2, (er_zero h).2⟩
      · rw [if_pos z3] at h; exact absurd h z3
    · rw [if_pos z2] at h; exact absurd h z2
  · rw [if_pos z1] at h; exact absurd h z1

structure Good (b : ByteArray) (n : Nat) : Prop where
  num : num1 b 2 = n
  n1 : 1 ≤ n
  n6 : n ≤ 6
  b0 : byteN b 0 = 75
  b1 : byteN b 1 = 1
  heads : ∀ i, i < n → headE b (3 + 5 * i) = 0
  dat : dlen b n ≤ 60
  size : b.size = pend b n
  room : 5 + 5 * n ≤ b.size

theorem good_of (b : ByteArray) (h : parseE b = 0) : Good b (num1 b 2) := by
  unfold parseE at h
  cases hm : magicB b with
  | true => simp [hm] at h
  | false =>
    simp only [hm, Bool.false_eq_true, if_false] at h
    by_cases he : er b 2 1 (inB 1 6 (num1 b 2 : Int)) = 0
    · rw [if_neg (by simp [he])] at h
      obtain ⟨h3, hin⟩ := er_zero he
      have hi := inB_iff.1 hin
      unfold bodyE at h
      by_cases hh : headsE b (num1 b 2) = 0
      · rw [if_neg (by simp [hh])] at h
        unfold tailE at h
        by_cases hd : er b (3 + 5 * num1 b 2) 2 (inB 0 60 (dlen b (num1 b 2) : Int)) = 0
        · rw [if_neg (by simp [hd])] at h
          obtain ⟨hd1, hd2⟩ := er_zero hd
          have hd3 := inB_iff.1 hd2
          by_cases x : b.size < pend b (num1 b 2)
          · rw [if_pos x] at h; simp at h
          · rw [if_neg x] at h
            by_cases y : pend b (num1 b 2) < b.size
            · rw [if_pos y] at h; simp at h
            · have hb : byteN b 0 = 75 ∧ byteN b 1 = 1 := by
                simp [magicB] at hm
                omega
              exact ⟨rfl, by omega, by omega, hb.1, hb.2, headsE_each b _ hh, by omega, by omega, by omega⟩
        · rw [if_pos hd] at h; exact absurd h hd
      · rw [if_pos hh] at h; exact absurd h hh
    · rw [if_pos he] at h; exact absurd h he

section
variable {b : ByteArray} {n : Nat}
theorem byte_get (p : Nat) (h : p < b.size) : b.data.toList[p]? = some (UInt8.ofNat (byteN b p)) := by
  have h' : p < b.data.toList.length := by simpa using h
  unfold byteN
  rw [List.getD, List.getElem?_eq_getElem h']
  simp

theorem cpos_le (b : ByteArray) (n i : Nat) (h : i ≤ n) : cpos b n i ≤ cpos b n n := by
  induction n with
  | zero => have : i = 0 := by omega
            subst this; exact Nat.le_refl _
  | succ m _ =>
    have key : ∀ j, i ≤ j → cpos b (m + 1) i ≤ cpos b (m + 1) j := by
      intro j
      induction j with
      | zero => intro h; have : i = 0 := by omega
                subst this; exact Nat.le_refl _
      | succ j ih =>
        intro h
        by_cases e : i = j + 1
        · subst e; exact Nat.le_refl _
        · have := ih (by omega)
          show cpos b (m + 1) i ≤ cpos b (m + 1) j + clen b j
          omega
    exact key _ h

theorem Good.code (g : Good b n) (i : Nat) (hi : i < n) : (psec b n i).code.size = clen b i := by
  have h1 := cpos_le b n (i + 1) (by omega)
  have h2 : cpos b n (i + 1) = cpos b n i + clen b i := rfl
  have h3 := g.size
  unfold pend at h3
  show (b.extract (cpos b n i) (cpos b n (i + 1))).size = _
  rw [ByteArray.size_extract]
  omega
theorem Good.dsize (g : Good b n) : (pdat b n).size = dlen b n := by
  have h3 := g.size
  unfold pdat
  rw [ByteArray.size_extract]
  unfold pend at h3 ⊢
  omega
theorem Good.fits (g : Good b n) : fitB (psecs b n) (pdat b n) = true := by
  have hl : (psecs b n).length = n := by simp [psecs]
  have h1 := g.n1
  have h6 := g.n6
  have hd := g.dat
  simp only [fitB, Bool.and_eq_true]
  refine ⟨⟨inB_true (by omega) (by omega), ?_⟩, inB_true (by omega) (by rw [g.dsize]; omega)⟩
  rw [List.all_eq_true]
  intro s hs
  obtain ⟨i, hi, rfl⟩ := List.mem_map.1 hs
  have hi' := List.mem_range.1 hi
  obtain ⟨_, a0, a1, a2, a3⟩ := headE_zero b _ (g.heads i hi')
  have hc := g.code i hi'
  simp only [secB, Bool.and_eq_true]
  refine ⟨⟨⟨a0, a1⟩, a2⟩, ?_⟩
  rw [hc]
  exact a3

theorem num2_two (b : ByteArray) (p : Nat) : twoL (num2 b p) = [UInt8.ofNat (byteN b p), UInt8.ofNat (byteN b (p + 1))] := by
  have h1 := byteN_lt b p
  have h2 := byteN_lt b (p + 1)
  have e1 : num2 b p / 256 = byteN b p := by unfold num2; omega
  have e2 : num2 b p % 256 = byteN b (p + 1) := by unfold num2; omega
  simp [twoL, e1, e2]
theorem take_five (l : List UInt8) (p : Nat) (x0 x1 x2 x3 x4 : UInt8) (h0 : l[p]? = some x0) (h1 : l[p + 1]? = some x1) (h2 : l[p + 2]? = some x2) (h3 : l[p + 3]? = some x3) (h4 : l[p + 4]? = some x4) : (l.drop p).take 5 = [x0, x1, x2, x3, x4] := by
  apply List.ext_getElem?
  intro i
  rw [List.getElem?_take]
  by_cases hi : i < 5
  · rw [if_pos hi, List.getElem?_drop]
    rcases (show i = 0 ∨ i = 1 ∨ i = 2 ∨ i = 3 ∨ i = 4 by omega) with rfl | rfl | rfl | rfl | rfl
    · simpa using h0
    · simpa using h1
    · simpa using h2
    · simpa using h3
    · simpa using h4
  · rw [if_neg hi]
    simp
    omega
theorem take_three (l : List UInt8) (x0 x1 x2 : UInt8) (h0 : l[0]? = some x0) (h1 : l[1]? = some x1) (h2 : l[2]? = some x2) : l.take 3 = [x0, x1, x2] := by
  match l, h0, h1, h2 with
  | a :: c :: e :: r, h0, h1, h2 => simp at h0 h1 h2; simp [h0, h1, h2]
theorem take_two (l : List UInt8) (p : Nat) (x0 x1 : UInt8) (h0 : l[p]? = some x0) (h1 : l[p + 1]? = some x1) : (l.drop p).take 2 = [x0, x1] := by
  apply List.ext_getElem?
  intro i
  rw [List.getElem?_take]
  by_cases hi : i < 2
  · rw [if_pos hi, List.getElem?_drop]
    rcases (show i = 0 ∨ i = 1 by omega) with rfl | rfl
    · simpa using h0
    · simpa using h1
  · rw [if_neg hi]
    simp
    omega
theorem cpos_mono0 (b : ByteArray) (n k : Nat) : 5 + 5 * n ≤ cpos b n k := by
  induction k with
  | zero => exact Nat.le_refl _
  | succ k ih => show _ ≤ cpos b n k + clen b k; omega
theorem Good.head (g : Good b n) (i : Nat) (hi : i < n) : (b.data.toList.drop (3 + 5 * i)).take 5 = headL (psec b n i) := by
  have hz := (headE_zero b _ (g.heads i hi)).1
  rw [take_five _ _ _ _ _ _ _ (byte_get (b := b) (3 + 5 * i) (by omega)) (byte_get (b := b) (3 + 5 * i + 1) (by omega)) (byte_get (b := b) (3 + 5 * i + 2) (by omega)) (byte_get (b := b) (3 + 5 * i + 3) (by omega)) (byte_get (b := b) (3 + 5 * i + 4) (by omega))]
  unfold headL
  rw [g.code i hi]
  unfold clen
  rw [num2_two]
  rfl
theorem Good.headsTake (g : Good b n) (k : Nat) (hk : k ≤ n) : (b.data.toList.drop 3).take (5 * k) = headsL ((psecs b n).take k) := by
  induction k with
  | zero => simp [headsL]
  | succ k ih =>
    have hl : (psecs b n).length = n := by simp [psecs]
    have ht : (psecs b n).take (k + 1) = (psecs b n).take k ++ [(psecs b n)[k]] := List.take_succ_eq_append_getElem (by omega)
    rw [show 5 * (k + 1) = 5 * k + 5 by omega, List.take_add, ih (by omega), List.drop_drop, ht, headsL_snoc, g.head k (by omega)]
    simp [psecs]
theorem codesTake (b : ByteArray) (n k : Nat) (hk : k ≤ n) : (b.data.toList.drop (5 + 5 * n)).take (cpos b n k - (5 + 5 * n)) = codesL ((psecs b n).take k) := by
  induction k with
  | zero => simp [codesL, cpos]
  | succ k ih =>
    have hl : (psecs b n).length = n := by simp [psecs]
    have h0 := cpos_mono0 b n k
    have e : cpos b n (k + 1) - (5 + 5 * n) = (cpos b n k - (5 + 5 * n)) + clen b k := by show cpos b n k + clen b k - _ = _; omega
    have ht : (psecs b n).take (k + 1) = (psecs b n).take k ++ [(psecs b n)[k]] := List.take_succ_eq_append_getElem (by omega)
    rw [e, List.take_add, ih (by omega), List.drop_drop, show 5 + 5 * n + (cpos b n k - (5 + 5 * n)) = cpos b n k by omega, ht, codesL_snoc]
    congr 1
    have : (psecs b n)[k] = psec b n k := by simp [psecs]
    rw [this]
    show _ = (b.extract (cpos b n k) (cpos b n (k + 1))).data.toList
    rw [ext_list, show cpos b n (k + 1) = cpos b n k + clen b k from rfl, Nat.add_sub_cancel_left]
end

theorem parse_bytes (b : ByteArray) (h : parseE b = 0) : fitB (pS b) (pD b) = true ∧ bytesL (pS b) (pD b) = b.data.toList := by
  have g := good_of b h
  have e1 : pS b = psecs b (num1 b 2) := by simp [pS, h]
  have e2 : pD b = pdat b (num1 b 2) := by simp [pD, h]
  rw [e1, e2]
  refine ⟨g.fits, ?_⟩
  generalize hn : num1 b 2 = n at g ⊢
  have hl : (psecs b n).length = n := by simp [psecs]
  have hh := g.headsTake n (Nat.le_refl _)
  have hc := codesTake b n n (Nat.le_refl _)
  have tt : (psecs b n).take n = psecs b n := List.take_of_length_le (by omega)
  rw [tt] at hh hc
  have hsz := g.size
  have hrm := g.room
  have h0 := cpos_mono0 b n n
  have p0 := byte_get (b := b) 0 (by omega)
  have p1 := byte_get (b := b) 1 (by omega)
  have p2 := byte_get (b := b) 2 (by omega)
  rw [g.b0] at p0
  rw [g.b1] at p1
  have p2' : byteN b 2 = n := hn
  rw [p2'] at p2
  have hd1 := byte_get (b := b) (3 + 5 * n) (by omega)
  have hd2 := byte_get (b := b) (3 + 5 * n + 1) (by omega)
  have ht3 : b.data.toList.take 3 = [75, 1, UInt8.ofNat n] := take_three _ _ _ _ p0 p1 p2
  have htwo : (b.data.toList.drop (3 + 5 * n)).take 2 = twoL (pdat b n).size := by
    rw [g.dsize]
    unfold dlen
    rw [num2_two]
    exact take_two _ _ _ _ hd1 hd2
  have hdat : b.data.toList.drop (cpos b n n) = (pdat b n).data.toList := by
    unfold pdat
    rw [ext_list, List.take_of_length_le]
    simp
    omega
  unfold bytesL
  rw [hl, ← hh, ← htwo, ← hc, ← hdat, ← ht3]
  have s1 : b.data.toList = b.data.toList.take 3 ++ b.data.toList.drop 3 := (List.take_append_drop _ _).symm
  have s2 : b.data.toList.drop 3 = (b.data.toList.drop 3).take (5 * n) ++ b.data.toList.drop (3 + 5 * n) := by
    have := (List.take_append_drop (5 * n) (b.data.toList.drop 3)).symm
    rw [List.drop_drop] at this
    exact this
  have s3 : b.data.toList.drop (3 + 5 * n) = (b.data.toList.drop (3 + 5 * n)).take 2 ++ b.data.toList.drop (5 + 5 * n) := by
    have := (List.take_append_drop 2 (b.data.toList.drop (3 + 5 * n))).symm
    rw [List.drop_drop, show 3 + 5 * n + 2 = 5 + 5 * n by omega] at this
    exact this
  have s4 : b.data.toList.drop (5 + 5 * n) = (b.data.toList.drop (5 + 5 * n)).take (cpos b n n - (5 + 5 * n)) ++ b.data.toList.drop (cpos b n n) := by
    have := (List.take_append_drop (cpos b n n - (5 + 5 * n)) (b.data.toList.drop (5 + 5 * n))).symm
    rw [List.drop_drop, show 5 + 5 * n + (cpos b n n - (5 + 5 * n)) = cpos b n n by omega] at this
    exact this
  rw [List.append_assoc, List.append_assoc, List.append_assoc, ← s4, ← s3, ← s2, ← s1]
end Go.Proofs.Ytdhmandnamajpaa
