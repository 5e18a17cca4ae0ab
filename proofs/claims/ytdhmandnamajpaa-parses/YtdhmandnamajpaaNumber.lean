/-
  The reader: number.
-/
import Derived.Test.YtdhmandnamajpaaTake
namespace Go.Proofs.Ytdhmandnamajpaa
open Go.RowKit

set_option maxHeartbeats 400000

theorem number_err (b : ByteArray) (r p k F : Nat) (e : Int) (w : World) (h : RdAt w r b p e) (he : (e == 0) = false) :
    Calls Try.prog 22 #[.pointer (some ⟨r, 0, none⟩), .int .i64 k, .func (.func F) #[] #[]] w fun x w' => x = .returned (.int .i64 0) ∧ w' = w := by
  obtain ⟨c0, c1, f0, f1, hr⟩ := h.facts
  have HR : Hid (RdAt w r b p e) := h
  clear h
  go_enter Try.func22, Try.ntmps22
  go_wp2_with (first | (go_at_call 31; refine (take_err b r p _ e _ HR.out he).mono ?_; rintro x w' ⟨rfl, rfl⟩))
  go_ret
  exact ⟨rfl, rfl⟩

theorem number_short (b : ByteArray) (r p k F : Nat) (w : World) (h : RdAt w r b p 0) (hp : p ≤ b.size) (hs : b.size < p + k) :
    Calls Try.prog 22 #[.pointer (some ⟨r, 0, none⟩), .int .i64 k, .func (.func F) #[] #[]] w fun x w' => x = .returned (.int .i64 0) ∧ RdAt w' r b p 2 ∧ w.grownBy w' (some r) := by
  have HR : Hid (RdAt w r b p 0) := h
  clear h
  go_enter Try.func22, Try.ntmps22
  go_wp2_with (first | (go_at_call 31; refine (take_short b r p _ _ HR.out hp hs).mono ?_; rintro x w' ⟨rfl, hr1, hg⟩; obtain ⟨c0, c1, f0, f1, hr⟩ := hr1.facts; have HR1 := hr1; clear hr1))
  go_ret
  exact ⟨rfl, HR1, hg⟩

theorem hid {p : Prop} (h : p) : Hid p := h

theorem or_i64 (a d : Nat) (ha : a < 65536) (hb : d < 65536) : bits .or .i64 (a : Int) (d : Int) = ((a ||| d : Nat) : Int) := by
  have hx : a ||| d < 2 ^ 16 := Nat.or_lt_two_pow (by omega) (by omega)
  have h1 : (BitVec.ofInt 64 (a : Int)).toNat = a := by
    rw [BitVec.ofInt_natCast, BitVec.toNat_ofNat]; exact Nat.mod_eq_of_lt (by omega)
  have h2 : (BitVec.ofInt 64 (d : Int)).toNat = d := by
    rw [BitVec.ofInt_natCast, BitVec.toNat_ofNat]; exact Nat.mod_eq_of_lt (by omega)
  show IntKind.i64.wrap ((BitVec.ofInt 64 (a : Int) ||| BitVec.ofInt 64 (d : Int)).toNat : Int) = _
  rw [BitVec.toNat_or, h1, h2, IntKind.wrap_i64]
  omega
theorem or_shift (x y : Nat) (hy : y < 256) : (256 * x) ||| y = 256 * x + y := by
  have := Nat.shiftLeft_add_eq_or_of_lt (i := 8) hy x
  have h8 : (2 : Nat) ^ 8 = 256 := by decide
  rw [Nat.shiftLeft_eq, h8, Nat.mul_comm x 256] at this
  exact this.symm
theorem wrap_small (x : Nat) (h : x < 65536) : wrap64 (x : Int) = x := by unfold wrap64; omega
theorem or_first (x : Nat) (h : x < 256) : bits .or .i64 0 (wrap64 (x : Int)) = x := by
  rw [wrap_small x (by omega)]
  have := or_i64 0 x (by omega) (by omega)
  simpa using this

theorem or_second (b : ByteArray) (p : Nat) (hx : byteN b p < 256) (hy : byteN b (p + 1) < 256) : bits .or .i64 ((num1 b p : Int) * 256) (wrap64 (byteN b (p + 1) : Int)) = (num2 b p : Nat) := by
  rw [wrap_small _ (by omega)]
  have e : (num1 b p : Int) * 256 = ((256 * byteN b p : Nat) : Int) := by unfold num1; omega
  rw [e, or_i64 _ _ (by omega) (by omega), or_shift _ _ hy]
  rfl

theorem ext_get (b : ByteArray) (p k i : Nat) (hs : p + k ≤ b.size) (hi : i < k) (h : i < (b.extract p (p + k)).size) : (b.extract p (p + k))[i].toNat = byteN b (p + i) := by
  rw [byteN_get b (p + i) (by omega)]
  simp [ByteArray.getElem_extract]

theorem number_one (b : ByteArray) (r p F : Nat) (fb : Int → Bool) (w : World) (h : RdAt w r b p 0) (hs : p + 1 ≤ b.size)
    (hF : ∀ (n : Int) (w : World), Calls Try.prog F #[.int .i64 n] w fun e w' => e = .returned (.bool (fb n)) ∧ w' = w) (hcf : ∀ (x : Value) (w : World), (callFunc F #[x]).run Try.prog w = .ok (.enter F #[x]) w) (hf : fb (num1 b p : Nat) = true) :
    Calls Try.prog 22 #[.pointer (some ⟨r, 0, none⟩), .int .i64 1, .func (.func F) #[] #[]] w fun x w' => x = .returned (.int .i64 (num1 b p : Nat)) ∧ RdAt w' r b (p + 1) 0 ∧ w.grownBy w' (some r) := by
  have HR : Hid (RdAt w r b p 0) := h
  have HF : Hid _ := hF
  have hlt0 := byteN_lt b p
  have hlt1 := byteN_lt b (p + 1)
  clear h hF
  go_enter Try.func22, Try.ntmps22
  go_wp2_with (first | (go_at_call 31; refine (take_ok b r p 1 _ HR.out (by omega) hs).mono ?_; rintro x w' ⟨rfl, hr1, hg⟩; obtain ⟨c0, c1, f0, f1, hr⟩ := hr1.facts; have HR1 : Hid (RdAt w' r b (p + 1) 0) := hr1; have HG := hid hg; clear hr1 hg))
  have hsz1 : (b.extract p (p + 1)).size = 1 := by simp [ByteArray.size_extract]; omega
  go_loop [8, 20] (fun n i => ∃ k : Nat, k ≤ 1 ∧ i = .int .i64 k ∧ n = .int .i64 (if k = 0 then 0 else (num1 b p : Int))) (fun _ i => 1 - (intOf i).toNat)
  case atStart => exact ⟨0, by omega, rfl, rfl⟩
  case round =>
    obtain ⟨k, hk, rfl, rfl⟩ := hrel
    rcases (show k = 0 ∨ k = 1 by omega) with rfl | rfl
    · go_wp2
      go_round
      case rel =>
        refine ⟨1, by omega, rfl, ?_⟩
        rw [ext_get b p 1 0 hs (by omega), or_first _ (byteN_lt _ _)]
        rfl
      case measure => simp [intOf]
    · go_wp2_with fail
      refine (HF.out _ _).mono ?_
      rintro x w2 ⟨rfl, rfl⟩
      go_wp2
      go_ret
      exact ⟨rfl, HR1.out, HG.out⟩

theorem number_one_bad (b : ByteArray) (r p F : Nat) (fb : Int → Bool) (w : World) (h : RdAt w r b p 0) (hs : p + 1 ≤ b.size)
    (hF : ∀ (n : Int) (w : World), Calls Try.prog F #[.int .i64 n] w fun e w' => e = .returned (.bool (fb n)) ∧ w' = w) (hcf : ∀ (x : Value) (w : World), (callFunc F #[x]).run Try.prog w = .ok (.enter F #[x]) w) (hf : fb (num1 b p : Nat) = false) :
    Calls Try.prog 22 #[.pointer (some ⟨r, 0, none⟩), .int .i64 1, .func (.func F) #[] #[]] w fun x w' => x = .returned (.int .i64 0) ∧ RdAt w' r b (p + 1) 3 ∧ w.grownBy w' (some r) := by
  have HR : Hid (RdAt w r b p 0) := h
  have HF : Hid _ := hF
  have hlt0 := byteN_lt b p
  have hlt1 := byteN_lt b (p + 1)
  clear h hF
  go_enter Try.func22, Try.ntmps22
  go_wp2_with (first | (go_at_call 31; refine (take_ok b r p 1 _ HR.out (by omega) hs).mono ?_; rintro x w' ⟨rfl, hr1, hg⟩; obtain ⟨c0, c1, f0, f1, hr⟩ := hr1.facts; have HR1 : Hid (RdAt w' r b (p + 1) 0) := hr1; have HG := hid hg; clear hr1 hg))
  have hsz1 : (b.extract p (p + 1)).size = 1 := by simp [ByteArray.size_extract]; omega
  go_loop [8, 20] (fun n i => ∃ k : Nat, k ≤ 1 ∧ i = .int .i64 k ∧ n = .int .i64 (if k = 0 then 0 else (num1 b p : Int))) (fun _ i => 1 - (intOf i).toNat)
  case atStart => exact ⟨0, by omega, rfl, rfl⟩
  case round =>
    obtain ⟨k, hk, rfl, rfl⟩ := hrel
    rcases (show k = 0 ∨ k = 1 by omega) with rfl | rfl
    · go_wp2
      go_round
      case rel =>
        refine ⟨1, by omega, rfl, ?_⟩
        rw [ext_get b p 1 0 hs (by omega), or_first _ (byteN_lt _ _)]
        rfl
      case measure => simp [intOf]
    · go_wp2_with fail
      refine (HF.out _ _).mono ?_
      rintro x w2 ⟨rfl, rfl⟩
      go_wp2
      go_ret
      exact ⟨rfl, rd_set1 HR1.out 3, grown_trans HG.out (grown_set _ _ _ _)⟩

theorem number_two (b : ByteArray) (r p F : Nat) (fb : Int → Bool) (w : World) (h : RdAt w r b p 0) (hs : p + 2 ≤ b.size)
    (hF : ∀ (n : Int) (w : World), Calls Try.prog F #[.int .i64 n] w fun e w' => e = .returned (.bool (fb n)) ∧ w' = w) (hcf : ∀ (x : Value) (w : World), (callFunc F #[x]).run Try.prog w = .ok (.enter F #[x]) w) (hf : fb (num2 b p : Nat) = true) :
    Calls Try.prog 22 #[.pointer (some ⟨r, 0, none⟩), .int .i64 2, .func (.func F) #[] #[]] w fun x w' => x = .returned (.int .i64 (num2 b p : Nat)) ∧ RdAt w' r b (p + 2) 0 ∧ w.grownBy w' (some r) := by
  have HR : Hid (RdAt w r b p 0) := h
  have HF : Hid _ := hF
  have hlt0 := byteN_lt b p
  have hlt1 := byteN_lt b (p + 1)
  clear h hF
  go_enter Try.func22, Try.ntmps22
  go_wp2_with (first | (go_at_call 31; refine (take_ok b r p 2 _ HR.out (by omega) hs).mono ?_; rintro x w' ⟨rfl, hr1, hg⟩; obtain ⟨c0, c1, f0, f1, hr⟩ := hr1.facts; have HR1 : Hid (RdAt w' r b (p + 2) 0) := hr1; have HG := hid hg; clear hr1 hg))
  have hsz1 : (b.extract p (p + 2)).size = 2 := by simp [ByteArray.size_extract]; omega
  go_loop [8, 20] (fun n i => ∃ k : Nat, k ≤ 2 ∧ i = .int .i64 k ∧ n = .int .i64 (if k = 0 then 0 else if k = 1 then (num1 b p : Int) else (num2 b p : Int))) (fun _ i => 2 - (intOf i).toNat)
  case atStart => exact ⟨0, by omega, rfl, rfl⟩
  case round =>
    obtain ⟨k, hk, rfl, rfl⟩ := hrel
    rcases (show k = 0 ∨ k = 1 ∨ k = 2 by omega) with rfl | rfl | rfl
    · go_wp2
      go_round
      case rel =>
        refine ⟨1, by omega, rfl, ?_⟩
        rw [ext_get b p 2 0 hs (by omega), or_first _ (byteN_lt _ _)]
        rfl
      case measure => simp [intOf]
    · have hn1 : (num1 b p : Int) ≤ 255 := by unfold num1; omega
      have hn0 : (0 : Int) ≤ (num1 b p : Int) := by omega
      go_wp2
      go_round
      case rel =>
        refine ⟨2, by omega, rfl, ?_⟩
        rw [ext_get b p 2 1 hs (by omega)]
        rw [or_second _ _ hlt0 hlt1]
        rfl
      case measure => simp [intOf]
    · go_wp2_with fail
      refine (HF.out _ _).mono ?_
      rintro x w2 ⟨rfl, rfl⟩
      go_wp2
      go_ret
      exact ⟨rfl, HR1.out, HG.out⟩

theorem number_two_bad (b : ByteArray) (r p F : Nat) (fb : Int → Bool) (w : World) (h : RdAt w r b p 0) (hs : p + 2 ≤ b.size)
    (hF : ∀ (n : Int) (w : World), Calls Try.prog F #[.int .i64 n] w fun e w' => e = .returned (.bool (fb n)) ∧ w' = w) (hcf : ∀ (x : Value) (w : World), (callFunc F #[x]).run Try.prog w = .ok (.enter F #[x]) w) (hf : fb (num2 b p : Nat) = false) :
    Calls Try.prog 22 #[.pointer (some ⟨r, 0, none⟩), .int .i64 2, .func (.func F) #[] #[]] w fun x w' => x = .returned (.int .i64 0) ∧ RdAt w' r b (p + 2) 3 ∧ w.grownBy w' (some r) := by
  have HR : Hid (RdAt w r b p 0) := h
  have HF : Hid _ := hF
  have hlt0 := byteN_lt b p
  have hlt1 := byteN_lt b (p + 1)
  clear h hF
  go_enter Try.func22, Try.ntmps22
  go_wp2_with (first | (go_at_call 31; refine (take_ok b r p 2 _ HR.out (by omega) hs).mono ?_; rintro x w' ⟨rfl, hr1, hg⟩; obtain ⟨c0, c1, f0, f1, hr⟩ := hr1.facts; have HR1 : Hid (RdAt w' r b (p + 2) 0) := hr1; have HG := hid hg; clear hr1 hg))
  have hsz1 : (b.extract p (p + 2)).size = 2 := by simp [ByteArray.size_extract]; omega
  go_loop [8, 20] (fun n i => ∃ k : Nat, k ≤ 2 ∧ i = .int .i64 k ∧ n = .int .i64 (if k = 0 then 0 else if k = 1 then (num1 b p : Int) else (num2 b p : Int))) (fun _ i => 2 - (intOf i).toNat)
  case atStart => exact ⟨0, by omega, rfl, rfl⟩
  case round =>
    obtain ⟨k, hk, rfl, rfl⟩ := hrel
    rcases (show k = 0 ∨ k = 1 ∨ k = 2 by omega) with rfl | rfl | rfl
    · go_wp2
      go_round
      case rel =>
        refine ⟨1, by omega, rfl, ?_⟩
        rw [ext_get b p 2 0 hs (by omega), or_first _ (byteN_lt _ _)]
        rfl
      case measure => simp [intOf]
    · have hn1 : (num1 b p : Int) ≤ 255 := by unfold num1; omega
      have hn0 : (0 : Int) ≤ (num1 b p : Int) := by omega
      go_wp2
      go_round
      case rel =>
        refine ⟨2, by omega, rfl, ?_⟩
        rw [ext_get b p 2 1 hs (by omega)]
        rw [or_second _ _ hlt0 hlt1]
        rfl
      case measure => simp [intOf]
    · go_wp2_with fail
      refine (HF.out _ _).mono ?_
      rintro x w2 ⟨rfl, rfl⟩
      go_wp2
      go_ret
      exact ⟨rfl, rd_set1 HR1.out 3, grown_trans HG.out (grown_set _ _ _ _)⟩

def numk (b : ByteArray) (k p : Nat) : Nat := if k = 1 then num1 b p else num2 b p
/-- What a call of 'number' (or of 'head') does to the reader: from (p, e) to (p', e'), where E is what is found wrong from p on. -/
def Went (w w' : World) (r : Nat) (b : ByteArray) (e E e' : Int) (p' : Nat) : Prop :=
  RdAt w' r b p' e' ∧ w.grownBy w' (some r) ∧ (e ≠ 0 → e' = e) ∧ (e = 0 → e' = E) ∧ (e' = 0 → p' ≤ b.size)

theorem number_any (b : ByteArray) (r p k F : Nat) (fb : Int → Bool) (e : Int) (w : World) (h : RdAt w r b p e) (hk : k = 1 ∨ k = 2) (hp : e = 0 → p ≤ b.size)
    (hF : ∀ (n : Int) (w : World), Calls Try.prog F #[.int .i64 n] w fun e w' => e = .returned (.bool (fb n)) ∧ w' = w) (hcf : ∀ (x : Value) (w : World), (callFunc F #[x]).run Try.prog w = .ok (.enter F #[x]) w) :
    Calls Try.prog 22 #[.pointer (some ⟨r, 0, none⟩), .int .i64 k, .func (.func F) #[] #[]] w fun x w' => ∃ (n p' : Nat) (e' : Int), x = .returned (.int .i64 n) ∧ Went w w' r b e (er b p k (fb (numk b k p))) e' p' ∧ (e' ≠ 0 → n = 0) ∧ (e' = 0 → n = numk b k p ∧ p' = p + k) := by
  by_cases he : e = 0
  · subst he
    by_cases hs : b.size < p + k
    · refine (number_short b r p k F w h (hp rfl) hs).mono ?_
      rintro x w' ⟨rfl, hr, hg⟩
      exact ⟨0, p, 2, rfl, ⟨hr, hg, fun h => absurd rfl h, fun _ => by simp [er, hs], fun h => by simp at h⟩, fun _ => rfl, fun h => by simp at h⟩
    · cases hf : fb (numk b k p) with
      | true =>
        rcases hk with rfl | rfl
        · refine (number_one b r p F fb w h (by omega) hF hcf hf).mono ?_
          rintro x w' ⟨rfl, hr, hg⟩
          exact ⟨_, p + 1, 0, rfl, ⟨hr, hg, fun h => absurd rfl h, fun _ => by simp [er, hs], fun _ => by omega⟩, fun h => absurd rfl h, fun _ => ⟨rfl, rfl⟩⟩
        · refine (number_two b r p F fb w h (by omega) hF hcf hf).mono ?_
          rintro x w' ⟨rfl, hr, hg⟩
          exact ⟨_, p + 2, 0, rfl, ⟨hr, hg, fun h => absurd rfl h, fun _ => by simp [er, hs], fun _ => by omega⟩, fun h => absurd rfl h, fun _ => ⟨rfl, rfl⟩⟩
      | false =>
        rcases hk with rfl | rfl
        · refine (number_one_bad b r p F fb w h (by omega) hF hcf hf).mono ?_
          rintro x w' ⟨rfl, hr, hg⟩
          exact ⟨0, p + 1, 3, rfl, ⟨hr, hg, fun h => absurd rfl h, fun _ => by simp [er, hs], fun h => by simp at h⟩, fun _ => rfl, fun h => by simp at h⟩
        · refine (number_two_bad b r p F fb w h (by omega) hF hcf hf).mono ?_
          rintro x w' ⟨rfl, hr, hg⟩
          exact ⟨0, p + 2, 3, rfl, ⟨hr, hg, fun h => absurd rfl h, fun _ => by simp [er, hs], fun h => by simp at h⟩, fun _ => rfl, fun h => by simp at h⟩
  · refine (number_err b r p k F e w h (by simpa using he)).mono ?_
    rintro x w' ⟨rfl, rfl⟩
    exact ⟨0, p, e, rfl, ⟨h, grown_refl _ _, fun _ => rfl, fun h => absurd h he, fun h => absurd h he⟩, fun _ => rfl, fun h => absurd h he⟩

theorem cf_count (x : Value) (w : World) : (callFunc 23 #[x]).run Try.prog w = .ok (.enter 23 #[x]) w := by kernel_rfl
theorem cf_inputs (x : Value) (w : World) : (callFunc 32 #[x]).run Try.prog w = .ok (.enter 32 #[x]) w := by kernel_rfl
theorem cf_outputs (x : Value) (w : World) : (callFunc 33 #[x]).run Try.prog w = .ok (.enter 33 #[x]) w := by kernel_rfl
theorem cf_max (x : Value) (w : World) : (callFunc 34 #[x]).run Try.prog w = .ok (.enter 34 #[x]) w := by kernel_rfl
theorem cf_code (x : Value) (w : World) : (callFunc 35 #[x]).run Try.prog w = .ok (.enter 35 #[x]) w := by kernel_rfl
theorem cf_data (x : Value) (w : World) : (callFunc 25 #[x]).run Try.prog w = .ok (.enter 25 #[x]) w := by kernel_rfl
end Go.Proofs.Ytdhmandnamajpaa
