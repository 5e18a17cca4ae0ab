import Derived.Test.YtdhmandnamajpaaGreatDoorY00
import Derived.Test.YtdhmandnamajpaaGreatDoorY28
import Derived.Shelf.Strconv.Clone
import Derived.Deep.RegionHeld
import Derived.Deep.RegionHeld3
import Derived.Deep.QuietTactic
import Derived.BigQuiet
namespace Go.Proofs.YtdhmandnamajpaaGreatDoor
open Go.RowKit
set_option maxHeartbeats 400000
theorem number_err (b : ByteArray) (r p k F : Nat) (e : Int) (w : World) (h : RdAt w r b p e) (he : (e == 0) = false) :
  Calls Tryz.prog 42 #[.pointer (some ⟨r, 0, none⟩), .int .i64 k, .func (.func F) #[] #[]] w fun x w' => x = .returned (.int .i64 0) ∧ w' = w := by
 obtain ⟨c0, c1, f0, f1, hr⟩ := h.facts
 have HR : Hid (RdAt w r b p e) := h
 clear h
 go_enter Tryz.func42, Tryz.ntmps42
 go_wp2_with (first | (go_at_call 75; refine (take_err b r p _ e _ HR.out he).mono ?_; rintro x w' ⟨rfl, rfl⟩))
 go_ret
 exact ⟨rfl, rfl⟩
theorem number_short (b : ByteArray) (r p k F : Nat) (w : World) (h : RdAt w r b p 0) (hp : p ≤ b.size) (hs : b.size < p + k) :
  Calls Tryz.prog 42 #[.pointer (some ⟨r, 0, none⟩), .int .i64 k, .func (.func F) #[] #[]] w fun x w' => x = .returned (.int .i64 0) ∧ RdAt w' r b p 2 ∧ w.grownBy w' (some r) := by
 have HR : Hid (RdAt w r b p 0) := h
 clear h
 go_enter Tryz.func42, Tryz.ntmps42
 go_wp2_with (first | (go_at_call 75; refine (take_short b r p _ _ HR.out hp hs).mono ?_; rintro x w' ⟨rfl, hr1, hg⟩; obtain ⟨c0, c1, f0, f1, hr⟩ := hr1.facts; have HR1 := hr1; clear hr1))
 go_ret
 exact ⟨rfl, HR1, hg⟩
theorem hid {p : Prop} (h : p) : Hid p := h
theorem or_i64 (a d : Nat) (ha : a < 65536) (hb : d < 65536) : bits .or .i64 (a : Int) (d : Int) = ((a ||| d : Nat) : Int) := by
 have hx : a ||| d < 2 ^ 16 := Nat.or_lt_two_pow (by omega) (by omega)
 have h1 : (BitVec.ofInt 64 (a : Int)).toNat = a := by
  rw [BitVec.ofInt_natCast, BitVec.toNat_ofNat]; exact Nat.mod_eq_of_lt (by omega)
 have h2 : (BitVec.ofInt 64 (d : Int)).toNat = d := by
  rw [BitVec.ofInt_natCast, BitVec.toNat_ofNat]; exact Nat.mod_eq_of_lt (by omega)
 show IntKind.i64.wrap ((BitVec.ofInt 64 (a : Int) ||| BitVec.ofInt 64 (d : Int)).toNat : Int) = _
 rw [BitVec.toNat_or, h1, h2, IntKind.wrap_i64]
 omega
theorem or_shift (x y : Nat) (hy : y < 256) : (256 * x) ||| y = 256 * x + y := by
 have := Nat.shiftLeft_add_eq_or_of_lt (i := 8) hy x
 have h8 : (2 : Nat) ^ 8 = 256 := by decide
 rw [Nat.shiftLeft_eq, h8, Nat.mul_comm x 256] at this
 exact this.symm
theorem wrap_small (x : Nat) (h : x < 65536) : wrap64 (x : Int) = x := by unfold wrap64; omega
theorem or_first (x : Nat) (h : x < 256) : bits .or .i64 0 (wrap64 (x : Int)) = x := by
 rw [wrap_small x (by omega)]
 have := or_i64 0 x (by omega) (by omega)
 simpa using this
theorem or_second (b : ByteArray) (p : Nat) (hx : byteN b p < 256) (hy : byteN b (p + 1) < 256) : bits .or .i64 ((num1 b p : Int) * 256) (wrap64 (byteN b (p + 1) : Int)) = (num2 b p : Nat) := by
 rw [wrap_small _ (by omega)]
 have e : (num1 b p : Int) * 256 = ((256 * byteN b p : Nat) : Int) := by unfold num1; omega
 rw [e, or_i64 _ _ (by omega) (by omega), or_shift _ _ hy]
 rfl
theorem ext_get (b : ByteArray) (p k i : Nat) (hs : p + k ≤ b.size) (hi : i < k) (h : i < (b.extract p (p + k)).size) : (b.extract p (p + k))[i].toNat = byteN b (p + i) := by
 rw [byteN_get b (p + i) (by omega)]
 simp [ByteArray.getElem_extract]
theorem number_one (b : ByteArray) (r p F : Nat) (fb : Int → Bool) (w : World) (h : RdAt w r b p 0) (hs : p + 1 ≤ b.size)
  (hF : ∀ (n : Int) (w : World), Calls Tryz.prog F #[.int .i64 n] w fun e w' => e = .returned (.bool (fb n)) ∧ w' = w) (hcf : ∀ (x : Value) (w : World), (callFunc F #[x]).run Tryz.prog w = .ok (.enter F #[x]) w) (hf : fb (num1 b p : Nat) = true) :
  Calls Tryz.prog 42 #[.pointer (some ⟨r, 0, none⟩), .int .i64 1, .func (.func F) #[] #[]] w fun x w' => x = .returned (.int .i64 (num1 b p : Nat)) ∧ RdAt w' r b (p + 1) 0 ∧ w.grownBy w' (some r) := by
 have HR : Hid (RdAt w r b p 0) := h
 have HF : Hid _ := hF
 have hlt0 := byteN_lt b p
 have hlt1 := byteN_lt b (p + 1)
 clear h hF
 go_enter Tryz.func42, Tryz.ntmps42
 go_wp2_with (first | (go_at_call 75; refine (take_ok b r p 1 _ HR.out (by omega) hs).mono ?_; rintro x w' ⟨rfl, hr1, hg⟩; obtain ⟨c0, c1, f0, f1, hr⟩ := hr1.facts; have HR1 : Hid (RdAt w' r b (p + 1) 0) := hr1; have HG := hid hg; clear hr1 hg))
 have hsz1 : (b.extract p (p + 1)).size = 1 := by simp [ByteArray.size_extract]; omega
 go_loop [8, 20] (fun n i => ∃ k : Nat, k ≤ 1 ∧ i = .int .i64 k ∧ n = .int .i64 (if k = 0 then 0 else (num1 b p : Int))) (fun _ i => 1 - (intOf i).toNat)
 case atStart => exact ⟨0, by omega, rfl, rfl⟩
 case round =>
  obtain ⟨k, hk, rfl, rfl⟩ := hrel
  rcases (show k = 0 ∨ k = 1 by omega) with rfl | rfl
  ·go_wp2
   go_round
   case rel =>
    refine ⟨1, by omega, rfl, ?_⟩
    rw [ext_get b p 1 0 hs (by omega), or_first _ (byteN_lt _ _)]
    rfl
   case measure => simp [intOf]
  ·go_wp2_with fail
   refine (HF.out _ _).mono ?_
   rintro x w2 ⟨rfl, rfl⟩
   go_wp2
   go_ret
   exact ⟨rfl, HR1.out, HG.out⟩
theorem number_one_bad (b : ByteArray) (r p F : Nat) (fb : Int → Bool) (w : World) (h : RdAt w r b p 0) (hs : p + 1 ≤ b.size)
  (hF : ∀ (n : Int) (w : World), Calls Tryz.prog F #[.int .i64 n] w fun e w' => e = .returned (.bool (fb n)) ∧ w' = w) (hcf : ∀ (x : Value) (w : World), (callFunc F #[x]).run Tryz.prog w = .ok (.enter F #[x]) w) (hf : fb (num1 b p : Nat) = false) :
  Calls Tryz.prog 42 #[.pointer (some ⟨r, 0, none⟩), .int .i64 1, .func (.func F) #[] #[]] w fun x w' => x = .returned (.int .i64 0) ∧ RdAt w' r b (p + 1) 3 ∧ w.grownBy w' (some r) := by
 have HR : Hid (RdAt w r b p 0) := h
 have HF : Hid _ := hF
 have hlt0 := byteN_lt b p
 have hlt1 := byteN_lt b (p + 1)
 clear h hF
 go_enter Tryz.func42, Tryz.ntmps42
 go_wp2_with (first | (go_at_call 75; refine (take_ok b r p 1 _ HR.out (by omega) hs).mono ?_; rintro x w' ⟨rfl, hr1, hg⟩; obtain ⟨c0, c1, f0, f1, hr⟩ := hr1.facts; have HR1 : Hid (RdAt w' r b (p + 1) 0) := hr1; have HG := hid hg; clear hr1 hg))
 have hsz1 : (b.extract p (p + 1)).size = 1 := by simp [ByteArray.size_extract]; omega
 go_loop [8, 20] (fun n i => ∃ k : Nat, k ≤ 1 ∧ i = .int .i64 k ∧ n = .int .i64 (if k = 0 then 0 else (num1 b p : Int))) (fun _ i => 1 - (intOf i).toNat)
 case atStart => exact ⟨0, by omega, rfl, rfl⟩
 case round =>
  obtain ⟨k, hk, rfl, rfl⟩ := hrel
  rcases (show k = 0 ∨ k = 1 by omega) with rfl | rfl
  ·go_wp2
   go_round
   case rel =>
    refine ⟨1, by omega, rfl, ?_⟩
    rw [ext_get b p 1 0 hs (by omega), or_first _ (byteN_lt _ _)]
    rfl
   case measure => simp [intOf]
  ·go_wp2_with fail
   refine (HF.out _ _).mono ?_
   rintro x w2 ⟨rfl, rfl⟩
   go_wp2
   go_ret
   exact ⟨rfl, rd_set1 HR1.out 3, grown_trans HG.out (grown_set _ _ _ _)⟩
theorem number_two (b : ByteArray) (r p F : Nat) (fb : Int → Bool) (w : World) (h : RdAt w r b p 0) (hs : p + 2 ≤ b.size)
  (hF : ∀ (n : Int) (w : World), Calls Tryz.prog F #[.int .i64 n] w fun e w' => e = .returned (.bool (fb n)) ∧ w' = w) (hcf : ∀ (x : Value) (w : World), (callFunc F #[x]).run Tryz.prog w = .ok (.enter F #[x]) w) (hf : fb (num2 b p : Nat) = true) :
  Calls Tryz.prog 42 #[.pointer (some ⟨r, 0, none⟩), .int .i64 2, .func (.func F) #[] #[]] w fun x w' => x = .returned (.int .i64 (num2 b p : Nat)) ∧ RdAt w' r b (p + 2) 0 ∧ w.grownBy w' (some r) := by
 have HR : Hid (RdAt w r b p 0) := h
 have HF : Hid _ := hF
 have hlt0 := byteN_lt b p
 have hlt1 := byteN_lt b (p + 1)
 clear h hF
 go_enter Tryz.func42, Tryz.ntmps42
 go_wp2_with (first | (go_at_call 75; refine (take_ok b r p 2 _ HR.out (by omega) hs).mono ?_; rintro x w' ⟨rfl, hr1, hg⟩; obtain ⟨c0, c1, f0, f1, hr⟩ := hr1.facts; have HR1 : Hid (RdAt w' r b (p + 2) 0) := hr1; have HG := hid hg; clear hr1 hg))
 have hsz1 : (b.extract p (p + 2)).size = 2 := by simp [ByteArray.size_extract]; omega
 go_loop [8, 20] (fun n i => ∃ k : Nat, k ≤ 2 ∧ i = .int .i64 k ∧ n = .int .i64 (if k = 0 then 0 else if k = 1 then (num1 b p : Int) else (num2 b p : Int))) (fun _ i => 2 - (intOf i).toNat)
 case atStart => exact ⟨0, by omega, rfl, rfl⟩
 case round =>
  obtain ⟨k, hk, rfl, rfl⟩ := hrel
  rcases (show k = 0 ∨ k = 1 ∨ k = 2 by omega) with rfl | rfl | rfl
  ·go_wp2
   go_round
   case rel =>
    refine ⟨1, by omega, rfl, ?_⟩
    rw [ext_get b p 2 0 hs (by omega), or_first _ (byteN_lt _ _)]
    rfl
   case measure => simp [intOf]
  ·have hn1 : (num1 b p : Int) ≤ 255 := by unfold num1; omega
   have hn0 : (0 : Int) ≤ (num1 b p : Int) := by omega
   go_wp2
   go_round
   case rel =>
    refine ⟨2, by omega, rfl, ?_⟩
    rw [ext_get b p 2 1 hs (by omega)]
    rw [or_second _ _ hlt0 hlt1]
    rfl
   case measure => simp [intOf]
  ·go_wp2_with fail
   refine (HF.out _ _).mono ?_
   rintro x w2 ⟨rfl, rfl⟩
   go_wp2
   go_ret
   exact ⟨rfl, HR1.out, HG.out⟩
theorem number_two_bad (b : ByteArray) (r p F : Nat) (fb : Int → Bool) (w : World) (h : RdAt w r b p 0) (hs : p + 2 ≤ b.size)
  (hF : ∀ (n : Int) (w : World), Calls Tryz.prog F #[.int .i64 n] w fun e w' => e = .returned (.bool (fb n)) ∧ w' = w) (hcf : ∀ (x : Value) (w : World), (callFunc F #[x]).run Tryz.prog w = .ok (.enter F #[x]) w) (hf : fb (num2 b p : Nat) = false) :
  Calls Tryz.prog 42 #[.pointer (some ⟨r, 0, none⟩), .int .i64 2, .func (.func F) #[] #[]] w fun x w' => x = .returned (.int .i64 0) ∧ RdAt w' r b (p + 2) 3 ∧ w.grownBy w' (some r) := by
 have HR : Hid (RdAt w r b p 0) := h
 have HF : Hid _ := hF
 have hlt0 := byteN_lt b p
 have hlt1 := byteN_lt b (p + 1)
 clear h hF
 go_enter Tryz.func42, Tryz.ntmps42
 go_wp2_with (first | (go_at_call 75; refine (take_ok b r p 2 _ HR.out (by omega) hs).mono ?_; rintro x w' ⟨rfl, hr1, hg⟩; obtain ⟨c0, c1, f0, f1, hr⟩ := hr1.facts; have HR1 : Hid (RdAt w' r b (p + 2) 0) := hr1; have HG := hid hg; clear hr1 hg))
 have hsz1 : (b.extract p (p + 2)).size = 2 := by simp [ByteArray.size_extract]; omega
 go_loop [8, 20] (fun n i => ∃ k : Nat, k ≤ 2 ∧ i = .int .i64 k ∧ n = .int .i64 (if k = 0 then 0 else if k = 1 then (num1 b p : Int) else (num2 b p : Int))) (fun _ i => 2 - (intOf i).toNat)
 case atStart => exact ⟨0, by omega, rfl, rfl⟩
 case round =>
  obtain ⟨k, hk, rfl, rfl⟩ := hrel
  rcases (show k = 0 ∨ k = 1 ∨ k = 2 by omega) with rfl | rfl | rfl
  ·go_wp2
   go_round
   case rel =>
    refine ⟨1, by omega, rfl, ?_⟩
    rw [ext_get b p 2 0 hs (by omega), or_first _ (byteN_lt _ _)]
    rfl
   case measure => simp [intOf]
  ·have hn1 : (num1 b p : Int) ≤ 255 := by unfold num1; omega
   have hn0 : (0 : Int) ≤ (num1 b p : Int) := by omega
   go_wp2
   go_round
   case rel =>
    refine ⟨2, by omega, rfl, ?_⟩
    rw [ext_get b p 2 1 hs (by omega)]
    rw [or_second _ _ hlt0 hlt1]
    rfl
   case measure => simp [intOf]
  ·go_wp2_with fail
   refine (HF.out _ _).mono ?_
   rintro x w2 ⟨rfl, rfl⟩
   go_wp2
   go_ret
   exact ⟨rfl, rd_set1 HR1.out 3, grown_trans HG.out (grown_set _ _ _ _)⟩
def numk (b : ByteArray) (k p : Nat) : Nat := if k = 1 then num1 b p else num2 b p
def Went (w w' : World) (r : Nat) (b : ByteArray) (e E e' : Int) (p' : Nat) : Prop :=
 RdAt w' r b p' e' ∧ w.grownBy w' (some r) ∧ (e ≠ 0 → e' = e) ∧ (e = 0 → e' = E) ∧ (e' = 0 → p' ≤ b.size)
theorem number_any (b : ByteArray) (r p k F : Nat) (fb : Int → Bool) (e : Int) (w : World) (h : RdAt w r b p e) (hk : k = 1 ∨ k = 2) (hp : e = 0 → p ≤ b.size)
  (hF : ∀ (n : Int) (w : World), Calls Tryz.prog F #[.int .i64 n] w fun e w' => e = .returned (.bool (fb n)) ∧ w' = w) (hcf : ∀ (x : Value) (w : World), (callFunc F #[x]).run Tryz.prog w = .ok (.enter F #[x]) w) :
  Calls Tryz.prog 42 #[.pointer (some ⟨r, 0, none⟩), .int .i64 k, .func (.func F) #[] #[]] w fun x w' => ∃ (n p' : Nat) (e' : Int), x = .returned (.int .i64 n) ∧ Went w w' r b e (er b p k (fb (numk b k p))) e' p' ∧ (e' ≠ 0 → n = 0) ∧ (e' = 0 → n = numk b k p ∧ p' = p + k) := by
 by_cases he : e = 0
 ·subst he
  by_cases hs : b.size < p + k
  ·refine (number_short b r p k F w h (hp rfl) hs).mono ?_
   rintro x w' ⟨rfl, hr, hg⟩
   exact ⟨0, p, 2, rfl, ⟨hr, hg, fun h => absurd rfl h, fun _ => by simp [er, hs], fun h => by simp at h⟩, fun _ => rfl, fun h => by simp at h⟩
  ·cases hf : fb (numk b k p) with
   | true =>
    rcases hk with rfl | rfl
    ·refine (number_one b r p F fb w h (by omega) hF hcf hf).mono ?_
     rintro x w' ⟨rfl, hr, hg⟩
     exact ⟨_, p + 1, 0, rfl, ⟨hr, hg, fun h => absurd rfl h, fun _ => by simp [er, hs], fun _ => by omega⟩, fun h => absurd rfl h, fun _ => ⟨rfl, rfl⟩⟩
    ·refine (number_two b r p F fb w h (by omega) hF hcf hf).mono ?_
     rintro x w' ⟨rfl, hr, hg⟩
     exact ⟨_, p + 2, 0, rfl, ⟨hr, hg, fun h => absurd rfl h, fun _ => by simp [er, hs], fun _ => by omega⟩, fun h => absurd rfl h, fun _ => ⟨rfl, rfl⟩⟩
   | false =>
    rcases hk with rfl | rfl
    ·refine (number_one_bad b r p F fb w h (by omega) hF hcf hf).mono ?_
     rintro x w' ⟨rfl, hr, hg⟩
     exact ⟨0, p + 1, 3, rfl, ⟨hr, hg, fun h => absurd rfl h, fun _ => by simp [er, hs], fun h => by simp at h⟩, fun _ => rfl, fun h => by simp at h⟩
    ·refine (number_two_bad b r p F fb w h (by omega) hF hcf hf).mono ?_
     rintro x w' ⟨rfl, hr, hg⟩
     exact ⟨0, p + 2, 3, rfl, ⟨hr, hg, fun h => absurd rfl h, fun _ => by simp [er, hs], fun h => by simp at h⟩, fun _ => rfl, fun h => by simp at h⟩
 ·refine (number_err b r p k F e w h (by simpa using he)).mono ?_
  rintro x w' ⟨rfl, rfl⟩
  exact ⟨0, p, e, rfl, ⟨h, grown_refl _ _, fun _ => rfl, fun h => absurd h he, fun h => absurd h he⟩, fun _ => rfl, fun h => absurd h he⟩
theorem cf_count (x : Value) (w : World) : (callFunc 43 #[x]).run Tryz.prog w = .ok (.enter 43 #[x]) w := by kernel_rfl
theorem cf_inputs (x : Value) (w : World) : (callFunc 76 #[x]).run Tryz.prog w = .ok (.enter 76 #[x]) w := by kernel_rfl
theorem cf_outputs (x : Value) (w : World) : (callFunc 77 #[x]).run Tryz.prog w = .ok (.enter 77 #[x]) w := by kernel_rfl
theorem cf_max (x : Value) (w : World) : (callFunc 78 #[x]).run Tryz.prog w = .ok (.enter 78 #[x]) w := by kernel_rfl
theorem cf_code (x : Value) (w : World) : (callFunc 79 #[x]).run Tryz.prog w = .ok (.enter 79 #[x]) w := by kernel_rfl
theorem cf_data (x : Value) (w : World) : (callFunc 45 #[x]).run Tryz.prog w = .ok (.enter 45 #[x]) w := by kernel_rfl
end Go.Proofs.YtdhmandnamajpaaGreatDoor
namespace Go.Proofs.YtdhmandnamajpaaGreatDoor
open Go.RowKit Go.Shelf
def cloneRen : Shelf.Ren := ⟨fun _ => 119, fun t => if t = 5 then 5 else if t = 9 then 9 else if t = 3 then 3 else if t = 4 then 4 else if t = 37 then 132 else if t = 127 then 178 else 0, fun g => g⟩
theorem clone_lays : LaysM.n316 Tryz.prog cloneRen where
 mixed := by kernel_rfl
 f316 := by kernel_rfl
 t0 := by kernel_rfl
 a0 := fun _ => by kernel_rfl
 z0 := fun _ => by kernel_rfl
 v0 := fun _ => by kernel_rfl
 t3 := by kernel_rfl
 a3 := fun _ => by kernel_rfl
 z3 := fun _ => by kernel_rfl
 v3 := fun _ => by kernel_rfl
 t4 := by kernel_rfl
 a4 := fun _ => by kernel_rfl
 z4 := fun _ => by kernel_rfl
 v4 := fun _ => by kernel_rfl
 t9 := by kernel_rfl
 a9 := fun _ => by kernel_rfl
 z9 := fun _ => by kernel_rfl
 v9 := fun _ => by kernel_rfl
 t37 := by kernel_rfl
 a37 := fun _ => by kernel_rfl
 z37 := fun _ => by kernel_rfl
 v37 := fun _ => by kernel_rfl
 t127 := by kernel_rfl
 a127 := fun _ => by kernel_rfl
 z127 := fun _ => by kernel_rfl
 v127 := fun _ => by kernel_rfl
 t5 := by kernel_rfl
 a5 := fun _ => by kernel_rfl
 z5 := fun _ => by kernel_rfl
 v5 := fun _ => by kernel_rfl
 i0 := by kernel_rfl
 i3 := by kernel_rfl
 i4 := by kernel_rfl
 i5 := by kernel_rfl
 i9 := by kernel_rfl
 i37 := by kernel_rfl
 i127 := by kernel_rfl
theorem sl_clone (s : ByteArray) (w : World) (hlim : s.size ≤ 70000) :
  Calls Tryz.prog 119 #[.string s] w fun e w' => e = .returned (.string s) ∧ Below w.heap.size w w' :=
 Any.stringslite_Clone clone_lays s w (by omega)
theorem str_clone (s : ByteArray) (w : World) (hlim : s.size ≤ 70000) :
  Calls Tryz.prog 80 #[.string s] w fun e w' => e = .returned (.string s) ∧ Below w.heap.size w w' := by
 go_enter Tryz.func80, Tryz.ntmps80
 go_wp2_with (first | (go_at_call 119; refine (sl_clone s _ hlim).mono ?_; rintro e w' ⟨rfl, hb⟩))
 go_ret
 exact ⟨rfl, hb⟩
theorem below_grown {w w' : World} (h : Below w.heap.size w w') (row : Option Nat) : w.grownBy w' row :=
 ⟨h.os, h.tape, h.output, h.size, fun k hk _ => h.block k hk⟩
theorem rd_below {w w' : World} {r p : Nat} {b : ByteArray} {e : Int} (h : RdAt w r b p e) (hb : Below w.heap.size w w') : RdAt w' r b p e := by
 obtain ⟨_, _, _, _, hr⟩ := h.facts
 unfold RdAt
 rw [hb.block r hr]
 exact h
theorem text_err (b : ByteArray) (r p k : Nat) (e : Int) (w : World) (h : RdAt w r b p e) (he : (e == 0) = false) :
  Calls Tryz.prog 46 #[.pointer (some ⟨r, 0, none⟩), .int .i64 k] w fun x w' => x = .returned (.string ByteArray.empty) ∧ RdAt w' r b p e ∧ w.grownBy w' (some r) := by
 have HR : Hid (RdAt w r b p e) := h
 clear h
 go_enter Tryz.func46, Tryz.ntmps46
 go_wp2_with (first | (go_at_call 75; refine (take_err b r p _ e _ HR.out he).mono ?_; rintro x w' ⟨rfl, rfl⟩) | (go_at_call 80; refine (str_clone ByteArray.empty _ (by decide)).mono ?_; rintro x w1 ⟨rfl, hb⟩))
 go_ret
 exact ⟨rfl, rd_below HR.out hb, below_grown hb _⟩
theorem text_short (b : ByteArray) (r p k : Nat) (w : World) (h : RdAt w r b p 0) (hp : p ≤ b.size) (hs : b.size < p + k) :
  Calls Tryz.prog 46 #[.pointer (some ⟨r, 0, none⟩), .int .i64 k] w fun x w' => x = .returned (.string ByteArray.empty) ∧ RdAt w' r b p 2 ∧ w.grownBy w' (some r) := by
 have HR : Hid (RdAt w r b p 0) := h
 clear h
 go_enter Tryz.func46, Tryz.ntmps46
 go_wp2_with (first | (go_at_call 75; refine (take_short b r p _ _ HR.out hp hs).mono ?_; rintro x w' ⟨rfl, hr1, hg⟩) | (go_at_call 80; refine (str_clone ByteArray.empty _ (by decide)).mono ?_; rintro x w1 ⟨rfl, hb⟩))
 go_ret
 exact ⟨rfl, rd_below hr1 hb, grown_trans hg (below_grown hb _)⟩
theorem text_ok (b : ByteArray) (r p k : Nat) (w : World) (h : RdAt w r b p 0) (hk : k ≤ 70000) (hs : p + k ≤ b.size) :
  Calls Tryz.prog 46 #[.pointer (some ⟨r, 0, none⟩), .int .i64 k] w fun x w' => x = .returned (.string (b.extract p (p + k))) ∧ RdAt w' r b (p + k) 0 ∧ w.grownBy w' (some r) := by
 have HR : Hid (RdAt w r b p 0) := h
 clear h
 have hsz : (b.extract p (p + k)).size ≤ 70000 := by simp [ByteArray.size_extract]; omega
 go_enter Tryz.func46, Tryz.ntmps46
 go_wp2_with (first | (go_at_call 75; refine (take_ok b r p _ _ HR.out hk hs).mono ?_; rintro x w' ⟨rfl, hr1, hg⟩) | (go_at_call 80; refine (str_clone (b.extract p (p + k)) _ hsz).mono ?_; rintro x w1 ⟨rfl, hb⟩))
 go_ret
 exact ⟨rfl, rd_below hr1 hb, grown_trans hg (below_grown hb _)⟩
theorem text_any (b : ByteArray) (r p k : Nat) (e : Int) (w : World) (h : RdAt w r b p e) (hp : e = 0 → p ≤ b.size) (hk : e = 0 → k ≤ 70000) :
  Calls Tryz.prog 46 #[.pointer (some ⟨r, 0, none⟩), .int .i64 k] w fun x w' => ∃ (t : ByteArray) (p' : Nat) (e' : Int), x = .returned (.string t) ∧ Went w w' r b e (if b.size < p + k then 2 else 0) e' p' ∧ (e' = 0 → t = b.extract p (p + k) ∧ p' = p + k) := by
 by_cases he : e = 0
 ·subst he
  by_cases hs : b.size < p + k
  ·refine (text_short b r p k w h (hp rfl) hs).mono ?_
   rintro x w' ⟨rfl, hr, hg⟩
   exact ⟨_, p, 2, rfl, ⟨hr, hg, fun h => absurd rfl h, fun _ => by simp [hs], fun h => by simp at h⟩, fun h => by simp at h⟩
  ·refine (text_ok b r p k w h (hk rfl) (by omega)).mono ?_
   rintro x w' ⟨rfl, hr, hg⟩
   exact ⟨_, p + k, 0, rfl, ⟨hr, hg, fun h => absurd rfl h, fun _ => by simp [hs], fun _ => by omega⟩, fun _ => ⟨rfl, rfl⟩⟩
 ·refine (text_err b r p k e w h (by simpa using he)).mono ?_
  rintro x w' ⟨rfl, hr, hg⟩
  exact ⟨_, p, e, rfl, ⟨hr, hg, fun _ => rfl, fun h => absurd h he, fun h => absurd h he⟩, fun h => absurd h he⟩
end Go.Proofs.YtdhmandnamajpaaGreatDoor
namespace Go.Proofs.YtdhmandnamajpaaGreatDoor
open Go.RowKit
theorem end_err (b : ByteArray) (r p : Nat) (e : Int) (w : World) (h : RdAt w r b p e) (he : (e == 0) = false) :
  Calls Tryz.prog 47 #[.pointer (some ⟨r, 0, none⟩)] w fun x w' => x = .returned (.tuple #[]) ∧ w' = w := by
 obtain ⟨c0, c1, f0, f1, hr⟩ := h.facts
 clear h
 go_enter Tryz.func47, Tryz.ntmps47
 go_wp2
 go_end0
 exact ⟨rfl, rfl⟩
theorem end_none (b : ByteArray) (r p : Nat) (w : World) (h : RdAt w r b p 0) (hp : p = b.size) :
  Calls Tryz.prog 47 #[.pointer (some ⟨r, 0, none⟩)] w fun x w' => x = .returned (.tuple #[]) ∧ w' = w := by
 obtain ⟨c0, c1, f0, f1, hr⟩ := h.facts
 have e0 : b.extract p b.size = ByteArray.empty := by
  subst hp
  apply ByteArray.ext
  simp
 rw [e0] at c0
 clear h
 go_enter Tryz.func47, Tryz.ntmps47
 go_wp2
 go_end0
 exact ⟨rfl, rfl⟩
theorem end_more (b : ByteArray) (r p : Nat) (w : World) (h : RdAt w r b p 0) (hp : p < b.size) :
  Calls Tryz.prog 47 #[.pointer (some ⟨r, 0, none⟩)] w fun x w' => x = .returned (.tuple #[]) ∧ RdAt w' r b p 4 ∧ w.grownBy w' (some r) := by
 obtain ⟨c0, c1, f0, f1, hr⟩ := h.facts
 have HR : Hid (RdAt w r b p 0) := h
 have hne : (b.extract p b.size).toList.isEmpty = false := by
  rw [ByteArray.toList_eq, List.isEmpty_eq_false_iff]
  intro hnil
  have := congrArg List.length hnil
  simp at this
  omega
 clear h
 go_enter Tryz.func47, Tryz.ntmps47
 go_wp2
 go_end0
 exact ⟨rfl, rd_set1 HR.out 4, grown_set _ _ _ _⟩
theorem end_any (b : ByteArray) (r p : Nat) (e : Int) (w : World) (h : RdAt w r b p e) (hp : e = 0 → p ≤ b.size) :
  Calls Tryz.prog 47 #[.pointer (some ⟨r, 0, none⟩)] w fun x w' => x = .returned (.tuple #[]) ∧ ∃ p' e', Went w w' r b e (if p < b.size then 4 else 0) e' p' := by
 by_cases he : e = 0
 ·subst he
  by_cases hs : p < b.size
  ·refine (end_more b r p w h hs).mono ?_
   rintro x w' ⟨rfl, hr, hg⟩
   exact ⟨rfl, p, 4, hr, hg, fun h => absurd rfl h, fun _ => by simp [hs], fun h => by simp at h⟩
  ·refine (end_none b r p w h (by have := hp rfl; omega)).mono ?_
   rintro x w' ⟨rfl, rfl⟩
   exact ⟨rfl, p, 0, h, grown_refl _ _, fun h => absurd rfl h, fun _ => by simp [hs], fun _ => hp rfl⟩
 ·refine (end_err b r p e w h (by simpa using he)).mono ?_
  rintro x w' ⟨rfl, rfl⟩
  exact ⟨rfl, p, e, h, grown_refl _ _, fun _ => rfl, fun h => absurd h he, fun h => absurd h he⟩
theorem rd_drew {w : World} {r p n : Nat} {b : ByteArray} {e : Int} (h : RdAt w r b p e) : RdAt (w.drewN n) r b p e := h
theorem grown_drew (w : World) (n : Nat) (row : Option Nat) : w.grownBy (w.drewN n) row := ⟨rfl, rfl, rfl, Nat.le_refl _, fun _ _ _ => rfl⟩
def beginE (b : ByteArray) : Int := if magicB b then 1 else if b.size < 2 then 2 else 0
theorem magic_two (b : ByteArray) (h : 2 ≤ b.size) : magicB b = (!(byteN b 0 == 75) || !(byteN b 1 == 1)) := by
 have h0 : decide (0 < b.size) = true := by simp; omega
 have h1 : decide (1 < b.size) = true := by simp; omega
 simp [magicB, h0, h1]
set_option maxHeartbeats 1000000 in
theorem begin_two (b : ByteArray) (r : Nat) (w : World) (h : RdAt w r b 0 0) (h2 : 2 ≤ b.size) :
  Calls Tryz.prog 41 #[.pointer (some ⟨r, 0, none⟩)] w fun x w' => x = .returned (.tuple #[]) ∧ ∃ p' e', Went w w' r b 0 (beginE b) e' p' ∧ (e' = 0 → p' = 2) := by
 obtain ⟨c0, c1, f0, f1, hr⟩ := h.facts
 have HR : Hid (RdAt w r b 0 0) := h
 rw [ext_full] at c0
 clear h
 have g0 := hid (byteN_get b 0 (by omega))
 have g1 := hid (byteN_get b 1 (by omega))
 have HM := hid (magic_two b h2)
 have m0 : (⟨#[75, 1]⟩ : ByteArray)[0].toNat = 75 := rfl
 have m1 : (⟨#[75, 1]⟩ : ByteArray)[1].toNat = 1 := rfl
 rcases (show (b.size : Int) = 2 ∨ (2 : Int) < b.size by omega) with hz | hz
 all_goals
  go_enter Tryz.func41, Tryz.ntmps41
  go_wp2
  go_loopw [9] (fun i wr => ∃ k nq : Nat, k ≤ 2 ∧ i = .int .i64 k ∧ Hid (1 ≤ k → byteN b 0 = 75) ∧ Hid (2 ≤ k → byteN b 1 = 1) ∧ wr = w.drewN nq) (fun i _ => 2 - (intOf i).toNat)
  case atStart => exact ⟨0, 0, by omega, rfl, fun h => absurd h (by omega), fun h => absurd h (by omega), rfl⟩
  case round =>
   obtain ⟨k, nq, hk, rfl, K0, K1, rfl⟩ := hrel
   rcases (show k = 0 ∨ k = 1 ∨ k = 2 by omega) with rfl | rfl | rfl
   ·have i0 : (0 : Int) < b.size := by omega
    have i0' : 0 < b.size := by omega
    by_cases h75 : b[0].toNat = 75
    ·have t75 : ((b[0].toNat : Int) == 75) = true := by rw [h75]; rfl
     go_wp2
     go_quiet (fail)
     go_wp2
     go_roundw
     case rel => exact ⟨1, _, by omega, rfl, fun _ => g0.out.trans h75, fun h => absurd h (by omega), rfl⟩
     case measure => simp [intOf]
    ·have t75 : ((b[0].toNat : Int) == 75) = false := by simp; omega
     have H75 := hid h75
     clear h75
     go_wp2
     go_quiet (fail)
     go_wp2
     refine bodyPost_ret (results_none rfl _ _ _) rfl ?_
     refine ⟨rfl, 0, 1, ⟨rd_set1 (rd_drew HR.out) 1, grown_trans (grown_drew _ _ _) (grown_set _ _ _ _), fun h => absurd rfl h, fun _ => ?_, fun h => by simp at h⟩, fun h => by simp at h⟩
     have : (byteN b 0 == 75) = false := by rw [g0.out]; simpa using H75.out
     simp [beginE, HM.out, this]
   ·have i1 : (1 : Int) < b.size := by omega
    have i1' : 1 < b.size := by omega
    by_cases h75 : b[1].toNat = 1
    ·have t75 : ((b[1].toNat : Int) == 1) = true := by rw [h75]; rfl
     go_wp2
     go_quiet (fail)
     go_wp2
     go_roundw
     case rel => exact ⟨2, _, by omega, rfl, fun _ => K0.out (by omega), fun _ => g1.out.trans h75, rfl⟩
     case measure => simp [intOf]
    ·have t75 : ((b[1].toNat : Int) == 1) = false := by simp; omega
     have H75 := hid h75
     clear h75
     go_wp2
     go_quiet (fail)
     go_wp2
     refine bodyPost_ret (results_none rfl _ _ _) rfl ?_
     refine ⟨rfl, 0, 1, ⟨rd_set1 (rd_drew HR.out) 1, grown_trans (grown_drew _ _ _) (grown_set _ _ _ _), fun h => absurd rfl h, fun _ => ?_, fun h => by simp at h⟩, fun h => by simp at h⟩
     have : (byteN b 1 == 1) = false := by rw [g1.out]; simpa using H75.out
     simp [beginE, HM.out, this]
   ·go_wp2_with (go_at_call 75; refine (take_ok b r 0 2 _ (rd_drew HR.out) (by omega) (by omega)).mono ?_; rintro x w' ⟨rfl, hr1, hg⟩)
    go_end0
    refine ⟨rfl, 2, 0, ⟨hr1, grown_trans (grown_drew _ _ _) hg, fun h => absurd rfl h, fun _ => ?_, fun _ => by omega⟩, fun _ => rfl⟩
    have hn : ¬ b.size < 2 := by omega
    simp [beginE, HM.out, K0.out (by omega), K1.out (by omega), hn]
set_option maxHeartbeats 1000000 in
theorem begin_one (b : ByteArray) (r : Nat) (w : World) (h : RdAt w r b 0 0) (h1 : b.size = 1) :
  Calls Tryz.prog 41 #[.pointer (some ⟨r, 0, none⟩)] w fun x w' => x = .returned (.tuple #[]) ∧ ∃ p' e', Went w w' r b 0 (beginE b) e' p' ∧ (e' = 0 → p' = 2) := by
 obtain ⟨c0, c1, f0, f1, hr⟩ := h.facts
 have HR : Hid (RdAt w r b 0 0) := h
 rw [ext_full] at c0
 clear h
 have hpos : 0 < b.size := by omega
 have g0 := hid (byteN_get b 0 hpos)
 have HM : Hid (magicB b = !(byteN b 0 == 75)) := by
  have h0 : decide (0 < b.size) = true := decide_eq_true (by omega)
  have h1 : decide (1 < b.size) = false := decide_eq_false (by omega)
  show magicB b = _
  simp [magicB, h0, h1]
 have m0 : (⟨#[75, 1]⟩ : ByteArray)[0].toNat = 75 := rfl
 have hz : (b.size : Int) = 1 := by omega
 have H1 := hid h1
 clear h1
 go_enter Tryz.func41, Tryz.ntmps41
 go_wp2
 go_loopw [9] (fun i wr => ∃ k nq : Nat, k ≤ 1 ∧ i = .int .i64 k ∧ Hid (1 ≤ k → byteN b 0 = 75) ∧ wr = w.drewN nq) (fun i _ => 1 - (intOf i).toNat)
 case atStart => exact ⟨0, 0, by omega, rfl, fun h => absurd h (by omega), rfl⟩
 case round =>
  obtain ⟨k, nq, hk, rfl, K0, rfl⟩ := hrel
  rcases (show k = 0 ∨ k = 1 by omega) with rfl | rfl
  ·have i0 : (0 : Int) < b.size := by omega
   by_cases h75 : b[0].toNat = 75
   ·have t75 : ((b[0].toNat : Int) == 75) = true := by rw [h75]; rfl
    go_wp2
    go_quiet (fail)
    go_wp2
    go_roundw
    case rel => exact ⟨1, _, by omega, rfl, fun _ => g0.out.trans h75, rfl⟩
    case measure => simp [intOf]
   ·have t75 : ((b[0].toNat : Int) == 75) = false := by simp; omega
    have H75 := hid h75
    clear h75
    go_wp2
    go_quiet (fail)
    go_wp2
    refine bodyPost_ret (results_none rfl _ _ _) rfl ?_
    refine ⟨rfl, 0, 1, ⟨rd_set1 (rd_drew HR.out) 1, grown_trans (grown_drew _ _ _) (grown_set _ _ _ _), fun h => absurd rfl h, fun _ => ?_, fun h => by simp at h⟩, fun h => by simp at h⟩
    have : (byteN b 0 == 75) = false := by rw [g0.out]; simpa using H75.out
    simp [beginE, HM.out, this]
  ·go_wp2_with (go_at_call 75; refine (take_short b r 0 2 _ (rd_drew HR.out) (by omega) (by omega)).mono ?_; rintro x w' ⟨rfl, hr1, hg⟩)
   go_end0
   refine ⟨rfl, 0, 2, ⟨hr1, grown_trans (grown_drew _ _ _) hg, fun h => absurd rfl h, fun _ => ?_, fun h => by simp at h⟩, fun h => by simp at h⟩
   have hn : b.size < 2 := by omega
   simp [beginE, HM.out, K0.out (by omega), hn]
theorem begin_nil (b : ByteArray) (r : Nat) (w : World) (h : RdAt w r b 0 0) (h1 : b.size = 0) :
  Calls Tryz.prog 41 #[.pointer (some ⟨r, 0, none⟩)] w fun x w' => x = .returned (.tuple #[]) ∧ ∃ p' e', Went w w' r b 0 (beginE b) e' p' ∧ (e' = 0 → p' = 2) := by
 obtain ⟨c0, c1, f0, f1, hr⟩ := h.facts
 have HR : Hid (RdAt w r b 0 0) := h
 rw [ext_full] at c0
 clear h
 have HM : Hid (beginE b = 2) := by
  have h0 : decide (0 < b.size) = false := decide_eq_false (by omega)
  have h1 : decide (1 < b.size) = false := decide_eq_false (by omega)
  have h2 : b.size < 2 := by omega
  show beginE b = 2
  simp [beginE, magicB, h0, h1, h2]
 have hz : (b.size : Int) = 0 := by omega
 have H1 := hid h1
 clear h1
 go_enter Tryz.func41, Tryz.ntmps41
 go_wp2
 go_loopw [9] (fun i wr => i = .int .i64 0 ∧ wr = w) (fun _ _ => 0)
 case atStart => exact ⟨rfl, rfl⟩
 case round =>
  obtain ⟨rfl, rfl⟩ := hrel
  go_wp2_with (go_at_call 75; refine (take_short b r 0 2 _ HR.out (by omega) (by omega)).mono ?_; rintro x w' ⟨rfl, hr1, hg⟩)
  go_end0
  exact ⟨rfl, 0, 2, ⟨hr1, hg, fun h => absurd rfl h, fun _ => HM.out.symm, fun h => by simp at h⟩, fun h => by simp at h⟩
theorem begin_any (b : ByteArray) (r : Nat) (w : World) (h : RdAt w r b 0 0) :
  Calls Tryz.prog 41 #[.pointer (some ⟨r, 0, none⟩)] w fun x w' => x = .returned (.tuple #[]) ∧ ∃ p' e', Went w w' r b 0 (beginE b) e' p' ∧ (e' = 0 → p' = 2) := by
 rcases (show b.size = 0 ∨ b.size = 1 ∨ 2 ≤ b.size by omega) with h0 | h1 | h2
 ·exact begin_nil b r w h h0
 ·exact begin_one b r w h h1
 ·exact begin_two b r w h h2
end Go.Proofs.YtdhmandnamajpaaGreatDoor
