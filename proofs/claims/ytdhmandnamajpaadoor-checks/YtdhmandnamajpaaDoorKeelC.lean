/-
  keel.Check; what it must answer of code that is known.
-/
import Derived.Test.YtdhmandnamajpaaDoorContA
import Derived.KernelRfl
namespace Go.Proofs.YtdhmandnamajpaaDoor
open Go.RowKit Go.Joins

set_option maxHeartbeats 1000000

theorem container_count (n : Nat) (v : Option Addr) (d : ByteArray) (cap : Nat) (w : World) (hn : inB 1 6 (n : Int) = false) :
    Calls Tryd.prog 22 #[.agg #[.slice v n cap, .string d]] w fun e w' => e = .returned (.tuple #[.int .i64 3, .int .i64 0, .int .i64 0]) ∧ Below w.heap.size w w' := by
  go_enter Tryd.func22, Tryd.ntmps22
  go_wp2_with (go_at_call 33; refine (within_count n v d cap _ hn).mono ?_; rintro e w1 ⟨rfl, hb1⟩)
  go_ret3
  exact ⟨rfl, ((Below.refl _ _).alloc (Nat.le_refl _) _).trans (hb1.mono (by simp))⟩
theorem keel_check_count (n : Nat) (v : Option Addr) (d : ByteArray) (cap : Nat) (w : World) (hn : inB 1 6 (n : Int) = false) :
    Calls Tryd.prog 9 #[.agg #[.slice v n cap, .string d]] w fun e w' => e = .returned (.tuple #[.int .i64 3, .int .i64 0, .int .i64 0]) ∧ Below w.heap.size w w' := by
  go_enter Tryd.func9, Tryd.ntmps9
  go_wp2_with (go_at_call 22; refine (container_count n v d cap _ hn).mono ?_; rintro e w1 ⟨rfl, hb1⟩)
  go_ret3
  exact ⟨rfl, ((Below.refl _ _).alloc (Nat.le_refl _) _).trans (hb1.mono (by simp))⟩
theorem keel_check_some (S : List Sec) (d : ByteArray) (b off cap : Nat) (w : World) (hR : RowsAt w) (hn : inB 1 6 (S.length : Int) = true) (hS : SecsAt w b off S) :
    Calls Tryd.prog 9 #[.agg #[.slice (some ⟨b, off, none⟩) S.length cap, .string d]] w (ContPost w S d) := by
  have HR := hidc hR
  have HS := hidc hS
  clear hR hS
  go_enter Tryd.func9, Tryd.ntmps9
  go_wp2_with fail
  refine (container_some S d b off cap _ (HR.out.alloc _) hn (HS.out.alloc _)).mono ?_
  rintro e w1 ⟨a, k, p, rfl, hc, hb1⟩
  have HC := hidc hc
  clear hc
  go_wp2_with fail
  go_ret3
  exact ⟨a, k, p, rfl, HC.out, ((Below.refl _ _).alloc (Nat.le_refl _) _).trans (hb1.mono (by simp))⟩
/-- Where the answer is known. -/
theorem keel_check_is (S : List Sec) (d : ByteArray) (b off cap : Nat) (w : World) (hR : RowsAt w) (hn : inB 1 6 (S.length : Int) = true) (hS : SecsAt w b off S) {e k p : Nat} (hc : CheckIs S d e k p) :
    Calls Tryd.prog 9 #[.agg #[.slice (some ⟨b, off, none⟩) S.length cap, .string d]] w fun x w' => x = .returned (.tuple #[.int .i64 e, .int .i64 k, .int .i64 p]) ∧ Below w.heap.size w w' := by
  refine (keel_check_some S d b off cap w hR hn hS).mono ?_
  rintro x w' ⟨a, k', p', rfl, hc', hb⟩
  obtain ⟨rfl, rfl, rfl⟩ := hc.unique hc'
  exact ⟨rfl, hb⟩

theorem one_err (s : Sec) (d : ByteArray) (e p : Nat) (hfit : fitB [s] d = true) (hi : s.i = 0) (ho : s.o = 128) (hw : wholeE [s] s = (e, p)) (he : e ≠ 0) : CheckIs [s] d e 0 p := by
  unfold CheckIs
  rw [if_neg (by rw [hfit]; simp), if_neg (by simp [inS, outS, hi, ho])]
  refine .inl ⟨by simp, fun j hj => by omega, ?_, ?_⟩
  · show (wholeE [s] s).1 ≠ 0
    rw [hw]; exact he
  · show (e, p) = wholeE [s] s
    rw [hw]
theorem one_ok (s : Sec) (d : ByteArray) (hfit : fitB [s] d = true) (hi : s.i = 0) (ho : s.o = 128) (hw : (wholeE [s] s).1 = 0) : CheckIs [s] d 0 0 0 := by
  unfold CheckIs
  rw [if_neg (by rw [hfit]; simp), if_neg (by simp [inS, outS, hi, ho])]
  refine .inr ⟨fun j hj => ?_, rfl, .inr ⟨rfl, rfl, fun j hj => ?_⟩⟩
  · have : j = 0 := by simpa using hj
    subst this
    exact hw
  · have : j = 0 := by simpa using hj
    subst this
    exact Used.zero _

/-! The sample. -/
def smp0 : Sec := ⟨0, 128, 1, ⟨#[2, 0, 5, 18, 1, 14, 0]⟩⟩
def smp1 (m : Int) : Sec := ⟨1, 1, m, ⟨#[9, 0, 6, 19]⟩⟩
theorem smp_ok : CheckIs [smp0, smp1 2] ⟨#[]⟩ 0 0 0 := by
  have h0 : (wholeE [smp0, smp1 2] smp0).1 = 0 := by kernel_rfl
  have h1 : (wholeE [smp0, smp1 2] (smp1 2)).1 = 0 := by kernel_rfl
  have hf : fitB [smp0, smp1 2] ⟨#[]⟩ = true := by kernel_rfl
  unfold CheckIs
  rw [if_neg (by rw [hf]; simp), if_neg (by simp [inS, outS, smp0])]
  refine .inr ⟨fun j hj => ?_, rfl, .inr ⟨rfl, rfl, fun j hj => ?_⟩⟩
  · match j, hj with
    | 0, _ => exact h0
    | 1, _ => exact h1
  · match j, hj with
    | 0, _ => exact Used.zero _
    | 1, _ =>
      have hn : namedS [smp0, smp1 2] 0 = [1] := by kernel_rfl
      exact (Used.zero _).name (by rw [hn]; simp)
theorem smp_max : CheckIs [smp0, smp1 3] ⟨#[]⟩ 15 1 0 := by
  have h0 : (wholeE [smp0, smp1 3] smp0).1 = 0 := by kernel_rfl
  have h1 : wholeE [smp0, smp1 3] (smp1 3) = (15, 0) := by kernel_rfl
  have hf : fitB [smp0, smp1 3] ⟨#[]⟩ = true := by kernel_rfl
  unfold CheckIs
  rw [if_neg (by rw [hf]; simp), if_neg (by simp [inS, outS, smp0])]
  refine .inl ⟨by simp, fun j hj => ?_, ?_, ?_⟩
  · have : j = 0 := by omega
    subst this
    exact h0
  · show (wholeE [smp0, smp1 3] (smp1 3)).1 ≠ 0
    rw [h1]; simp
  · exact h1.symm

/-! Code that goes wrong behind k values. -/
def repB : Nat → List UInt8
  | 0 => []
  | k + 1 => repB k ++ [2, 1, 2, 3]
theorem repB_length (k : Nat) : (repB k).length = 4 * k := by
  induction k with
  | zero => rfl
  | succ k ih => simp only [repB, List.length_append, ih]; simp; omega
def codeK (k : Nat) (t : List UInt8) : ByteArray := ⟨(repB k ++ t).toArray⟩
theorem codeK_app (k : Nat) (t u : List UInt8) : codeK k t ++ ⟨u.toArray⟩ = codeK k (t ++ u) := by
  apply ByteArray.ext
  simp [codeK, ByteArray.data_append]
theorem codeK_succ (k : Nat) : codeK k [2, 1, 2, 3] = codeK (k + 1) [] := by
  apply ByteArray.ext
  simp [codeK, repB]
theorem codeK_size (k : Nat) (t : List UInt8) : (codeK k t).size = 4 * k + t.length := by
  show (repB k ++ t).toArray.size = _
  simp [repB_length]
def secK (k : Nat) (t : List UInt8) : Sec := ⟨0, 128, (min k 1 : Nat), codeK k t⟩
def okB (k : Nat) (t : List UInt8) (e p : Nat) : Bool := fitB [secK k t] ⟨#[]⟩ && decide (wholeE [secK k t] (secK k t) = (e, p))
theorem ev_low : (List.range 20).all (fun k => okB k [3, 0] 11 (4 * k)) = true := by kernel_rfl
theorem ev_target : (List.range 20).all (fun k => okB k [15, 255, 254] 8 (4 * k)) = true := by kernel_rfl
theorem ev_end : (List.range 20).all (fun k => okB k [2, 0, 0] 14 (4 * k)) = true := by kernel_rfl
theorem ev_ret : (List.range 20).all (fun k => okB k [19] 13 (4 * k)) = true := by kernel_rfl
theorem ev_ok : (List.range 20).all (fun k => okB k [0] 0 0) = true := by kernel_rfl
theorem ev_get {f : Nat → Bool} (h : (List.range 20).all f = true) (k : Nat) (hk : k < 20) : f k = true := List.all_eq_true.1 h k (List.mem_range.2 hk)
theorem isK_err {k : Nat} {t : List UInt8} {e p : Nat} (h : okB k t e p = true) (he : e ≠ 0) : CheckIs [secK k t] ⟨#[]⟩ e 0 p := by
  unfold okB at h
  simp only [Bool.and_eq_true, decide_eq_true_eq] at h
  exact one_err _ _ _ _ h.1 rfl rfl h.2 he
theorem isK_ok {k : Nat} {t : List UInt8} (h : okB k t 0 0 = true) : CheckIs [secK k t] ⟨#[]⟩ 0 0 0 := by
  unfold okB at h
  simp only [Bool.and_eq_true, decide_eq_true_eq] at h
  exact one_ok _ _ h.1 rfl rfl (by rw [h.2])
end Go.Proofs.YtdhmandnamajpaaDoor
