/-
  Plain mathematics of containers: sections, their limits, their bytes. Nothing of the program.
-/
import Derived.WalkKit
namespace Go.Proofs.YtdhmandnamajpaaDoor
open Go.RowKit

/-- A section as plain data. -/
structure Sec where
  i : Int
  o : Int
  m : Int
  code : ByteArray

def outB (n : Int) : Bool := decide ((0 ≤ n ∧ n ≤ 9) ∨ n = 128)
def inB (lo hi n : Int) : Bool := decide (lo ≤ n ∧ n ≤ hi)
def secB (s : Sec) : Bool := inB 0 9 s.i && outB s.o && inB 0 40 s.m && inB 1 120 (s.code.size : Int)
def fitB (S : List Sec) (d : ByteArray) : Bool := inB 1 6 (S.length : Int) && S.all secB && inB 0 60 (d.size : Int)

theorem inB_true {lo hi n : Int} (h1 : lo ≤ n) (h2 : n ≤ hi) : inB lo hi n = true := by simp [inB, h1, h2]
theorem inB_low {lo hi n : Int} (h1 : n < lo) : inB lo hi n = false := by simp [inB]; omega
theorem inB_high {lo hi n : Int} (h1 : hi < n) : inB lo hi n = false := by simp [inB]; omega
theorem inB_iff {lo hi n : Int} : inB lo hi n = true ↔ lo ≤ n ∧ n ≤ hi := by simp [inB]
theorem outB_iff {n : Int} : outB n = true ↔ (0 ≤ n ∧ n ≤ 9) ∨ n = 128 := by simp [outB]

theorem secB_iff (s : Sec) : secB s = true ↔ (0 ≤ s.i ∧ s.i ≤ 9) ∧ ((0 ≤ s.o ∧ s.o ≤ 9) ∨ s.o = 128) ∧ (0 ≤ s.m ∧ s.m ≤ 40) ∧ 1 ≤ s.code.size ∧ s.code.size ≤ 120 := by
  simp only [secB, Bool.and_eq_true, inB_iff, outB_iff]
  omega

theorem ret_bool {a b : Bool} (h : a = b) : Ending.returned (.bool a) = .returned (.bool b) := by rw [h]
theorem ret_int {k : IntKind} {a b : Int} (h : a = b) : Ending.returned (.int k a) = .returned (.int k b) := by rw [h]
theorem ret_str {a b : ByteArray} (h : a = b) : Ending.returned (.string a) = .returned (.string b) := by rw [h]

/-- Two bytes of a number, the high one first; the bytes of a section's head; of all. -/
def twoL (n : Nat) : List UInt8 := [UInt8.ofNat (n / 256), UInt8.ofNat (n % 256)]
def oneL (x : Int) : UInt8 := UInt8.ofNat x.toNat
def headL (s : Sec) : List UInt8 := [oneL s.i, oneL s.o, oneL s.m] ++ twoL s.code.size
def headsL (S : List Sec) : List UInt8 := S.flatMap headL
def codesL (S : List Sec) : List UInt8 := S.flatMap (fun s => s.code.data.toList)
def bytesL (S : List Sec) (d : ByteArray) : List UInt8 := [75, 1, UInt8.ofNat S.length] ++ headsL S ++ twoL d.size ++ codesL S ++ d.data.toList

theorem headsL_snoc (S : List Sec) (s : Sec) : headsL (S ++ [s]) = headsL S ++ headL s := by simp [headsL]
theorem codesL_snoc (S : List Sec) (s : Sec) : codesL (S ++ [s]) = codesL S ++ s.code.data.toList := by simp [codesL]
theorem headsL_length (S : List Sec) : (headsL S).length = 5 * S.length := by
  induction S with
  | nil => rfl
  | cons s S ih =>
    have e : headsL (s :: S) = headL s ++ headsL S := by simp [headsL]
    rw [e, List.length_append, ih]
    simp [headL, twoL]
    omega
theorem codesL_length_le (S : List Sec) (h : S.all secB = true) : (codesL S).length ≤ 120 * S.length := by
  induction S with
  | nil => simp [codesL]
  | cons s S ih =>
    have e : codesL (s :: S) = s.code.data.toList ++ codesL S := by simp [codesL]
    simp only [List.all_cons, Bool.and_eq_true] at h
    have h1 := (secB_iff s).1 h.1
    have h2 := ih h.2
    have h3 : s.code.data.toList.length = s.code.size := by simp
    rw [e, List.length_append, h3]
    simp only [List.length_cons]
    omega

/-- Where sections lie: four cells each. -/
def secCells (s : Sec) : List Value := [.int .i64 s.i, .int .i64 s.o, .int .i64 s.m, .string s.code]

/-- The sections S lie in the world w from address (b, off) on. -/
def SecsAt (w : World) (b off : Nat) (S : List Sec) : Prop :=
  b < w.heap.size ∧ ∀ k s, S[k]? = some s → w.cell? ⟨b, off + k * 4, none⟩ = some (.int .i64 s.i) ∧ w.cell? ⟨b, off + k * 4 + 1, none⟩ = some (.int .i64 s.o) ∧
      w.cell? ⟨b, off + k * 4 + 2, none⟩ = some (.int .i64 s.m) ∧ w.cell? ⟨b, off + k * 4 + 3, none⟩ = some (.string s.code)

theorem bcell {B : Nat} {W w1 : World} (hb : Below B W w1) : (∀ b o, b < B → w1.cell? ⟨b, o, none⟩ = W.cell? ⟨b, o, none⟩) ∧ (∀ b o, b < B → w1.frozen? ⟨b, o, none⟩ = W.frozen? ⟨b, o, none⟩) :=
  ⟨fun b o h => hb.cell (p := ⟨b, o, none⟩) h, fun b o h => hb.frozen (p := ⟨b, o, none⟩) h⟩

theorem SecsAt.below {w w' : World} {b off B : Nat} {S : List Sec} (h : SecsAt w b off S) (hB : b < B) (hb : Below B w w') : SecsAt w' b off S := by
  obtain ⟨h1, h2⟩ := h
  refine ⟨by have := hb.size; omega, fun k s hk => ?_⟩
  obtain ⟨c0, c1, c2, c3⟩ := h2 k s hk
  obtain ⟨hc, _⟩ := bcell hb
  exact ⟨(hc _ _ hB).trans c0, (hc _ _ hB).trans c1, (hc _ _ hB).trans c2, (hc _ _ hB).trans c3⟩

theorem SecsAt.alloc {w : World} {b off : Nat} {S : List Sec} (h : SecsAt w b off S) (o : Obj) : SecsAt (w.alloc o) b off S :=
  h.below h.1 ((Below.refl _ _).alloc (Nat.le_refl _) _)

/-- One section's cells. -/
theorem SecsAt.at {w : World} {b off : Nat} {S : List Sec} (h : SecsAt w b off S) (k : Nat) (hk : k < S.length) :
    w.cell? ⟨b, off + k * 4, none⟩ = some (.int .i64 S[k].i) ∧ w.cell? ⟨b, off + k * 4 + 1, none⟩ = some (.int .i64 S[k].o) ∧
      w.cell? ⟨b, off + k * 4 + 2, none⟩ = some (.int .i64 S[k].m) ∧ w.cell? ⟨b, off + k * 4 + 3, none⟩ = some (.string S[k].code) :=
  h.2 k S[k] (by simp [hk])

theorem all_take_succ (S : List Sec) (k : Nat) (h : k < S.length) : (S.take (k + 1)).all secB = ((S.take k).all secB && secB S[k]) := by
  rw [List.take_succ_eq_append_getElem h, List.all_append]; simp
end Go.Proofs.YtdhmandnamajpaaDoor
