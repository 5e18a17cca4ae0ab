/-
  What Parse must answer, as plain mathematics over places in the bytes.
-/
import Derived.Test.YtdhmandnamajpaaDoorPlain
namespace Go.Proofs.YtdhmandnamajpaaDoor
open Go.RowKit

def byteN (b : ByteArray) (p : Nat) : Nat := (b.data.toList.getD p 0).toNat
def num1 (b : ByteArray) (p : Nat) : Nat := byteN b p
def num2 (b : ByteArray) (p : Nat) : Nat := 256 * byteN b p + byteN b (p + 1)
theorem byteN_lt (b : ByteArray) (p : Nat) : byteN b p < 256 := by unfold byteN; exact UInt8.toNat_lt _
theorem byteN_get (b : ByteArray) (p : Nat) (h : p < b.size) : byteN b p = b[p].toNat := by
  unfold byteN
  have h' : p < b.data.toList.length := by simpa using h
  rw [List.getD, List.getElem?_eq_getElem h', Array.getElem_toList]
  rfl

/-- What is wrong with a number of k bytes at p. -/
def er (b : ByteArray) (p k : Nat) (ok : Bool) : Int := if b.size < p + k then 2 else if ok then 0 else 3
def headE (b : ByteArray) (p : Nat) : Int :=
  if er b p 1 (inB 0 9 (num1 b p : Int)) ≠ 0 then er b p 1 (inB 0 9 (num1 b p : Int)) else
  if er b (p + 1) 1 (outB (num1 b (p + 1) : Int)) ≠ 0 then er b (p + 1) 1 (outB (num1 b (p + 1) : Int)) else
  if er b (p + 2) 1 (inB 0 40 (num1 b (p + 2) : Int)) ≠ 0 then er b (p + 2) 1 (inB 0 40 (num1 b (p + 2) : Int)) else
  er b (p + 3) 2 (inB 1 120 (num2 b (p + 3) : Int))
def headsE (b : ByteArray) : Nat → Int
  | 0 => 0
  | k + 1 => if headsE b k ≠ 0 then headsE b k else headE b (3 + 5 * k)

/-- The head of section number i, its code not read yet; the code's length; where the codes begin. -/
def hsec (b : ByteArray) (i : Nat) : Sec := ⟨num1 b (3 + 5 * i), num1 b (3 + 5 * i + 1), num1 b (3 + 5 * i + 2), ByteArray.empty⟩
def clen (b : ByteArray) (i : Nat) : Nat := num2 b (3 + 5 * i + 3)
def cpos (b : ByteArray) (n : Nat) : Nat → Nat
  | 0 => 5 + 5 * n
  | i + 1 => cpos b n i + clen b i
def psec (b : ByteArray) (n i : Nat) : Sec := { hsec b i with code := b.extract (cpos b n i) (cpos b n (i + 1)) }
def psecs (b : ByteArray) (n : Nat) : List Sec := (List.range n).map (psec b n)
def dlen (b : ByteArray) (n : Nat) : Nat := num2 b (3 + 5 * n)
def pend (b : ByteArray) (n : Nat) : Nat := cpos b n n + dlen b n
def pdat (b : ByteArray) (n : Nat) : ByteArray := b.extract (cpos b n n) (pend b n)

/-- behind j codes -/
def codE (b : ByteArray) (n j : Nat) : Int := if b.size < cpos b n j then 2 else 0
/-- Another kind of bytes. -/
def magicB (b : ByteArray) : Bool := (decide (0 < b.size) && !(byteN b 0 == 75)) || (decide (1 < b.size) && !(byteN b 1 == 1))
/-- behind the heads -/
def tailE (b : ByteArray) (n : Nat) : Int :=
  if er b (3 + 5 * n) 2 (inB 0 60 (dlen b n : Int)) ≠ 0 then er b (3 + 5 * n) 2 (inB 0 60 (dlen b n : Int)) else
  if b.size < pend b n then 2 else if pend b n < b.size then 4 else 0
def bodyE (b : ByteArray) (n : Nat) : Int := if headsE b n ≠ 0 then headsE b n else tailE b n
def parseE (b : ByteArray) : Int :=
  if magicB b then 1 else
  if er b 2 1 (inB 1 6 (num1 b 2 : Int)) ≠ 0 then er b 2 1 (inB 1 6 (num1 b 2 : Int)) else
  bodyE b (num1 b 2)

/-- The answer. -/
def pS (b : ByteArray) : List Sec := if parseE b = 0 then psecs b (num1 b 2) else []
def pD (b : ByteArray) : ByteArray := if parseE b = 0 then pdat b (num1 b 2) else ByteArray.empty

/-- A slice of sections: nil for none, or in memory from block B on. -/
def SlAt (B : Nat) (w : World) (v : Value) (S : List Sec) : Prop :=
  (v = .slice none 0 0 ∧ S = []) ∨ ∃ b off cap, v = .slice (some ⟨b, off, none⟩) S.length cap ∧ B ≤ b ∧ SecsAt w b off S

/-! Strings cut. -/
theorem ext_size (b : ByteArray) (p : Nat) : (b.extract p b.size).size = b.size - p := by simp [ByteArray.size_extract]
theorem ext_ext (b : ByteArray) (p i j : Nat) (h : p + j ≤ b.size) : (b.extract p b.size).extract i j = b.extract (p + i) (p + j) := by
  apply ByteArray.ext
  simp only [ByteArray.data_extract, Array.extract_extract]
  congr 1
  omega
theorem ext_full (b : ByteArray) : b.extract 0 b.size = b := by
  apply ByteArray.ext
  simp
end Go.Proofs.YtdhmandnamajpaaDoor
