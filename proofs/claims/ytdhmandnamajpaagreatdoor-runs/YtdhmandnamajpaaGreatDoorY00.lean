import Derived.OrdersHeld
import Derived.Deep.RegionHeld
import Derived.KernelRfl
import Derived.WalkKit
import Derived.Test.YtdhmandnamajpaaGreatDoorChecked
import Derived.WalkSpells
import Derived.WalkLawsBesides
import Derived.Outline
import Derived.Lib.SmallJoins
import Derived.BigQuiet
import Derived.Test.YtdhmandnamajpaaGreatDoorRows
import Derived.ProofKit
import Derived.LaidMore
import Derived.OpenShut
import Derived.SevenTiedAt
namespace Go.Proofs.YtdhmandnamajpaaGreatDoor
open Go
theorem aA {α : Type} {l : List α} {i : Nat} {a : α} : l.toArray.setIfInBounds i a = (l.set i a).toArray := List.setIfInBounds_toArray _ _ _
theorem aB {α : Type} {x : α} {l : List α} {a : α} : (x :: l).set 0 a = a :: l := rfl
theorem aC {α : Type} {x : α} {l : List α} {n : Nat} {a : α} : (x :: l).set (n + 1) a = x :: l.set n a := rfl
theorem aD {α : Type} {l : List α} {i : Nat} (h : i < l.toArray.size) : l.toArray[i] = l[i]'(by simpa using h) := rfl
theorem aE {α : Type} {a : α} {l : List α} (h : 0 < (a :: l).length) : (a :: l)[0] = a := rfl
theorem aF {α : Type} {a : α} {l : List α} {i : Nat} (h : i + 1 < (a :: l).length) : (a :: l)[i + 1] = l[i]'(Nat.lt_of_succ_lt_succ h) := rfl
theorem tk {P : Program} {ops : Array Oper} {Q : Exit → Act → World → Prop} {md : Region.Mode} {S : World → Prop} {oi : Oper} {fuel : Nat} {listed : Array Bool} {a : Act} {w : World} (i : Nat) (v : Value) (hi : ops[i]? = some oi)
  (hy : ∀ w, S w → (execOp a.eval oi).run P w = .ok (.value v) w) (hS : S w) (h : wpAnyH P md ops Q S fuel (listed.setIfInBounds i true) (a.put oi.dst v) w)
  (hs : Region.noSelect ops = true := by kernel_rfl) (hf : Region.free md ops listed i = true := by kernel_rfl) (hr : (Region.ready md ops listed).contains i = true := by kernel_rfl)
  (hQ : ∀ c a w, Q (.panic c) (a.put oi.dst v) w → Q (.panic c) a w := by exact fun _ _ _ h => h) (hw : Region.wanted oi (yielded ops a.tmps) = true := by rfl) : wpAnyH P md ops Q S (fuel + 1) listed a w :=
 wpAnyH_take hi hs hf hr hQ (Or.inl ⟨hw, hy⟩) hS h
theorem rd {P : Program} {ops : Array Oper} {Q : Exit → Act → World → Prop} {md : Region.Mode} {S : World → Prop} {o : Oper} {fuel : Nat} {listed : Array Bool} {a : Act} {w : World} (i : Nat) (ho : ops[i]? = some o)
  (h : ∀ K' : Act → World → Prop, Shut (∀ a w, S w → (S w → wpAnyH P md ops Q S fuel (listed.setIfInBounds i true) a w) → K' a w) → if Region.wanted o (yielded ops a.tmps) = true then Oper.wp P o a w K' Q else K' (a.put o.dst undef) w)
  (hr : Region.ready md ops listed = [i] := by kernel_rfl) : wpAnyH P md ops Q S (fuel + 1) listed a w :=
 wpAnyH_ready hr (by simp) (AllReadyH.cons ho h AllReadyH.nil)
end Go.Proofs.YtdhmandnamajpaaGreatDoor
namespace Go.Proofs.YtdhmandnamajpaaGreatDoor
open Go.RowKit
structure Sec where
 i : Int
 o : Int
 m : Int
 code : ByteArray
def outB (n : Int) : Bool := decide ((0 ≤ n ∧ n ≤ 9) ∨ n = 128)
def inB (lo hi n : Int) : Bool := decide (lo ≤ n ∧ n ≤ hi)
def secB (s : Sec) : Bool := inB 0 9 s.i && outB s.o && inB 0 40 s.m && inB 1 120 (s.code.size : Int)
def fitB (S : List Sec) (d : ByteArray) : Bool := inB 1 6 (S.length : Int) && S.all secB && inB 0 60 (d.size : Int)
theorem inB_true {lo hi n : Int} (h1 : lo ≤ n) (h2 : n ≤ hi) : inB lo hi n = true := by simp [inB, h1, h2]
theorem inB_low {lo hi n : Int} (h1 : n < lo) : inB lo hi n = false := by simp [inB]; omega
theorem inB_high {lo hi n : Int} (h1 : hi < n) : inB lo hi n = false := by simp [inB]; omega
theorem inB_iff {lo hi n : Int} : inB lo hi n = true ↔ lo ≤ n ∧ n ≤ hi := by simp [inB]
theorem outB_iff {n : Int} : outB n = true ↔ (0 ≤ n ∧ n ≤ 9) ∨ n = 128 := by simp [outB]
theorem secB_iff (s : Sec) : secB s = true ↔ (0 ≤ s.i ∧ s.i ≤ 9) ∧ ((0 ≤ s.o ∧ s.o ≤ 9) ∨ s.o = 128) ∧ (0 ≤ s.m ∧ s.m ≤ 40) ∧ 1 ≤ s.code.size ∧ s.code.size ≤ 120 := by
 simp only [secB, Bool.and_eq_true, inB_iff, outB_iff]
 omega
theorem ret_bool {a b : Bool} (h : a = b) : Ending.returned (.bool a) = .returned (.bool b) := by rw [h]
theorem ret_int {k : IntKind} {a b : Int} (h : a = b) : Ending.returned (.int k a) = .returned (.int k b) := by rw [h]
def SecsAt (w : World) (b off : Nat) (S : List Sec) : Prop :=
 b < w.heap.size ∧ ∀ k s, S[k]? = some s → w.cell? ⟨b, off + k * 4, none⟩ = some (.int .i64 s.i) ∧ w.cell? ⟨b, off + k * 4 + 1, none⟩ = some (.int .i64 s.o) ∧
   w.cell? ⟨b, off + k * 4 + 2, none⟩ = some (.int .i64 s.m) ∧ w.cell? ⟨b, off + k * 4 + 3, none⟩ = some (.string s.code)
theorem bcell {B : Nat} {W w1 : World} (hb : Below B W w1) : (∀ b o, b < B → w1.cell? ⟨b, o, none⟩ = W.cell? ⟨b, o, none⟩) ∧ (∀ b o, b < B → w1.frozen? ⟨b, o, none⟩ = W.frozen? ⟨b, o, none⟩) :=
 ⟨fun b o h => hb.cell (p := ⟨b, o, none⟩) h, fun b o h => hb.frozen (p := ⟨b, o, none⟩) h⟩
theorem SecsAt.below {w w' : World} {b off B : Nat} {S : List Sec} (h : SecsAt w b off S) (hB : b < B) (hb : Below B w w') : SecsAt w' b off S := by
 obtain ⟨h1, h2⟩ := h
 refine ⟨by have := hb.size; omega, fun k s hk => ?_⟩
 obtain ⟨c0, c1, c2, c3⟩ := h2 k s hk
 obtain ⟨hc, _⟩ := bcell hb
 exact ⟨(hc _ _ hB).trans c0, (hc _ _ hB).trans c1, (hc _ _ hB).trans c2, (hc _ _ hB).trans c3⟩
theorem SecsAt.alloc {w : World} {b off : Nat} {S : List Sec} (h : SecsAt w b off S) (o : Obj) : SecsAt (w.alloc o) b off S :=
 h.below h.1 ((Below.refl _ _).alloc (Nat.le_refl _) _)
theorem SecsAt.at {w : World} {b off : Nat} {S : List Sec} (h : SecsAt w b off S) (k : Nat) (hk : k < S.length) :
  w.cell? ⟨b, off + k * 4, none⟩ = some (.int .i64 S[k].i) ∧ w.cell? ⟨b, off + k * 4 + 1, none⟩ = some (.int .i64 S[k].o) ∧
   w.cell? ⟨b, off + k * 4 + 2, none⟩ = some (.int .i64 S[k].m) ∧ w.cell? ⟨b, off + k * 4 + 3, none⟩ = some (.string S[k].code) :=
 h.2 k S[k] (by simp [hk])
theorem all_take_succ (S : List Sec) (k : Nat) (h : k < S.length) : (S.take (k + 1)).all secB = ((S.take k).all secB && secB S[k]) := by
 rw [List.take_succ_eq_append_getElem h, List.all_append]; simp
end Go.Proofs.YtdhmandnamajpaaGreatDoor
namespace Go.Proofs.YtdhmandnamajpaaGreatDoor
open Go.RowKit
def byteN (b : ByteArray) (p : Nat) : Nat := (b.data.toList.getD p 0).toNat
def num1 (b : ByteArray) (p : Nat) : Nat := byteN b p
def num2 (b : ByteArray) (p : Nat) : Nat := 256 * byteN b p + byteN b (p + 1)
theorem byteN_lt (b : ByteArray) (p : Nat) : byteN b p < 256 := by unfold byteN; exact UInt8.toNat_lt _
theorem byteN_get (b : ByteArray) (p : Nat) (h : p < b.size) : byteN b p = b[p].toNat := by
 unfold byteN
 have h' : p < b.data.toList.length := by simpa using h
 rw [List.getD, List.getElem?_eq_getElem h', Array.getElem_toList]
 rfl
def er (b : ByteArray) (p k : Nat) (ok : Bool) : Int := if b.size < p + k then 2 else if ok then 0 else 3
def headE (b : ByteArray) (p : Nat) : Int :=
 if er b p 1 (inB 0 9 (num1 b p : Int)) ≠ 0 then er b p 1 (inB 0 9 (num1 b p : Int)) else
 if er b (p + 1) 1 (outB (num1 b (p + 1) : Int)) ≠ 0 then er b (p + 1) 1 (outB (num1 b (p + 1) : Int)) else
 if er b (p + 2) 1 (inB 0 40 (num1 b (p + 2) : Int)) ≠ 0 then er b (p + 2) 1 (inB 0 40 (num1 b (p + 2) : Int)) else
 er b (p + 3) 2 (inB 1 120 (num2 b (p + 3) : Int))
def headsE (b : ByteArray) : Nat → Int
 | 0 => 0
 | k + 1 => if headsE b k ≠ 0 then headsE b k else headE b (3 + 5 * k)
def hsec (b : ByteArray) (i : Nat) : Sec := ⟨num1 b (3 + 5 * i), num1 b (3 + 5 * i + 1), num1 b (3 + 5 * i + 2), ByteArray.empty⟩
def clen (b : ByteArray) (i : Nat) : Nat := num2 b (3 + 5 * i + 3)
def cpos (b : ByteArray) (n : Nat) : Nat → Nat
 | 0 => 5 + 5 * n
 | i + 1 => cpos b n i + clen b i
def psec (b : ByteArray) (n i : Nat) : Sec := { hsec b i with code := b.extract (cpos b n i) (cpos b n (i + 1)) }
def psecs (b : ByteArray) (n : Nat) : List Sec := (List.range n).map (psec b n)
def dlen (b : ByteArray) (n : Nat) : Nat := num2 b (3 + 5 * n)
def pend (b : ByteArray) (n : Nat) : Nat := cpos b n n + dlen b n
def pdat (b : ByteArray) (n : Nat) : ByteArray := b.extract (cpos b n n) (pend b n)
def codE (b : ByteArray) (n j : Nat) : Int := if b.size < cpos b n j then 2 else 0
def magicB (b : ByteArray) : Bool := (decide (0 < b.size) && !(byteN b 0 == 75)) || (decide (1 < b.size) && !(byteN b 1 == 1))
def tailE (b : ByteArray) (n : Nat) : Int :=
 if er b (3 + 5 * n) 2 (inB 0 60 (dlen b n : Int)) ≠ 0 then er b (3 + 5 * n) 2 (inB 0 60 (dlen b n : Int)) else
 if b.size < pend b n then 2 else if pend b n < b.size then 4 else 0
def bodyE (b : ByteArray) (n : Nat) : Int := if headsE b n ≠ 0 then headsE b n else tailE b n
def parseE (b : ByteArray) : Int :=
 if magicB b then 1 else
 if er b 2 1 (inB 1 6 (num1 b 2 : Int)) ≠ 0 then er b 2 1 (inB 1 6 (num1 b 2 : Int)) else
 bodyE b (num1 b 2)
def pS (b : ByteArray) : List Sec := if parseE b = 0 then psecs b (num1 b 2) else []
def pD (b : ByteArray) : ByteArray := if parseE b = 0 then pdat b (num1 b 2) else ByteArray.empty
def SlAt (B : Nat) (w : World) (v : Value) (S : List Sec) : Prop :=
 (v = .slice none 0 0 ∧ S = []) ∨ ∃ b off cap, v = .slice (some ⟨b, off, none⟩) S.length cap ∧ B ≤ b ∧ SecsAt w b off S
theorem ext_size (b : ByteArray) (p : Nat) : (b.extract p b.size).size = b.size - p := by simp [ByteArray.size_extract]
theorem ext_ext (b : ByteArray) (p i j : Nat) (h : p + j ≤ b.size) : (b.extract p b.size).extract i j = b.extract (p + i) (p + j) := by
 apply ByteArray.ext
 simp only [ByteArray.data_extract, Array.extract_extract]
 congr 1
 omega
theorem ext_full (b : ByteArray) : b.extract 0 b.size = b := by
 apply ByteArray.ext
 simp
end Go.Proofs.YtdhmandnamajpaaGreatDoor
namespace Go.Proofs.YtdhmandnamajpaaGreatDoor
open Go.RowKit
structure Ins where
 op : Nat
 pl : Nat
 nx : Nat
 n : Nat
 to : List Int
def sizeT (op : Nat) : Nat := if op = 2 ∨ op = 15 ∨ op = 16 then 3 else if op = 9 ∨ op = 10 ∨ op = 17 ∨ op = 18 ∨ op = 20 then 2 else 1
def takesT (op : Nat) : Nat := if op = 4 ∨ op = 5 ∨ op = 6 ∨ op = 7 ∨ op = 8 ∨ op = 10 ∨ op = 12 then 2 else if op = 3 ∨ op = 9 ∨ op = 11 ∨ op = 13 ∨ op = 14 ∨ op = 16 ∨ op = 17 then 1 else 0
def bringsT (op : Nat) : Nat := if op = 9 ∨ op = 10 then 2 else if op = 2 ∨ op = 4 ∨ op = 5 ∨ op = 6 ∨ op = 7 ∨ op = 8 ∨ op = 11 ∨ op = 13 then 1 else 0
def costT (op : Nat) : Nat := if op = 12 ∨ op = 14 then 2 else if op = 18 then 3 else 1
def lastT (op : Nat) : Bool := op == 0 || op == 1 || op == 15 || op == 19 || op == 20
def sgn (h l : Nat) : Int := if 32768 ≤ 256 * h + l then (256 * h + l : Nat) - 65536 else (256 * h + l : Nat)
def sizeI (c : ByteArray) (p : Nat) : Nat := sizeT (byteN c p) + (if byteN c p = 17 ∧ p + 1 < c.size then 2 * (byteN c (p + 1) + 1) else 0)
def toF (c : ByteArray) (nx q k : Nat) : Int := (nx : Int) + sgn (byteN c (q + 2 * k)) (byteN c (q + 2 * k + 1))
def tos (c : ByteArray) (nx q m : Nat) : List Int := (List.range m).map (toF c nx q)
def numOp (op : Nat) : Bool := op == 2 || op == 9 || op == 10 || op == 18 || op == 20
def insI (c : ByteArray) (p : Nat) : Ins where
 op := byteN c p
 pl := p
 nx := p + sizeI c p
 n := if byteN c p = 2 then 256 * byteN c (p + 1) + byteN c (p + 2) else if numOp (byteN c p) then byteN c (p + 1) else 0
 to := if byteN c p = 15 ∨ byteN c p = 16 then tos c (p + sizeI c p) (p + 1) 1 else if byteN c p = 17 then tos c (p + sizeI c p) (p + 2) (byteN c (p + 1) + 1) else []
def opE (c : ByteArray) (p : Nat) : Nat := if 21 ≤ byteN c p then 6 else if c.size < p + sizeI c p then 7 else 0
def splitF (c : ByteArray) : Nat → Nat → List Ins × Nat × Nat
 | 0, _ => ([], 0, 0)
 | f + 1, p => if c.size ≤ p then ([], 0, 0) else if opE c p ≠ 0 then ([], opE c p, p) else (insI c p :: (splitF c f (p + sizeI c p)).1, (splitF c f (p + sizeI c p)).2)
theorem splitF_succ (c : ByteArray) (f p : Nat) : splitF c (f + 1) p = if c.size ≤ p then ([], 0, 0) else if opE c p ≠ 0 then ([], opE c p, p) else (insI c p :: (splitF c f (p + sizeI c p)).1, (splitF c f (p + sizeI c p)).2) := rfl
def codeI (c : ByteArray) : List Ins := (splitF c c.size 0).1
def splitE (c : ByteArray) : Nat × Nat := (splitF c c.size 0).2
def Chain (c : ByteArray) : Nat → List Ins → Nat → Prop
 | p, [], q => p = q
 | p, x :: l, q => p < c.size ∧ opE c p = 0 ∧ x = insI c p ∧ Chain c (p + sizeI c p) l q
theorem sizeT_pos (op : Nat) : 1 ≤ sizeT op := by unfold sizeT; split <;> (try split) <;> omega
theorem sizeT_le (op : Nat) : sizeT op ≤ 3 := by unfold sizeT; split <;> (try split) <;> omega
theorem sizeI_pos (c : ByteArray) (p : Nat) : 1 ≤ sizeI c p := by have := sizeT_pos (byteN c p); unfold sizeI; omega
theorem sizeI_le (c : ByteArray) (p : Nat) : sizeI c p ≤ 600 := by
 have := sizeT_le (byteN c p)
 have h := byteN_lt c (p + 1)
 unfold sizeI; split <;> omega
theorem chain_snoc {c : ByteArray} {l : List Ins} : ∀ {p q : Nat}, Chain c p l q → q < c.size → opE c q = 0 → Chain c p (l ++ [insI c q]) (q + sizeI c q) := by
 induction l with
 | nil => intro p q h h1 h2; cases h; exact ⟨h1, h2, rfl, rfl⟩
 | cons x l ih => intro p q h h1 h2; obtain ⟨a, b, d, e⟩ := h; exact ⟨a, b, d, ih e h1 h2⟩
theorem chain_len {c : ByteArray} {l : List Ins} : ∀ {p q : Nat}, Chain c p l q → p + l.length ≤ q := by
 induction l with
 | nil => intro p q h; cases h; simp
 | cons x l ih => intro p q h; obtain ⟨_, _, _, e⟩ := h; have := ih e; have := sizeI_pos c p; simp only [List.length_cons]; omega
theorem chain_le {c : ByteArray} {l : List Ins} : ∀ {p q : Nat}, Chain c p l q → p ≤ c.size → q ≤ c.size := by
 induction l with
 | nil => intro p q h hp; cases h; exact hp
 | cons x l ih =>
  intro p q h hp
  obtain ⟨a, b, _, e⟩ := h
  refine ih e ?_
  unfold opE at b
  split at b
  ·cases b
  ·split at b
   ·cases b
   ·omega
theorem chain_split {c : ByteArray} {l : List Ins} : ∀ {p q : Nat}, Chain c p l q → ∀ f, splitF c (l.length + f) p = (l ++ (splitF c f q).1, (splitF c f q).2) := by
 induction l with
 | nil => intro p q h f; cases h; simp
 | cons x l ih =>
  intro p q h f
  obtain ⟨a, b, d, e⟩ := h
  rw [show (x :: l).length + f = (l.length + f) + 1 by simp; omega]
  rw [splitF_succ, if_neg (by omega), if_neg (by simp [b]), ih e f, d]
  rfl
theorem split_done {c : ByteArray} {l : List Ins} {q : Nat} (h : Chain c 0 l q) (hq : c.size ≤ q) : codeI c = l ∧ splitE c = (0, 0) := by
 have h1 := chain_len h
 have h2 := chain_le h (Nat.zero_le _)
 have := chain_split h (c.size - l.length)
 rw [show l.length + (c.size - l.length) = c.size by omega] at this
 have e : splitF c (c.size - l.length) q = ([], 0, 0) := by
  cases hf : c.size - l.length with
  | zero => rfl
  | succ f => unfold splitF; rw [if_pos hq]
 rw [e] at this
 simp [codeI, splitE, this]
theorem split_stop {c : ByteArray} {l : List Ins} {q : Nat} (h : Chain c 0 l q) (hq : q < c.size) (he : opE c q ≠ 0) : splitE c = (opE c q, q) := by
 have h1 := chain_len h
 have := chain_split h (c.size - l.length)
 rw [show l.length + (c.size - l.length) = c.size by omega] at this
 have e : splitF c (c.size - l.length) q = ([], opE c q, q) := by
  cases hf : c.size - l.length with
  | zero => omega
  | succ f => unfold splitF; rw [if_neg (by omega), if_pos he]
 rw [e] at this
 simp [splitE, this]
def idxP (l : List Ins) (t : Int) : Nat := l.findIdx (fun x => (x.pl : Int) == t)
def beginsB (l : List Ins) (t : Int) : Bool := l.any (fun x => (x.pl : Int) == t)
def namesB (x : Ins) : Bool := x.op == 18 || x.op == 20
def outS (S : List Sec) (n : Nat) : Int := (S[n]?.map Sec.o).getD 0
def inS (S : List Sec) (n : Nat) : Int := (S[n]?.map Sec.i).getD 0
def mayNameB (S : List Sec) (x : Ins) : Bool := decide (x.n < S.length) && (x.op == 20 || outS S x.n != 128)
def refE (S : List Sec) (l : List Ins) (x : Ins) : Nat := if x.to.any (fun t => !beginsB l t) then 8 else if namesB x && !mayNameB S x then 9 else 0
def takesI (S : List Sec) (s : Sec) (x : Ins) : Int :=
 if x.op = 9 ∨ x.op = 10 then (takesT x.op : Int) + x.n else if x.op = 18 ∨ x.op = 20 then inS S x.n else if x.op = 19 then (if s.o = 128 then 0 else s.o) else takesT x.op
def bringsI (S : List Sec) (x : Ins) : Int :=
 if x.op = 9 ∨ x.op = 10 then (bringsT x.op : Int) + x.n else if x.op = 18 then outS S x.n else if x.op = 20 ∨ x.op = 19 then 0 else bringsT x.op
def returnsB (S : List Sec) (x : Ins) : Bool := x.op == 19 || (x.op == 20 && outS S x.n != 128)
def wantI (S : List Sec) (s : Sec) (x : Ins) : Int := if x.op = 20 then s.o + (inS S x.n - outS S x.n) else s.o
def mayReturnB (S : List Sec) (s : Sec) (x : Ins) (lo hi : Int) : Bool := !(x.op == 20 && decide (s.o < outS S x.n)) && (s.o != 128) && (lo == wantI S s x) && (hi == wantI S s x)
def mergeH (g : Int × Int) : Option (Int × Int) → Int × Int
 | none => g
 | some h => (min g.1 h.1, max g.2 h.2)
def giveH (i : Nat) (g : Int × Int) (hs : List (Option (Int × Int))) (j : Nat) : Option (List (Option (Int × Int))) :=
 if j ≤ i then (if hs.getD j none = some g then some hs else none) else some (hs.set j (some (mergeH g (hs.getD j none))))
def givesH (i : Nat) (g : Int × Int) : List (Option (Int × Int)) → List Nat → Option (List (Option (Int × Int)))
 | hs, [] => some hs
 | hs, j :: r => match giveH i g hs j with
  | none => none
  | some hs' => givesH i g hs' r
def nextsI (l : List Ins) (i : Nat) (x : Ins) : List Nat := x.to.map (idxP l) ++ (if lastT x.op then [] else [i + 1])
def afterI (S : List Sec) (s : Sec) (x : Ins) (h : Int × Int) : Int × Int := (h.1 - takesI S s x + bringsI S x, h.2 - takesI S s x + bringsI S x)
def aheadE (S : List Sec) (s : Sec) (l : List Ins) (i : Nat) (x : Ins) : Option (Int × Int) → Nat
 | none => 10
 | some h => if h.1 < takesI S s x then 11 else if returnsB S x && !mayReturnB S s x h.1 h.2 then 13 else if !lastT x.op && i + 1 == l.length then 14 else 0
def passH (S : List Sec) (s : Sec) (l : List Ins) (i : Nat) (x : Ins) (hs : List (Option (Int × Int))) : Option (List (Option (Int × Int))) := givesH i (afterI S s x ((hs.getD i none).getD (0, 0))) hs (nextsI l i x)
def passE (S : List Sec) (s : Sec) (l : List Ins) (i : Nat) (x : Ins) (hs : List (Option (Int × Int))) : Nat :=
 if aheadE S s l i x (hs.getD i none) ≠ 0 then aheadE S s l i x (hs.getD i none) else match passH S s l i x hs with
  | none => 12
  | some _ => 0
def ins0 : Ins := ⟨0, 0, 0, 0, []⟩
def hsAt (S : List Sec) (s : Sec) (l : List Ins) : Nat → List (Option (Int × Int))
 | 0 => (List.replicate l.length none).set 0 (some (s.i, s.i))
 | k + 1 => (passH S s l k (l.getD k ins0) (hsAt S s l k)).getD (hsAt S s l k)
def flowE (S : List Sec) (s : Sec) (l : List Ins) (k : Nat) : Nat := passE S s l k (l.getD k ins0) (hsAt S s l k)
def firstE (f : Nat → Nat) (l : List Ins) : Nat → Nat × Nat
 | 0 => (0, 0)
 | k + 1 => if (firstE f l k).1 ≠ 0 then firstE f l k else if f k ≠ 0 then (f k, (l.getD k ins0).pl) else (0, 0)
def greatH (hs : List (Option (Int × Int))) : Nat → Int
 | 0 => 0
 | k + 1 => max (greatH hs k) ((hs.getD k none).getD (0, 0)).2
def anyRet (S : List Sec) (l : List Ins) : Bool := l.any (returnsB S)
def sumsE (S : List Sec) (s : Sec) (l : List Ins) : Nat :=
 if greatH (hsAt S s l l.length) l.length ≠ s.m then 15 else if anyRet S l == (s.o == 128) then 16 else 0
def wholeE (S : List Sec) (s : Sec) : Nat × Nat :=
 if (splitE s.code).1 ≠ 0 then splitE s.code else
 if (firstE (fun k => refE S (codeI s.code) ((codeI s.code).getD k ins0)) (codeI s.code) (codeI s.code).length).1 ≠ 0 then firstE (fun k => refE S (codeI s.code) ((codeI s.code).getD k ins0)) (codeI s.code) (codeI s.code).length else
 if (firstE (flowE S s (codeI s.code)) (codeI s.code) (codeI s.code).length).1 ≠ 0 then firstE (flowE S s (codeI s.code)) (codeI s.code) (codeI s.code).length else
 (sumsE S s (codeI s.code), 0)
def namedL (l : List Ins) : List Nat := (l.filter namesB).map Ins.n
def namedS (S : List Sec) (k : Nat) : List Nat := ((S[k]?).map (fun s => namedL (codeI s.code))).getD []
def Used (S : List Sec) (k : Nat) : Prop := ∀ P : Nat → Prop, P 0 → (∀ i j, P i → j ∈ namedS S i → P j) → P k
theorem Used.zero (S : List Sec) : Used S 0 := fun _ h0 _ => h0
theorem Used.name {S : List Sec} {i k : Nat} (h : Used S i) (hk : k ∈ namedS S i) : Used S k := fun P h0 h1 => h1 i k (h P h0 h1) hk
def CheckIs (S : List Sec) (d : ByteArray) (e k p : Nat) : Prop :=
 if fitB S d = false then e = 3 ∧ k = 0 ∧ p = 0 else
 if inS S 0 ≠ 0 ∨ outS S 0 ≠ 128 then e = 5 ∧ k = 0 ∧ p = 0 else
 (k < S.length ∧ (∀ j, j < k → (wholeE S (S.getD j ⟨0, 0, 0, ByteArray.empty⟩)).1 = 0) ∧ (wholeE S (S.getD k ⟨0, 0, 0, ByteArray.empty⟩)).1 ≠ 0 ∧ (e, p) = wholeE S (S.getD k ⟨0, 0, 0, ByteArray.empty⟩)) ∨
 ((∀ j, j < S.length → (wholeE S (S.getD j ⟨0, 0, 0, ByteArray.empty⟩)).1 = 0) ∧ p = 0 ∧ ((e = 17 ∧ k < S.length ∧ ¬ Used S k ∧ ∀ j, j < k → Used S j) ∨ (e = 0 ∧ k = 0 ∧ ∀ j, j < S.length → Used S j)))
theorem CheckIs.unique {S : List Sec} {d : ByteArray} {e k p e' k' p' : Nat} (h : CheckIs S d e k p) (h' : CheckIs S d e' k' p') : e = e' ∧ k = k' ∧ p = p' := by
 unfold CheckIs at h h'
 split at h
 ·rename_i h0; rw [if_pos h0] at h'; omega
 ·rename_i h0
  rw [if_neg h0] at h'
  split at h
  ·rename_i h1; rw [if_pos h1] at h'; omega
  ·rename_i h1
   rw [if_neg h1] at h'
   rcases h with ⟨a1, a2, a3, a4⟩ | ⟨a1, a2, a3⟩ <;> rcases h' with ⟨b1, b2, b3, b4⟩ | ⟨b1, b2, b3⟩
   ·have : k = k' := by
     rcases Nat.lt_trichotomy k k' with h | h | h
     ·exact absurd (b2 k h) a3
     ·exact h
     ·exact absurd (a2 k' h) b3
    subst this
    rw [← a4] at b4
    exact ⟨(congrArg Prod.fst b4).symm, rfl, (congrArg Prod.snd b4).symm⟩
   ·exact absurd (b1 k a1) a3
   ·exact absurd (a1 k' b1) b3
   ·subst a2 b2
    rcases a3 with ⟨rfl, c1, c2, c3⟩ | ⟨rfl, rfl, c1⟩ <;> rcases b3 with ⟨rfl, d1, d2, d3⟩ | ⟨rfl, rfl, d1⟩
    ·refine ⟨rfl, ?_, rfl⟩
     rcases Nat.lt_trichotomy k k' with h | h | h
     ·exact absurd (d3 k h) c2
     ·exact h
     ·exact absurd (c3 k' h) d2
    ·exact absurd (d1 k c1) c2
    ·exact absurd (c1 k' d1) d2
    ·exact ⟨rfl, rfl, rfl⟩
end Go.Proofs.YtdhmandnamajpaaGreatDoor
namespace Go.Proofs.YtdhmandnamajpaaGreatDoor
open Go.RowKit
set_option maxHeartbeats 400000
theorem ref_in (n lo hi : Int) (w : World) : Calls Tryz.prog 110 #[.int .i64 n, .int .i64 lo, .int .i64 hi] w fun e w' => e = .returned (.bool (inB lo hi n)) ∧ w' = w := by
 by_cases h1 : lo ≤ n
 ·by_cases h2 : n ≤ hi
  ·rw [inB_true h1 h2]
   go_enter Tryz.func110, Tryz.ntmps110
   go_wp2
   go_ret
   exact ⟨rfl, rfl⟩
  ·rw [inB_high (by omega)]
   go_enter Tryz.func110, Tryz.ntmps110
   go_wp2
   go_ret
   exact ⟨rfl, rfl⟩
 ·rw [inB_low (by omega)]
  go_enter Tryz.func110, Tryz.ntmps110
  go_wp2
  go_ret
  exact ⟨rfl, rfl⟩
theorem count_fits (n : Int) (w : World) : Calls Tryz.prog 43 #[.int .i64 n] w fun e w' => e = .returned (.bool (inB 1 6 n)) ∧ w' = w := by
 by_cases h1 : 1 ≤ n
 ·by_cases h2 : n ≤ 6
  ·rw [inB_true h1 h2]
   go_enter Tryz.func43, Tryz.ntmps43
   go_wp2
   go_ret
   exact ⟨rfl, rfl⟩
  ·rw [inB_high (by omega)]
   go_enter Tryz.func43, Tryz.ntmps43
   go_wp2
   go_ret
   exact ⟨rfl, rfl⟩
 ·rw [inB_low (by omega)]
  go_enter Tryz.func43, Tryz.ntmps43
  go_wp2
  go_ret
  exact ⟨rfl, rfl⟩
theorem inputs_fit (n : Int) (w : World) : Calls Tryz.prog 76 #[.int .i64 n] w fun e w' => e = .returned (.bool (inB 0 9 n)) ∧ w' = w := by
 by_cases h1 : 0 ≤ n
 ·by_cases h2 : n ≤ 9
  ·rw [inB_true h1 h2]
   go_enter Tryz.func76, Tryz.ntmps76
   go_wp2
   go_ret
   exact ⟨rfl, rfl⟩
  ·rw [inB_high (by omega)]
   go_enter Tryz.func76, Tryz.ntmps76
   go_wp2
   go_ret
   exact ⟨rfl, rfl⟩
 ·rw [inB_low (by omega)]
  go_enter Tryz.func76, Tryz.ntmps76
  go_wp2
  go_ret
  exact ⟨rfl, rfl⟩
theorem max_fits (n : Int) (w : World) : Calls Tryz.prog 78 #[.int .i64 n] w fun e w' => e = .returned (.bool (inB 0 40 n)) ∧ w' = w := by
 by_cases h1 : 0 ≤ n
 ·by_cases h2 : n ≤ 40
  ·rw [inB_true h1 h2]
   go_enter Tryz.func78, Tryz.ntmps78
   go_wp2
   go_ret
   exact ⟨rfl, rfl⟩
  ·rw [inB_high (by omega)]
   go_enter Tryz.func78, Tryz.ntmps78
   go_wp2
   go_ret
   exact ⟨rfl, rfl⟩
 ·rw [inB_low (by omega)]
  go_enter Tryz.func78, Tryz.ntmps78
  go_wp2
  go_ret
  exact ⟨rfl, rfl⟩
theorem code_fits (n : Int) (w : World) : Calls Tryz.prog 79 #[.int .i64 n] w fun e w' => e = .returned (.bool (inB 1 120 n)) ∧ w' = w := by
 by_cases h1 : 1 ≤ n
 ·by_cases h2 : n ≤ 120
  ·rw [inB_true h1 h2]
   go_enter Tryz.func79, Tryz.ntmps79
   go_wp2
   go_ret
   exact ⟨rfl, rfl⟩
  ·rw [inB_high (by omega)]
   go_enter Tryz.func79, Tryz.ntmps79
   go_wp2
   go_ret
   exact ⟨rfl, rfl⟩
 ·rw [inB_low (by omega)]
  go_enter Tryz.func79, Tryz.ntmps79
  go_wp2
  go_ret
  exact ⟨rfl, rfl⟩
theorem data_fits (n : Int) (w : World) : Calls Tryz.prog 45 #[.int .i64 n] w fun e w' => e = .returned (.bool (inB 0 60 n)) ∧ w' = w := by
 by_cases h1 : 0 ≤ n
 ·by_cases h2 : n ≤ 60
  ·rw [inB_true h1 h2]
   go_enter Tryz.func45, Tryz.ntmps45
   go_wp2
   go_ret
   exact ⟨rfl, rfl⟩
  ·rw [inB_high (by omega)]
   go_enter Tryz.func45, Tryz.ntmps45
   go_wp2
   go_ret
   exact ⟨rfl, rfl⟩
 ·rw [inB_low (by omega)]
  go_enter Tryz.func45, Tryz.ntmps45
  go_wp2
  go_ret
  exact ⟨rfl, rfl⟩
theorem outputs_fit (n : Int) (w : World) : Calls Tryz.prog 77 #[.int .i64 n] w fun e w' => e = .returned (.bool (outB n)) ∧ w' = w := by
 rcases (show n < 0 ∨ (0 ≤ n ∧ n ≤ 9) ∨ (9 < n ∧ n < 128) ∨ n = 128 ∨ 128 < n from by omega) with h | ⟨h1, h2⟩ | ⟨h1, h2⟩ | h | h
 ·rw [show outB n = false by simp [outB]; omega]
  go_enter Tryz.func77, Tryz.ntmps77
  go_wp2
  go_ret
  exact ⟨ret_bool (by first | rfl | (simp; omega)), rfl⟩
 ·rw [show outB n = true by simp [outB]; omega]
  go_enter Tryz.func77, Tryz.ntmps77
  go_wp2
  go_ret
  exact ⟨ret_bool (by first | rfl | (simp; omega)), rfl⟩
 ·rw [show outB n = false by simp [outB]; omega]
  go_enter Tryz.func77, Tryz.ntmps77
  go_wp2
  go_ret
  exact ⟨ret_bool (by first | rfl | (simp; omega)), rfl⟩
 ·subst h
  rw [show outB 128 = true by decide]
  go_enter Tryz.func77, Tryz.ntmps77
  go_wp2
  go_ret
  exact ⟨ret_bool (by first | rfl | (simp; omega)), rfl⟩
 ·rw [show outB n = false by simp [outB]; omega]
  go_enter Tryz.func77, Tryz.ntmps77
  go_wp2
  go_ret
  exact ⟨ret_bool (by first | rfl | (simp; omega)), rfl⟩
theorem ref_gives (n : Int) (w : World) : Calls Tryz.prog 60 #[.int .i64 n] w fun e w' => e = .returned (.bool (outB n)) ∧ w' = w := by
 rcases (show n < 0 ∨ (0 ≤ n ∧ n ≤ 9) ∨ (9 < n ∧ n < 128) ∨ n = 128 ∨ 128 < n from by omega) with h | ⟨h1, h2⟩ | ⟨h1, h2⟩ | h | h
 ·rw [show outB n = false by simp [outB]; omega]
  go_enter Tryz.func60, Tryz.ntmps60
  go_wp2
  go_ret
  exact ⟨ret_bool (by first | rfl | (simp; omega)), rfl⟩
 ·rw [show outB n = true by simp [outB]; omega]
  go_enter Tryz.func60, Tryz.ntmps60
  go_wp2
  go_ret
  exact ⟨ret_bool (by first | rfl | (simp; omega)), rfl⟩
 ·rw [show outB n = false by simp [outB]; omega]
  go_enter Tryz.func60, Tryz.ntmps60
  go_wp2
  go_ret
  exact ⟨ret_bool (by first | rfl | (simp; omega)), rfl⟩
 ·subst h
  rw [show outB 128 = true by decide]
  go_enter Tryz.func60, Tryz.ntmps60
  go_wp2
  go_ret
  exact ⟨ret_bool (by first | rfl | (simp; omega)), rfl⟩
 ·rw [show outB n = false by simp [outB]; omega]
  go_enter Tryz.func60, Tryz.ntmps60
  go_wp2
  go_ret
  exact ⟨ret_bool (by first | rfl | (simp; omega)), rfl⟩
theorem section_fits (s : Sec) (w : World) :
  Calls Tryz.prog 81 #[.agg #[.int .i64 s.i, .int .i64 s.o, .int .i64 s.m, .string s.code]] w fun e w' => e = .returned (.bool (secB s)) ∧ Below w.heap.size w w' := by
 obtain ⟨i, o, m, code⟩ := s
 unfold secB
 dsimp only
 cases h1 : inB 0 9 i
 all_goals cases h2 : outB o
 all_goals cases h3 : inB 0 40 m
 all_goals cases h4 : inB 1 120 (code.size : Int)
 all_goals
  go_enter Tryz.func81, Tryz.ntmps81
  go_wp2_with (first | (go_at_call 76; refine (inputs_fit _ _).mono ?_; rintro e w' ⟨rfl, rfl⟩) | (go_at_call 77; refine (outputs_fit _ _).mono ?_; rintro e w' ⟨rfl, rfl⟩) | (go_at_call 78; refine (max_fits _ _).mono ?_; rintro e w' ⟨rfl, rfl⟩) | (go_at_call 79; refine (code_fits _ _).mono ?_; rintro e w' ⟨rfl, rfl⟩))
  go_ret
  exact ⟨rfl, (Below.refl _ _).alloc (Nat.le_refl _) _⟩
end Go.Proofs.YtdhmandnamajpaaGreatDoor
namespace Go.Proofs.YtdhmandnamajpaaGreatDoor
open Go.RowKit Go.Joins
theorem hidc {p : Prop} (h : p) : Hid p := h
def RowsAt (w : World) : Prop := 0 < w.heap.size ∧ ∀ op, op < 21 → w.cell? ⟨0, op * 5, none⟩ = some (.int .i64 (sizeT op)) ∧ w.cell? ⟨0, op * 5 + 1, none⟩ = some (.int .i64 (takesT op)) ∧
 w.cell? ⟨0, op * 5 + 2, none⟩ = some (.int .i64 (bringsT op)) ∧ w.cell? ⟨0, op * 5 + 3, none⟩ = some (.int .i64 (costT op)) ∧ w.cell? ⟨0, op * 5 + 4, none⟩ = some (.bool (lastT op))
theorem RowsAt.below {w w' : World} {B : Nat} (h : RowsAt w) (hB : 0 < B) (hb : Below B w w') : RowsAt w' := by
 obtain ⟨hc, _⟩ := bcell hb
 refine ⟨Nat.lt_of_lt_of_le h.1 hb.size, fun op ho => ?_⟩
 obtain ⟨a, b, c, d, e⟩ := h.2 op ho
 exact ⟨(hc _ _ hB).trans a, (hc _ _ hB).trans b, (hc _ _ hB).trans c, (hc _ _ hB).trans d, (hc _ _ hB).trans e⟩
theorem RowsAt.alloc {w : World} (h : RowsAt w) (o : Obj) : RowsAt (w.alloc o) := h.below h.1 ((Below.refl _ _).alloc (Nat.le_refl _) _)
set_option maxHeartbeats 400000
theorem byte_nat (c : ByteArray) (p : Nat) (h : p < c.size) : c[p].toNat = byteN c p := (byteN_get c p h).symm
theorem ops_size_plain (c : ByteArray) (p : Nat) (w : World) (hR : RowsAt w) (hp : p < c.size) (hs : c.size ≤ 120) (ho : byteN c p < 21) (h17 : ¬ (byteN c p = 17 ∧ p + 1 < c.size)) :
  Calls Tryz.prog 139 #[.string c, .int .i64 p] w fun e w' => e = .returned (.int .i64 (sizeI c p)) ∧ w' = w := by
 obtain ⟨r0, _, _, _, _⟩ := hR.2 _ ho
 have hb := byte_nat c p hp
 have e1 : sizeI c p = sizeT (byteN c p) := by unfold sizeI; rw [if_neg h17]; rfl
 rw [e1, ← hb]
 rw [← hb] at r0 ho h17
 clear hb e1
 by_cases h : c[p].toNat = 17
 ·have : ¬ p + 1 < c.size := fun h2 => h17 ⟨h, h2⟩
  have r1 : w.cell? ⟨0, 85, none⟩ = some (.int .i64 2) := by simpa [h, sizeT] using r0
  have e2 : Hid ((sizeT c[p].toNat : Int) = 2) := by show (sizeT c[p].toNat : Int) = 2; rw [h]; rfl
  clear r0
  go_enter Tryz.func139, Tryz.ntmps139
  go_wp2
  go_ret
  exact ⟨ret_int e2.out.symm, rfl⟩
 ·go_enter Tryz.func139, Tryz.ntmps139
  go_wp2
  go_ret
  exact ⟨rfl, rfl⟩
theorem ops_size_table (c : ByteArray) (p : Nat) (w : World) (hR : RowsAt w) (hs : c.size ≤ 120) (h17 : byteN c p = 17) (hp : p + 1 < c.size) :
  Calls Tryz.prog 139 #[.string c, .int .i64 p] w fun e w' => e = .returned (.int .i64 (sizeI c p)) ∧ w' = w := by
 have r1 : w.cell? ⟨0, 85, none⟩ = some (.int .i64 2) := (hR.2 17 (by decide)).1
 have e1 : Hid ((sizeI c p : Int) = 2 + 2 * ((c[p + 1].toNat : Int) + 1)) := by show (sizeI c p : Int) = 2 + 2 * ((c[p + 1].toNat : Int) + 1); rw [byte_nat c (p + 1) hp]; unfold sizeI; rw [if_pos ⟨h17, hp⟩, h17]; simp [sizeT]
 have h : c[p].toNat = 17 := by rw [byte_nat c p (by omega)]; exact h17
 have hl : c[p + 1].toNat < 256 := UInt8.toNat_lt _
 clear h17
 go_enter Tryz.func139, Tryz.ntmps139
 go_wp2
 go_ret
 exact ⟨ret_int e1.out.symm, rfl⟩
theorem ops_size (c : ByteArray) (p : Nat) (w : World) (hR : RowsAt w) (hp : p < c.size) (hs : c.size ≤ 120) (ho : byteN c p < 21) :
  Calls Tryz.prog 139 #[.string c, .int .i64 p] w fun e w' => e = .returned (.int .i64 (sizeI c p)) ∧ w' = w := by
 by_cases h : byteN c p = 17 ∧ p + 1 < c.size
 ·exact ops_size_table c p w hR hs h.1 h.2
 ·exact ops_size_plain c p w hR hp hs ho h
theorem orShift (x y : Nat) (hy : y < 256) : (256 * x) ||| y = 256 * x + y := by
 have := Nat.shiftLeft_add_eq_or_of_lt (i := 8) hy x
 have h8 : (2 : Nat) ^ 8 = 256 := by decide
 rw [Nat.shiftLeft_eq, h8, Nat.mul_comm x 256] at this
 exact this.symm
theorem num_bits (a d : Nat) (ha : a < 256) (hd : d < 256) : bits .or .i64 ((a : Int) * 256) (d : Int) = ((256 * a + d : Nat) : Int) := by
 have h1 : (BitVec.ofInt 64 ((a : Int) * 256)).toNat = 256 * a := by
  rw [BitVec.toNat_ofInt]
  omega
 have h2 : (BitVec.ofInt 64 (d : Int)).toNat = d := by
  rw [BitVec.ofInt_natCast, BitVec.toNat_ofNat]; exact Nat.mod_eq_of_lt (by omega)
 show IntKind.i64.wrap ((BitVec.ofInt 64 ((a : Int) * 256) ||| BitVec.ofInt 64 (d : Int)).toNat : Int) = _
 rw [BitVec.toNat_or, h1, h2, orShift _ _ hd, IntKind.wrap_i64]
 omega
theorem ops_number (a d : Nat) (ha : a < 256) (hd : d < 256) (w : World) :
  Calls Tryz.prog 140 #[.int .u8 a, .int .u8 d] w fun e w' => e = .returned (.int .i64 ((256 * a + d : Nat) : Int)) ∧ w' = w := by
 go_enter Tryz.func140, Tryz.ntmps140
 go_wp2
 go_ret
 exact ⟨ret_int (num_bits a d ha hd), rfl⟩
theorem ops_signed (a d : Nat) (ha : a < 256) (hd : d < 256) (w : World) :
  Calls Tryz.prog 142 #[.int .i64 ((256 * a + d : Nat) : Int)] w fun e w' => e = .returned (.int .i64 (sgn a d)) ∧ w' = w := by
 go_enter Tryz.func142, Tryz.ntmps142
 go_wp2
 go_ret
 refine ⟨ret_int ?_, rfl⟩
 unfold sgn
 simp only [IntKind.wrap, IntKind.bits, IntKind.signed, wrap64]
 simp
 split <;> split <;> omega
theorem ops_outputs (s : Sec) (w : World) :
  Calls Tryz.prog 138 #[.agg #[.int .i64 s.i, .int .i64 s.o, .int .i64 s.m, .string s.code]] w fun e w' => e = .returned (.int .i64 (if s.o = 128 then 0 else s.o)) ∧ Below w.heap.size w w' := by
 by_cases h : s.o = 128
 ·rw [if_pos h]
  go_enter Tryz.func138, Tryz.ntmps138
  go_wp2
  go_ret
  exact ⟨rfl, (Below.refl _ _).alloc (Nat.le_refl _) _⟩
 ·rw [if_neg h]
  go_enter Tryz.func138, Tryz.ntmps138
  go_wp2
  go_ret
  exact ⟨rfl, (Below.refl _ _).alloc (Nat.le_refl _) _⟩
theorem ops_last (x : Ins) (v : Value) (w : World) (hR : RowsAt w) (ho : x.op < 21) :
  Calls Tryz.prog 125 #[.agg #[.int .i64 x.op, .int .i64 x.pl, .int .i64 x.nx, .int .i64 x.n, v]] w fun e w' => e = .returned (.bool (lastT x.op)) ∧ Below w.heap.size w w' := by
 obtain ⟨_, _, _, _, r3⟩ := (hR.alloc (.cells #[.int .i64 x.op, .int .i64 x.pl, .int .i64 x.nx, .int .i64 x.n, v] 116)).2 _ ho
 go_enter Tryz.func125, Tryz.ntmps125
 go_wp2
 go_ret
 exact ⟨rfl, (Below.refl _ _).alloc (Nat.le_refl _) _⟩
end Go.Proofs.YtdhmandnamajpaaGreatDoor
namespace Go.Proofs.YtdhmandnamajpaaGreatDoor
open Go.ChangeShapes Go.WideShapes Go.ChangeAt Go.WideMaps Go.WideElems Go.RowKit Go.Joins
theorem gRows : Tryz.prog.globalNamed "keel/ops.rows" = some 0 := by kernel_rfl
theorem tRowsG : (Tryz.prog.globals[0]?).map (·.type) = some 149 := by kernel_rfl
theorem cellsRow : Tryz.prog.cellsOf 148 = 5 := by kernel_rfl
theorem cellsI : Tryz.prog.cellsOf 3 = 1 := by kernel_rfl
theorem cellsB : Tryz.prog.cellsOf 4 = 1 := by kernel_rfl
theorem trod_fields5 {H : Type} {enc : TypeId × Value → H} {P : Program} {w : World} {base : Nat} {spare : Nat → Bool} {held : Bool} {t : TypeId} {f0 f1 f2 f3 f4 : Field} {fuel : Nat} {cs : List Value} {x : DataW H × List MemPlace} (ht : P.underlying t = some (.struct #[f0, f1, f2, f3, f4])) (h : DataW.trod enc P w base spare held fuel t cs = some x) :
  ∃ y0 y1 y2 y3 y4 n, x = (.agg [y0.1, y1.1, y2.1, y3.1, y4.1], y0.2 ++ (y1.2 ++ (y2.2 ++ (y3.2 ++ y4.2)))) ∧ cs.length = P.cellsOf t ∧ DataW.trod enc P w base spare held n f0.type ((cs.drop f0.offset).take (P.cellsOf f0.type)) = some y0 ∧
   DataW.trod enc P w base spare held n f1.type ((cs.drop f1.offset).take (P.cellsOf f1.type)) = some y1 ∧ DataW.trod enc P w base spare held n f2.type ((cs.drop f2.offset).take (P.cellsOf f2.type)) = some y2 ∧ DataW.trod enc P w base spare held n f3.type ((cs.drop f3.offset).take (P.cellsOf f3.type)) = some y3 ∧ DataW.trod enc P w base spare held n f4.type ((cs.drop f4.offset).take (P.cellsOf f4.type)) = some y4 := by
 obtain ⟨xs, n, _, rfl, hl, hlen, hf⟩ := DataW.trod_struct ht h
 match xs, hlen with
 | [y0, y1, y2, y3, y4], _ => exact ⟨y0, y1, y2, y3, y4, n, by simp, hl, by simpa using hf 0 f0 rfl, by simpa using hf 1 f1 rfl, by simpa using hf 2 f2 rfl, by simpa using hf 3 f3 rfl, by simpa using hf 4 f4 rfl⟩
def rowD (op : Nat) : DataW Unit := .agg [.lit (.int .i64 (sizeT op)), .lit (.int .i64 (takesT op)), .lit (.int .i64 (bringsT op)), .lit (.int .i64 (costT op)), .lit (.bool (lastT op))]
theorem laid_rows : (Rows.laid_keel_ops_rows : DataW Unit) = .agg ((List.range 21).map rowD) := by rfl
theorem rows_of_laid {W : World} (h : laidMetH Tryz.prog [("keel/ops.rows", Rows.laid_keel_ops_rows)] W) : RowsAt W := by
 rw [MakeChecks.laidMetH_plain _ _ _ (by kernel_rfl)] at h
 obtain ⟨ps, ⟨g0, t0, cs0, f0, p0, q0, hg0, ht0, hv0, hd0, _⟩, _, _⟩ := h
 obtain rfl := Option.some.inj (gRows.symm.trans hg0)
 obtain rfl := Option.some.inj (tRowsG.symm.trans ht0)
 have hcell := World.var?_cell hg0 hv0
 rw [laid_rows] at hd0
 obtain ⟨xs, m, _, hx, hlen, hn, hel⟩ := DataW.trod_array Tryz.underlying149 hd0
 have key : ∀ op, op < 21 → W.cell? ⟨0, op * 5, none⟩ = some (.int .i64 (sizeT op)) ∧ W.cell? ⟨0, op * 5 + 1, none⟩ = some (.int .i64 (takesT op)) ∧ W.cell? ⟨0, op * 5 + 2, none⟩ = some (.int .i64 (bringsT op)) ∧ W.cell? ⟨0, op * 5 + 3, none⟩ = some (.int .i64 (costT op)) ∧ W.cell? ⟨0, op * 5 + 4, none⟩ = some (.bool (lastT op)) := by
  intro op ho
  have h1 := hel op ho
  have hxo : xs[op]? = some (xs[op]'(by omega)) := by simp [hn, ho]
  rw [hxo] at h1
  have hd : (xs[op]'(by omega)).1 = rowD op := by
   have h2 := congrArg Prod.fst hx
   simp only [DataW.agg.injEq] at h2
   have h3 := congrArg (fun l => l[op]?) h2
   simp [ho, hxo] at h3
   exact h3.symm
  rw [cellsRow] at h1
  obtain ⟨y0, y1, y2, y3, y4, n, hy, hl, e0, e1, e2, e3, e4⟩ := trod_fields5 Tryz.underlying148 h1
  have hd2 : DataW.agg [y0.1, y1.1, y2.1, y3.1, y4.1] = rowD op := by rw [← hd, hy]
  simp only [cellsI, cellsB] at e0 e1 e2 e3 e4
  obtain ⟨a, c0, v0, _⟩ := DataW.trod_int Tryz.underlying3 e0
  obtain ⟨b, c1, v1, _⟩ := DataW.trod_int Tryz.underlying3 e1
  obtain ⟨c, c2, v2, _⟩ := DataW.trod_int Tryz.underlying3 e2
  obtain ⟨d, c3, v3, _⟩ := DataW.trod_int Tryz.underlying3 e3
  obtain ⟨f, c4, v4⟩ := DataW.trod_bool Tryz.underlying4 e4
  subst v0 v1 v2 v3 v4
  simp only [rowD, DataW.agg.injEq, List.cons.injEq, DataW.lit.injEq, Lit.int.injEq, Lit.bool.injEq, true_and, and_true] at hd2
  obtain ⟨rfl, rfl, rfl, rfl, rfl⟩ := hd2
  have get : ∀ j v, j < 5 → (((cs0.toList.drop (op * 5)).take 5).drop j).take 1 = [v] → W.cell? ⟨0, op * 5 + j, none⟩ = some v := by
   intro j v hj hv
   rw [hcell]
   have := congrArg (fun l => l[0]?) hv
   simpa [List.getElem?_take, List.getElem?_drop, hj] using this
  exact ⟨get 0 _ (by omega) c0, get 1 _ (by omega) c1, get 2 _ (by omega) c2, get 3 _ (by omega) c3, get 4 _ (by omega) c4⟩
 refine ⟨?_, key⟩
 have := (key 0 (by omega)).1
 unfold World.cell? at this
 rcases Nat.lt_or_ge 0 W.heap.size with hlt | hge
 ·exact hlt
 ·rw [Array.getElem?_eq_none (by omega)] at this; simp at this
end Go.Proofs.YtdhmandnamajpaaGreatDoor
namespace Go.Proofs.YtdhmandnamajpaaGreatDoor
open Go
theorem tied_goes {p : Pinned} {s : OpenSpec} {c : OpenClaim} (kinds : List LaidKind) (tests : Bool) (har : Bool × String) (lk : Bool)
  (hc : c.holds p s) (hw : c.wfByText s = true) (htie : c.laidByTextAt .later p kinds tests)
  (hst : c.start = .entering) (hnb : c.noBlocks = false ∧ c.again = false) (hm : p.checked.prog.mainIs = some (har.1, har.2.toList)) (hn : (!har.1 && har.2.isEmpty && !lk) = false)
  (hl : ∀ f fn, p.checked.prog.funcNamed c.func = some f → p.checked.prog.funcs[f]? = some fn → lk = p.checked.prog.looks [] ∧ ∀ (j : Nat) t, fn.params[j]? = some t → p.checked.prog.wantsStandIn t = false)
  (hg : true = c.goesBy p.checked.prog) :
  Claim7.holds p (.plain s) { stood := { row := c, standIns := [], harness := har, looks := lk }, kinds := [], alts := [], goes := true, laidByText := true, laidKinds := kinds, laidTests := tests, laidLooks := .later } := by
 have h6 : Claim7.isSixth { stood := { row := c, standIns := [], harness := har, looks := lk }, kinds := [] } = false := by simpa [Claim7.isSixth] using hn
 have h1 := Claim7.tied_new_at .later kinds tests (Claim7.new_of_sixth hc har lk hst hnb hm h6 hl) hw
 exact ⟨h1, (fun D hD => by cases hD), htie, (fun h => by cases h), hg⟩
end Go.Proofs.YtdhmandnamajpaaGreatDoor
