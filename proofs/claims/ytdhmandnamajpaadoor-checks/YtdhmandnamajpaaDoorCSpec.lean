/-
  What Check must answer, as plain mathematics over a container's sections.
-/
import Derived.Test.YtdhmandnamajpaaDoorPSpec
namespace Go.Proofs.YtdhmandnamajpaaDoor
open Go.RowKit

/-- An instruction: its op, its place, the place behind it, the number that belongs to it, its targets. -/
structure Ins where
  op : Nat
  pl : Nat
  nx : Nat
  n : Nat
  to : List Int

def sizeT (op : Nat) : Nat := if op = 2 ∨ op = 15 ∨ op = 16 then 3 else if op = 9 ∨ op = 10 ∨ op = 17 ∨ op = 18 ∨ op = 20 then 2 else 1
def takesT (op : Nat) : Nat := if op = 4 ∨ op = 5 ∨ op = 6 ∨ op = 7 ∨ op = 8 ∨ op = 10 ∨ op = 12 then 2 else if op = 3 ∨ op = 9 ∨ op = 11 ∨ op = 13 ∨ op = 14 ∨ op = 16 ∨ op = 17 then 1 else 0
def bringsT (op : Nat) : Nat := if op = 9 ∨ op = 10 then 2 else if op = 2 ∨ op = 4 ∨ op = 5 ∨ op = 6 ∨ op = 7 ∨ op = 8 ∨ op = 11 ∨ op = 13 then 1 else 0
def costT (op : Nat) : Nat := if op = 12 ∨ op = 14 then 2 else if op = 18 then 3 else 1
def lastT (op : Nat) : Bool := op == 0 || op == 1 || op == 15 || op == 19 || op == 20
def sgn (h l : Nat) : Int := if 32768 ≤ 256 * h + l then (256 * h + l : Nat) - 65536 else (256 * h + l : Nat)
def sizeI (c : ByteArray) (p : Nat) : Nat := sizeT (byteN c p) + (if byteN c p = 17 ∧ p + 1 < c.size then 2 * (byteN c (p + 1) + 1) else 0)
def toF (c : ByteArray) (nx q k : Nat) : Int := (nx : Int) + sgn (byteN c (q + 2 * k)) (byteN c (q + 2 * k + 1))
def tos (c : ByteArray) (nx q m : Nat) : List Int := (List.range m).map (toF c nx q)
def numOp (op : Nat) : Bool := op == 2 || op == 9 || op == 10 || op == 18 || op == 20
def insI (c : ByteArray) (p : Nat) : Ins where
  op := byteN c p
  pl := p
  nx := p + sizeI c p
  n := if byteN c p = 2 then 256 * byteN c (p + 1) + byteN c (p + 2) else if numOp (byteN c p) then byteN c (p + 1) else 0
  to := if byteN c p = 15 ∨ byteN c p = 16 then tos c (p + sizeI c p) (p + 1) 1 else if byteN c p = 17 then tos c (p + sizeI c p) (p + 2) (byteN c (p + 1) + 1) else []

/-- What is wrong with the instruction at a place by itself. -/
def opE (c : ByteArray) (p : Nat) : Nat := if 21 ≤ byteN c p then 6 else if c.size < p + sizeI c p then 7 else 0
/-- The instructions from a place on; what is wrong, and where. -/
def splitF (c : ByteArray) : Nat → Nat → List Ins × Nat × Nat
  | 0, _ => ([], 0, 0)
  | f + 1, p => if c.size ≤ p then ([], 0, 0) else if opE c p ≠ 0 then ([], opE c p, p) else (insI c p :: (splitF c f (p + sizeI c p)).1, (splitF c f (p + sizeI c p)).2)
theorem splitF_succ (c : ByteArray) (f p : Nat) : splitF c (f + 1) p = if c.size ≤ p then ([], 0, 0) else if opE c p ≠ 0 then ([], opE c p, p) else (insI c p :: (splitF c f (p + sizeI c p)).1, (splitF c f (p + sizeI c p)).2) := rfl
def codeI (c : ByteArray) : List Ins := (splitF c c.size 0).1
def splitE (c : ByteArray) : Nat × Nat := (splitF c c.size 0).2

/-- l: the instructions of c from place p to place q, all good by themselves. -/
def Chain (c : ByteArray) : Nat → List Ins → Nat → Prop
  | p, [], q => p = q
  | p, x :: l, q => p < c.size ∧ opE c p = 0 ∧ x = insI c p ∧ Chain c (p + sizeI c p) l q

theorem sizeT_pos (op : Nat) : 1 ≤ sizeT op := by unfold sizeT; split <;> (try split) <;> omega
theorem sizeT_le (op : Nat) : sizeT op ≤ 3 := by unfold sizeT; split <;> (try split) <;> omega
theorem sizeI_pos (c : ByteArray) (p : Nat) : 1 ≤ sizeI c p := by have := sizeT_pos (byteN c p); unfold sizeI; omega
theorem sizeI_le (c : ByteArray) (p : Nat) : sizeI c p ≤ 600 := by
  have := sizeT_le (byteN c p)
  have h := byteN_lt c (p + 1)
  unfold sizeI; split <;> omega

theorem chain_snoc {c : ByteArray} {l : List Ins} : ∀ {p q : Nat}, Chain c p l q → q < c.size → opE c q = 0 → Chain c p (l ++ [insI c q]) (q + sizeI c q) := by
  induction l with
  | nil => intro p q h h1 h2; cases h; exact ⟨h1, h2, rfl, rfl⟩
  | cons x l ih => intro p q h h1 h2; obtain ⟨a, b, d, e⟩ := h; exact ⟨a, b, d, ih e h1 h2⟩
theorem chain_len {c : ByteArray} {l : List Ins} : ∀ {p q : Nat}, Chain c p l q → p + l.length ≤ q := by
  induction l with
  | nil => intro p q h; cases h; simp
  | cons x l ih => intro p q h; obtain ⟨_, _, _, e⟩ := h; have := ih e; have := sizeI_pos c p; simp only [List.length_cons]; omega
theorem chain_le {c : ByteArray} {l : List Ins} : ∀ {p q : Nat}, Chain c p l q → p ≤ c.size → q ≤ c.size := by
  induction l with
  | nil => intro p q h hp; cases h; exact hp
  | cons x l ih =>
    intro p q h hp
    obtain ⟨a, b, _, e⟩ := h
    refine ih e ?_
    unfold opE at b
    split at b
    · cases b
    · split at b
      · cases b
      · omega
theorem chain_split {c : ByteArray} {l : List Ins} : ∀ {p q : Nat}, Chain c p l q → ∀ f, splitF c (l.length + f) p = (l ++ (splitF c f q).1, (splitF c f q).2) := by
  induction l with
  | nil => intro p q h f; cases h; simp
  | cons x l ih =>
    intro p q h f
    obtain ⟨a, b, d, e⟩ := h
    rw [show (x :: l).length + f = (l.length + f) + 1 by simp; omega]
    rw [splitF_succ, if_neg (by omega), if_neg (by simp [b]), ih e f, d]
    rfl
/-- The whole code is split. -/
theorem split_done {c : ByteArray} {l : List Ins} {q : Nat} (h : Chain c 0 l q) (hq : c.size ≤ q) : codeI c = l ∧ splitE c = (0, 0) := by
  have h1 := chain_len h
  have h2 := chain_le h (Nat.zero_le _)
  have := chain_split h (c.size - l.length)
  rw [show l.length + (c.size - l.length) = c.size by omega] at this
  have e : splitF c (c.size - l.length) q = ([], 0, 0) := by
    cases hf : c.size - l.length with
    | zero => rfl
    | succ f => unfold splitF; rw [if_pos hq]
  rw [e] at this
  simp [codeI, splitE, this]
theorem split_stop {c : ByteArray} {l : List Ins} {q : Nat} (h : Chain c 0 l q) (hq : q < c.size) (he : opE c q ≠ 0) : splitE c = (opE c q, q) := by
  have h1 := chain_len h
  have := chain_split h (c.size - l.length)
  rw [show l.length + (c.size - l.length) = c.size by omega] at this
  have e : splitF c (c.size - l.length) q = ([], opE c q, q) := by
    cases hf : c.size - l.length with
    | zero => omega
    | succ f => unfold splitF; rw [if_neg (by omega), if_pos he]
  rw [e] at this
  simp [splitE, this]

/-- Which instruction begins at a place: how many stand ahead of it. -/
def idxP (l : List Ins) (t : Int) : Nat := l.findIdx (fun x => (x.pl : Int) == t)
def beginsB (l : List Ins) (t : Int) : Bool := l.any (fun x => (x.pl : Int) == t)
def namesB (x : Ins) : Bool := x.op == 18 || x.op == 20
def outS (S : List Sec) (n : Nat) : Int := (S[n]?.map Sec.o).getD 0
def inS (S : List Sec) (n : Nat) : Int := (S[n]?.map Sec.i).getD 0
def mayNameB (S : List Sec) (x : Ins) : Bool := decide (x.n < S.length) && (x.op == 20 || outS S x.n != 128)
def refE (S : List Sec) (l : List Ins) (x : Ins) : Nat := if x.to.any (fun t => !beginsB l t) then 8 else if namesB x && !mayNameB S x then 9 else 0

def takesI (S : List Sec) (s : Sec) (x : Ins) : Int :=
  if x.op = 9 ∨ x.op = 10 then (takesT x.op : Int) + x.n else if x.op = 18 ∨ x.op = 20 then inS S x.n else if x.op = 19 then (if s.o = 128 then 0 else s.o) else takesT x.op
def bringsI (S : List Sec) (x : Ins) : Int :=
  if x.op = 9 ∨ x.op = 10 then (bringsT x.op : Int) + x.n else if x.op = 18 then outS S x.n else if x.op = 20 ∨ x.op = 19 then 0 else bringsT x.op
def returnsB (S : List Sec) (x : Ins) : Bool := x.op == 19 || (x.op == 20 && outS S x.n != 128)
def wantI (S : List Sec) (s : Sec) (x : Ins) : Int := if x.op = 20 then s.o + (inS S x.n - outS S x.n) else s.o
def mayReturnB (S : List Sec) (s : Sec) (x : Ins) (lo hi : Int) : Bool := !(x.op == 20 && decide (s.o < outS S x.n)) && (s.o != 128) && (lo == wantI S s x) && (hi == wantI S s x)

/-- Heights: of each instruction the least and the greatest, if it got any. -/
def mergeH (g : Int × Int) : Option (Int × Int) → Int × Int
  | none => g
  | some h => (min g.1 h.1, max g.2 h.2)
def giveH (i : Nat) (g : Int × Int) (hs : List (Option (Int × Int))) (j : Nat) : Option (List (Option (Int × Int))) :=
  if j ≤ i then (if hs.getD j none = some g then some hs else none) else some (hs.set j (some (mergeH g (hs.getD j none))))
def givesH (i : Nat) (g : Int × Int) : List (Option (Int × Int)) → List Nat → Option (List (Option (Int × Int)))
  | hs, [] => some hs
  | hs, j :: r => match giveH i g hs j with
    | none => none
    | some hs' => givesH i g hs' r
/-- Where an instruction leads to. -/
def nextsI (l : List Ins) (i : Nat) (x : Ins) : List Nat := x.to.map (idxP l) ++ (if lastT x.op then [] else [i + 1])
def afterI (S : List Sec) (s : Sec) (x : Ins) (h : Int × Int) : Int × Int := (h.1 - takesI S s x + bringsI S x, h.2 - takesI S s x + bringsI S x)
/-- What is wrong with an instruction ahead of what it gives. -/
def aheadE (S : List Sec) (s : Sec) (l : List Ins) (i : Nat) (x : Ins) : Option (Int × Int) → Nat
  | none => 10
  | some h => if h.1 < takesI S s x then 11 else if returnsB S x && !mayReturnB S s x h.1 h.2 then 13 else if !lastT x.op && i + 1 == l.length then 14 else 0
def passH (S : List Sec) (s : Sec) (l : List Ins) (i : Nat) (x : Ins) (hs : List (Option (Int × Int))) : Option (List (Option (Int × Int))) := givesH i (afterI S s x ((hs.getD i none).getD (0, 0))) hs (nextsI l i x)
def passE (S : List Sec) (s : Sec) (l : List Ins) (i : Nat) (x : Ins) (hs : List (Option (Int × Int))) : Nat :=
  if aheadE S s l i x (hs.getD i none) ≠ 0 then aheadE S s l i x (hs.getD i none) else match passH S s l i x hs with
    | none => 12
    | some _ => 0
def ins0 : Ins := ⟨0, 0, 0, 0, []⟩
/-- The heights ahead of instruction number k. -/
def hsAt (S : List Sec) (s : Sec) (l : List Ins) : Nat → List (Option (Int × Int))
  | 0 => (List.replicate l.length none).set 0 (some (s.i, s.i))
  | k + 1 => (passH S s l k (l.getD k ins0) (hsAt S s l k)).getD (hsAt S s l k)
def flowE (S : List Sec) (s : Sec) (l : List Ins) (k : Nat) : Nat := passE S s l k (l.getD k ins0) (hsAt S s l k)

/-- The first of the numbers f 0, f 1, .. that is not 0, with its instruction's place. -/
def firstE (f : Nat → Nat) (l : List Ins) : Nat → Nat × Nat
  | 0 => (0, 0)
  | k + 1 => if (firstE f l k).1 ≠ 0 then firstE f l k else if f k ≠ 0 then (f k, (l.getD k ins0).pl) else (0, 0)
def greatH (hs : List (Option (Int × Int))) : Nat → Int
  | 0 => 0
  | k + 1 => max (greatH hs k) ((hs.getD k none).getD (0, 0)).2
def anyRet (S : List Sec) (l : List Ins) : Bool := l.any (returnsB S)
def sumsE (S : List Sec) (s : Sec) (l : List Ins) : Nat :=
  if greatH (hsAt S s l l.length) l.length ≠ s.m then 15 else if anyRet S l == (s.o == 128) then 16 else 0
/-- What is wrong with a section, and where. -/
def wholeE (S : List Sec) (s : Sec) : Nat × Nat :=
  if (splitE s.code).1 ≠ 0 then splitE s.code else
  if (firstE (fun k => refE S (codeI s.code) ((codeI s.code).getD k ins0)) (codeI s.code) (codeI s.code).length).1 ≠ 0 then firstE (fun k => refE S (codeI s.code) ((codeI s.code).getD k ins0)) (codeI s.code) (codeI s.code).length else
  if (firstE (flowE S s (codeI s.code)) (codeI s.code) (codeI s.code).length).1 ≠ 0 then firstE (flowE S s (codeI s.code)) (codeI s.code) (codeI s.code).length else
  (sumsE S s (codeI s.code), 0)

/-- The sections that a code names. -/
def namedL (l : List Ins) : List Nat := (l.filter namesB).map Ins.n
def namedS (S : List Sec) (k : Nat) : List Nat := ((S[k]?).map (fun s => namedL (codeI s.code))).getD []
def Used (S : List Sec) (k : Nat) : Prop := ∀ P : Nat → Prop, P 0 → (∀ i j, P i → j ∈ namedS S i → P j) → P k
theorem Used.zero (S : List Sec) : Used S 0 := fun _ h0 _ => h0
theorem Used.name {S : List Sec} {i k : Nat} (h : Used S i) (hk : k ∈ namedS S i) : Used S k := fun P h0 h1 => h1 i k (h P h0 h1) hk

/-- The answer. -/
def CheckIs (S : List Sec) (d : ByteArray) (e k p : Nat) : Prop :=
  if fitB S d = false then e = 3 ∧ k = 0 ∧ p = 0 else
  if inS S 0 ≠ 0 ∨ outS S 0 ≠ 128 then e = 5 ∧ k = 0 ∧ p = 0 else
  (k < S.length ∧ (∀ j, j < k → (wholeE S (S.getD j ⟨0, 0, 0, ByteArray.empty⟩)).1 = 0) ∧ (wholeE S (S.getD k ⟨0, 0, 0, ByteArray.empty⟩)).1 ≠ 0 ∧ (e, p) = wholeE S (S.getD k ⟨0, 0, 0, ByteArray.empty⟩)) ∨
  ((∀ j, j < S.length → (wholeE S (S.getD j ⟨0, 0, 0, ByteArray.empty⟩)).1 = 0) ∧ p = 0 ∧ ((e = 17 ∧ k < S.length ∧ ¬ Used S k ∧ ∀ j, j < k → Used S j) ∨ (e = 0 ∧ k = 0 ∧ ∀ j, j < S.length → Used S j)))

theorem CheckIs.unique {S : List Sec} {d : ByteArray} {e k p e' k' p' : Nat} (h : CheckIs S d e k p) (h' : CheckIs S d e' k' p') : e = e' ∧ k = k' ∧ p = p' := by
  unfold CheckIs at h h'
  split at h
  · rename_i h0; rw [if_pos h0] at h'; omega
  · rename_i h0
    rw [if_neg h0] at h'
    split at h
    · rename_i h1; rw [if_pos h1] at h'; omega
    · rename_i h1
      rw [if_neg h1] at h'
      rcases h with ⟨a1, a2, a3, a4⟩ | ⟨a1, a2, a3⟩ <;> rcases h' with ⟨b1, b2, b3, b4⟩ | ⟨b1, b2, b3⟩
      · have : k = k' := by
          rcases Nat.lt_trichotomy k k' with h | h | h
          · exact absurd (b2 k h) a3
          · exact h
          · exact absurd (a2 k' h) b3
        subst this
        rw [← a4] at b4
        exact ⟨(congrArg Prod.fst b4).symm, rfl, (congrArg Prod.snd b4).symm⟩
      · exact absurd (b1 k a1) a3
      · exact absurd (a1 k' b1) b3
      · subst a2 b2
        rcases a3 with ⟨rfl, c1, c2, c3⟩ | ⟨rfl, rfl, c1⟩ <;> rcases b3 with ⟨rfl, d1, d2, d3⟩ | ⟨rfl, rfl, d1⟩
        · refine ⟨rfl, ?_, rfl⟩
          rcases Nat.lt_trichotomy k k' with h | h | h
          · exact absurd (d3 k h) c2
          · exact h
          · exact absurd (c3 k' h) d2
        · exact absurd (d1 k c1) c2
        · exact absurd (c1 k' d1) d2
        · exact ⟨rfl, rfl, rfl⟩
end Go.Proofs.YtdhmandnamajpaaDoor
