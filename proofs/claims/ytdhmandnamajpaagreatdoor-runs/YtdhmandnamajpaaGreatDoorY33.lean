import Derived.Test.YtdhmandnamajpaaGreatDoorY00
import Derived.Test.YtdhmandnamajpaaGreatDoorY26
import Derived.Test.YtdhmandnamajpaaGreatDoorY19
import Derived.Test.YtdhmandnamajpaaGreatDoorY27
import Derived.Test.YtdhmandnamajpaaGreatDoorY28
import Derived.Test.YtdhmandnamajpaaGreatDoorY01
import Derived.Test.YtdhmandnamajpaaGreatDoorY32
namespace Go.Proofs.YtdhmandnamajpaaGreatDoor
open Go.RowKit
def Mn (us us' : List Bool) : Prop := us.length = us'.length ∧ ∀ k, us.getD k false = true → us'.getD k false = true
theorem Mn.refl (us : List Bool) : Mn us us := ⟨rfl, fun _ h => h⟩
theorem Mn.trans {a b c : List Bool} (h : Mn a b) (k : Mn b c) : Mn a c := ⟨h.1.trans k.1, fun i hi => k.2 i (h.2 i hi)⟩
theorem mn_count : ∀ (us us' : List Bool), Mn us us' → us.count true ≤ us'.count true ∧ (us.count true = us'.count true → us = us') := by
 intro us
 induction us with
 | nil =>
  intro us' h
  have : us' = [] := List.length_eq_zero_iff.1 h.1.symm
  subst this
  exact ⟨Nat.le_refl _, fun _ => rfl⟩
 | cons u us ih =>
  intro us' h
  cases us' with
  | nil => have := h.1; simp at this
  | cons v vs =>
   have ht : Mn us vs := ⟨by simpa using h.1, fun k hk => by simpa [List.getD] using h.2 (k + 1) (by simpa [List.getD] using hk)⟩
   obtain ⟨i1, i2⟩ := ih vs ht
   have h0 : u = true → v = true := fun e => by have := h.2 0; simp [List.getD] at this; exact this e
   cases u <;> cases v
   ·simp only [List.count_cons]
    refine ⟨by simpa using i1, fun e => ?_⟩
    rw [i2 (by simpa using e)]
   ·simp only [List.count_cons]
    refine ⟨by simp; omega, fun e => ?_⟩
    simp at e
    omega
   ·exact absurd (h0 rfl) (by simp)
   ·simp only [List.count_cons]
    refine ⟨by simpa using i1, fun e => ?_⟩
    rw [i2 (by simpa using e)]
def setAll (us : List Bool) (ts : List Nat) : List Bool := ts.foldl (fun u t => u.set t true) us
theorem set_get (us : List Bool) (t k : Nat) : (us.set t true).getD k false = true ↔ us.getD k false = true ∨ (k = t ∧ t < us.length) := by
 simp only [List.getD]
 by_cases e : t = k
 ·subst e
  by_cases hl : t < us.length
  ·simp [hl]
  ·rw [List.getElem?_eq_none (by simpa using hl), List.getElem?_eq_none (by simpa using hl)]
   simp [hl]
 ·rw [List.getElem?_set_ne e]
  constructor
  ·exact .inl
  ·rintro (h | ⟨h, _⟩)
   ·exact h
   ·exact absurd h.symm e
theorem setAll_len (us : List Bool) (ts : List Nat) : (setAll us ts).length = us.length := by
 induction ts generalizing us with
 | nil => rfl
 | cons t ts ih => show (setAll (us.set t true) ts).length = _; rw [ih]; simp
theorem setAll_get (us : List Bool) (ts : List Nat) (k : Nat) : (setAll us ts).getD k false = true ↔ us.getD k false = true ∨ (k ∈ ts ∧ k < us.length) := by
 induction ts generalizing us with
 | nil => simp [setAll]
 | cons t ts ih =>
  show (setAll (us.set t true) ts).getD k false = true ↔ _
  rw [ih, set_get]
  simp only [List.length_set, List.mem_cons]
  constructor
  ·rintro ((h | ⟨h1, h2⟩) | ⟨h1, h2⟩)
   ·exact .inl h
   ·exact .inr ⟨.inl h1, by omega⟩
   ·exact .inr ⟨.inr h1, h2⟩
  ·rintro (h | ⟨h1 | h1, h2⟩)
   ·exact .inl (.inl h)
   ·exact .inl (.inr ⟨h1, by omega⟩)
   ·exact .inr ⟨h1, h2⟩
def procK (nms : List (List Nat)) (us : List Bool) (k : Nat) : List Bool := if us.getD k false then setAll us (nms.getD k []) else us
def roundU (nms : List (List Nat)) (us : List Bool) : Nat → List Bool
 | 0 => us
 | k + 1 => procK nms (roundU nms us k) k
def roundsU (nms : List (List Nat)) (n : Nat) (us : List Bool) : Nat → List Bool
 | 0 => us
 | r + 1 => roundU nms (roundsU nms n us r) n
theorem procK_mn (nms : List (List Nat)) (us : List Bool) (k : Nat) : Mn us (procK nms us k) := by
 unfold procK
 split
 ·exact ⟨(setAll_len _ _).symm, fun i hi => (setAll_get _ _ _).2 (.inl hi)⟩
 ·exact Mn.refl _
theorem roundU_mn (nms : List (List Nat)) (us : List Bool) (k : Nat) : Mn us (roundU nms us k) := by
 induction k with
 | zero => exact Mn.refl _
 | succ k ih => exact ih.trans (procK_mn _ _ _)
theorem roundsU_len (nms : List (List Nat)) (n : Nat) (us : List Bool) (r : Nat) : (roundsU nms n us r).length = us.length := by
 induction r with
 | zero => rfl
 | succ r ih => show (roundU nms (roundsU nms n us r) n).length = _; rw [← (roundU_mn nms _ n).1, ih]
theorem round_fixed {nms : List (List Nat)} {us : List Bool} {n : Nat} (h : roundU nms us n = us) (k t : Nat) (hk : k < n) (hu : us.getD k false = true) (ht : t ∈ nms.getD k []) (hl : t < us.length) : us.getD t false = true := by
 have h1 : Mn (roundU nms us (k + 1)) (roundU nms us n) := by
  have : ∀ m, Mn (roundU nms us (k + 1)) (roundU nms us (k + 1 + m)) := by
   intro m
   induction m with
   | zero => exact Mn.refl _
   | succ m ih => exact ih.trans (procK_mn _ _ _)
  have := this (n - (k + 1))
  rw [show k + 1 + (n - (k + 1)) = n by omega] at this
  exact this
 rw [h] at h1
 have hmk := roundU_mn nms us k
 refine h1.2 t ?_
 show (procK nms (roundU nms us k) k).getD t false = true
 unfold procK
 rw [if_pos (hmk.2 k hu)]
 exact (setAll_get _ _ _).2 (.inr ⟨ht, by rw [← hmk.1]; exact hl⟩)
theorem rounds_count (nms : List (List Nat)) (n : Nat) (us : List Bool) (r : Nat) : (∃ j, j < r ∧ roundU nms (roundsU nms n us j) n = roundsU nms n us j) ∨ us.count true + r ≤ (roundsU nms n us r).count true := by
 induction r with
 | zero => exact .inr (Nat.le_refl _)
 | succ r ih =>
  rcases ih with ⟨j, hj, e⟩ | h
  ·exact .inl ⟨j, by omega, e⟩
  ·obtain ⟨c1, c2⟩ := mn_count _ _ (roundU_mn nms (roundsU nms n us r) n)
   by_cases e : (roundsU nms n us r).count true = (roundU nms (roundsU nms n us r) n).count true
   ·exact .inl ⟨r, by omega, (c2 e).symm⟩
   ·right
    show us.count true + (r + 1) ≤ (roundU nms (roundsU nms n us r) n).count true
    omega
theorem rounds_stay {nms : List (List Nat)} {n : Nat} {us : List Bool} {j : Nat} (h : roundU nms (roundsU nms n us j) n = roundsU nms n us j) : ∀ m, roundsU nms n us (j + m) = roundsU nms n us j := by
 intro m
 induction m with
 | zero => rfl
 | succ m ih =>
  show roundU nms (roundsU nms n us (j + m)) n = _
  rw [ih, h]
theorem rch_proc {nms : List (List Nat)} {us : List Bool} (h : ∀ k, us.getD k false = true → Rch nms k) (i : Nat) : ∀ k, (procK nms us i).getD k false = true → Rch nms k := by
 intro k hk
 unfold procK at hk
 split at hk
 ·rename_i hi
  rcases (setAll_get _ _ _).1 hk with h1 | ⟨h1, _⟩
  ·exact h k h1
  ·exact (h i hi).name h1
 ·exact h k hk
theorem rch_round {nms : List (List Nat)} {us : List Bool} (h : ∀ k, us.getD k false = true → Rch nms k) (n : Nat) : ∀ k, (roundU nms us n).getD k false = true → Rch nms k := by
 induction n with
 | zero => exact h
 | succ n ih => exact rch_proc ih n
theorem rounds_done (nms : List (List Nat)) (n : Nat) (hn : 0 < n) (hl : nms.length = n) (hlt : ∀ m ∈ nms, ∀ t ∈ m, t < n) (k : Nat) :
  (roundsU nms n ((List.replicate n false).set 0 true) n).getD k false = true ↔ Rch nms k := by
 have hus : ((List.replicate n false).set 0 true).length = n := by simp
 have hc : ((List.replicate n false).set 0 true).count true = 1 := by
  rw [count_set]
  ·simp [List.count_replicate]
  ·simp [hn]
 have h0 : ((List.replicate n false).set 0 true).getD 0 false = true := by simp [List.getD, hn]
 have hs : ∀ r k, (roundsU nms n ((List.replicate n false).set 0 true) r).getD k false = true → Rch nms k := by
  intro r
  induction r with
  | zero => exact fun k hk => (bfs_start nms n hn).rch k (((bfs_start nms n hn).mem k).1 hk)
  | succ r ih => exact rch_round ih n
 have hfix : roundU nms (roundsU nms n ((List.replicate n false).set 0 true) n) n = roundsU nms n ((List.replicate n false).set 0 true) n := by
  rcases rounds_count nms n ((List.replicate n false).set 0 true) n with ⟨j, hj, e⟩ | h
  ·have := rounds_stay e (n - j)
   rw [show j + (n - j) = n by omega] at this
   rw [this]
   exact e
  ·have hle : (roundsU nms n ((List.replicate n false).set 0 true) n).count true ≤ n := by
    have := List.count_le_length (a := true) (l := roundsU nms n ((List.replicate n false).set 0 true) n)
    rw [roundsU_len, hus] at this
    exact this
   omega
 have hm0 : ∀ r, (roundsU nms n ((List.replicate n false).set 0 true) r).getD 0 false = true := by
  intro r
  induction r with
  | zero => exact h0
  | succ r ih => exact (roundU_mn nms _ n).2 0 ih
 refine ⟨hs n k, fun hr => hr (fun k => (roundsU nms n ((List.replicate n false).set 0 true) n).getD k false = true) (hm0 n) ?_⟩
 intro i j hi hj
 have hin : i < n := by
  rcases Nat.lt_or_ge i n with h | h
  ·exact h
  ·simp [List.getD, List.getElem?_eq_none (show nms.length ≤ i by omega)] at hj
 have hmem : nms.getD i [] ∈ nms := by
  have : nms.getD i [] = nms[i]'(by omega) := by simp [List.getD, show i < nms.length by omega]
  rw [this]
  exact List.getElem_mem _
 exact round_fixed hfix i j hin hi hj (by rw [roundsU_len, hus]; exact hlt _ hmem j hj)
end Go.Proofs.YtdhmandnamajpaaGreatDoor
namespace Go.Proofs.YtdhmandnamajpaaGreatDoor
open Go.RowKit Go.Joins
set_option maxHeartbeats 4000000
set_option maxRecDepth 100000
theorem make_bools (n : Nat) (hn : n ≤ 6) (W : World) : (Instr.makeSlice 108 (.int .i64 (n : Int)) (.int .i64 (n : Int))).run Tryz.prog W = .ok (.slice (some ⟨W.heap.size, 0, none⟩) n n) (W.alloc (.cells (bV (List.replicate n false)) 4)) := by
 obtain ⟨ib, hib, hbz0, hbz1, hbz2⟩ := info_parts Tryz.infoBool
 have h := run_make (P := Tryz.prog) W 108 4 ib (.bool false) Tryz.underlying108 hib hbz0 .i64 .i64 (n : Int) (n : Int) (by omega) (by omega) (by rw [hbz2]; omega) (by omega)
 have e : madeCells (Value.bool false).cells (((n : Nat) : Int).toNat * ib.size) = bV (List.replicate n false) := by
  rw [hbz1, show ((n : Nat) : Int).toNat * 1 = n by simp]
  exact bV_made n
 rw [e] at h
 simpa using h
structure NM (w0 w : World) (b off sl cap : Nat) (d : ByteArray) (us : List Bool) : Prop where
 u0 : w.cell? ⟨w0.heap.size, 0, none⟩ = some (.slice (some ⟨b, off, none⟩) sl cap)
 u1 : w.cell? ⟨w0.heap.size, 1, none⟩ = some (.string d)
 used : w.heap[w0.heap.size + 1]? = some (.cells (bV us) 4 (0, 0))
 bel : Below w0.heap.size w0 w
theorem NM.below {w0 w w' : World} {b off sl cap : Nat} {d : ByteArray} {us : List Bool} (h : NM w0 w b off sl cap d us) (hb : Below w.heap.size w w') : NM w0 w' b off sl cap d us := by
 have hs := blt h.used
 have hz := h.bel.size
 exact ⟨((bcell hb).1 _ _ (by omega)).trans h.u0, ((bcell hb).1 _ _ (by omega)).trans h.u1, keepB hb h.used, h.bel.trans (hb.mono hz)⟩
theorem NM.set {w0 w : World} {b off sl cap : Nat} {d : ByteArray} {us : List Bool} (h : NM w0 w b off sl cap d us) (t : Nat) : NM w0 (w.setCell ⟨w0.heap.size + 1, t, none⟩ (.bool true)) b off sl cap d (us.set t true) := by
 refine ⟨(set_other _ (by omega)).trans h.u0, (set_other _ (by omega)).trans h.u1, ?_, h.bel.setCell (by show w0.heap.size ≤ w0.heap.size + 1; omega) _⟩
 rw [← bV_set]
 exact block_setCell h.used _
theorem NM.get {w0 w : World} {b off sl cap : Nat} {d : ByteArray} {us : List Bool} (h : NM w0 w b off sl cap d us) (t : Nat) (ht : t < us.length) : w.cell? ⟨w0.heap.size + 1, t, none⟩ = some (.bool (us.getD t false)) := by
 rw [cell_of_block h.used, bV_get us t ht]
theorem NM.froz {w0 w : World} {b off sl cap : Nat} {d : ByteArray} {us : List Bool} (h : NM w0 w b off sl cap d us) (t : Nat) : w.frozen? ⟨w0.heap.size + 1, t, none⟩ = false := unfrozen_of_block h.used t
theorem setAll_snoc (us : List Bool) (ts : List Nat) (t : Nat) : setAll us (ts ++ [t]) = (setAll us ts).set t true := by simp [setAll]
theorem namedL_at (l : List Ins) (k : Nat) (x : Ins) (h : l[k]? = some x) : namedL (l.take (k + 1)) = if namesB x then namedL (l.take k) ++ [x.n] else namedL (l.take k) := by
 have hk : k < l.length := (List.getElem?_eq_some_iff.1 h).1
 have hx : l[k] = x := by rw [List.getElem?_eq_getElem hk] at h; injection h
 rw [List.take_succ_eq_append_getElem hk, hx]
 unfold namedL
 rw [List.filter_append]
 cases hn : namesB x <;> simp [hn]
def UnusPost (w : World) (S : List Sec) : Ending → World → Prop := fun e w' => ∃ r : Int, e = .returned (.int .i64 r) ∧ Below w.heap.size w w' ∧
 ((r = -1 ∧ ∀ j, j < S.length → Used S j) ∨ ∃ k : Nat, k < S.length ∧ r = k ∧ ¬ Used S k ∧ ∀ j, j < k → Used S j)
theorem ref_unused (S : List Sec) (d : ByteArray) (b off cap : Nat) (w : World) (hS : SecsAt w b off S) (hal : S.all secB = true) (hn : 1 ≤ S.length ∧ S.length ≤ 6) (hok : ∀ k (hk : k < S.length), (wholeE S S[k]).1 = 0) :
  Calls Tryz.prog 63 #[.agg #[.slice (some ⟨b, off, none⟩) S.length cap, .string d]] w (UnusPost w S) := by
 have hb := hS.1
 have HS := hidc hS
 have HOK := hidc hok
 have hmk := make_bools S.length hn.2
 have HNMS : Hid (∀ m ∈ nmsS S, ∀ t ∈ m, t < S.length) := by
  intro m hm t ht
  obtain ⟨s, hs, rfl⟩ := List.mem_map.1 hm
  obtain ⟨k, hk, rfl⟩ := List.getElem_of_mem hs
  exact (named_small (sec_get hal k hk) (hok k hk)).1 t ht
 have HDONE : Hid (∀ k, (roundsU (nmsS S) S.length ((List.replicate S.length false).set 0 true) S.length).getD k false = true ↔ Used S k) := by
  intro k
  rw [used_iff]
  exact rounds_done (nmsS S) S.length (by omega) (by simp [nmsS]) HNMS.out k
 clear hS hok
 have HU0 : Hid (NM w ((w.alloc (.cells #[.slice (some ⟨b, off, none⟩) S.length cap, .string d] 40)).alloc (.cells ((bV (List.replicate S.length false)).setIfInBounds 0 (.bool true)) 4)) b off S.length cap d ((List.replicate S.length false).set 0 true)) := by
  rw [bV_set]
  have k0 : ((w.alloc (.cells #[.slice (some ⟨b, off, none⟩) S.length cap, .string d] 40)).alloc (.cells (bV ((List.replicate S.length false).set 0 true)) 4)).heap[w.heap.size]? = some (.cells #[.slice (some ⟨b, off, none⟩) S.length cap, .string d] 40 (0, 0)) := (Below.heap_alloc _ _ _ (by simp)).trans (heap_alloc_new w _)
  refine ⟨?_, ?_, ?_, below2 _ _ _⟩
  ·rw [cell_of_block k0]; rfl
  ·rw [cell_of_block k0]; rfl
  ·have := heap_alloc_new (w.alloc (.cells #[.slice (some ⟨b, off, none⟩) S.length cap, .string d] 40)) (.cells (bV ((List.replicate S.length false).set 0 true)) 4)
   simpa using this
 have hM0 : (bV (List.replicate S.length false))[0]? = some (.bool false) := by rw [bV_get _ _ (by simp; omega)]; simp [List.getD, show 0 < S.length by omega]
 generalize hus0 : (List.replicate S.length false).set 0 true = us0 at *
 have HL0 : Hid (us0.length = S.length) := by show us0.length = S.length; rw [← hus0]; simp
 clear hus0
 generalize hbv : bV (List.replicate S.length false) = bv0 at *
 clear hbv
 go_enter Tryz.func63, Tryz.ntmps63
 go_wp2_with fail
 generalize ((w.alloc (.cells #[.slice (some ⟨b, off, none⟩) S.length cap, .string d] 40)).alloc (.cells (bv0.setIfInBounds 0 (.bool true)) 4)) = w2 at *
 go_loopw [4] (fun iv wk => ∃ r : Nat, r ≤ S.length ∧ iv = .int .i64 r ∧ Hid (NM w wk b off S.length cap d (roundsU (nmsS S) S.length us0 r))) (fun iv _ => S.length - (intOf iv).toNat)
 case atStart => exact ⟨0, Nat.zero_le _, rfl, HU0.out⟩
 case round =>
  obtain ⟨r, hr, rfl, HM⟩ := hrel
  generalize hwr : wr = wa at *
  clear hwr
  have ua0 := HM.out.u0
  have hsa : w.heap.size + 1 < wa.heap.size := blt HM.out.used
  by_cases hrl : r < S.length
  ·go_wp2_with fail
   go_loopw [5] (fun iv wk => ∃ k : Nat, k ≤ S.length ∧ iv = .int .i64 k ∧ Hid (NM w wk b off S.length cap d (roundU (nmsS S) (roundsU (nmsS S) S.length us0 r) k))) (fun iv _ => S.length - (intOf iv).toNat)
   case atStart => exact ⟨0, Nat.zero_le _, rfl, HM.out⟩
   case round =>
    clear HM ua0
    obtain ⟨k, hk, rfl, HM⟩ := hrel
    generalize hwr : wr = wb at *
    clear hwr
    have ua0 := HM.out.u0
    have hsb : w.heap.size + 1 < wb.heap.size := blt HM.out.used
    by_cases hkl : k < S.length
    ·obtain ⟨c0, c1, c2, c3⟩ := (HS.out.below hb HM.out.bel).at k hkl
     have hq := (secB_iff _).1 (sec_get hal k hkl)
     have HSO := hidc (secOk (HOK.out k hkl))
     have HNK : Hid ((nmsS S).getD k [] = namedL (codeI S[k].code)) := by
      show (nmsS S).getD k [] = namedL (codeI S[k].code)
      simp [nmsS, List.getD, hkl]
     generalize hck : S[k].code = ck at *
     have HSP : Hid ((splitE ck).1 = 0) := by
      show (splitE ck).1 = 0
      rcases HSO.out.split with e | e
      ·rw [hck] at e; rw [e]
      ·rw [hck] at e; exact e
     have HRF : Hid (∀ (j : Nat) (x : Ins), (codeI ck)[j]? = some x → namesB x = true → x.n < S.length) := by
      intro j x hx hnx
      have hjl : j < (codeI ck).length := (List.getElem?_eq_some_iff.1 hx).1
      have h1 := HSO.out.ref j (by rw [hck]; exact hjl)
      rw [hck] at h1
      have hg : (codeI ck).getD j ins0 = x := by simp [List.getD, hx]
      rw [hg] at h1
      exact (ref_names h1).1 hnx
     have HULEN : Hid ((roundU (nmsS S) (roundsU (nmsS S) S.length us0 r) k).length = S.length) := by
      show (roundU (nmsS S) (roundsU (nmsS S) S.length us0 r) k).length = S.length
      rw [← (roundU_mn (nmsS S) _ k).1, roundsU_len, HL0.out]
     have HUN : Hid (∀ us', us' = procK (nmsS S) (roundU (nmsS S) (roundsU (nmsS S) S.length us0 r) k) k → us' = roundU (nmsS S) (roundsU (nmsS S) S.length us0 r) (k + 1)) := fun us' h => h
     clear hck HSO c0 c1 c2
     generalize roundU (nmsS S) (roundsU (nmsS S) S.length us0 r) k = usk at *
     go_wp2_with fail
     refine (ref_all ck _ hq.2.2.2.2).mono ?_
     rintro e w3 ⟨v, rfl, hb3, hall⟩
     obtain ⟨hch, xs, hmem⟩ := hall HSP.out
     have hl0 : 0 < (codeI ck).length := by
      cases hcl : codeI ck with
      | nil => rw [hcl] at hch; have : (0 : Nat) = ck.size := hch; omega
      | cons _ _ => simp
     have hlen : (codeI ck).length ≤ 120 := by have := chain_len hch; omega
     obtain ⟨g, cc, rfl, hri, _⟩ := hmem.rins hl0
     have HRI := hidc hri
     have HM3 := hidc (HM.out.below hb3)
     have hg3 : g < w3.heap.size := hri.lt
     have hgU : w.heap.size + 1 < g := by
      rcases hmem.row.2 with ⟨e1, _⟩ | ⟨g', cap', cur', hv', hb', _⟩
      ·cases e1
      ·injection hv' with h1 h2 h3
       injection h1 with h1
       injection h1 with h1
       omega
     rw [HSP.out]
     clear hb3 hall hch hmem hri HM ua0 c3
     generalize (splitE ck).2 = sp2
     generalize hlq : codeI ck = l at *
     clear hlq
     have ua0 := HM3.out.u0
     have hs3 : w.heap.size + 1 < w3.heap.size := blt HM3.out.used
     go_wp2_with fail
     go_loopw [9] (fun iv wk => ∃ i : Nat, i ≤ l.length ∧ iv = .int .i64 i ∧ Hid (NM w wk b off S.length cap d (if usk.getD k false then setAll usk (namedL (l.take i)) else usk)) ∧ Hid (∀ (j : Nat) (y : Ins), l[j]? = some y → wk.cell? ⟨g, j * 5 + 1, none⟩ = some (.int .i64 y.op) ∧ ∃ N, wk.cell? ⟨g, j * 5 + 2, none⟩ = some (.int .i64 N) ∧ numsAs y N) ∧ Hid (w3.heap.size ≤ wk.heap.size)) (fun iv _ => l.length - (intOf iv).toNat)
     case atStart =>
      refine ⟨0, Nat.zero_le _, rfl, ?_, fun j y hy => ?_, Nat.le_refl _⟩
      ·have : (if usk.getD k false then setAll usk (namedL (l.take 0)) else usk) = usk := by simp [namedL, setAll]
       rw [this]; exact HM3.out
      ·obtain ⟨_, q1, q2, _, _⟩ := HRI.out.cells j y hy
       exact ⟨q1, q2⟩
     case round =>
      clear HM3 ua0
      obtain ⟨i, hi, rfl, HM, HCL, HSZ⟩ := hrel
      have ua0 := HM.out.u0
      have hsr : w3.heap.size ≤ wr.heap.size := HSZ.out
      have HLEN2 : Hid ((if usk.getD k false then setAll usk (namedL (l.take i)) else usk).length = S.length) := by
       show (if usk.getD k false then setAll usk (namedL (l.take i)) else usk).length = S.length
       split
       ·rw [setAll_len, HULEN.out]
       ·exact HULEN.out
      have uk := HM.out.get k (by rw [HLEN2.out]; exact hkl)
      have HUK : Hid ((if usk.getD k false then setAll usk (namedL (l.take i)) else usk).getD k false = usk.getD k false) := by
       show (if usk.getD k false then setAll usk (namedL (l.take i)) else usk).getD k false = usk.getD k false
       cases hu : usk.getD k false with
       | false => rw [if_neg (by simp)]; exact hu
       | true => rw [if_pos rfl]; exact (setAll_get usk _ k).2 (.inl hu)
      rw [HUK.out] at uk
      by_cases hil : i < l.length
      ·have hxi : l[i]? = some l[i] := by simp [hil]
       generalize l[i] = x at *
       obtain ⟨c1, N, c2, hN⟩ := HCL.out i x hxi
       have HNX := hidc (HRF.out i x hxi)
       have HNA := hidc hN
       have HNS := hidc (namedL_at l i x hxi)
       clear hxi hN
       cases hu : usk.getD k false with
       | false =>
        rw [hu] at uk HM HLEN2 HUK
        go_wp2_with fail
        go_roundw
        case rel => exact ⟨i + 1, by omega, by go_num, by first | exact HM.out | (rw [hu]; exact HM.out), HCL.out, hsr⟩
        case measure => simp [intOf]; omega
       | true =>
        rw [hu] at uk HM HLEN2 HUK
        rw [if_pos rfl] at HM HLEN2 HUK
        by_cases h18 : x.op = 18
        ·have hnm : namesB x = true := by simp [namesB, h18]
         rw [hnm, if_pos rfl] at HNS
         have hxn := HNX.out hnm
         obtain rfl : N = (x.n : Int) := HNA.out (by simp [numOp, h18])
         have un := HM.out.get x.n (by rw [HLEN2.out]; exact hxn)
         have fn := HM.out.froz x.n
         have hUs : w.heap.size + 1 < wr.heap.size := blt HM.out.used
         have HMS := hidc (HM.out.set x.n)
         have HCS : Hid (∀ (j : Nat) (y : Ins), l[j]? = some y → (wr.setCell ⟨w.heap.size + 1, x.n, none⟩ (.bool true)).cell? ⟨g, j * 5 + 1, none⟩ = some (.int .i64 y.op) ∧ ∃ N, (wr.setCell ⟨w.heap.size + 1, x.n, none⟩ (.bool true)).cell? ⟨g, j * 5 + 2, none⟩ = some (.int .i64 N) ∧ numsAs y N) := by
          intro j y hy
          obtain ⟨q1, N', q2, q3⟩ := HCL.out j y hy
          exact ⟨(set_other _ (by omega)).trans q1, N', (set_other _ (by omega)).trans q2, q3⟩
         go_wp2_with fail
         go_roundw
         case rel => exact ⟨i + 1, by omega, by go_num, by (try rw [hu, if_pos rfl]); rw [HNS.out, setAll_snoc]; exact HMS.out, HCS.out, (by show w3.heap.size ≤ _; simpa [World.setCell] using hsr)⟩
         case measure => simp [intOf]; omega
        ·by_cases h20 : x.op = 20
         ·have hnm : namesB x = true := by simp [namesB, h20]
          rw [hnm, if_pos rfl] at HNS
          have hxn := HNX.out hnm
          obtain rfl : N = (x.n : Int) := HNA.out (by simp [numOp, h20])
          have un := HM.out.get x.n (by rw [HLEN2.out]; exact hxn)
          have fn := HM.out.froz x.n
          have hUs : w.heap.size + 1 < wr.heap.size := blt HM.out.used
          have HMS := hidc (HM.out.set x.n)
          have HCS : Hid (∀ (j : Nat) (y : Ins), l[j]? = some y → (wr.setCell ⟨w.heap.size + 1, x.n, none⟩ (.bool true)).cell? ⟨g, j * 5 + 1, none⟩ = some (.int .i64 y.op) ∧ ∃ N, (wr.setCell ⟨w.heap.size + 1, x.n, none⟩ (.bool true)).cell? ⟨g, j * 5 + 2, none⟩ = some (.int .i64 N) ∧ numsAs y N) := by
           intro j y hy
           obtain ⟨q1, N', q2, q3⟩ := HCL.out j y hy
           exact ⟨(set_other _ (by omega)).trans q1, N', (set_other _ (by omega)).trans q2, q3⟩
          go_wp2_with fail
          go_roundw
          case rel => exact ⟨i + 1, by omega, by go_num, by (try rw [hu, if_pos rfl]); rw [HNS.out, setAll_snoc]; exact HMS.out, HCS.out, (by show w3.heap.size ≤ _; simpa [World.setCell] using hsr)⟩
          case measure => simp [intOf]; omega
         ·have hnm : namesB x = false := by simp [namesB, h18, h20]
          rw [hnm] at HNS
          have h18' : ((x.op : Int) == 18) = false := by simp; omega
          have h20' : ((x.op : Int) == 20) = false := by simp; omega
          go_wp2_with fail
          go_roundw
          case rel => exact ⟨i + 1, by omega, by go_num, by (try rw [hu, if_pos rfl]); rw [HNS.out]; exact HM.out, HCL.out, hsr⟩
          case measure => simp [intOf]; omega
      ·obtain rfl : i = l.length := by omega
       rw [List.take_length] at HM
       go_wp2_with fail
       go_roundw
       case rel =>
        refine ⟨k + 1, by omega, by go_num, ?_⟩
        rw [← HUN.out _ rfl]
        unfold procK
        rw [HNK.out]
        exact HM.out
       case measure => simp [intOf]; omega
    ·obtain rfl : k = S.length := by omega
     go_wp2_with fail
     go_roundw
     case rel => exact ⟨r + 1, by omega, by go_num, HM.out⟩
     case measure => simp [intOf]; omega
  ·obtain rfl : r = S.length := by omega
   have HULEN : Hid ((roundsU (nmsS S) S.length us0 S.length).length = S.length) := by
    show (roundsU (nmsS S) S.length us0 S.length).length = S.length
    rw [roundsU_len, HL0.out]
   generalize roundsU (nmsS S) S.length us0 S.length = usf at *
   go_wp2_with fail
   go_loopw [10] (fun iv wk => ∃ k : Nat, k ≤ S.length ∧ iv = .int .i64 k ∧ Hid (∀ j, j < k → Used S j) ∧ wk = wa) (fun iv _ => S.length - (intOf iv).toNat)
   case atStart => exact ⟨0, Nat.zero_le _, rfl, fun j hj => by omega, rfl⟩
   case round =>
    obtain ⟨k, hk, rfl, HJ, rfl⟩ := hrel
    by_cases hkl : k < S.length
    ·have uk := HM.out.get k (by rw [HULEN.out]; exact hkl)
     cases hu : usf.getD k false with
     | true =>
      rw [hu] at uk
      have HUK : Hid (Used S k) := (HDONE.out k).1 hu
      go_wp2_with fail
      go_roundw
      case rel =>
       refine ⟨k + 1, by omega, by go_num, fun j hj => ?_, by trivial⟩
       by_cases e : j = k
       ·subst e; exact HUK.out
       ·exact HJ.out j (by omega)
      case measure => simp [intOf]; omega
     | false =>
      rw [hu] at uk
      have HUK : Hid (¬ Used S k) := fun h => by have := (HDONE.out k).2 h; rw [hu] at this; cases this
      go_wp2_with fail
      go_ret
      exact ⟨_, rfl, HM.out.bel, .inr ⟨k, hkl, rfl, HUK.out, HJ.out⟩⟩
    ·have HALL : Hid (∀ j, j < S.length → Used S j) := fun j hj => HJ.out j (by omega)
     go_wp2_with fail
     go_ret
     exact ⟨_, rfl, HM.out.bel, .inl ⟨rfl, HALL.out⟩⟩
end Go.Proofs.YtdhmandnamajpaaGreatDoor
namespace Go.Proofs.YtdhmandnamajpaaGreatDoor
open Go.RowKit
theorem fits_data (n : Nat) (v : Option Addr) (d : ByteArray) (cap : Nat) (w : World) (hn : inB 1 6 (n : Int) = true) (hd : inB 0 60 (d.size : Int) = false) :
  Calls Tryz.prog 61 #[.agg #[.slice v n cap, .string d]] w fun e w' => e = .returned (.bool false) ∧ Below w.heap.size w w' := by
 go_enter Tryz.func61, Tryz.ntmps61
 go_wp2_with (first | (go_at_call 110; refine (ref_in _ _ _ _).mono ?_; rintro e w' ⟨rfl, rfl⟩))
 go_ret
 exact ⟨rfl, (Below.refl _ _).alloc (Nat.le_refl _) _⟩
set_option maxHeartbeats 1000000 in
theorem fits_some (S : List Sec) (d : ByteArray) (b off cap : Nat) (w : World) (hn : inB 1 6 (S.length : Int) = true) (hd : inB 0 60 (d.size : Int) = true) (hS : SecsAt w b off S) :
  Calls Tryz.prog 61 #[.agg #[.slice (some ⟨b, off, none⟩) S.length cap, .string d]] w fun e w' => e = .returned (.bool (fitB S d)) ∧ Below w.heap.size w w' := by
 have hlen := inB_iff.1 hn
 have hb := hS.1
 have HS : Hid (SecsAt w b off S) := hS
 clear hS
 go_enter Tryz.func61, Tryz.ntmps61
 go_wp2_with (first | (go_at_call 110; refine (ref_in _ _ _ _).mono ?_; rintro e w' ⟨rfl, rfl⟩))
 go_loopw [5] (fun i wr => ∃ k : Nat, k ≤ S.length ∧ i = .int .i64 k ∧ (S.take k).all secB = true ∧ Below (w.heap.size + 1) (w.alloc (.cells #[.slice (some ⟨b, off, none⟩) S.length cap, .string d] 40)) wr) (fun i _ => S.length - (intOf i).toNat)
 case atStart => exact ⟨0, Nat.zero_le _, rfl, by simp, Below.refl _ _⟩
 case round =>
  obtain ⟨k, hk, rfl, hall, hbel⟩ := hrel
  obtain ⟨hc, hf⟩ := bcell hbel
  by_cases hlt : k < S.length
  ·obtain ⟨c0, c1, c2, c3⟩ := (SecsAt.below (HS.out.alloc _) (Nat.lt_succ_of_lt hb) hbel).at k hlt
   have hsz : w.heap.size + 1 ≤ wr.heap.size := by have := hbel.size; simpa using this
   have hsec : Hid (secB S[k] = (inB 0 9 S[k].i && outB S[k].o && inB 0 40 S[k].m && inB 1 120 (S[k].code.size : Int))) := rfl
   have hb0 : wr.cell? ⟨w.heap.size, 0, none⟩ = some (.slice (some ⟨b, off, none⟩) S.length cap) := by rw [hc _ _ (Nat.lt_succ_self _)]; simp
   have hb1 : wr.cell? ⟨w.heap.size, 1, none⟩ = some (.string d) := by rw [hc _ _ (Nat.lt_succ_self _)]; simp
   clear hc hf
   cases h1 : inB 0 9 S[k].i
   all_goals cases h2 : outB S[k].o
   all_goals cases h3 : inB 0 40 S[k].m
   all_goals cases h4 : inB 1 120 (S[k].code.size : Int)
   case true.true.true.true =>
    go_wp2_with (first | (go_at_call 110; refine (ref_in _ _ _ _).mono ?_; rintro e w' ⟨rfl, rfl⟩) | (go_at_call 60; refine (ref_gives _ _).mono ?_; rintro e w' ⟨rfl, rfl⟩))
    go_roundw
    case rel => exact ⟨k + 1, by omega, by go_num, by rw [all_take_succ _ _ hlt, hall, hsec.out, h1, h2, h3, h4]; rfl, hbel.alloc (by omega) _⟩
    case measure => simp [intOf]; omega
   all_goals
    go_wp2_with (first | (go_at_call 110; refine (ref_in _ _ _ _).mono ?_; rintro e w' ⟨rfl, rfl⟩) | (go_at_call 60; refine (ref_gives _ _).mono ?_; rintro e w' ⟨rfl, rfl⟩))
    go_ret
    refine ⟨ret_bool ?_, (((Below.refl _ _).alloc (Nat.le_refl _) _).trans (hbel.mono (by omega))).alloc (by omega) _⟩
    rw [fitB, all_false hlt (by rw [hsec.out, h1, h2, h3, h4]; rfl)]
    simp
  ·go_wp2
   go_ret
   refine ⟨ret_bool ?_, ?_⟩
   ·rw [List.take_of_length_le (by omega)] at hall
    simp [fitB, hn, hall, hd]
   ·exact ((Below.refl _ _).alloc (Nat.le_refl _) _).trans (hbel.mono (by omega))
end Go.Proofs.YtdhmandnamajpaaGreatDoor
namespace Go.Proofs.YtdhmandnamajpaaGreatDoor
open Go.RowKit Go.Joins
set_option maxHeartbeats 2000000
set_option maxRecDepth 100000
theorem fits_all (S : List Sec) (d : ByteArray) (b off cap : Nat) (w : World) (hn : inB 1 6 (S.length : Int) = true) (hS : SecsAt w b off S) :
  Calls Tryz.prog 61 #[.agg #[.slice (some ⟨b, off, none⟩) S.length cap, .string d]] w fun e w' => e = .returned (.bool (fitB S d)) ∧ Below w.heap.size w w' := by
 cases hd : inB 0 60 (d.size : Int) with
 | false =>
  have hf : fitB S d = false := by simp [fitB, hd]
  rw [hf]
  exact fits_data _ _ d cap w hn hd
 | true => exact fits_some S d b off cap w hn hd hS
theorem getD_sec (S : List Sec) (k : Nat) (hk : k < S.length) (z : Sec) : S.getD k z = S[k] := by simp [List.getD, hk]
theorem ref_check_some (S : List Sec) (d : ByteArray) (b off cap : Nat) (w : World) (hn : inB 1 6 (S.length : Int) = true) (hS : SecsAt w b off S) :
  Calls Tryz.prog 35 #[.agg #[.slice (some ⟨b, off, none⟩) S.length cap, .string d]] w (ContPost w S d) := by
 have hlen := inB_iff.1 hn
 have hb := hS.1
 have HS := hidc hS
 clear hS
 go_enter Tryz.func35, Tryz.ntmps35
 go_wp2_with fail
 refine (fits_all S d b off cap _ hn (HS.out.alloc _)).mono ?_
 rintro e w1 ⟨rfl, hb1⟩
 have HB1 := hidc (((Below.refl w.heap.size w).alloc (Nat.le_refl _) (.cells #[.slice (some ⟨b, off, none⟩) S.length cap, .string d] 40)).trans (hb1.mono (by simp)))
 have u0 : w1.cell? ⟨w.heap.size, 0, none⟩ = some (.slice (some ⟨b, off, none⟩) S.length cap) := by rw [(bcell hb1).1 _ _ (by simp)]; simp
 have u1 : w1.cell? ⟨w.heap.size, 1, none⟩ = some (.string d) := by rw [(bcell hb1).1 _ _ (by simp)]; simp
 have hs1 : w.heap.size + 1 ≤ w1.heap.size := by have := hb1.size; simpa using this
 clear hb1
 cases hf : fitB S d with
 | false =>
  have HF : Hid (CheckIs S d 3 0 0) := by show CheckIs S d 3 0 0; unfold CheckIs; rw [if_pos hf]; exact ⟨rfl, rfl, rfl⟩
  go_wp2_with fail
  go_ret3
  exact ⟨3, 0, 0, rfl, HF.out, HB1.out⟩
 | true =>
  have hal : S.all secB = true := by simp only [fitB, Bool.and_eq_true] at hf; exact hf.1.2
  have h0 : 0 < S.length := by omega
  obtain ⟨c0, c1, c2, c3⟩ := (HS.out.below hb HB1.out).at 0 h0
  simp only [Nat.zero_mul, Nat.add_zero] at c0 c1 c2 c3
  have HF := hidc hf
  clear hf
  have HI := hidc (inS_get S 0 h0)
  have HO := hidc (outS_get S 0 h0)
  by_cases hfirst : S[0].i = 0 ∧ S[0].o = 128
  case neg =>
   have HC : Hid (CheckIs S d 5 0 0) := by
    show CheckIs S d 5 0 0
    unfold CheckIs
    rw [if_neg (by rw [HF.out]; simp), if_pos (by rw [HI.out, HO.out]; omega)]
    exact ⟨rfl, rfl, rfl⟩
   by_cases hi0 : S[0].i = 0
   ·have ho0 : ¬ S[0].o = 128 := fun h => hfirst ⟨hi0, h⟩
    have ho1 : (S[0].o == 128) = false := by simp [ho0]
    clear hfirst
    rw [hi0] at c0
    go_wp2_with fail
    go_ret3
    exact ⟨5, 0, 0, rfl, HC.out, HB1.out⟩
   ·have hi1 : (S[0].i == 0) = false := by simp [hi0]
    clear hfirst
    go_wp2_with fail
    go_ret3
    exact ⟨5, 0, 0, rfl, HC.out, HB1.out⟩
  case pos =>
   have HC : Hid (∀ e k p, ((k < S.length ∧ (∀ j, j < k → (wholeE S (S.getD j ⟨0, 0, 0, ByteArray.empty⟩)).1 = 0) ∧ (wholeE S (S.getD k ⟨0, 0, 0, ByteArray.empty⟩)).1 ≠ 0 ∧ (e, p) = wholeE S (S.getD k ⟨0, 0, 0, ByteArray.empty⟩)) ∨
     ((∀ j, j < S.length → (wholeE S (S.getD j ⟨0, 0, 0, ByteArray.empty⟩)).1 = 0) ∧ p = 0 ∧ ((e = 17 ∧ k < S.length ∧ ¬ Used S k ∧ ∀ j, j < k → Used S j) ∨ (e = 0 ∧ k = 0 ∧ ∀ j, j < S.length → Used S j)))) → CheckIs S d e k p) := by
    intro e k p h
    unfold CheckIs
    rw [if_neg (by rw [HF.out]; simp), if_neg (by rw [HI.out, HO.out]; omega)]
    exact h
   rw [hfirst.1] at c0
   rw [hfirst.2] at c1
   clear hfirst
   go_wp2_with fail
   go_loopw [6] (fun iv wk => ∃ k : Nat, k ≤ S.length ∧ iv = .int .i64 k ∧ Hid (∀ j, j < k → (wholeE S (S.getD j ⟨0, 0, 0, ByteArray.empty⟩)).1 = 0) ∧ Hid (Below w1.heap.size w1 wk)) (fun iv _ => S.length - (intOf iv).toNat)
   case atStart => exact ⟨0, Nat.zero_le _, rfl, fun j hj => by omega, Below.refl _ _⟩
   case round =>
    obtain ⟨k, hk, rfl, HJ, HBL⟩ := hrel
    have hsr : w1.heap.size ≤ wr.heap.size := HBL.out.size
    have HBr := hidc (HB1.out.trans (HBL.out.mono (by omega)))
    have ru0 : wr.cell? ⟨w.heap.size, 0, none⟩ = some (.slice (some ⟨b, off, none⟩) S.length cap) := ((bcell HBL.out).1 _ _ (by omega)).trans u0
    have ru1 : wr.cell? ⟨w.heap.size, 1, none⟩ = some (.string d) := ((bcell HBL.out).1 _ _ (by omega)).trans u1
    have hwS : b < wr.heap.size := by omega
    by_cases hkl : k < S.length
    ·obtain ⟨d0, d1, d2, d3⟩ := (HS.out.below hb HBr.out).at k hkl
     have HSK := hidc (sec_get hal k hkl)
     have HGD := hidc (getD_sec S k hkl ⟨0, 0, 0, ByteArray.empty⟩)
     generalize hsk : S[k] = s at *
     clear hsk
     have hwle := wholeE_le S s
     generalize hwq : wholeE S s = wq at *
     have HWQ := hidc hwq
     clear hwq
     obtain ⟨we, wp⟩ := wq
     simp only at hwle
     clear c0 c1 c2 c3 u0 u1
     go_wp2_with fail
     refine wp_region_held_drew (S := fun w' => (w'.cell? ⟨w.heap.size, 0, none⟩ = some (.slice (some ⟨b, off, none⟩) S.length cap) ∧ w'.cell? ⟨w.heap.size, 1, none⟩ = some (.string d)) ∧ w'.cell? ⟨b, off + k * 4, none⟩ = some (.int .i64 s.i) ∧ w'.cell? ⟨b, off + k * 4 + 1, none⟩ = some (.int .i64 s.o) ∧ w'.cell? ⟨b, off + k * 4 + 2, none⟩ = some (.int .i64 s.m) ∧ w'.cell? ⟨b, off + k * 4 + 3, none⟩ = some (.string s.code)) (by kernel_rfl) ⟨⟨ru0, ru1⟩, d0, d1, d2, d3⟩ (fun hHeld => ?_)
     refine tk 0 ?va0 rfl ?hya0 hHeld ?resta0
     case hya0 => rintro w ⟨⟨a0, a1⟩, b0, b1, b2, b3⟩; go_simp; try with_reducible rfl
     simp only [Act.put, aA, aB, aC, aD, aE]
     refine tk 1 ?va1 rfl ?hya1 hHeld ?resta1
     case hya1 => rintro w ⟨⟨a0, a1⟩, b0, b1, b2, b3⟩; go_simp; try with_reducible rfl
     simp only [Act.put, aA, aB, aC, aD, aE, aF]
     refine tk 2 ?va2 rfl ?hya2 hHeld ?resta2
     case hya2 => rintro w ⟨⟨a0, a1⟩, b0, b1, b2, b3⟩; go_simp; try with_reducible rfl
     simp only [Act.put, aA, aB, aC, aD, aE, aF]
     refine tk 3 ?va3 rfl ?hya3 hHeld ?resta3
     case hya3 => rintro w ⟨⟨a0, a1⟩, b0, b1, b2, b3⟩; go_simp; try with_reducible rfl
     simp only [Act.put, aA, aB, aC, aD, aE, aF]
     refine tk 4 ?va4 rfl ?hya4 hHeld ?resta4
     case hya4 => rintro w ⟨⟨a0, a1⟩, b0, b1, b2, b3⟩; go_simp; try with_reducible rfl
     simp only [Act.put, aA, aB, aC, aD, aE, aF]
     refine tk 5 ?va5 rfl ?hya5 hHeld ?resta5
     case hya5 => rintro w ⟨⟨a0, a1⟩, b0, b1, b2, b3⟩; go_simp; try with_reducible rfl
     simp only [Act.put, aA, aB, aC, aD, aE, aF]
     refine rd 6 rfl (fun K hK => ?_)
     simp only [aD, aE, aF]
     go_simp
     go_at_call 62
     refine (ref_section S s d b off cap _ (HS.out.below hb HBr.out.drew) hal HSK.out).mono ?_
     rintro e w5 ⟨rfl, hb5⟩
     rw [HWQ.out]
     go_wp2_with fail
     have HB5 := hidc ((HBL.out.drew).trans (hb5.mono hsr))
     refine hK.out _ _ ?hS5 (fun hHeld => ?_)
     case hS5 =>
      obtain ⟨⟨a0, a1⟩, b0, b1, b2, b3⟩ := hHeld
      have hc := fun g i (h : g < wr.heap.size) => (bcell hb5).1 g i h
      exact ⟨⟨(hc _ _ (by omega)).trans a0, (hc _ _ (by omega)).trans a1⟩, (hc _ _ (by omega)).trans b0, (hc _ _ (by omega)).trans b1, (hc _ _ (by omega)).trans b2, (hc _ _ (by omega)).trans b3⟩
     clear hK hb5
     refine tk 7 ?vb7 rfl ?hyb7 hHeld ?restb7
     case hyb7 => rintro w ⟨⟨a0, a1⟩, b0, b1, b2, b3⟩; go_simp; try with_reducible rfl
     simp only [Act.put, aA, aB, aC, aD, aE, aF]
     refine tk 8 ?vb8 rfl ?hyb8 hHeld ?restb8
     case hyb8 => rintro w ⟨⟨a0, a1⟩, b0, b1, b2, b3⟩; go_simp; try with_reducible rfl
     simp only [Act.put, aA, aB, aC, aD, aE, aF]
     refine tk 9 ?vb9 rfl ?hyb9 hHeld ?restb9
     case hyb9 => rintro w ⟨⟨a0, a1⟩, b0, b1, b2, b3⟩; go_simp; try with_reducible rfl
     simp only [Act.put, aA, aB, aC, aD, aE, aF]
     refine tk 10 ?vb10 rfl ?hyb10 hHeld ?restb10
     case hyb10 => rintro w ⟨⟨a0, a1⟩, b0, b1, b2, b3⟩; go_simp; try with_reducible rfl
     simp only [Act.put, aA, aB, aC, aD, aE, aF]
     refine tk 11 ?vb11 rfl ?hyb11 hHeld ?restb11
     case hyb11 => rintro w ⟨⟨a0, a1⟩, b0, b1, b2, b3⟩; go_simp; try with_reducible rfl
     simp only [Act.put, aA, aB, aC, aD, aE, aF]
     refine wpAnyH_done (by kernel_rfl) ?_ _
     clear hHeld ru0 ru1 d0 d1 d2 d3
     by_cases h0 : we = 0
     ·subst h0
      go_wp2_with fail
      refine ⟨⟨k + 1, by omega, by first | rfl | go_num, ?_, HB5.out⟩, ?_⟩
      ·intro j hj
       by_cases e : j = k
       ·subst e; rw [HGD.out, HWQ.out]
       ·exact HJ.out j (by omega)
      ·simp [intOf]; omega
     ·have hne : ((we : Int) == 0) = false := by simp; omega
      have HCC := hidc (HC.out we k wp (.inl ⟨hkl, HJ.out, by rw [HGD.out, HWQ.out]; exact h0, by rw [HGD.out, HWQ.out]⟩))
      go_wp2_with fail
      go_ret3
      exact ⟨we, k, wp, rfl, HCC.out, HB1.out.trans (HB5.out.mono (by omega))⟩
    ·obtain rfl : k = S.length := by omega
     clear c0 c1 c2 c3 u0 u1
     have HOK : Hid (∀ j (hj : j < S.length), (wholeE S S[j]).1 = 0) := by
      intro j hj
      have := HJ.out j hj
      rw [getD_sec S j hj] at this
      exact this
     go_wp2_with fail
     refine (ref_unused S d b off cap _ (HS.out.below hb HBr.out) hal ⟨by omega, by omega⟩ HOK.out).mono ?_
     rintro e w5 ⟨r, rfl, hb5, hr⟩
     have HB5 := hidc (HBr.out.trans (hb5.mono (by omega)))
     clear hb5 ru0 ru1
     rcases hr with ⟨rfl, hall⟩ | ⟨k, hk2, rfl, hnu, hju⟩
     ·have HCC := hidc (HC.out 0 0 0 (.inr ⟨HJ.out, rfl, .inr ⟨rfl, rfl, hall⟩⟩))
      clear hall
      go_wp2_with fail
      go_ret3
      exact ⟨0, 0, 0, rfl, HCC.out, HB5.out⟩
     ·have HCC := hidc (HC.out 17 k 0 (.inr ⟨HJ.out, rfl, .inl ⟨rfl, hk2, hnu, hju⟩⟩))
      clear hnu hju
      go_wp2_with fail
      go_ret3
      exact ⟨17, k, 0, rfl, HCC.out, HB5.out⟩
end Go.Proofs.YtdhmandnamajpaaGreatDoor
