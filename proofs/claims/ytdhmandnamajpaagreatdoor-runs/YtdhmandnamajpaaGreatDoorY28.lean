import Derived.Test.YtdhmandnamajpaaGreatDoorY00
import Derived.Test.YtdhmandnamajpaaGreatDoorY26
import Derived.Test.YtdhmandnamajpaaGreatDoorY27
import Derived.KernelRfl
import Derived.Lib.SmallJoins
namespace Go.Proofs.YtdhmandnamajpaaGreatDoor
open Go.RowKit Go.Joins
set_option maxHeartbeats 1000000
theorem Tryz.infoSpan : (Tryz.prog.info? 141).map (fun i => (i.zero, i.size, i.bytes)) = some (some (.agg #[.bool false, .int .i64 0, .int .i64 0]), 3, 24) := by kernel_rfl
theorem Tryz.infoInts : (Tryz.prog.info? 22).map (fun i => (i.zero, i.size, i.bytes)) = some (some (.slice none 0 0), 1, 24) := by kernel_rfl
def spanM (n : Nat) : Array Value := madeCells #[.bool false, .int .i64 0, .int .i64 0] (n * 3)
theorem spanM_get (n i : Nat) (h : i < n * 3) : (spanM n)[i]? = some (#[Value.bool false, .int .i64 0, .int .i64 0][i % 3]!) := by
 unfold spanM madeCells
 simp [h]
theorem spanM_at (n p : Nat) (h : p < n) : SpanAt (spanM n) p none := by
 refine ⟨?_, ?_, ?_⟩
 ·rw [spanM_get n _ (by omega), show p * 3 % 3 = 0 by omega]; rfl
 ·rw [spanM_get n _ (by omega), show (p * 3 + 1) % 3 = 1 by omega]; rfl
 ·rw [spanM_get n _ (by omega), show (p * 3 + 2) % 3 = 2 by omega]; rfl
theorem make_spans (n : Nat) (hn : n ≤ 120) (W : World) : (Instr.makeSlice 101 (.int .i64 (n : Int)) (.int .i64 (n : Int))).run Tryz.prog W = .ok (.slice (some ⟨W.heap.size, 0, none⟩) n n) (W.alloc (.cells (spanM n) 141)) := by
 obtain ⟨i0, hi, hz0, hz1, hz2⟩ := info_parts Tryz.infoSpan
 have h := run_make (P := Tryz.prog) W 101 141 i0 (.agg #[.bool false, .int .i64 0, .int .i64 0]) Tryz.underlying101 hi hz0 .i64 .i64 (n : Int) (n : Int) (by omega) (by omega) (by rw [hz2]; omega) (by omega)
 have e : madeCells (Value.agg #[.bool false, .int .i64 0, .int .i64 0]).cells (((n : Nat) : Int).toNat * i0.size) = spanM n := by rw [hz1]; rfl
 rw [e] at h
 simpa using h
def nmM (n : Nat) : Array Value := madeCells #[.slice none 0 0] n
theorem nmM_size (n : Nat) : (nmM n).size = n := size_madeCells _ _
theorem make_names (n : Nat) (hn : n ≤ 6) (W : World) : (Instr.makeSlice 44 (.int .i64 (n : Int)) (.int .i64 (n : Int))).run Tryz.prog W = .ok (.slice (some ⟨W.heap.size, 0, none⟩) n n) (W.alloc (.cells (nmM n) 22)) := by
 obtain ⟨i0, hi, hz0, hz1, hz2⟩ := info_parts Tryz.infoInts
 have h := run_make (P := Tryz.prog) W 44 22 i0 (.slice none 0 0) Tryz.underlying44 hi hz0 .i64 .i64 (n : Int) (n : Int) (by omega) (by omega) (by rw [hz2]; omega) (by omega)
 have e : madeCells (Value.slice none 0 0).cells (((n : Nat) : Int).toNat * i0.size) = nmM n := by rw [hz1, show ((n : Nat) : Int).toNat * 1 = n by simp]; rfl
 rw [e] at h
 simpa using h
theorem blk_top (w : World) (o : Obj) {g : Nat} (hg : g = w.heap.size) : (w.alloc o).heap[g]? = some o := by subst hg; exact heap_alloc_new w o
theorem wholeE_le (S : List Sec) (s : Sec) : (wholeE S s).1 ≤ 20 := by
 unfold wholeE
 split
 ·exact splitE_le _
 ·split
  ·exact firstE_le (fun k => refE_le _ _ _)
  ·split
   ·exact firstE_le (fun k => passE_le _ _ _ _ _ _)
   ·show sumsE S s (codeI s.code) ≤ 20
    unfold sumsE
    split <;> (try split) <;> omega
def sec0 : Sec := ⟨0, 0, 0, ByteArray.empty⟩
theorem named_small {S : List Sec} {s : Sec} (hs : secB s = true) (h : (wholeE S s).1 = 0) : (∀ t ∈ namedL (codeI s.code), t < S.length) ∧ (namedL (codeI s.code)).length ≤ 120 := by
 obtain ⟨_, _, _, s4⟩ := (secB_iff _).1 hs
 unfold wholeE at h
 split at h
 ·exact absurd h (by assumption)
 ·split at h
  ·exact absurd h (by assumption)
  ·rename_i h1 h2
   have hz : (firstE (fun k => refE S (codeI s.code) ((codeI s.code).getD k ins0)) (codeI s.code) (codeI s.code).length).1 = 0 := by simpa using h2
   constructor
   ·intro t ht
    unfold namedL at ht
    obtain ⟨x, hx, rfl⟩ := List.mem_map.1 ht
    obtain ⟨hx1, hx2⟩ := List.mem_filter.1 hx
    obtain ⟨k, hk, rfl⟩ := List.getElem_of_mem hx1
    have := firstE_zero hz k hk
    have e : (codeI s.code).getD k ins0 = (codeI s.code)[k] := by simp [List.getD, hk]
    simp only [e] at this
    unfold refE at this
    split at this
    ·cases this
    ·split at this
     ·cases this
     ·rename_i h3 h4
      simp [hx2] at h4
      unfold mayNameB at h4
      simp at h4
      exact h4.1
   ·have hc : (codeI s.code).length ≤ s.code.size := splitF_len s.code s.code.size 0
    unfold namedL
    rw [List.length_map]
    exact Nat.le_trans (List.length_filter_le _ _) (by omega)
structure CM (w wr : World) (S : List Sec) (b off cap : Nat) (d : ByteArray) (N k : Nat) (ncs : Array Value) : Prop where
 own : wr.heap[w.heap.size]? = some (.cells #[.slice (some ⟨b, off, none⟩) S.length cap, .string d] 40 (0, 0))
 names : wr.heap[N]? = some (.cells ncs 22 (0, 0))
 size : ncs.size = S.length
 nums : ∀ j s, j < k → S[j]? = some s → ∃ v, ncs[j]? = some v ∧ NumsAt wr v (namedL (codeI s.code)) ∧ (∀ a n c g, v = .slice (some ⟨g, a, none⟩) n c → g ≠ N)
 bel : Below w.heap.size w wr
 good : ∀ j, j < k → (wholeE S (S.getD j sec0)).1 = 0
 gtN : w.heap.size < N
theorem CM.below {w wr w' : World} {S : List Sec} {b off cap : Nat} {d : ByteArray} {N k : Nat} {ncs : Array Value} (h : CM w wr S b off cap d N k ncs) (hb : Below wr.heap.size wr w') : CM w w' S b off cap d N k ncs :=
 ⟨keepB hb h.own, keepB hb h.names, h.size, fun j s hj hs => by
  obtain ⟨v, e, hn, hv⟩ := h.nums j s hj hs
  exact ⟨v, e, hn.below hb, hv⟩, h.bel.trans (hb.mono h.bel.size), h.good, h.gtN⟩
theorem CM.facts {w wr : World} {S : List Sec} {b off cap : Nat} {d : ByteArray} {N k : Nat} {ncs : Array Value} (h : CM w wr S b off cap d N k ncs) :
  wr.cell? ⟨w.heap.size, 0, none⟩ = some (.slice (some ⟨b, off, none⟩) S.length cap) ∧ wr.cell? ⟨w.heap.size, 1, none⟩ = some (.string d) ∧ w.heap.size < wr.heap.size ∧ N < wr.heap.size := by
 refine ⟨?_, ?_, blt h.own, blt h.names⟩
 ·rw [cell_of_block h.own]; rfl
 ·rw [cell_of_block h.own]; rfl
theorem nums_set {w : World} {v : Value} {m : List Nat} {N j : Nat} {u : Value} (h : NumsAt w v m) (hv : ∀ a n c g, v = .slice (some ⟨g, a, none⟩) n c → g ≠ N) : NumsAt (w.setCell ⟨N, j, none⟩ u) v m := by
 obtain ⟨a, c, e, h1⟩ := h
 refine ⟨a, c, e, fun hm => ?_⟩
 obtain ⟨g, e2, h2, h3⟩ := h1 hm
 subst e2
 exact ⟨g, rfl, by simpa [World.setCell] using h2, fun j t hj => (set_other _ (hv _ _ _ g e)).trans (h3 j t hj)⟩
theorem CM.step {w wr : World} {S : List Sec} {b off cap : Nat} {d : ByteArray} {N k : Nat} {ncs : Array Value} (h : CM w wr S b off cap d N k ncs) {s : Sec} (hk : S[k]? = some s) (hg : (wholeE S s).1 = 0) {v : Value} (hn : NumsAt wr v (namedL (codeI s.code)))
  (hv : ∀ a n c g, v = .slice (some ⟨g, a, none⟩) n c → g ≠ N) : CM w (wr.setCell ⟨N, k, none⟩ v) S b off cap d N (k + 1) (ncs.setIfInBounds k v) where
 own := (Below.heap_setCell _ _ _ _ (by have := h.gtN; show w.heap.size ≠ N; omega)).trans h.own
 names := block_setCell h.names _
 size := by simp [h.size]
 nums := fun j s' hj hs => by
  have hks : k < S.length := (List.getElem?_eq_some_iff.1 hk).1
  by_cases e : j = k
  ·subst e
   rw [hk] at hs
   injection hs with hs
   subst hs
   exact ⟨v, by rw [Array.getElem?_setIfInBounds_self_of_lt (by rw [h.size]; exact hks)], nums_set hn hv, hv⟩
  ·obtain ⟨u, e1, h1, h2⟩ := h.nums j s' (by omega) hs
   exact ⟨u, by rw [Array.getElem?_setIfInBounds_ne (fun h => e h.symm)]; exact e1, nums_set h1 h2, h2⟩
 bel := h.bel.setCell (Nat.le_of_lt h.gtN) _
 good := fun j hj => by
  by_cases e : j = k
  ·subst e
   have : S.getD j sec0 = s := by simp [List.getD, hk]
   rw [this]
   exact hg
  ·exact h.good j (by omega)
 gtN := h.gtN
theorem sec_mem {S : List Sec} (h : S.all secB = true) {k : Nat} {s : Sec} (hk : S[k]? = some s) : secB s = true := by
 rw [List.all_eq_true] at h
 exact h s (List.mem_of_getElem? hk)
theorem check_uses_n (w : World) (N cap n : Nat) (nms : List (List Nat)) (hnn : nms.length = n) (hN : NamesAt w N nms) (hn : 1 ≤ n ∧ n ≤ 6) (hlt : ∀ m ∈ nms, ∀ t ∈ m, t < n) (hm : ∀ m ∈ nms, m.length ≤ 120) :
  Calls Tryz.prog 51 #[.slice (some ⟨N, 0, none⟩) n cap] w fun e w' => ∃ us : List Bool, e = .returned (.slice (some ⟨w.heap.size, 0, none⟩) n n) ∧ w'.heap[w.heap.size]? = some (.cells (bV us) 4 (0, 0)) ∧ us.length = n ∧ (∀ k, us.getD k false = true ↔ Rch nms k) ∧ Below w.heap.size w w' := by
 subst hnn
 exact check_uses w N cap nms hN hn hlt hm
theorem CM.namesAt {w wr : World} {S : List Sec} {b off cap : Nat} {d : ByteArray} {N : Nat} {ncs : Array Value} (h : CM w wr S b off cap d N S.length ncs) : NamesAt wr N (nmsS S) := by
 refine ⟨blt h.names, fun k m hk => ?_⟩
 unfold nmsS at hk
 rw [List.getElem?_map] at hk
 cases hs : S[k]? with
 | none => rw [hs] at hk; cases hk
 | some s =>
  rw [hs] at hk
  simp at hk
  subst hk
  obtain ⟨v, e, hn, _⟩ := h.nums k s ((List.getElem?_eq_some_iff.1 hs).1) hs
  exact ⟨v, by rw [cell_of_block h.names]; exact e, hn⟩
theorem CM.small {w wr : World} {S : List Sec} {b off cap : Nat} {d : ByteArray} {N : Nat} {ncs : Array Value} (h : CM w wr S b off cap d N S.length ncs) (hS : S.all secB = true) : (∀ m ∈ nmsS S, ∀ t ∈ m, t < S.length) ∧ (∀ m ∈ nmsS S, m.length ≤ 120) := by
 have key : ∀ m ∈ nmsS S, (∀ t ∈ m, t < S.length) ∧ m.length ≤ 120 := by
  intro m hm
  unfold nmsS at hm
  obtain ⟨s, hs, rfl⟩ := List.mem_map.1 hm
  obtain ⟨k, hk, rfl⟩ := List.getElem_of_mem hs
  have e : S.getD k sec0 = S[k] := by simp [List.getD, hk]
  have := h.good k hk
  rw [e] at this
  exact named_small (sec_get hS k hk) this
 exact ⟨fun m hm => (key m hm).1, fun m hm => (key m hm).2⟩
def ContPost (w : World) (S : List Sec) (d : ByteArray) : Ending → World → Prop := fun e w' => ∃ a k p : Nat, e = .returned (.tuple #[.int .i64 a, .int .i64 k, .int .i64 p]) ∧ CheckIs S d a k p ∧ Below w.heap.size w w'
theorem container_some (S : List Sec) (d : ByteArray) (b off cap : Nat) (w : World) (hR : RowsAt w) (hn : inB 1 6 (S.length : Int) = true) (hS : SecsAt w b off S) :
  Calls Tryz.prog 30 #[.agg #[.slice (some ⟨b, off, none⟩) S.length cap, .string d]] w (ContPost w S d) := by
 have hlen := inB_iff.1 hn
 have hb := hS.1
 have HS := hidc hS
 have HR := hidc hR
 have h00 := hR.1
 have HN := hidc hn
 have hl0 : 0 < S.length := by omega
 have hmk1 := make_names S.length (by omega)
 clear hS hR hn
 cases hfit : fitB S d
 ·have HC : Hid (CheckIs S d 3 0 0) := by show CheckIs S d 3 0 0; simp [CheckIs, hfit]
  go_enter Tryz.func30, Tryz.ntmps30
  go_wp2_with (go_at_call 48; refine (within_some S d b off cap _ HN.out (HS.out.alloc _)).mono ?_; rw [hfit]; rintro e w1 ⟨rfl, hb1⟩)
  go_ret3
  exact ⟨3, 0, 0, rfl, HC.out, ((Below.refl _ _).alloc (Nat.le_refl _) _).trans (hb1.mono (by simp))⟩
 ·have HAL : Hid (S.all secB = true) := by
   show S.all secB = true
   simp only [fitB, Bool.and_eq_true] at hfit
   exact hfit.1.2
  have HFIT := hidc hfit
  go_enter Tryz.func30, Tryz.ntmps30
  go_wp2_with fail
  refine (within_some S d b off cap _ HN.out (HS.out.alloc _)).mono ?_
  rw [hfit]
  rintro e w1 ⟨rfl, hb1⟩
  clear hfit
  have HOW : Hid (w1.heap[w.heap.size]? = some (.cells #[.slice (some ⟨b, off, none⟩) S.length cap, .string d] 40 (0, 0))) := keepB hb1 (heap_alloc_new w _)
  have HB1 : Hid (Below w.heap.size w w1) := ((Below.refl _ _).alloc (Nat.le_refl _) _).trans (hb1.mono (by simp))
  have o0 : w1.cell? ⟨w.heap.size, 0, none⟩ = some (.slice (some ⟨b, off, none⟩) S.length cap) := by rw [cell_of_block HOW.out]; rfl
  have o1 : w1.cell? ⟨w.heap.size, 1, none⟩ = some (.string d) := by rw [cell_of_block HOW.out]; rfl
  obtain ⟨c0, c1, _, _⟩ := (HS.out.below hb HB1.out).at 0 hl0
  have hw1 : w.heap.size < w1.heap.size := blt HOW.out
  have hbw1 : b < w1.heap.size := by omega
  simp only [Nat.zero_mul, Nat.add_zero] at c0 c1
  clear hb1
  by_cases hfirst : inS S 0 ≠ 0 ∨ outS S 0 ≠ 128
  ·have HC : Hid (CheckIs S d 5 0 0) := by
    show CheckIs S d 5 0 0
    unfold CheckIs
    rw [if_neg (by rw [HFIT.out]; simp), if_pos hfirst]
    exact ⟨rfl, rfl, rfl⟩
   rw [inS_get S 0 hl0, outS_get S 0 hl0] at hfirst
   by_cases hi0 : S[0].i = 0
   ·have ho : (S[0].o == 128) = false := by
     rcases hfirst with h | h
     ·exact absurd hi0 h
     ·simp [h]
    go_wp2_with fail
    go_ret3
    exact ⟨5, 0, 0, rfl, HC.out, HB1.out⟩
   ·have hi1 : (S[0].i == 0) = false := by simp [hi0]
    go_wp2_with fail
    go_ret3
    exact ⟨5, 0, 0, rfl, HC.out, HB1.out⟩
  ·have HFS := hidc hfirst
   rw [inS_get S 0 hl0, outS_get S 0 hl0] at hfirst
   have hi0 : S[0].i = 0 := by omega
   have ho0 : S[0].o = 128 := by omega
   rw [hi0] at c0
   rw [ho0] at c1
   clear hfirst hi0 ho0
   go_wp2_with fail
   have HCM0 : Hid (CM w (w1.alloc (.cells (nmM S.length) 22)) S b off cap d w1.heap.size 0 (nmM S.length)) :=
    ⟨(Below.heap_alloc _ _ _ hw1).trans HOW.out, heap_alloc_new w1 _, nmM_size _, fun j s hj => by omega, HB1.out.alloc (by omega) _, fun j hj => by omega, hw1⟩
   clear o0 o1 c0 c1 hmk1
   go_loopw [37] (fun iv wr => ∃ (k : Nat) (ncs : Array Value), k ≤ S.length ∧ iv = .int .i64 k ∧ Hid (CM w wr S b off cap d w1.heap.size k ncs)) (fun iv _ => S.length - (intOf iv).toNat)
   case atStart => exact ⟨0, _, Nat.zero_le _, rfl, HCM0.out⟩
   case round =>
    clear HCM0
    obtain ⟨k, ncs, hk, rfl, HM⟩ := hrel
    obtain ⟨m0, m1, m2, m3⟩ := HM.out.facts
    have hszr := HM.out.bel.size
    by_cases hlt : k < S.length
    ·obtain ⟨c0, c1, c2, c3⟩ := (HS.out.below hb HM.out.bel).at k hlt
     have HSK := hidc (show S[k]? = some S[k] by simp [hlt])
     generalize S[k] = s at *
     have HSB := hidc (sec_mem HAL.out HSK.out)
     obtain ⟨_, _, _, q4⟩ := (secB_iff _).1 HSB.out
     have hmk2 := make_spans s.code.size q4.2
     have hbr : b < wr.heap.size := by omega
     go_wp2_with fail
     refine wp_region_held_drew (S := fun w' => w'.cell? ⟨w.heap.size, 0, none⟩ = some (.slice (some ⟨b, off, none⟩) S.length cap) ∧ w'.cell? ⟨wr.heap.size, 0, none⟩ = some (.int .i64 s.i) ∧ w'.cell? ⟨wr.heap.size, 1, none⟩ = some (.int .i64 s.o) ∧ w'.cell? ⟨wr.heap.size, 2, none⟩ = some (.int .i64 s.m) ∧ w'.cell? ⟨wr.heap.size, 3, none⟩ = some (.string s.code)) (by kernel_rfl) ⟨(cell_al _ m2).trans m0, cell_nw rfl rfl, cell_nw rfl rfl, cell_nw rfl rfl, cell_nw rfl rfl⟩ (fun hHeld => ?_)
     refine tk 0 ?va0 rfl ?hya0 hHeld ?resta0
     case hya0 => rintro w ⟨s0, s1, s2, s3, s4⟩; go_simp; try with_reducible rfl
     simp only [Act.put, aA, aB, aC, aD, aE]
     refine tk 1 ?va1 rfl ?hya1 hHeld ?resta1
     case hya1 => rintro w ⟨s0, s1, s2, s3, s4⟩; go_simp; try with_reducible rfl
     simp only [Act.put, aA, aB, aC, aD, aE, aF]
     refine tk 2 ?va2 rfl ?hya2 hHeld ?resta2
     case hya2 => rintro w ⟨s0, s1, s2, s3, s4⟩; go_simp; try with_reducible rfl
     simp only [Act.put, aA, aB, aC, aD, aE, aF]
     refine tk 3 ?va3 rfl ?hya3 hHeld ?resta3
     case hya3 => rintro w ⟨s0, s1, s2, s3, s4⟩; go_simp; try with_reducible rfl
     simp only [Act.put, aA, aB, aC, aD, aE, aF]
     refine tk 4 ?va4 rfl ?hya4 hHeld ?resta4
     case hya4 => rintro w ⟨s0, s1, s2, s3, s4⟩; go_simp; try with_reducible rfl
     simp only [Act.put, aA, aB, aC, aD, aE, aF]
     refine tk 5 ?va5 rfl ?hya5 hHeld ?resta5
     case hya5 => rintro w ⟨s0, s1, s2, s3, s4⟩; go_simp; try with_reducible rfl
     simp only [Act.put, aA, aB, aC, aD, aE, aF]
     refine wpAnyH_ready (rs := [6, 8]) (by kernel_rfl) (by simp) ?_
     refine AllReadyH.cons (i := 6) rfl (fun K hK => ?gsix) (AllReadyH.cons (i := 8) rfl (fun K hK => ?geight) AllReadyH.nil)
     case gsix =>
      simp only [aD, aE, aF]
      go_simp
      obtain ⟨s0, s1, s2, s3, s4⟩ := hHeld
      refine hK.out _ _ ⟨(cell_al _ (by first | (simp; done) | (simp; omega))).trans s0, (cell_al _ (by first | (simp; done) | (simp; omega))).trans s1, (cell_al _ (by first | (simp; done) | (simp; omega))).trans s2, (cell_al _ (by first | (simp; done) | (simp; omega))).trans s3, (cell_al _ (by first | (simp; done) | (simp; omega))).trans s4⟩ (fun hHeld => ?_)
      clear hK
      refine tk 7 ?vb7 rfl ?hyb7 hHeld ?restb7
      case hyb7 => rintro w ⟨s0, s1, s2, s3, s4⟩; go_simp; try with_reducible rfl
      simp only [Act.put, aA, aB, aC, aD, aE, aF]
      refine rd 8 rfl (fun K hK => ?_)
      simp only [aD, aE, aF]
      go_simp
      obtain ⟨s0, s1, s2, s3, s4⟩ := hHeld
      refine hK.out _ _ ⟨(cell_al _ (by first | (simp; done) | (simp; omega))).trans s0, (cell_al _ (by first | (simp; done) | (simp; omega))).trans s1, (cell_al _ (by first | (simp; done) | (simp; omega))).trans s2, (cell_al _ (by first | (simp; done) | (simp; omega))).trans s3, (cell_al _ (by first | (simp; done) | (simp; omega))).trans s4⟩ (fun hHeld => ?_)
      clear hK
      refine rd 9 rfl (fun K hK => ?_)
      simp only [aD, aE, aF]
      go_simp
      refine hK.out _ _ ⟨(cell_al _ (by first | (simp; done) | (simp; omega))).trans ((cell_al _ (by first | (simp; done) | (simp; omega))).trans ((cell_al _ m2).trans m0)), (cell_al _ (by first | (simp; done) | (simp; omega))).trans ((cell_al _ (by first | (simp; done) | (simp; omega))).trans (cell_nw rfl rfl)), (cell_al _ (by first | (simp; done) | (simp; omega))).trans ((cell_al _ (by first | (simp; done) | (simp; omega))).trans (cell_nw rfl rfl)), (cell_al _ (by first | (simp; done) | (simp; omega))).trans ((cell_al _ (by first | (simp; done) | (simp; omega))).trans (cell_nw rfl rfl)), (cell_al _ (by first | (simp; done) | (simp; omega))).trans ((cell_al _ (by first | (simp; done) | (simp; omega))).trans (cell_nw rfl rfl))⟩ (fun hHeld => ?_)
      clear hK hHeld
      refine wpAnyH_done (by kernel_rfl) ?_ _
      have HBq : Hid (Below wr.heap.size wr ((((wr.alloc (.cells #[.int .i64 s.i, .int .i64 s.o, .int .i64 s.m, .string s.code] 65)).alloc (.cells (spanM s.code.size) 141)).alloc (.cells #[.slice (some ⟨b, off, none⟩) S.length cap, .int .i64 s.i, .int .i64 s.o, .int .i64 s.m, .string s.code, .slice none 0 0, .slice (some ⟨wr.heap.size + 1, 0, none⟩) s.code.size s.code.size] 104)).drew)) := ((below2 _ _ _).alloc (by simp; omega) _).drew
      have HFr : Hid (Fresh ((((wr.alloc (.cells #[.int .i64 s.i, .int .i64 s.o, .int .i64 s.m, .string s.code] 65)).alloc (.cells (spanM s.code.size) 141)).alloc (.cells #[.slice (some ⟨b, off, none⟩) S.length cap, .int .i64 s.i, .int .i64 s.o, .int .i64 s.m, .string s.code, .slice none 0 0, .slice (some ⟨wr.heap.size + 1, 0, none⟩) s.code.size s.code.size] 104)).drew) (wr.heap.size + 1 + 1) (wr.heap.size + 1) S s b off cap (spanM s.code.size)) :=
       ⟨blk_top _ _ (by simp), (Below.heap_alloc _ _ _ (by simp)).trans (blk_top (wr.alloc (.cells #[.int .i64 s.i, .int .i64 s.o, .int .i64 s.m, .string s.code] 65)) _ (by simp)), size_madeCells _ _, fun p hp => spanM_at _ p hp, (HS.out.below hb HM.out.bel).below hbr HBq.out, (HR.out.below h00 HM.out.bel).below (by omega) HBq.out, by omega, by omega, by omega, by omega, by omega⟩
      clear c0 c1 c2 c3 m0 m1
      generalize ((((wr.alloc (.cells #[.int .i64 s.i, .int .i64 s.o, .int .i64 s.m, .string s.code] 65)).alloc (.cells (spanM s.code.size) 141)).alloc (.cells #[.slice (some ⟨b, off, none⟩) S.length cap, .int .i64 s.i, .int .i64 s.o, .int .i64 s.m, .string s.code, .slice none 0 0, .slice (some ⟨wr.heap.size + 1, 0, none⟩) s.code.size s.code.size] 104)).drew) = wq at *
      go_wp2_with fail
      refine (look_whole (B := wr.heap.size) HFr.out (by omega) (by omega) HAL.out HSB.out).mono ?_
      rintro e w3 ⟨rfl, hb3, hl3⟩
      have HB3 := hidc (HBq.out.trans hb3)
      have HM3 := hidc (HM.out.below HB3.out)
      have HL3 := hidc hl3
      have HGD := hidc (show S.getD k sec0 = s by simp [List.getD, HSK.out])
      have HKL := hidc hlt
      clear hb3 hl3
      have hwe : (wholeE S s).1 ≤ 20 := wholeE_le S s
      generalize hwg : wholeE S s = we at *
      obtain ⟨ew, pw⟩ := we
      have HWG := hidc hwg
      clear hwg
      simp only at hwe
      cases ew with
      | succ m =>
       have hm : (((m + 1 : Nat) : Int) == 0) = false := by simp; omega
       have HC : Hid (CheckIs S d (m + 1) k pw) := by
        show CheckIs S d (m + 1) k pw
        unfold CheckIs
        rw [if_neg (by rw [HFIT.out]; simp), if_neg HFS.out]
        refine .inl ⟨HKL.out, HM.out.good, ?_, ?_⟩
        ·rw [show S.getD k ⟨0, 0, 0, ByteArray.empty⟩ = s from HGD.out, HWG.out]; simp
        ·rw [show S.getD k ⟨0, 0, 0, ByteArray.empty⟩ = s from HGD.out, HWG.out]
       go_wp2_with fail
       go_ret3
       exact ⟨m + 1, k, pw, rfl, HC.out, HM3.out.bel⟩
      | zero =>
       obtain ⟨g, cc, hlk⟩ := HL3.out rfl
       have HLK := hidc hlk
       have hcl : (codeI s.code).length ≤ 120 := Nat.le_trans (splitF_len s.code s.code.size 0) q4.2
       clear hlk HL3
       go_wp2_with fail
       refine (look_named HLK.out hcl).mono ?_
       rintro e w4 ⟨v, rfl, hown, hb4⟩
       obtain ⟨va, vc, rfl⟩ := row_form hown
       have HM4 := hidc (HM3.out.below hb4)
       have HNU := hidc (nums_of_row hown)
       have hN3 : w1.heap.size < w3.heap.size := blt HM3.out.names
       have HNE : Hid (∀ a n c g, Value.slice va (namedL (codeI s.code)).length vc = .slice (some ⟨g, a, none⟩) n c → g ≠ w1.heap.size) := by
        intro a n c g e
        have := (hown.lt g (by rw [e]; rfl)).1
        omega
       have n0 : w4.cell? ⟨w1.heap.size, k, none⟩ = some (ncs[k]'(by rw [HM.out.size]; exact HKL.out)) := by rw [cell_of_block HM4.out.names]; simp
       have n1 : w4.frozen? ⟨w1.heap.size, k, none⟩ = false := unfrozen_of_block HM4.out.names k
       have HW0 : Hid ((wholeE S s).1 = 0) := by show (wholeE S s).1 = 0; rw [HWG.out]
       clear hown hb4
       go_wp2_with fail
       go_roundw
       case rel => exact ⟨k + 1, _, by omega, by go_num, HM4.out.step HSK.out HW0.out HNU.out HNE.out⟩
       case measure => simp [intOf]; omega
     case geight =>
      simp only [aD, aE, aF]
      go_simp
      obtain ⟨s0, s1, s2, s3, s4⟩ := hHeld
      refine hK.out _ _ ⟨(cell_al _ (by first | (simp; done) | (simp; omega))).trans s0, (cell_al _ (by first | (simp; done) | (simp; omega))).trans s1, (cell_al _ (by first | (simp; done) | (simp; omega))).trans s2, (cell_al _ (by first | (simp; done) | (simp; omega))).trans s3, (cell_al _ (by first | (simp; done) | (simp; omega))).trans s4⟩ (fun hHeld => ?_)
      clear hK
      refine rd 6 rfl (fun K hK => ?_)
      simp only [aD, aE, aF]
      go_simp
      obtain ⟨s0, s1, s2, s3, s4⟩ := hHeld
      refine hK.out _ _ ⟨(cell_al _ (by first | (simp; done) | (simp; omega))).trans s0, (cell_al _ (by first | (simp; done) | (simp; omega))).trans s1, (cell_al _ (by first | (simp; done) | (simp; omega))).trans s2, (cell_al _ (by first | (simp; done) | (simp; omega))).trans s3, (cell_al _ (by first | (simp; done) | (simp; omega))).trans s4⟩ (fun hHeld => ?_)
      clear hK
      refine tk 7 ?vc7 rfl ?hyc7 hHeld ?restc7
      case hyc7 => rintro w ⟨s0, s1, s2, s3, s4⟩; go_simp; try with_reducible rfl
      simp only [Act.put, aA, aB, aC, aD, aE, aF]
      refine rd 9 rfl (fun K hK => ?_)
      simp only [aD, aE, aF]
      go_simp
      refine hK.out _ _ ⟨(cell_al _ (by first | (simp; done) | (simp; omega))).trans ((cell_al _ (by first | (simp; done) | (simp; omega))).trans ((cell_al _ m2).trans m0)), (cell_al _ (by first | (simp; done) | (simp; omega))).trans ((cell_al _ (by first | (simp; done) | (simp; omega))).trans (cell_nw rfl rfl)), (cell_al _ (by first | (simp; done) | (simp; omega))).trans ((cell_al _ (by first | (simp; done) | (simp; omega))).trans (cell_nw rfl rfl)), (cell_al _ (by first | (simp; done) | (simp; omega))).trans ((cell_al _ (by first | (simp; done) | (simp; omega))).trans (cell_nw rfl rfl)), (cell_al _ (by first | (simp; done) | (simp; omega))).trans ((cell_al _ (by first | (simp; done) | (simp; omega))).trans (cell_nw rfl rfl))⟩ (fun hHeld => ?_)
      clear hK hHeld
      refine wpAnyH_done (by kernel_rfl) ?_ _
      have HBq : Hid (Below wr.heap.size wr ((((wr.alloc (.cells #[.int .i64 s.i, .int .i64 s.o, .int .i64 s.m, .string s.code] 65)).alloc (.cells #[.slice (some ⟨b, off, none⟩) S.length cap, .int .i64 s.i, .int .i64 s.o, .int .i64 s.m, .string s.code, .slice none 0 0, .slice (some ⟨wr.heap.size + 1 + 1, 0, none⟩) s.code.size s.code.size] 104)).alloc (.cells (spanM s.code.size) 141)).drew)) := ((below2 _ _ _).alloc (by simp; omega) _).drew
      have HFr : Hid (Fresh ((((wr.alloc (.cells #[.int .i64 s.i, .int .i64 s.o, .int .i64 s.m, .string s.code] 65)).alloc (.cells #[.slice (some ⟨b, off, none⟩) S.length cap, .int .i64 s.i, .int .i64 s.o, .int .i64 s.m, .string s.code, .slice none 0 0, .slice (some ⟨wr.heap.size + 1 + 1, 0, none⟩) s.code.size s.code.size] 104)).alloc (.cells (spanM s.code.size) 141)).drew) (wr.heap.size + 1) (wr.heap.size + 1 + 1) S s b off cap (spanM s.code.size)) :=
       ⟨(Below.heap_alloc _ _ _ (by simp)).trans (blk_top (wr.alloc (.cells #[.int .i64 s.i, .int .i64 s.o, .int .i64 s.m, .string s.code] 65)) _ (by simp)), blk_top _ _ (by simp), size_madeCells _ _, fun p hp => spanM_at _ p hp, (HS.out.below hb HM.out.bel).below hbr HBq.out, (HR.out.below h00 HM.out.bel).below (by omega) HBq.out, by omega, by omega, by omega, by omega, by omega⟩
      clear c0 c1 c2 c3 m0 m1
      generalize ((((wr.alloc (.cells #[.int .i64 s.i, .int .i64 s.o, .int .i64 s.m, .string s.code] 65)).alloc (.cells #[.slice (some ⟨b, off, none⟩) S.length cap, .int .i64 s.i, .int .i64 s.o, .int .i64 s.m, .string s.code, .slice none 0 0, .slice (some ⟨wr.heap.size + 1 + 1, 0, none⟩) s.code.size s.code.size] 104)).alloc (.cells (spanM s.code.size) 141)).drew) = wq at *
      go_wp2_with fail
      refine (look_whole (B := wr.heap.size) HFr.out (by omega) (by omega) HAL.out HSB.out).mono ?_
      rintro e w3 ⟨rfl, hb3, hl3⟩
      have HB3 := hidc (HBq.out.trans hb3)
      have HM3 := hidc (HM.out.below HB3.out)
      have HL3 := hidc hl3
      have HGD := hidc (show S.getD k sec0 = s by simp [List.getD, HSK.out])
      have HKL := hidc hlt
      clear hb3 hl3
      have hwe : (wholeE S s).1 ≤ 20 := wholeE_le S s
      generalize hwg : wholeE S s = we at *
      obtain ⟨ew, pw⟩ := we
      have HWG := hidc hwg
      clear hwg
      simp only at hwe
      cases ew with
      | succ m =>
       have hm : (((m + 1 : Nat) : Int) == 0) = false := by simp; omega
       have HC : Hid (CheckIs S d (m + 1) k pw) := by
        show CheckIs S d (m + 1) k pw
        unfold CheckIs
        rw [if_neg (by rw [HFIT.out]; simp), if_neg HFS.out]
        refine .inl ⟨HKL.out, HM.out.good, ?_, ?_⟩
        ·rw [show S.getD k ⟨0, 0, 0, ByteArray.empty⟩ = s from HGD.out, HWG.out]; simp
        ·rw [show S.getD k ⟨0, 0, 0, ByteArray.empty⟩ = s from HGD.out, HWG.out]
       go_wp2_with fail
       go_ret3
       exact ⟨m + 1, k, pw, rfl, HC.out, HM3.out.bel⟩
      | zero =>
       obtain ⟨g, cc, hlk⟩ := HL3.out rfl
       have HLK := hidc hlk
       have hcl : (codeI s.code).length ≤ 120 := Nat.le_trans (splitF_len s.code s.code.size 0) q4.2
       clear hlk HL3
       go_wp2_with fail
       refine (look_named HLK.out hcl).mono ?_
       rintro e w4 ⟨v, rfl, hown, hb4⟩
       obtain ⟨va, vc, rfl⟩ := row_form hown
       have HM4 := hidc (HM3.out.below hb4)
       have HNU := hidc (nums_of_row hown)
       have hN3 : w1.heap.size < w3.heap.size := blt HM3.out.names
       have HNE : Hid (∀ a n c g, Value.slice va (namedL (codeI s.code)).length vc = .slice (some ⟨g, a, none⟩) n c → g ≠ w1.heap.size) := by
        intro a n c g e
        have := (hown.lt g (by rw [e]; rfl)).1
        omega
       have n0 : w4.cell? ⟨w1.heap.size, k, none⟩ = some (ncs[k]'(by rw [HM.out.size]; exact HKL.out)) := by rw [cell_of_block HM4.out.names]; simp
       have n1 : w4.frozen? ⟨w1.heap.size, k, none⟩ = false := unfrozen_of_block HM4.out.names k
       have HW0 : Hid ((wholeE S s).1 = 0) := by show (wholeE S s).1 = 0; rw [HWG.out]
       clear hown hb4
       go_wp2_with fail
       go_roundw
       case rel => exact ⟨k + 1, _, by omega, by go_num, HM4.out.step HSK.out HW0.out HNU.out HNE.out⟩
       case measure => simp [intOf]; omega
    ·skip
     have hkl : k = S.length := by omega
     subst hkl
     go_wp2_with fail
     refine (check_uses_n wr w1.heap.size _ S.length (nmsS S) (by simp [nmsS]) HM.out.namesAt (by omega) (HM.out.small HAL.out).1 (HM.out.small HAL.out).2).mono ?_
     rintro e w5 ⟨us, rfl, hub, hul, hur, hb5⟩
     have HUB := hidc hub
     have HUR := hidc hur
     have HB5 := hidc (HM.out.bel.trans (hb5.mono hszr))
     have HUL := hidc hul
     clear hub hur hb5 hul m0 m1 m2 m3 hszr
     generalize wr.heap.size = U at *
     go_wp2_with fail
     go_loopw [67] (fun iv w' => ∃ k : Nat, k ≤ S.length ∧ iv = .int .i64 k ∧ Hid (∀ j, j < k → us.getD j false = true) ∧ w' = w5) (fun iv _ => S.length - (intOf iv).toNat)
     case atStart => exact ⟨0, Nat.zero_le _, rfl, fun j hj => by omega, rfl⟩
     case round =>
      obtain ⟨k, hk2, rfl, HUK, rfl⟩ := hrel
      by_cases hlt2 : k < S.length
      ·have cu : wr.cell? ⟨U, k, none⟩ = some (.bool (us.getD k false)) := by rw [cell_of_block HUB.out]; exact bV_get us k (by rw [HUL.out]; exact hlt2)
       cases hu : us.getD k false
       ·rw [hu] at cu
        have HC : Hid (CheckIs S d 17 k 0) := by
         show CheckIs S d 17 k 0
         unfold CheckIs
         rw [if_neg (by rw [HFIT.out]; simp), if_neg HFS.out]
         refine .inr ⟨HM.out.good, rfl, .inl ⟨rfl, hlt2, ?_, fun j hj => (used_iff S j).2 ((HUR.out j).1 (HUK.out j hj))⟩⟩
         intro h
         have := (HUR.out k).2 ((used_iff S k).1 h)
         rw [hu] at this
         cases this
        go_wp2_with fail
        go_ret3
        exact ⟨17, k, 0, rfl, HC.out, HB5.out⟩
       ·rw [hu] at cu
        go_wp2_with fail
        go_roundw
        case rel =>
         refine ⟨k + 1, by omega, by go_num, fun j hj => ?_, by trivial⟩
         rcases Nat.lt_or_ge j k with h | h
         ·exact HUK.out j h
         ·rw [show j = k by omega]; exact hu
        case measure => simp [intOf]; omega
      ·have hke : k = S.length := by omega
       subst hke
       have HC : Hid (CheckIs S d 0 0 0) := by
        show CheckIs S d 0 0 0
        unfold CheckIs
        rw [if_neg (by rw [HFIT.out]; simp), if_neg HFS.out]
        exact .inr ⟨HM.out.good, rfl, .inr ⟨rfl, rfl, fun j hj => (used_iff S j).2 ((HUR.out j).1 (HUK.out j hj))⟩⟩
       go_wp2_with fail
       go_ret3
       exact ⟨0, 0, 0, rfl, HC.out, HB5.out⟩
end Go.Proofs.YtdhmandnamajpaaGreatDoor
namespace Go.Proofs.YtdhmandnamajpaaGreatDoor
open Go.RowKit Go.Joins
set_option maxHeartbeats 1000000
end Go.Proofs.YtdhmandnamajpaaGreatDoor
namespace Go.Proofs.YtdhmandnamajpaaGreatDoor
open Go.RowKit Go.Joins
def RdAt (w : World) (r : Nat) (b : ByteArray) (p : Nat) (e : Int) : Prop :=
 w.heap[r]? = some (.cells #[.string (b.extract p b.size), .int .i64 e] 94 (0, 0))
theorem RdAt.facts {w : World} {r : Nat} {b : ByteArray} {p : Nat} {e : Int} (h : RdAt w r b p e) :
  w.cell? ⟨r, 0, none⟩ = some (.string (b.extract p b.size)) ∧ w.cell? ⟨r, 1, none⟩ = some (.int .i64 e) ∧ w.frozen? ⟨r, 0, none⟩ = false ∧ w.frozen? ⟨r, 1, none⟩ = false ∧ r < w.heap.size := by
 refine ⟨by rw [cell_of_block h]; rfl, by rw [cell_of_block h]; rfl, unfrozen_of_block h 0, unfrozen_of_block h 1, ?_⟩
 rcases Nat.lt_or_ge r w.heap.size with hlt | hge
 ·exact hlt
 ·unfold RdAt at h; rw [Array.getElem?_eq_none hge] at h; cases h
theorem grown_refl (w : World) (row : Option Nat) : w.grownBy w row := ⟨rfl, rfl, rfl, Nat.le_refl _, fun _ _ _ => rfl⟩
theorem grown_set (w : World) (r i : Nat) (v : Value) : w.grownBy (w.setCell ⟨r, i, none⟩ v) (some r) where
 os := rfl
 tape := rfl
 output := rfl
 size := by simp [World.setCell]
 block := fun k _ hne => Below.heap_setCell _ _ _ _ (fun e => hne (by rw [e]))
theorem grown_trans {a b c : World} {row : Option Nat} (h : a.grownBy b row) (k : b.grownBy c row) : a.grownBy c row where
 os := k.os.trans h.os
 tape := k.tape.trans h.tape
 output := k.output.trans h.output
 size := Nat.le_trans h.size k.size
 block := fun i hi hne => (k.block i (Nat.lt_of_lt_of_le hi h.size) hne).trans (h.block i hi hne)
theorem rd_set0 {w : World} {r : Nat} {b : ByteArray} {p : Nat} {e : Int} (h : RdAt w r b p e) (q : Nat) : RdAt (w.setCell ⟨r, 0, none⟩ (.string (b.extract q b.size))) r b q e := block_setCell h _
theorem rd_set1 {w : World} {r : Nat} {b : ByteArray} {p : Nat} {e : Int} (h : RdAt w r b p e) (e' : Int) : RdAt (w.setCell ⟨r, 1, none⟩ (.int .i64 e')) r b p e' := block_setCell h _
set_option maxHeartbeats 400000
theorem take_err (b : ByteArray) (r p k : Nat) (e : Int) (w : World) (h : RdAt w r b p e) (he : (e == 0) = false) :
  Calls Tryz.prog 75 #[.pointer (some ⟨r, 0, none⟩), .int .i64 k] w fun x w' => x = .returned (.string ByteArray.empty) ∧ w' = w := by
 obtain ⟨c0, c1, f0, f1, hr⟩ := h.facts
 clear h
 go_enter Tryz.func75, Tryz.ntmps75
 go_wp2
 go_ret
 exact ⟨rfl, rfl⟩
theorem take_short (b : ByteArray) (r p k : Nat) (w : World) (h : RdAt w r b p 0) (hp : p ≤ b.size) (hs : b.size < p + k) :
  Calls Tryz.prog 75 #[.pointer (some ⟨r, 0, none⟩), .int .i64 k] w fun x w' => x = .returned (.string ByteArray.empty) ∧ RdAt w' r b p 2 ∧ w.grownBy w' (some r) := by
 obtain ⟨c0, c1, f0, f1, hr⟩ := h.facts
 have HR : Hid (RdAt w r b p 0) := h
 have hsz := ext_size b p
 clear h
 go_enter Tryz.func75, Tryz.ntmps75
 go_wp2
 go_ret
 exact ⟨rfl, rd_set1 HR.out 2, grown_set _ _ _ _⟩
theorem take_ok (b : ByteArray) (r p k : Nat) (w : World) (h : RdAt w r b p 0) (hk : k ≤ 70000) (hs : p + k ≤ b.size) :
  Calls Tryz.prog 75 #[.pointer (some ⟨r, 0, none⟩), .int .i64 k] w fun x w' => x = .returned (.string (b.extract p (p + k))) ∧ RdAt w' r b (p + k) 0 ∧ w.grownBy w' (some r) := by
 obtain ⟨c0, c1, f0, f1, hr⟩ := h.facts
 have HR : Hid (RdAt w r b p 0) := h
 have hsz := ext_size b p
 have e1 := ext_ext b p 0 k hs
 have e2 := ext_ext b p k (b.size - p) (by omega)
 rw [show p + (b.size - p) = b.size by omega] at e2
 simp only [Nat.add_zero] at e1
 clear h
 go_enter Tryz.func75, Tryz.ntmps75
 go_wp2
 go_ret
 exact ⟨rfl, rd_set0 HR.out _, grown_set _ _ _ _⟩
end Go.Proofs.YtdhmandnamajpaaGreatDoor
