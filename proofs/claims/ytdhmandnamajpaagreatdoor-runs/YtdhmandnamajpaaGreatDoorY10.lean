import Derived.Test.YtdhmandnamajpaaGreatDoorY00
import Derived.Test.YtdhmandnamajpaaGreatDoorY06
import Derived.Test.YtdhmandnamajpaaGreatDoorY09
namespace Go.Proofs.YtdhmandnamajpaaGreatDoor
open Go.RowKit Go.Joins
set_option maxHeartbeats 1000000
set_option maxRecDepth 4000
theorem Tryz.infoRFrame : (Tryz.prog.info? 161).map (fun i => (i.zero, i.size, i.bytes)) = some (some (.agg #[.int .i64 0, .int .i64 0, .int .i64 0]), 3, 24) := by kernel_rfl
theorem Tryz.infoStep : (Tryz.prog.info? 63).map (fun i => (i.zero, i.size, i.bytes)) = some (some (.agg #[.int .i64 0, .int .i64 0, .int .i64 0]), 3, 24) := by kernel_rfl
def tV : List (Nat × Nat × Int) → List Value
 | [] => []
 | f :: r => .int .i64 (f.1 : Nat) :: .int .i64 (f.2.1 : Nat) :: .int .i64 f.2.2 :: tV r
theorem tV_append (a b : List (Nat × Nat × Int)) : tV (a ++ b) = tV a ++ tV b := by
 induction a with
 | nil => rfl
 | cons f r ih => simp [tV, ih]
structure RV where
 st : Value
 fr : Value
 out : Value
 te : Value
structure Rum (w0 w : World) (M B : Nat) (sv : Value) (d : ByteArray) (m : MS) (T : List (Nat × Nat × Int)) (V : RV) : Prop where
 blk : ∃ cs, w.heap[M]? = some (.cells cs 60 (0, 0)) ∧ cs.size = 30
 c0 : w.cell? ⟨M, 0, none⟩ = some sv
 c1 : w.cell? ⟨M, 1, none⟩ = some (.string d)
 c2 : w.cell? ⟨M, 2, none⟩ = some (.int .i64 (m.sec : Nat))
 c3 : w.cell? ⟨M, 3, none⟩ = some (.int .i64 (m.pl : Nat))
 c4 : w.cell? ⟨M, 4, none⟩ = some (.int .i64 (m.base : Nat))
 c5 : w.cell? ⟨M, 5, none⟩ = some V.st
 c6 : w.cell? ⟨M, 6, none⟩ = some V.fr
 cm : ∀ a, a < 16 → w.cell? ⟨M, 7 + a, none⟩ = some (.int .i64 (m.mem.getD a 0 : Nat))
 c23 : w.cell? ⟨M, 23, none⟩ = some (.bool m.fin.isSome)
 c24 : w.cell? ⟨M, 24, none⟩ = some (.bool false)
 c25 : w.cell? ⟨M, 25, none⟩ = some (.int .i64 (endOf m : Nat))
 c26 : w.cell? ⟨M, 26, none⟩ = some V.out
 c27 : w.cell? ⟨M, 27, none⟩ = some (.int .i64 (m.gas : Nat))
 c28 : w.cell? ⟨M, 28, none⟩ = some (.int .i64 (m.steps : Nat))
 c29 : w.cell? ⟨M, 29, none⟩ = some V.te
 st : w.ownsRow B 3 1 V.st m.st.length (nV m.st)
 fr : w.ownsRow B 161 3 V.fr m.fr.length (fV m.fr)
 out : w.ownsRow B 3 1 V.out m.out.length (nV m.out)
 te : w.ownsRow B 63 3 V.te T.length (tV T)
 dis : V.st.ownBlock = none ∨ V.st.ownBlock ≠ V.out.ownBlock
 kp : Kp B M w0 w
 lt : M < B
 mlen : m.mem.length = 16
theorem Rum.size {w0 w : World} {M B : Nat} {sv : Value} {d : ByteArray} {m : MS} {T : List (Nat × Nat × Int)} {V : RV} (h : Rum w0 w M B sv d m T V) : M < w.heap.size := by obtain ⟨cs, e, _⟩ := h.blk; exact blt e
theorem Rum.froz {w0 w : World} {M B : Nat} {sv : Value} {d : ByteArray} {m : MS} {T : List (Nat × Nat × Int)} {V : RV} (h : Rum w0 w M B sv d m T V) (i : Nat) : w.frozen? ⟨M, i, none⟩ = false := by obtain ⟨cs, e, _⟩ := h.blk; exact unfrozen_of_block e i
theorem Rum.dis' {w0 w : World} {M B : Nat} {sv : Value} {d : ByteArray} {m : MS} {T : List (Nat × Nat × Int)} {V : RV} (h : Rum w0 w M B sv d m T V) : V.out.ownBlock = none ∨ V.out.ownBlock ≠ V.st.ownBlock := by
 rcases h.dis with e | e
 ·cases ho : V.out.ownBlock with
  | none => exact .inl rfl
  | some k => right; rw [e]; simp
 ·exact .inr e.symm
theorem Rum.below {w0 w w2 : World} {M B : Nat} {sv : Value} {d : ByteArray} {m : MS} {T : List (Nat × Nat × Int)} {V : RV} (h : Rum w0 w M B sv d m T V) (hb : Below w.heap.size w w2) (hB : B ≤ w.heap.size) : Rum w0 w2 M B sv d m T V := by
 obtain ⟨hc, _⟩ := bcell hb
 have hM := h.size
 obtain ⟨cs, e, e'⟩ := h.blk
 exact ⟨⟨cs, keepB hb e, e'⟩, (hc _ _ hM).trans h.c0, (hc _ _ hM).trans h.c1, (hc _ _ hM).trans h.c2, (hc _ _ hM).trans h.c3, (hc _ _ hM).trans h.c4, (hc _ _ hM).trans h.c5, (hc _ _ hM).trans h.c6, fun a ha => (hc _ _ hM).trans (h.cm a ha), (hc _ _ hM).trans h.c23, (hc _ _ hM).trans h.c24, (hc _ _ hM).trans h.c25, (hc _ _ hM).trans h.c26, (hc _ _ hM).trans h.c27, (hc _ _ hM).trans h.c28, (hc _ _ hM).trans h.c29, own_below h.st hb, own_below h.fr hb, own_below h.out hb, own_below h.te hb, h.dis, h.kp.trans ((Kp.of hb M).mono hB), h.lt, h.mlen⟩
theorem Rum.set_sec {w0 w : World} {M B : Nat} {sv : Value} {d : ByteArray} {m : MS} {T : List (Nat × Nat × Int)} {V : RV} (h : Rum w0 w M B sv d m T V) (v : Nat) : Rum w0 (w.setCell ⟨M, 2, none⟩ (.int .i64 (v : Nat))) M B sv d { m with sec := v } T V := by
 obtain ⟨cs, e, e'⟩ := h.blk
 refine ⟨⟨_, block_setCell e _, by simp [e']⟩, (mset_other (adne (by omega))).trans h.c0, (mset_other (adne (by omega))).trans h.c1, mset_same h.c2, (mset_other (adne (by omega))).trans h.c3, (mset_other (adne (by omega))).trans h.c4, (mset_other (adne (by omega))).trans h.c5, (mset_other (adne (by omega))).trans h.c6, fun a ha => (mset_other (adne (by omega))).trans (h.cm a ha), (mset_other (adne (by omega))).trans h.c23, (mset_other (adne (by omega))).trans h.c24, (mset_other (adne (by omega))).trans h.c25, (mset_other (adne (by omega))).trans h.c26, (mset_other (adne (by omega))).trans h.c27, (mset_other (adne (by omega))).trans h.c28, (mset_other (adne (by omega))).trans h.c29, own_set h.st h.lt _ _, own_set h.fr h.lt _ _, own_set h.out h.lt _ _, own_set h.te h.lt _ _, h.dis, h.kp.set _ _, h.lt, h.mlen⟩
theorem Rum.set_pl {w0 w : World} {M B : Nat} {sv : Value} {d : ByteArray} {m : MS} {T : List (Nat × Nat × Int)} {V : RV} (h : Rum w0 w M B sv d m T V) (v : Nat) : Rum w0 (w.setCell ⟨M, 3, none⟩ (.int .i64 (v : Nat))) M B sv d { m with pl := v } T V := by
 obtain ⟨cs, e, e'⟩ := h.blk
 refine ⟨⟨_, block_setCell e _, by simp [e']⟩, (mset_other (adne (by omega))).trans h.c0, (mset_other (adne (by omega))).trans h.c1, (mset_other (adne (by omega))).trans h.c2, mset_same h.c3, (mset_other (adne (by omega))).trans h.c4, (mset_other (adne (by omega))).trans h.c5, (mset_other (adne (by omega))).trans h.c6, fun a ha => (mset_other (adne (by omega))).trans (h.cm a ha), (mset_other (adne (by omega))).trans h.c23, (mset_other (adne (by omega))).trans h.c24, (mset_other (adne (by omega))).trans h.c25, (mset_other (adne (by omega))).trans h.c26, (mset_other (adne (by omega))).trans h.c27, (mset_other (adne (by omega))).trans h.c28, (mset_other (adne (by omega))).trans h.c29, own_set h.st h.lt _ _, own_set h.fr h.lt _ _, own_set h.out h.lt _ _, own_set h.te h.lt _ _, h.dis, h.kp.set _ _, h.lt, h.mlen⟩
theorem Rum.set_base {w0 w : World} {M B : Nat} {sv : Value} {d : ByteArray} {m : MS} {T : List (Nat × Nat × Int)} {V : RV} (h : Rum w0 w M B sv d m T V) (v : Nat) : Rum w0 (w.setCell ⟨M, 4, none⟩ (.int .i64 (v : Nat))) M B sv d { m with base := v } T V := by
 obtain ⟨cs, e, e'⟩ := h.blk
 refine ⟨⟨_, block_setCell e _, by simp [e']⟩, (mset_other (adne (by omega))).trans h.c0, (mset_other (adne (by omega))).trans h.c1, (mset_other (adne (by omega))).trans h.c2, (mset_other (adne (by omega))).trans h.c3, mset_same h.c4, (mset_other (adne (by omega))).trans h.c5, (mset_other (adne (by omega))).trans h.c6, fun a ha => (mset_other (adne (by omega))).trans (h.cm a ha), (mset_other (adne (by omega))).trans h.c23, (mset_other (adne (by omega))).trans h.c24, (mset_other (adne (by omega))).trans h.c25, (mset_other (adne (by omega))).trans h.c26, (mset_other (adne (by omega))).trans h.c27, (mset_other (adne (by omega))).trans h.c28, (mset_other (adne (by omega))).trans h.c29, own_set h.st h.lt _ _, own_set h.fr h.lt _ _, own_set h.out h.lt _ _, own_set h.te h.lt _ _, h.dis, h.kp.set _ _, h.lt, h.mlen⟩
theorem Rum.set_gas {w0 w : World} {M B : Nat} {sv : Value} {d : ByteArray} {m : MS} {T : List (Nat × Nat × Int)} {V : RV} (h : Rum w0 w M B sv d m T V) (v : Nat) : Rum w0 (w.setCell ⟨M, 27, none⟩ (.int .i64 (v : Nat))) M B sv d { m with gas := v } T V := by
 obtain ⟨cs, e, e'⟩ := h.blk
 refine ⟨⟨_, block_setCell e _, by simp [e']⟩, (mset_other (adne (by omega))).trans h.c0, (mset_other (adne (by omega))).trans h.c1, (mset_other (adne (by omega))).trans h.c2, (mset_other (adne (by omega))).trans h.c3, (mset_other (adne (by omega))).trans h.c4, (mset_other (adne (by omega))).trans h.c5, (mset_other (adne (by omega))).trans h.c6, fun a ha => (mset_other (adne (by omega))).trans (h.cm a ha), (mset_other (adne (by omega))).trans h.c23, (mset_other (adne (by omega))).trans h.c24, (mset_other (adne (by omega))).trans h.c25, (mset_other (adne (by omega))).trans h.c26, mset_same h.c27, (mset_other (adne (by omega))).trans h.c28, (mset_other (adne (by omega))).trans h.c29, own_set h.st h.lt _ _, own_set h.fr h.lt _ _, own_set h.out h.lt _ _, own_set h.te h.lt _ _, h.dis, h.kp.set _ _, h.lt, h.mlen⟩
theorem Rum.set_steps {w0 w : World} {M B : Nat} {sv : Value} {d : ByteArray} {m : MS} {T : List (Nat × Nat × Int)} {V : RV} (h : Rum w0 w M B sv d m T V) (v : Nat) : Rum w0 (w.setCell ⟨M, 28, none⟩ (.int .i64 (v : Nat))) M B sv d { m with steps := v } T V := by
 obtain ⟨cs, e, e'⟩ := h.blk
 refine ⟨⟨_, block_setCell e _, by simp [e']⟩, (mset_other (adne (by omega))).trans h.c0, (mset_other (adne (by omega))).trans h.c1, (mset_other (adne (by omega))).trans h.c2, (mset_other (adne (by omega))).trans h.c3, (mset_other (adne (by omega))).trans h.c4, (mset_other (adne (by omega))).trans h.c5, (mset_other (adne (by omega))).trans h.c6, fun a ha => (mset_other (adne (by omega))).trans (h.cm a ha), (mset_other (adne (by omega))).trans h.c23, (mset_other (adne (by omega))).trans h.c24, (mset_other (adne (by omega))).trans h.c25, (mset_other (adne (by omega))).trans h.c26, (mset_other (adne (by omega))).trans h.c27, mset_same h.c28, (mset_other (adne (by omega))).trans h.c29, own_set h.st h.lt _ _, own_set h.fr h.lt _ _, own_set h.out h.lt _ _, own_set h.te h.lt _ _, h.dis, h.kp.set _ _, h.lt, h.mlen⟩
theorem Rum.set_end {w0 w : World} {M B : Nat} {sv : Value} {d : ByteArray} {m : MS} {T : List (Nat × Nat × Int)} {V : RV} (h : Rum w0 w M B sv d m T V) (v : Nat) : Rum w0 ((w.setCell ⟨M, 23, none⟩ (.bool true)).setCell ⟨M, 25, none⟩ (.int .i64 (v : Nat))) M B sv d { m with fin := some v } T V := by
 obtain ⟨cs, e, e'⟩ := h.blk
 refine ⟨⟨_, block_setCell (block_setCell e _) _, by simp [e']⟩, (mset_other (adne (by omega))).trans ((mset_other (adne (by omega))).trans h.c0), (mset_other (adne (by omega))).trans ((mset_other (adne (by omega))).trans h.c1), (mset_other (adne (by omega))).trans ((mset_other (adne (by omega))).trans h.c2), (mset_other (adne (by omega))).trans ((mset_other (adne (by omega))).trans h.c3), (mset_other (adne (by omega))).trans ((mset_other (adne (by omega))).trans h.c4), (mset_other (adne (by omega))).trans ((mset_other (adne (by omega))).trans h.c5), (mset_other (adne (by omega))).trans ((mset_other (adne (by omega))).trans h.c6), fun a ha => (mset_other (adne (by omega))).trans ((mset_other (adne (by omega))).trans (h.cm a ha)), (mset_other (adne (by omega))).trans (mset_same h.c23), (mset_other (adne (by omega))).trans ((mset_other (adne (by omega))).trans h.c24), mset_same ((mset_other (adne (by omega))).trans h.c25), (mset_other (adne (by omega))).trans ((mset_other (adne (by omega))).trans h.c26), (mset_other (adne (by omega))).trans ((mset_other (adne (by omega))).trans h.c27), (mset_other (adne (by omega))).trans ((mset_other (adne (by omega))).trans h.c28), (mset_other (adne (by omega))).trans ((mset_other (adne (by omega))).trans h.c29), own_set (own_set h.st h.lt _ _) h.lt _ _, own_set (own_set h.fr h.lt _ _) h.lt _ _, own_set (own_set h.out h.lt _ _) h.lt _ _, own_set (own_set h.te h.lt _ _) h.lt _ _, h.dis, (h.kp.set _ _).set _ _, h.lt, h.mlen⟩
theorem Rum.set_mem {w0 w : World} {M B : Nat} {sv : Value} {d : ByteArray} {m : MS} {T : List (Nat × Nat × Int)} {V : RV} (h : Rum w0 w M B sv d m T V) (a v : Nat) (ha : a < 16) : Rum w0 (w.setCell ⟨M, 7 + a, none⟩ (.int .i64 (v : Nat))) M B sv d { m with mem := m.mem.set a v } T V := by
 obtain ⟨cs, e, e'⟩ := h.blk
 refine ⟨⟨_, block_setCell e _, by simp [e']⟩, (mset_other (adne (by omega))).trans h.c0, (mset_other (adne (by omega))).trans h.c1, (mset_other (adne (by omega))).trans h.c2, (mset_other (adne (by omega))).trans h.c3, (mset_other (adne (by omega))).trans h.c4, (mset_other (adne (by omega))).trans h.c5, (mset_other (adne (by omega))).trans h.c6, fun b hb => ?_, (mset_other (adne (by omega))).trans h.c23, (mset_other (adne (by omega))).trans h.c24, (mset_other (adne (by omega))).trans h.c25, (mset_other (adne (by omega))).trans h.c26, (mset_other (adne (by omega))).trans h.c27, (mset_other (adne (by omega))).trans h.c28, (mset_other (adne (by omega))).trans h.c29, own_set h.st h.lt _ _, own_set h.fr h.lt _ _, own_set h.out h.lt _ _, own_set h.te h.lt _ _, h.dis, h.kp.set _ _, h.lt, by simp [h.mlen]⟩
 by_cases hab : a = b
 ·subst hab
  rw [mset_same (h.cm a ha)]
  simp [List.getD, h.mlen, ha]
 ·rw [mset_other (adne (by omega)), h.cm b hb]
  simp [List.getD, List.getElem?_set_ne hab]
theorem Rum.grown {w0 w w' : World} {M B : Nat} {sv : Value} {d : ByteArray} {m : MS} {T : List (Nat × Nat × Int)} {V : RV} (h : Rum w0 w M B sv d m T V) {v : Value} (hg : w.grownBy w' v.ownBlock) (hB : B ≤ w.heap.size) (hv : ∀ k, v.ownBlock = some k → B ≤ k) :
  (∀ i, w'.cell? ⟨M, i, none⟩ = w.cell? ⟨M, i, none⟩) ∧ (∃ cs, w'.heap[M]? = some (.cells cs 60 (0, 0)) ∧ cs.size = 30) ∧ Kp B M w0 w' := by
 have hM := h.size
 have hne : v.ownBlock ≠ some M := fun e => by have := hv M e; have := h.lt; omega
 obtain ⟨cs, e, e'⟩ := h.blk
 refine ⟨fun i => World.cell?_of_block (w := w) (hg.block M hM hne.symm), ⟨cs, (hg.block M hM hne.symm).trans e, e'⟩, h.kp.trans ?_⟩
 refine ⟨hg.os, hg.tape, hg.output, hg.size, fun k hk hne2 => hg.block k (by omega) ?_⟩
 intro e2
 have := hv k e2.symm
 omega
theorem own_lt {w : World} {B e s n : Nat} {v : Value} {xs : List Value} (h : w.ownsRow B e s v n xs) {k : Nat} (hk : v.ownBlock = some k) : k < w.heap.size := (h.lt k hk).2
theorem ne_grown {w : World} {B e s n g c k : Nat} {v u : Value} {xs : List Value} (h : w.ownsRow B e s u n xs) (hd : u.ownBlock = none ∨ u.ownBlock ≠ v.ownBlock) (hat : v.ownBlock = some g ∨ g = w.heap.size) : u.ownBlock = none ∨ u.ownBlock ≠ (Value.slice (some ⟨g, 0, none⟩) k c).ownBlock := by
 rcases hd with e | e
 ·exact .inl e
 ·right
  show u.ownBlock ≠ some g
  intro e2
  rcases hat with q | q
  ·exact e (e2.trans q.symm)
  ·have := own_lt h e2; omega
theorem Rum.grow_st {w0 w w' : World} {M B : Nat} {sv : Value} {d : ByteArray} {m : MS} {T : List (Nat × Nat × Int)} {V : RV} (h : Rum w0 w M B sv d m T V) (hB : B ≤ w.heap.size) (g c : Nat) (l : List Nat) (hg : w.grownBy w' V.st.ownBlock) (hr : w'.ownsRow B 3 1 (.slice (some ⟨g, 0, none⟩) l.length c) l.length (nV l)) (hat : V.st.ownBlock = some g ∨ g = w.heap.size) : Rum w0 (w'.setCell ⟨M, 5, none⟩ (.slice (some ⟨g, 0, none⟩) l.length c)) M B sv d { m with st := l } T { V with st := .slice (some ⟨g, 0, none⟩) l.length c } := by
 obtain ⟨hc, ⟨cs, e, e'⟩, hk⟩ := h.grown hg hB (fun k hk => (h.st.lt k hk).1)
 refine ⟨⟨_, block_setCell e _, by simp [e']⟩, (mset_other (adne (by omega))).trans ((hc _).trans h.c0), (mset_other (adne (by omega))).trans ((hc _).trans h.c1), (mset_other (adne (by omega))).trans ((hc _).trans h.c2), (mset_other (adne (by omega))).trans ((hc _).trans h.c3), (mset_other (adne (by omega))).trans ((hc _).trans h.c4), mset_same ((hc _).trans h.c5), (mset_other (adne (by omega))).trans ((hc _).trans h.c6), fun a ha => (mset_other (adne (by omega))).trans ((hc _).trans (h.cm a ha)), (mset_other (adne (by omega))).trans ((hc _).trans h.c23), (mset_other (adne (by omega))).trans ((hc _).trans h.c24), (mset_other (adne (by omega))).trans ((hc _).trans h.c25), (mset_other (adne (by omega))).trans ((hc _).trans h.c26), (mset_other (adne (by omega))).trans ((hc _).trans h.c27), (mset_other (adne (by omega))).trans ((hc _).trans h.c28), (mset_other (adne (by omega))).trans ((hc _).trans h.c29), own_set hr h.lt _ _, own_set (h.fr.kept hg (own_ne h.fr h.st (by decide))) h.lt _ _, own_set (h.out.kept hg h.dis') h.lt _ _, own_set (h.te.kept hg (own_ne h.te h.st (by decide))) h.lt _ _, ?_, hk.set _ _, h.lt, h.mlen⟩
 have := ne_grown (k := l.length) (c := c) h.out h.dis' hat
 rcases this with q | q
 ·right
  show (Value.slice (some ⟨g, 0, none⟩) l.length c).ownBlock ≠ V.out.ownBlock
  rw [q]; simp [Value.ownBlock]
 ·exact .inr q.symm
theorem Rum.grow_fr {w0 w w' : World} {M B : Nat} {sv : Value} {d : ByteArray} {m : MS} {T : List (Nat × Nat × Int)} {V : RV} (h : Rum w0 w M B sv d m T V) (hB : B ≤ w.heap.size) (g c : Nat) (l : List (Nat × Nat × Nat)) (hg : w.grownBy w' V.fr.ownBlock) (hr : w'.ownsRow B 161 3 (.slice (some ⟨g, 0, none⟩) l.length c) l.length (fV l)) (_hat : V.fr.ownBlock = some g ∨ g = w.heap.size) : Rum w0 (w'.setCell ⟨M, 6, none⟩ (.slice (some ⟨g, 0, none⟩) l.length c)) M B sv d { m with fr := l } T { V with fr := .slice (some ⟨g, 0, none⟩) l.length c } := by
 obtain ⟨hc, ⟨cs, e, e'⟩, hk⟩ := h.grown hg hB (fun k hk => (h.fr.lt k hk).1)
 refine ⟨⟨_, block_setCell e _, by simp [e']⟩, (mset_other (adne (by omega))).trans ((hc _).trans h.c0), (mset_other (adne (by omega))).trans ((hc _).trans h.c1), (mset_other (adne (by omega))).trans ((hc _).trans h.c2), (mset_other (adne (by omega))).trans ((hc _).trans h.c3), (mset_other (adne (by omega))).trans ((hc _).trans h.c4), (mset_other (adne (by omega))).trans ((hc _).trans h.c5), mset_same ((hc _).trans h.c6), fun a ha => (mset_other (adne (by omega))).trans ((hc _).trans (h.cm a ha)), (mset_other (adne (by omega))).trans ((hc _).trans h.c23), (mset_other (adne (by omega))).trans ((hc _).trans h.c24), (mset_other (adne (by omega))).trans ((hc _).trans h.c25), (mset_other (adne (by omega))).trans ((hc _).trans h.c26), (mset_other (adne (by omega))).trans ((hc _).trans h.c27), (mset_other (adne (by omega))).trans ((hc _).trans h.c28), (mset_other (adne (by omega))).trans ((hc _).trans h.c29), own_set (h.st.kept hg (own_ne h.st h.fr (by decide))) h.lt _ _, own_set hr h.lt _ _, own_set (h.out.kept hg (own_ne h.out h.fr (by decide))) h.lt _ _, own_set (h.te.kept hg (own_ne h.te h.fr (by decide))) h.lt _ _, h.dis, hk.set _ _, h.lt, h.mlen⟩
theorem Rum.grow_out {w0 w w' : World} {M B : Nat} {sv : Value} {d : ByteArray} {m : MS} {T : List (Nat × Nat × Int)} {V : RV} (h : Rum w0 w M B sv d m T V) (hB : B ≤ w.heap.size) (g c : Nat) (l : List Nat) (hg : w.grownBy w' V.out.ownBlock) (hr : w'.ownsRow B 3 1 (.slice (some ⟨g, 0, none⟩) l.length c) l.length (nV l)) (hat : V.out.ownBlock = some g ∨ g = w.heap.size) : Rum w0 (w'.setCell ⟨M, 26, none⟩ (.slice (some ⟨g, 0, none⟩) l.length c)) M B sv d { m with out := l } T { V with out := .slice (some ⟨g, 0, none⟩) l.length c } := by
 obtain ⟨hc, ⟨cs, e, e'⟩, hk⟩ := h.grown hg hB (fun k hk => (h.out.lt k hk).1)
 refine ⟨⟨_, block_setCell e _, by simp [e']⟩, (mset_other (adne (by omega))).trans ((hc _).trans h.c0), (mset_other (adne (by omega))).trans ((hc _).trans h.c1), (mset_other (adne (by omega))).trans ((hc _).trans h.c2), (mset_other (adne (by omega))).trans ((hc _).trans h.c3), (mset_other (adne (by omega))).trans ((hc _).trans h.c4), (mset_other (adne (by omega))).trans ((hc _).trans h.c5), (mset_other (adne (by omega))).trans ((hc _).trans h.c6), fun a ha => (mset_other (adne (by omega))).trans ((hc _).trans (h.cm a ha)), (mset_other (adne (by omega))).trans ((hc _).trans h.c23), (mset_other (adne (by omega))).trans ((hc _).trans h.c24), (mset_other (adne (by omega))).trans ((hc _).trans h.c25), mset_same ((hc _).trans h.c26), (mset_other (adne (by omega))).trans ((hc _).trans h.c27), (mset_other (adne (by omega))).trans ((hc _).trans h.c28), (mset_other (adne (by omega))).trans ((hc _).trans h.c29), own_set (h.st.kept hg h.dis) h.lt _ _, own_set (h.fr.kept hg (own_ne h.fr h.out (by decide))) h.lt _ _, own_set hr h.lt _ _, own_set (h.te.kept hg (own_ne h.te h.out (by decide))) h.lt _ _, ne_grown h.st h.dis hat, hk.set _ _, h.lt, h.mlen⟩
theorem Rum.grow_te {w0 w w' : World} {M B : Nat} {sv : Value} {d : ByteArray} {m : MS} {T : List (Nat × Nat × Int)} {V : RV} (h : Rum w0 w M B sv d m T V) (hB : B ≤ w.heap.size) (g c : Nat) (l : List (Nat × Nat × Int)) (hg : w.grownBy w' V.te.ownBlock) (hr : w'.ownsRow B 63 3 (.slice (some ⟨g, 0, none⟩) l.length c) l.length (tV l)) (_hat : V.te.ownBlock = some g ∨ g = w.heap.size) : Rum w0 (w'.setCell ⟨M, 29, none⟩ (.slice (some ⟨g, 0, none⟩) l.length c)) M B sv d m l { V with te := .slice (some ⟨g, 0, none⟩) l.length c } := by
 obtain ⟨hc, ⟨cs, e, e'⟩, hk⟩ := h.grown hg hB (fun k hk => (h.te.lt k hk).1)
 refine ⟨⟨_, block_setCell e _, by simp [e']⟩, (mset_other (adne (by omega))).trans ((hc _).trans h.c0), (mset_other (adne (by omega))).trans ((hc _).trans h.c1), (mset_other (adne (by omega))).trans ((hc _).trans h.c2), (mset_other (adne (by omega))).trans ((hc _).trans h.c3), (mset_other (adne (by omega))).trans ((hc _).trans h.c4), (mset_other (adne (by omega))).trans ((hc _).trans h.c5), (mset_other (adne (by omega))).trans ((hc _).trans h.c6), fun a ha => (mset_other (adne (by omega))).trans ((hc _).trans (h.cm a ha)), (mset_other (adne (by omega))).trans ((hc _).trans h.c23), (mset_other (adne (by omega))).trans ((hc _).trans h.c24), (mset_other (adne (by omega))).trans ((hc _).trans h.c25), (mset_other (adne (by omega))).trans ((hc _).trans h.c26), (mset_other (adne (by omega))).trans ((hc _).trans h.c27), (mset_other (adne (by omega))).trans ((hc _).trans h.c28), mset_same ((hc _).trans h.c29), own_set (h.st.kept hg (own_ne h.st h.te (by decide))) h.lt _ _, own_set (h.fr.kept hg (own_ne h.fr h.te (by decide))) h.lt _ _, own_set (h.out.kept hg (own_ne h.out h.te (by decide))) h.lt _ _, own_set hr h.lt _ _, h.dis, hk.set _ _, h.lt, h.mlen⟩
theorem Rum.cut_st {w0 w : World} {M B : Nat} {sv : Value} {d : ByteArray} {m : MS} {T : List (Nat × Nat × Int)} {V : RV} (h : Rum w0 w M B sv d m T V) (v : Value) (l : List Nat) (hr : w.ownsRow B 3 1 v l.length (nV l)) (hv : v.ownBlock = none ∨ v.ownBlock = V.st.ownBlock) : Rum w0 (w.setCell ⟨M, 5, none⟩ v) M B sv d { m with st := l } T { V with st := v } := by
 obtain ⟨cs, e, e'⟩ := h.blk
 refine ⟨⟨_, block_setCell e _, by simp [e']⟩, (mset_other (adne (by omega))).trans h.c0, (mset_other (adne (by omega))).trans h.c1, (mset_other (adne (by omega))).trans h.c2, (mset_other (adne (by omega))).trans h.c3, (mset_other (adne (by omega))).trans h.c4, mset_same h.c5, (mset_other (adne (by omega))).trans h.c6, fun a ha => (mset_other (adne (by omega))).trans (h.cm a ha), (mset_other (adne (by omega))).trans h.c23, (mset_other (adne (by omega))).trans h.c24, (mset_other (adne (by omega))).trans h.c25, (mset_other (adne (by omega))).trans h.c26, (mset_other (adne (by omega))).trans h.c27, (mset_other (adne (by omega))).trans h.c28, (mset_other (adne (by omega))).trans h.c29, own_set hr h.lt _ _, own_set h.fr h.lt _ _, own_set h.out h.lt _ _, own_set h.te h.lt _ _, hv.elim .inl (fun q => by show v.ownBlock = none ∨ v.ownBlock ≠ V.out.ownBlock; rw [q]; exact h.dis), h.kp.set _ _, h.lt, h.mlen⟩
theorem Rum.cut_fr {w0 w : World} {M B : Nat} {sv : Value} {d : ByteArray} {m : MS} {T : List (Nat × Nat × Int)} {V : RV} (h : Rum w0 w M B sv d m T V) (v : Value) (l : List (Nat × Nat × Nat)) (hr : w.ownsRow B 161 3 v l.length (fV l)) (_hv : v.ownBlock = none ∨ v.ownBlock = V.fr.ownBlock) : Rum w0 (w.setCell ⟨M, 6, none⟩ v) M B sv d { m with fr := l } T { V with fr := v } := by
 obtain ⟨cs, e, e'⟩ := h.blk
 refine ⟨⟨_, block_setCell e _, by simp [e']⟩, (mset_other (adne (by omega))).trans h.c0, (mset_other (adne (by omega))).trans h.c1, (mset_other (adne (by omega))).trans h.c2, (mset_other (adne (by omega))).trans h.c3, (mset_other (adne (by omega))).trans h.c4, (mset_other (adne (by omega))).trans h.c5, mset_same h.c6, fun a ha => (mset_other (adne (by omega))).trans (h.cm a ha), (mset_other (adne (by omega))).trans h.c23, (mset_other (adne (by omega))).trans h.c24, (mset_other (adne (by omega))).trans h.c25, (mset_other (adne (by omega))).trans h.c26, (mset_other (adne (by omega))).trans h.c27, (mset_other (adne (by omega))).trans h.c28, (mset_other (adne (by omega))).trans h.c29, own_set h.st h.lt _ _, own_set hr h.lt _ _, own_set h.out h.lt _ _, own_set h.te h.lt _ _, h.dis, h.kp.set _ _, h.lt, h.mlen⟩
theorem Rum.cut_out {w0 w : World} {M B : Nat} {sv : Value} {d : ByteArray} {m : MS} {T : List (Nat × Nat × Int)} {V : RV} (h : Rum w0 w M B sv d m T V) (v : Value) (l : List Nat) (hr : w.ownsRow B 3 1 v l.length (nV l)) (hv : v.ownBlock = none ∨ v.ownBlock = V.out.ownBlock) : Rum w0 (w.setCell ⟨M, 26, none⟩ v) M B sv d { m with out := l } T { V with out := v } := by
 obtain ⟨cs, e, e'⟩ := h.blk
 refine ⟨⟨_, block_setCell e _, by simp [e']⟩, (mset_other (adne (by omega))).trans h.c0, (mset_other (adne (by omega))).trans h.c1, (mset_other (adne (by omega))).trans h.c2, (mset_other (adne (by omega))).trans h.c3, (mset_other (adne (by omega))).trans h.c4, (mset_other (adne (by omega))).trans h.c5, (mset_other (adne (by omega))).trans h.c6, fun a ha => (mset_other (adne (by omega))).trans (h.cm a ha), (mset_other (adne (by omega))).trans h.c23, (mset_other (adne (by omega))).trans h.c24, (mset_other (adne (by omega))).trans h.c25, mset_same h.c26, (mset_other (adne (by omega))).trans h.c27, (mset_other (adne (by omega))).trans h.c28, (mset_other (adne (by omega))).trans h.c29, own_set h.st h.lt _ _, own_set h.fr h.lt _ _, own_set hr h.lt _ _, own_set h.te h.lt _ _, hv.elim (fun q => by show V.st.ownBlock = none ∨ V.st.ownBlock ≠ v.ownBlock; rw [q]; cases V.st.ownBlock <;> simp) (fun q => by show V.st.ownBlock = none ∨ V.st.ownBlock ≠ v.ownBlock; rw [q]; exact h.dis), h.kp.set _ _, h.lt, h.mlen⟩
theorem Rum.put_st {w0 w : World} {M B : Nat} {sv : Value} {d : ByteArray} {m : MS} {T : List (Nat × Nat × Int)} {V : RV} (h : Rum w0 w M B sv d m T V) (g n c j v : Nat) (hV : V.st = .slice (some ⟨g, 0, none⟩) n c) : Rum w0 (w.setCell ⟨g, j, none⟩ (.int .i64 (v : Nat))) M B sv d { m with st := m.st.set j v } T V := by
 have hgB : B ≤ g := (h.st.lt g (by rw [hV]; rfl)).1
 have hn : n = m.st.length := by
  obtain ⟨a', c', e⟩ := row_form h.st
  rw [hV] at e
  injection e
 have hne : M ≠ g := by have := h.lt; omega
 have hcell : ∀ i, (w.setCell ⟨g, j, none⟩ (.int .i64 (v : Nat))).cell? ⟨M, i, none⟩ = w.cell? ⟨M, i, none⟩ := fun i => mset_other (fun e => hne (by injection e with e1; exact e1.symm))
 have hblk : ∀ k, k ≠ g → (w.setCell ⟨g, j, none⟩ (.int .i64 (v : Nat))).heap[k]? = w.heap[k]? := fun k hk => Below.heap_setCell _ _ _ _ hk
 have hrow : ∀ {e s n : Nat} {u : Value} {xs : List Value}, w.ownsRow B e s u n xs → u.ownBlock ≠ some g → (w.setCell ⟨g, j, none⟩ (.int .i64 (v : Nat))).ownsRow B e s u n xs := fun h hu =>
  ⟨h.1, h.2.imp id (fun ⟨g', cap, cur, hv, hb, hc, r⟩ => ⟨g', cap, cur, hv, hb, (hblk g' (fun e => hu (by rw [hv, e]; rfl))).trans hc, r⟩)⟩
 have hsg : V.st.ownBlock = some g := by rw [hV]; rfl
 have hty : ∀ {e s n : Nat} {u : Value} {xs : List Value}, w.ownsRow B e s u n xs → e ≠ 3 → u.ownBlock ≠ some g := fun h he e2 => by
  rcases own_ne h (‹Rum w0 w M B sv d m T V›).st he with q | q
  ·rw [q] at e2; cases e2
  ·exact q (e2.trans hsg.symm)
 obtain ⟨cs, e, e'⟩ := h.blk
 refine ⟨⟨cs, (hblk M hne).trans e, e'⟩, (hcell _).trans h.c0, (hcell _).trans h.c1, (hcell _).trans h.c2, (hcell _).trans h.c3, (hcell _).trans h.c4, (hcell _).trans h.c5, (hcell _).trans h.c6, fun a ha => (hcell _).trans (h.cm a ha), (hcell _).trans h.c23, (hcell _).trans h.c24, (hcell _).trans h.c25, (hcell _).trans h.c26, (hcell _).trans h.c27, (hcell _).trans h.c28, (hcell _).trans h.c29, ?_, hrow h.fr (hty h.fr (by decide)), hrow h.out (fun q => h.dis.elim (fun z => by rw [hsg] at z; cases z) (fun z => z (hsg.trans q.symm))), hrow h.te (hty h.te (by decide)), h.dis, h.kp.trans ⟨rfl, rfl, rfl, by simp [World.setCell], fun k hk hne2 => hblk k (by omega)⟩, h.lt, h.mlen⟩
 have h0 := h.st
 rw [hV, hn] at h0 ⊢
 have := row_set h0 j (.int .i64 (v : Nat))
 rw [show (m.st.set j v).length = m.st.length by simp, show nV (m.st.set j v) = (nV m.st).set j (.int .i64 (v : Nat)) by simp [nV, List.map_set]]
 exact this
def KR (w w' : World) : Prop := ∀ (k : Nat) (cs : Array Value) (ty : TypeId) (fz : Nat × Nat), w.heap[k]? = some (.cells cs ty fz) → ty ≠ 60 → ty ≠ 3 → ty ≠ 161 → ty ≠ 63 → w'.heap[k]? = some (.cells cs ty fz)
theorem KR.refl (w : World) : KR w w := fun _ _ _ _ h _ _ _ _ => h
theorem KR.trans {a b c : World} (h : KR a b) (g : KR b c) : KR a c := fun k cs ty fz e h1 h2 h3 h4 => g k cs ty fz (h k cs ty fz e h1 h2 h3 h4) h1 h2 h3 h4
theorem KR.below {w w' : World} (hb : Below w.heap.size w w') : KR w w' := fun _ _ _ _ e _ _ _ _ => keepB hb e
theorem KR.setTy {w : World} {g : Nat} {cs : Array Value} {fz : Nat × Nat} {ty : TypeId} (h : w.heap[g]? = some (.cells cs ty fz)) (ht : ty = 60 ∨ ty = 3) (i : Nat) (v : Value) : KR w (w.setCell ⟨g, i, none⟩ v) := fun k cs' ty' fz' e h1 h2 _ _ => by
 refine (Below.heap_setCell _ _ _ _ ?_).trans e
 intro e2
 subst e2
 rw [h] at e
 injection e with e
 injection e with e3 e4 e5
 rcases ht with q | q
 ·exact h1 (e4.symm.trans q)
 ·exact h2 (e4.symm.trans q)
theorem Rum.kr {w0 w : World} {M B : Nat} {sv : Value} {d : ByteArray} {m : MS} {T : List (Nat × Nat × Int)} {V : RV} (h : Rum w0 w M B sv d m T V) (i : Nat) (v : Value) : KR w (w.setCell ⟨M, i, none⟩ v) := by
 obtain ⟨cs, e, _⟩ := h.blk
 exact KR.setTy e (.inl rfl) i v
theorem KR.grown {w w' : World} {B ty sz n : Nat} {v : Value} {xs : List Value} (hr : w.ownsRow B ty sz v n xs) (hg : w.grownBy w' v.ownBlock) (ht : ty = 3 ∨ ty = 161 ∨ ty = 63) : KR w w' := fun k cs' ty' fz' e _ h2 h3 h4 => by
 refine (hg.block k (blt e) ?_).trans e
 intro e2
 rcases hr.2 with ⟨rfl, _⟩ | ⟨g, cap, cur, rfl, _, hg', _⟩
 ·simp [Value.ownBlock] at e2
 ·simp [Value.ownBlock] at e2
  subst e2
  rw [hg'] at e
  injection e with e
  injection e with e3 e4 e5
  rcases ht with q | q | q
  ·exact h2 (e4.symm.trans q)
  ·exact h3 (e4.symm.trans q)
  ·exact h4 (e4.symm.trans q)
theorem KR.cell {w w' : World} {k i : Nat} {cs : Array Value} {ty : TypeId} {fz : Nat × Nat} (h : KR w w') (e : w.heap[k]? = some (.cells cs ty fz)) (h1 : ty ≠ 60) (h2 : ty ≠ 3) (h3 : ty ≠ 161) (h4 : ty ≠ 63) : w'.cell? ⟨k, i, none⟩ = w.cell? ⟨k, i, none⟩ := World.cell?_of_block (w := w) ((h k cs ty fz e h1 h2 h3 h4).trans e.symm)
end Go.Proofs.YtdhmandnamajpaaGreatDoor
namespace Go.Proofs.YtdhmandnamajpaaGreatDoor
open Go.RowKit Go.Joins
set_option maxHeartbeats 1000000
set_option maxRecDepth 4000
def RumX (w0 w : World) (M B : Nat) (sv : Value) (d : ByteArray) (m : MS) (T : List (Nat × Nat × Int)) : Prop := ∃ V, Rum w0 w M B sv d m T V
theorem RumX.below {w0 w w' : World} {M B : Nat} {sv : Value} {d : ByteArray} {m : MS} {T : List (Nat × Nat × Int)} (h : RumX w0 w M B sv d m T) (hb : Below w.heap.size w w') (hB : B ≤ w.heap.size) : RumX w0 w' M B sv d m T := by
 obtain ⟨V, h⟩ := h
 exact ⟨V, h.below hb hB⟩
theorem RumX.size {w0 w : World} {M B : Nat} {sv : Value} {d : ByteArray} {m : MS} {T : List (Nat × Nat × Int)} (h : RumX w0 w M B sv d m T) : M < w.heap.size := by obtain ⟨V, h⟩ := h; exact h.size
theorem RumX.lt {w0 w : World} {M B : Nat} {sv : Value} {d : ByteArray} {m : MS} {T : List (Nat × Nat × Int)} (h : RumX w0 w M B sv d m T) : M < B := by obtain ⟨V, h⟩ := h; exact h.lt
def RDo (w0 w : World) (M B : Nat) (sv : Value) (d : ByteArray) (m : MS) (T : List (Nat × Nat × Int)) : Ending → World → Prop := fun e w' => e = .returned (.tuple #[]) ∧ RumX w0 w' M B sv d m T ∧ B ≤ w'.heap.size ∧ KR w w' ∧ w.heap.size ≤ w'.heap.size
def RPop (w0 w : World) (M B : Nat) (sv : Value) (d : ByteArray) (m : MS) (T : List (Nat × Nat × Int)) (r : Int) : Ending → World → Prop := fun e w' => e = .returned (.int .i64 r) ∧ (∃ v, w' = w.setCell ⟨M, 5, none⟩ v) ∧ RumX w0 w' M B sv d m T ∧ B ≤ w'.heap.size ∧ KR w w' ∧ w.heap.size = w'.heap.size
theorem run_ends {w0 w : World} {M B : Nat} {sv : Value} {d : ByteArray} {m : MS} {T : List (Nat × Nat × Int)} (h : RumX w0 w M B sv d m T) (hB : B ≤ w.heap.size) (v : Nat) :
  Calls Tryz.prog 66 #[.pointer (some ⟨M, 0, none⟩), .int .i64 (v : Nat)] w (RDo w0 w M B sv d { m with fin := some v } T) := by
 obtain ⟨V, h⟩ := h
 have hM := h.size
 have c23 := h.c23
 have c25 := h.c25
 have f23 := h.froz 23
 have f25 := h.froz 25
 have HM := hidc (h.set_end v)
 have HK : Hid (KR w ((w.setCell ⟨M, 23, none⟩ (.bool true)).setCell ⟨M, 25, none⟩ (.int .i64 (v : Nat)))) := by
  obtain ⟨cs, e, _⟩ := h.blk
  exact (KR.setTy e (.inl rfl) _ _).trans (KR.setTy (block_setCell e _) (.inl rfl) _ _)
 clear h
 go_enter Tryz.func66, Tryz.ntmps66
 go_wp2_with fail
 go_end0
 exact ⟨rfl, ⟨_, HM.out⟩, by simpa [World.setCell] using hB, HK.out, by simp [World.setCell]⟩
theorem nV_top (st : List Nat) (n : Nat) (h : n < st.length) : (nV st)[st.length - 1 - n]? = some (.int .i64 (topN st n : Nat)) := by
 simp [nV, topN, List.getD, show st.length - 1 - n < st.length by omega]
theorem nV_take (st : List Nat) (k : Nat) : nV (st.take k) = (nV st).take k := by simp [nV]
theorem run_pop {w0 w : World} {M B : Nat} {sv : Value} {d : ByteArray} {m : MS} {T : List (Nat × Nat × Int)} (h : RumX w0 w M B sv d m T) (hB : B ≤ w.heap.size) (hl : m.st.length ≤ 200) (h1 : m.base < m.st.length) :
  Calls Tryz.prog 116 #[.pointer (some ⟨M, 0, none⟩)] w (RPop w0 w M B sv d { m with st := dropN m.st 1 } T (topN m.st 0 : Nat)) := by
 obtain ⟨V, h⟩ := h
 have hM := h.size
 have c4 := h.c4
 have c5 := h.c5
 have f5 := h.froz 5
 obtain ⟨sa, sc, hV⟩ := row_form h.st
 have hst := h.st
 rw [hV] at c5 hst
 obtain ⟨g, rfl, hgB, hgs, hcg⟩ := row_cell hst (nV_top m.st 0 (by omega))
 have hrow := row_cut hst (show m.st.length - 1 ≤ m.st.length by omega)
 have hcap : m.st.length ≤ sc := by
  rcases hst.2 with ⟨e1, _⟩ | ⟨g', cap, cur, hv, _, _, h3, _⟩
  ·cases e1
  ·injection hv with q1 q2 q3; omega
 have HM := hidc (h.cut_st (.slice (some ⟨g, 0, none⟩) (m.st.length - 1) sc) (dropN m.st 1) (by rw [dropN_len, dropN, nV_take, Nat.mul_one] at *; exact hrow) (.inr (by rw [hV]; rfl)))
 have hw1 : wrap64 ((m.st.length : Int) - 1) = ((m.st.length - 1 : Nat) : Int) := by unfold wrap64; omega
 have hw2 : (m.st.length : Int) - 1 = ((m.st.length - 1 : Nat) : Int) := by omega
 rw [show m.st.length - 1 - 0 = m.st.length - 1 by omega] at hcg
 have hlt1 : m.st.length - 1 < m.st.length := by omega
 have hne : g ≠ M := by have := h.lt; omega
 have HK := hidc (fun v => h.kr 5 v)
 clear h hrow hst hV
 generalize hn : m.st.length = n at *
 generalize hn1 : n - 1 = n1 at *
 have HN := hidc hn
 have HN1 := hidc hn1
 clear hn hn1
 go_enter Tryz.func116, Tryz.ntmps116
 go_wp2_with fail
 go_ret
 exact ⟨rfl, ⟨_, rfl⟩, ⟨_, HM.out⟩, by simpa [World.setCell] using hB, HK.out _, by simp [World.setCell]⟩
theorem w16_rem (v : Int) (h1 : -65536 ≤ v) (_h2 : v < 1099511627776) : Int.tmod (Int.tmod v 65536 + 65536) 65536 = ((w16 v : Nat) : Int) := by
 unfold w16
 by_cases h : 0 ≤ v
 ·rw [Int.tmod_eq_emod_of_nonneg h, Int.tmod_eq_emod_of_nonneg (by omega)]
  omega
 ·have : Int.tmod v 65536 = -((-v) % 65536) := by
   rw [← Int.tmod_eq_emod_of_nonneg (show 0 ≤ -v by omega), Int.neg_tmod, Int.neg_neg]
  rw [this, Int.tmod_eq_emod_of_nonneg (by omega)]
  omega
theorem newsNr (w : World) (x : Value) (g : Nat) (hg : g = w.heap.size) : ∀ j u, [x][j]? = some u → (w.alloc (.cells #[x] 3)).cell? ((⟨g, 0, none⟩ : Addr).add j) = some u := by
 intro j u hj
 subst hg
 have hb : (w.alloc (.cells #[x] 3)).heap[w.heap.size]? = some (.cells #[x] 3 (0, 0)) := heap_alloc_new w _
 exact World.news_of_block hb j u hj
theorem run_lay {w0 w : World} {M B : Nat} {sv : Value} {d : ByteArray} {m : MS} {T : List (Nat × Nat × Int)} (h : RumX w0 w M B sv d m T) (hB : B ≤ w.heap.size) (v : Int) (h1 : -65536 ≤ v) (h2 : v < 1099511627776) (hl : m.st.length ≤ 100) :
  Calls Tryz.prog 115 #[.pointer (some ⟨M, 0, none⟩), .int .i64 v] w (RDo w0 w M B sv d { m with st := m.st ++ [w16 v] } T) := by
 obtain ⟨iz, hiz, hzz0, hzz1, hzz2⟩ := info_parts Tryz.infoInt
 obtain ⟨V, h⟩ := h
 have hM := h.size
 have c5 := h.c5
 have f5 := h.froz 5
 have hlt := h.lt
 have hr := w16_rem v h1 h2
 have hv1 : -65536 ≤ Int.tmod v 65536 ∧ Int.tmod v 65536 < 65536 := by
  by_cases h : 0 ≤ v
  ·rw [Int.tmod_eq_emod_of_nonneg h]; omega
  ·have : Int.tmod v 65536 = -((-v) % 65536) := by
    rw [← Int.tmod_eq_emod_of_nonneg (show 0 ≤ -v by omega), Int.neg_tmod, Int.neg_neg]
   omega
 obtain ⟨sa, sc, hV⟩ := row_form h.st
 rw [hV] at c5
 have HM := hidc (h.below (boxB w (.cells #[.int .i64 (w16 v : Nat)] 3)) hB)
 have HS : Hid ((w.alloc (.cells #[.int .i64 (w16 v : Nat)] 3)).ownsRow B 3 1 (.slice sa m.st.length sc) m.st.length (nV m.st)) := by
  have := HM.out.st
  rw [hV] at this
  exact this
 have HK0 : Hid (KR w (w.alloc (.cells #[.int .i64 (w16 v : Nat)] 3))) := KR.below (boxB w _)
 have HV := hidc hV
 clear h hV
 go_enter Tryz.func115, Tryz.ntmps115
 go_wp2_with (at_builtin; refine wpList_append_lies _ rfl (.tmp 8) (.tmp 13) 22 rfl B 3 iz (.int .i64 0) 1 8 Tryz.underlying22 hiz hzz0 hzz1 hzz2 rfl (by decide) _ m.st.length (nV m.st) rfl HS.out ⟨w.heap.size, 0, none⟩ 1 1 [.int .i64 (w16 v : Nat)] rfl rfl (newsNr _ _ _ rfl) (one1c _) (by decide) (by unfold maxLen; omega) (by omega) (by simp; omega) _ rfl ?_)
 intro ga ca w5 hown5 hgrow5 hat5 hlt5
 have hl5 : (m.st ++ [w16 v]).length = m.st.length + 1 := by simp
 have hown' : w5.ownsRow B 3 1 (.slice (some ⟨ga, 0, none⟩) (m.st ++ [w16 v]).length ca) (m.st ++ [w16 v]).length (nV (m.st ++ [w16 v])) := by
  rw [hl5, show nV (m.st ++ [w16 v]) = nV m.st ++ [.int .i64 (w16 v : Nat)] by simp [nV]]
  exact hown5
 rw [← HV.out] at hgrow5 hat5
 have HG := hidc (HM.out.grow_st (by simp; omega) ga ca (m.st ++ [w16 v]) hgrow5 hown' (by simpa using hat5))
 rw [hl5] at HG
 have hB5 : B ≤ w5.heap.size := by have := hgrow5.size; simp at this; omega
 have hS5 : w.heap.size ≤ w5.heap.size := by have := hgrow5.size; simp at this; omega
 obtain ⟨hc5, ⟨cs5, e5, _⟩, _⟩ := HM.out.grown hgrow5 (by simp; omega) (fun k hk => (HM.out.st.lt k hk).1)
 have HK5 : Hid (KR w (w5.setCell ⟨M, 5, none⟩ (.slice (some ⟨ga, 0, none⟩) (m.st.length + 1) ca))) := (HK0.out.trans (KR.grown HM.out.st hgrow5 (.inl rfl))).trans (KR.setTy e5 (.inl rfl) _ _)
 have c5' : w5.cell? ⟨M, 5, none⟩ = some V.st := (hc5 5).trans HM.out.c5
 have f5' : w5.frozen? ⟨M, 5, none⟩ = false := unfrozen_of_block e5 5
 have hM5 : M < w5.heap.size := by omega
 clear hown5 hgrow5 hat5 hlt5 hown' c5 f5 hc5 e5 hl5
 go_wp2_with fail
 go_end0
 exact ⟨rfl, ⟨_, HG.out⟩, by simpa [World.setCell] using hB5, HK5.out, by simpa [World.setCell] using hS5⟩
theorem run_deep {w0 w : World} {M B : Nat} {sv : Value} {d : ByteArray} {m : MS} {T : List (Nat × Nat × Int)} (h : RumX w0 w M B sv d m T) (n : Nat) (N : Int) (hN : N = (n : Int)) (hl : m.st.length ≤ 200) (h1 : m.base + n < m.st.length) :
  Calls Tryz.prog 117 #[.pointer (some ⟨M, 0, none⟩), .int .i64 N] w fun e w' => e = .returned (.int .i64 ((m.st.length - 1 - n : Nat) : Int)) ∧ w' = w := by
 subst hN
 obtain ⟨V, h⟩ := h
 have hM := h.size
 have c4 := h.c4
 have c5 := h.c5
 obtain ⟨sa, sc, hV⟩ := row_form h.st
 rw [hV] at c5
 clear h hV
 generalize hn : m.st.length = L at *
 have HN := hidc hn
 clear hn
 rw [show ((L - 1 - n : Nat) : Int) = (L : Int) - 1 - n by omega]
 go_enter Tryz.func117, Tryz.ntmps117
 go_wp2_with fail
 go_ret
 exact ⟨rfl, rfl⟩
end Go.Proofs.YtdhmandnamajpaaGreatDoor
