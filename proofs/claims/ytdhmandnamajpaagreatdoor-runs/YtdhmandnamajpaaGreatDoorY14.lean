import Derived.Test.YtdhmandnamajpaaGreatDoorY00
import Derived.Test.YtdhmandnamajpaaGreatDoorY12
import Derived.Test.YtdhmandnamajpaaGreatDoorY13
namespace Go.Proofs.YtdhmandnamajpaaGreatDoor
open Go.RowKit Go.Joins
set_option maxHeartbeats 2000000
set_option maxRecDepth 8000
set_option linter.unusedVariables false
theorem newsRF (w : World) (a b c : Value) (g : Nat) (hg : g = w.heap.size) : ∀ j u, [a, b, c][j]? = some u → (w.alloc (.cells #[a, b, c] 161)).cell? ((⟨g, 0, none⟩ : Addr).add j) = some u := by
 intro j u hj
 subst hg
 have hb : (w.alloc (.cells #[a, b, c] 161)).heap[w.heap.size]? = some (.cells #[a, b, c] 161 (0, 0)) := heap_alloc_new w _
 exact World.news_of_block hb j u hj
theorem Rum.kr3 {w0 w : World} {M B : Nat} {sv : Value} {d : ByteArray} {m : MS} {T : List (Nat × Nat × Int)} {V : RV} (h : Rum w0 w M B sv d m T V) (i j k : Nat) (a b c : Value) : KR w (((w.setCell ⟨M, i, none⟩ a).setCell ⟨M, j, none⟩ b).setCell ⟨M, k, none⟩ c) := by
 obtain ⟨cs, e, _⟩ := h.blk
 exact ((KR.setTy e (.inl rfl) _ _).trans (KR.setTy (block_setCell e _) (.inl rfl) _ _)).trans (KR.setTy (block_setCell (block_setCell e _) _) (.inl rfl) _ _)
theorem run_sections_19 {w0 w : World} {M B : Nat} {sv : Value} {d : ByteArray} {m : MS} {T : List (Nat × Nat × Int)} (h : RumX w0 w M B sv d m T) (hB : B ≤ w.heap.size) (pl nx tl tc : Nat) (ta : Option Addr) (N : Int) (S : List Sec) (b off cap : Nat) (hF : sv = .slice (some ⟨b, off, none⟩) S.length cap) (hS : SecsAt w0 b off S) (hbB : b < B) (hbM : b ≠ M) (hal : S.all secB = true) (hl : m.fr.length ≤ 8) (h1 : 1 ≤ m.fr.length) (hst : m.st.length ≤ 100) (hk : m.sec < S.length) (hbase : m.base ≤ m.st.length) (hret : (m.st.length : Int) - m.base = S[m.sec].o) :
  Calls Tryz.prog 71 #[.pointer (some ⟨M, 0, none⟩), .agg #[.int .i64 (pl : Nat), .int .i64 19, .int .i64 N, .slice ta tl tc, .int .i64 (nx : Nat)]] w (RDo w0 w M B sv d { m with sec := (m.fr.getLastD (0, 0, 0)).1, pl := (m.fr.getLastD (0, 0, 0)).2.1, base := (m.fr.getLastD (0, 0, 0)).2.2, fr := m.fr.dropLast } T) := by
 subst hF
 obtain ⟨V, hq⟩ := h
 have hM := hq.size
 have hlt := hq.lt
 obtain ⟨q0, q1, q2, q3⟩ := hS.at m.sec hk
 have d1 := (hq.kp.cell hbB hbM (off + m.sec * 4 + 1)).trans q1
 have hbs : b < w.heap.size := by omega
 have hsec := (secB_iff _).1 (sec_get hal m.sec hk)
 generalize S[m.sec] = s at *
 have hf : m.fr[m.fr.length - 1]? = some (m.fr.getLastD (0, 0, 0)) := by
  rw [List.getLastD_eq_getLast?, List.getLast?_eq_getElem?, List.getElem?_eq_getElem (by omega)]
  rfl
 obtain ⟨v1, v2, v3⟩ := fV_get m.fr _ _ hf
 have hdl : m.fr.dropLast = m.fr.take (m.fr.length - 1) := List.dropLast_eq_take
 generalize m.fr.getLastD (0, 0, 0) = f at *
 obtain ⟨fs, fp, fb⟩ := f
 simp only at v1 v2 v3
 obtain ⟨ga, gc, hfv⟩ := row_form hq.fr
 have hfr := hq.fr
 rw [hfv] at hfr
 obtain ⟨g, hga, hgB, hgs, w1⟩ := row_cell hfr v1
 subst hga
 have w2 : w.cell? ⟨g, (m.fr.length - 1) * 3 + 1, none⟩ = some (.int .i64 (fp : Nat)) := by
  obtain ⟨g', e, _, _, q⟩ := row_cell hfr v2
  injection e with e
  injection e with e
  rw [e]; exact q
 have w3 : w.cell? ⟨g, (m.fr.length - 1) * 3 + 2, none⟩ = some (.int .i64 (fb : Nat)) := by
  obtain ⟨g', e, _, _, q⟩ := row_cell hfr v3
  injection e with e
  injection e with e
  rw [e]; exact q
 have hcap : m.fr.length ≤ gc := by
  rcases hfr.2 with ⟨e1, _⟩ | ⟨g', cap, cur, hv, _, _, h3, _⟩
  ·cases e1
  ·injection hv with q1 q2 q3; omega
 have c0 := hq.c0
 have c2 := hq.c2
 have c3 := hq.c3
 have c4 := hq.c4
 have c5 := hq.c5
 have c6 := hq.c6
 obtain ⟨sa, sc, hsv⟩ := row_form hq.st
 rw [hsv] at c5
 rw [hfv] at c6
 have f2 := hq.froz 2
 have f3 := hq.froz 3
 have f4 := hq.froz 4
 have f6 := hq.froz 6
 have HS : Hid (∀ nq, Rum w0 ((((((w.alloc (.cells #[.int .i64 (pl : Nat), .int .i64 19, .int .i64 N, .slice ta tl tc, .int .i64 (nx : Nat)] 129)).drewN nq).setCell ⟨M, 6, none⟩ (.slice (some ⟨g, 0, none⟩) (m.fr.length - 1) gc)).setCell ⟨M, 2, none⟩ (.int .i64 (fs : Nat))).setCell ⟨M, 3, none⟩ (.int .i64 (fp : Nat))).setCell ⟨M, 4, none⟩ (.int .i64 (fb : Nat))) M B (.slice (some ⟨b, off, none⟩) S.length cap) d { m with sec := fs, pl := fp, base := fb, fr := m.fr.dropLast } T { V with fr := .slice (some ⟨g, 0, none⟩) (m.fr.length - 1) gc }) := by
  intro nq
  have hq' := hq.below (bdr (boxB w (.cells #[.int .i64 (pl : Nat), .int .i64 19, .int .i64 N, .slice ta tl tc, .int .i64 (nx : Nat)] 129)) nq) hB
  have hrow := row_cut (own_below hfr (bdr (boxB w (.cells #[.int .i64 (pl : Nat), .int .i64 19, .int .i64 N, .slice ta tl tc, .int .i64 (nx : Nat)] 129)) nq)) (show m.fr.length - 1 ≤ m.fr.length by omega)
  rw [fV_take, ← hdl] at hrow
  exact (((hq'.cut_fr (.slice (some ⟨g, 0, none⟩) (m.fr.length - 1) gc) m.fr.dropLast (by rw [List.length_dropLast]; exact hrow) (.inr (by rw [hfv]; rfl))).set_sec fs).set_pl fp).set_base fb
 have HKS : Hid (∀ nq a b c d, KR w ((((((w.alloc (.cells #[.int .i64 (pl : Nat), .int .i64 19, .int .i64 N, .slice ta tl tc, .int .i64 (nx : Nat)] 129)).drewN nq).setCell ⟨M, 6, none⟩ a).setCell ⟨M, 2, none⟩ b).setCell ⟨M, 3, none⟩ c).setCell ⟨M, 4, none⟩ d)) := by
  intro nq
  obtain ⟨cs, e, _⟩ := (hq.below (bdr (boxB w (.cells #[.int .i64 (pl : Nat), .int .i64 19, .int .i64 N, .slice ta tl tc, .int .i64 (nx : Nat)] 129)) nq) hB).blk
  exact fun a b c d => (KR.below (bdr (boxB w (.cells #[.int .i64 (pl : Nat), .int .i64 19, .int .i64 N, .slice ta tl tc, .int .i64 (nx : Nat)] 129)) nq)).trans ((((KR.setTy e (.inl rfl) _ _).trans (KR.setTy (block_setCell e _) (.inl rfl) _ _)).trans (KR.setTy (block_setCell (block_setCell e _) _) (.inl rfl) _ _)).trans (KR.setTy (block_setCell (block_setCell (block_setCell e _) _) _) (.inl rfl) _ _))
 have hgM : g ≠ M := by omega
 have hw1 : wrap64 ((m.fr.length : Int) - 1) = ((m.fr.length - 1 : Nat) : Int) := by unfold wrap64; omega
 have hw2 : (m.fr.length : Int) - 1 = ((m.fr.length - 1 : Nat) : Int) := by omega
 have hlt1 : m.fr.length - 1 < m.fr.length := by omega
 have hre : ((m.st.length : Int) != (m.base : Int) + s.o) = false := by simp; omega
 have hn0 : ((m.fr.length : Int) == 0) = false := by rw [beq_eq_false_iff_ne]; omega
 clear hq v1 v2 v3 hf hdl hfr hfv hsv q0 q1 q2 q3 hret
 generalize hsn : m.st.length = sn at *
 have HSN := hidc hsn
 clear hsn
 generalize hn : m.fr.length = n at *
 generalize hn1 : n - 1 = n1 at *
 have HN := hidc hn
 have HN1 := hidc hn1
 clear hn hn1
 go_enter Tryz.func71, Tryz.ntmps71
 go_wp2_with fail
 go_quiet (fail)
 go_wp2_with fail
 go_end0
 exact ⟨rfl, RumX.below ⟨_, HS.out nq⟩ (boxB _ _) (by simp [World.setCell, World.drewN]; omega), by simp [World.setCell, World.drewN]; omega, (HKS.out nq _ _ _ _).trans (KR.below (boxB _ _)), by simp [World.setCell, World.drewN]; omega⟩
theorem run_sections_20f {w0 w : World} {M B : Nat} {sv : Value} {d : ByteArray} {m : MS} {T : List (Nat × Nat × Int)} (h : RumX w0 w M B sv d m T) (hB : B ≤ w.heap.size) (pl nx tl tc : Nat) (ta : Option Addr) (n : Nat) (S : List Sec) (b off cap : Nat) (hF : sv = .slice (some ⟨b, off, none⟩) S.length cap) (hS : SecsAt w0 b off S) (hbB : b < B) (hbM : b ≠ M) (hal : S.all secB = true) (hst : m.st.length ≤ 100) (hfr : m.fr.length ≤ 8) (hn : n < S.length) (hin : inS S n ≤ (m.st.length : Int) - m.base) (h64 : (64 : Int) < m.st.length + maxS S n - inS S n) :
  Calls Tryz.prog 71 #[.pointer (some ⟨M, 0, none⟩), .agg #[.int .i64 (pl : Nat), .int .i64 20, .int .i64 (n : Nat), .slice ta tl tc, .int .i64 (nx : Nat)]] w (RDo w0 w M B sv d ({ m with fin := some 4 }) T) := by
 subst hF
 obtain ⟨iz, hiz, hzz0, hzz1, hzz2⟩ := info_parts Tryz.infoRFrame
 have hM := h.size
 have hlt := h.lt
 obtain ⟨V, hq⟩ := h.below (boxB w (.cells #[.int .i64 (pl : Nat), .int .i64 20, .int .i64 (n : Nat), .slice ta tl tc, .int .i64 (nx : Nat)] 129)) hB
 have hB1 : B ≤ (w.alloc (.cells #[.int .i64 (pl : Nat), .int .i64 20, .int .i64 (n : Nat), .slice ta tl tc, .int .i64 (nx : Nat)] 129)).heap.size := by simp; omega
 have HK0 : Hid (KR w (w.alloc (.cells #[.int .i64 (pl : Nat), .int .i64 20, .int .i64 (n : Nat), .slice ta tl tc, .int .i64 (nx : Nat)] 129))) := KR.below (boxB w _)
 have hM1 := hq.size
 have hs1 : (w.alloc (.cells #[.int .i64 (pl : Nat), .int .i64 20, .int .i64 (n : Nat), .slice ta tl tc, .int .i64 (nx : Nat)] 129)).heap.size = w.heap.size + 1 := by simp
 obtain ⟨q0, q1, q2, q3⟩ := hS.at n hn
 have d0 := (hq.kp.cell hbB hbM (off + n * 4)).trans q0
 have d1 := (hq.kp.cell hbB hbM (off + n * 4 + 1)).trans q1
 have d2 := (hq.kp.cell hbB hbM (off + n * 4 + 2)).trans q2
 have d3 := (hq.kp.cell hbB hbM (off + n * 4 + 3)).trans q3
 have hbs : b < (w.alloc (.cells #[.int .i64 (pl : Nat), .int .i64 20, .int .i64 (n : Nat), .slice ta tl tc, .int .i64 (nx : Nat)] 129)).heap.size := by omega
 have hsec := (secB_iff _).1 (sec_get hal n hn)
 rw [inS_get S n hn] at *
 try rw [maxS_get S n hn] at *
 generalize S[n] = s at *
 have x0 : (w.alloc (.cells #[.int .i64 (pl : Nat), .int .i64 20, .int .i64 (n : Nat), .slice ta tl tc, .int .i64 (nx : Nat)] 129)).cell? ⟨w.heap.size, 0, none⟩ = some (.int .i64 (pl : Nat)) := cell_of_block (heap_alloc_new w _) 0
 have x1 : (w.alloc (.cells #[.int .i64 (pl : Nat), .int .i64 20, .int .i64 (n : Nat), .slice ta tl tc, .int .i64 (nx : Nat)] 129)).cell? ⟨w.heap.size, 1, none⟩ = some (.int .i64 20) := cell_of_block (heap_alloc_new w _) 1
 have x2 : (w.alloc (.cells #[.int .i64 (pl : Nat), .int .i64 20, .int .i64 (n : Nat), .slice ta tl tc, .int .i64 (nx : Nat)] 129)).cell? ⟨w.heap.size, 2, none⟩ = some (.int .i64 (n : Nat)) := cell_of_block (heap_alloc_new w _) 2
 have HXB := hidc (heap_alloc_new w (.cells #[.int .i64 (pl : Nat), .int .i64 20, .int .i64 (n : Nat), .slice ta tl tc, .int .i64 (nx : Nat)] 129))
 have c0 := hq.c0
 have c2 := hq.c2
 have c3 := hq.c3
 have c4 := hq.c4
 have c5 := hq.c5
 have c6 := hq.c6
 obtain ⟨sa, sc, hsv⟩ := row_form hq.st
 obtain ⟨fa, fc, hfv⟩ := row_form hq.fr
 rw [hsv] at c5
 rw [hfv] at c6
 have f2 := hq.froz 2
 have f3 := hq.froz 3
 have f4 := hq.froz 4
 have f6 := hq.froz 6
 have HQ := hidc hq
 have HFV := hidc hfv
 skip
 clear hq hsv hfv q0 q1 q2 q3
 generalize hsn : m.st.length = sn at *
 have HSN := hidc hsn
 clear hsn
 generalize hfn : m.fr.length = fn at *
 have HFN := hidc hfn
 clear hfn
 go_enter Tryz.func71, Tryz.ntmps71
 go_wp2_with fail
 go_quiet (fail)
 go_wp2_with fail
 have HQz := hidc (HQ.out.below (bdr (Below.refl _ _) nq) hB1)
 have HKz : Hid (KR w ((w.alloc (.cells #[.int .i64 (pl : Nat), .int .i64 20, .int .i64 (n : Nat), .slice ta tl tc, .int .i64 (nx : Nat)] 129)).drewN nq)) := KR.below (bdr (boxB w _) nq)
 replace d0 : ((w.alloc (.cells #[.int .i64 (pl : Nat), .int .i64 20, .int .i64 (n : Nat), .slice ta tl tc, .int .i64 (nx : Nat)] 129)).drewN nq).cell? ⟨b, off + n * 4, none⟩ = some (.int .i64 s.i) := d0
 replace d1 : ((w.alloc (.cells #[.int .i64 (pl : Nat), .int .i64 20, .int .i64 (n : Nat), .slice ta tl tc, .int .i64 (nx : Nat)] 129)).drewN nq).cell? ⟨b, off + n * 4 + 1, none⟩ = some (.int .i64 s.o) := d1
 replace d2 : ((w.alloc (.cells #[.int .i64 (pl : Nat), .int .i64 20, .int .i64 (n : Nat), .slice ta tl tc, .int .i64 (nx : Nat)] 129)).drewN nq).cell? ⟨b, off + n * 4 + 2, none⟩ = some (.int .i64 s.m) := d2
 replace d3 : ((w.alloc (.cells #[.int .i64 (pl : Nat), .int .i64 20, .int .i64 (n : Nat), .slice ta tl tc, .int .i64 (nx : Nat)] 129)).drewN nq).cell? ⟨b, off + n * 4 + 3, none⟩ = some (.string s.code) := d3
 replace c0 : ((w.alloc (.cells #[.int .i64 (pl : Nat), .int .i64 20, .int .i64 (n : Nat), .slice ta tl tc, .int .i64 (nx : Nat)] 129)).drewN nq).cell? ⟨M, 0, none⟩ = some (.slice (some ⟨b, off, none⟩) S.length cap) := c0
 replace c2 : ((w.alloc (.cells #[.int .i64 (pl : Nat), .int .i64 20, .int .i64 (n : Nat), .slice ta tl tc, .int .i64 (nx : Nat)] 129)).drewN nq).cell? ⟨M, 2, none⟩ = some (.int .i64 (m.sec : Nat)) := c2
 replace c3 : ((w.alloc (.cells #[.int .i64 (pl : Nat), .int .i64 20, .int .i64 (n : Nat), .slice ta tl tc, .int .i64 (nx : Nat)] 129)).drewN nq).cell? ⟨M, 3, none⟩ = some (.int .i64 (m.pl : Nat)) := c3
 replace c4 : ((w.alloc (.cells #[.int .i64 (pl : Nat), .int .i64 20, .int .i64 (n : Nat), .slice ta tl tc, .int .i64 (nx : Nat)] 129)).drewN nq).cell? ⟨M, 4, none⟩ = some (.int .i64 (m.base : Nat)) := c4
 replace c5 : ((w.alloc (.cells #[.int .i64 (pl : Nat), .int .i64 20, .int .i64 (n : Nat), .slice ta tl tc, .int .i64 (nx : Nat)] 129)).drewN nq).cell? ⟨M, 5, none⟩ = some (.slice sa sn sc) := c5
 replace c6 : ((w.alloc (.cells #[.int .i64 (pl : Nat), .int .i64 20, .int .i64 (n : Nat), .slice ta tl tc, .int .i64 (nx : Nat)] 129)).drewN nq).cell? ⟨M, 6, none⟩ = some (.slice fa fn fc) := c6
 replace x1 : ((w.alloc (.cells #[.int .i64 (pl : Nat), .int .i64 20, .int .i64 (n : Nat), .slice ta tl tc, .int .i64 (nx : Nat)] 129)).drewN nq).cell? ⟨w.heap.size, 1, none⟩ = some (.int .i64 20) := x1
 replace x2 : ((w.alloc (.cells #[.int .i64 (pl : Nat), .int .i64 20, .int .i64 (n : Nat), .slice ta tl tc, .int .i64 (nx : Nat)] 129)).drewN nq).cell? ⟨w.heap.size, 2, none⟩ = some (.int .i64 (n : Nat)) := x2
 replace f2 : ((w.alloc (.cells #[.int .i64 (pl : Nat), .int .i64 20, .int .i64 (n : Nat), .slice ta tl tc, .int .i64 (nx : Nat)] 129)).drewN nq).frozen? ⟨M, 2, none⟩ = false := f2
 replace f3 : ((w.alloc (.cells #[.int .i64 (pl : Nat), .int .i64 20, .int .i64 (n : Nat), .slice ta tl tc, .int .i64 (nx : Nat)] 129)).drewN nq).frozen? ⟨M, 3, none⟩ = false := f3
 replace f4 : ((w.alloc (.cells #[.int .i64 (pl : Nat), .int .i64 20, .int .i64 (n : Nat), .slice ta tl tc, .int .i64 (nx : Nat)] 129)).drewN nq).frozen? ⟨M, 4, none⟩ = false := f4
 replace f6 : ((w.alloc (.cells #[.int .i64 (pl : Nat), .int .i64 20, .int .i64 (n : Nat), .slice ta tl tc, .int .i64 (nx : Nat)] 129)).drewN nq).frozen? ⟨M, 6, none⟩ = false := f6
 replace hM1 : M < ((w.alloc (.cells #[.int .i64 (pl : Nat), .int .i64 20, .int .i64 (n : Nat), .slice ta tl tc, .int .i64 (nx : Nat)] 129)).drewN nq).heap.size := hM1
 replace hB1 : B ≤ ((w.alloc (.cells #[.int .i64 (pl : Nat), .int .i64 20, .int .i64 (n : Nat), .slice ta tl tc, .int .i64 (nx : Nat)] 129)).drewN nq).heap.size := hB1
 replace hbs : b < ((w.alloc (.cells #[.int .i64 (pl : Nat), .int .i64 20, .int .i64 (n : Nat), .slice ta tl tc, .int .i64 (nx : Nat)] 129)).drewN nq).heap.size := hbs
 replace hs1 : ((w.alloc (.cells #[.int .i64 (pl : Nat), .int .i64 20, .int .i64 (n : Nat), .slice ta tl tc, .int .i64 (nx : Nat)] 129)).drewN nq).heap.size = w.heap.size + 1 := hs1
 have HXz : Hid (((w.alloc (.cells #[.int .i64 (pl : Nat), .int .i64 20, .int .i64 (n : Nat), .slice ta tl tc, .int .i64 (nx : Nat)] 129)).drewN nq).heap[w.heap.size]? = some (.cells #[.int .i64 (pl : Nat), .int .i64 20, .int .i64 (n : Nat), .slice ta tl tc, .int .i64 (nx : Nat)] 129 (0, 0))) := HXB.out
 clear x0 HQ HXB HK0
 generalize ((w.alloc (.cells #[.int .i64 (pl : Nat), .int .i64 20, .int .i64 (n : Nat), .slice ta tl tc, .int .i64 (nx : Nat)] 129)).drewN nq) = wz at *
 have hxz : w.heap.size < wz.heap.size := by omega
 refine wp_region_held_drew (S := fun w' => w'.cell? ⟨M, 0, none⟩ = some (.slice (some ⟨b, off, none⟩) S.length cap) ∧ w'.cell? ⟨w.heap.size, 2, none⟩ = some (.int .i64 (n : Nat)) ∧ w'.cell? ⟨b, off + n * 4, none⟩ = some (.int .i64 s.i) ∧ w'.cell? ⟨b, off + n * 4 + 1, none⟩ = some (.int .i64 s.o) ∧ w'.cell? ⟨b, off + n * 4 + 2, none⟩ = some (.int .i64 s.m) ∧ w'.cell? ⟨b, off + n * 4 + 3, none⟩ = some (.string s.code)) (by kernel_rfl) ⟨c0, x2, d0, d1, d2, d3⟩ (fun hHeld => ?_)
 refine tk 0 ?va0 rfl ?hya0 hHeld ?resta0
 case hya0 => rintro w ⟨hS0, hS2, hS3, hS4, hS5, hS6⟩; go_simp; try with_reducible rfl
 simp only [Act.put, aA, aB, aC, aD, aE]
 refine tk 1 ?va1 rfl ?hya1 hHeld ?resta1
 case hya1 => rintro w ⟨hS0, hS2, hS3, hS4, hS5, hS6⟩; go_simp; try with_reducible rfl
 simp only [Act.put, aA, aB, aC, aD, aE, aF]
 refine tk 2 ?va2 rfl ?hya2 hHeld ?resta2
 case hya2 => rintro w ⟨hS0, hS2, hS3, hS4, hS5, hS6⟩; go_simp; try with_reducible rfl
 simp only [Act.put, aA, aB, aC, aD, aE, aF]
 refine tk 3 ?va3 rfl ?hya3 hHeld ?resta3
 case hya3 => rintro w ⟨hS0, hS2, hS3, hS4, hS5, hS6⟩; go_simp; try with_reducible rfl
 simp only [Act.put, aA, aB, aC, aD, aE, aF]
 refine tk 4 ?va4 rfl ?hya4 hHeld ?resta4
 case hya4 => rintro w ⟨hS0, hS2, hS3, hS4, hS5, hS6⟩; go_simp; try with_reducible rfl
 simp only [Act.put, aA, aB, aC, aD, aE, aF]
 refine tk 5 ?va5 rfl ?hya5 hHeld ?resta5
 case hya5 => rintro w ⟨hS0, hS2, hS3, hS4, hS5, hS6⟩; go_simp; try with_reducible rfl
 simp only [Act.put, aA, aB, aC, aD, aE, aF]
 refine tk 6 ?va6 rfl ?hya6 hHeld ?resta6
 case hya6 => rintro w ⟨hS0, hS2, hS3, hS4, hS5, hS6⟩; go_simp; try with_reducible rfl
 simp only [Act.put, aA, aB, aC, aD, aE, aF]
 refine tk 7 ?va7 rfl ?hya7 hHeld ?resta7
 case hya7 => rintro w ⟨hS0, hS2, hS3, hS4, hS5, hS6⟩; go_simp; try with_reducible rfl
 simp only [Act.put, aA, aB, aC, aD, aE, aF]
 refine tk 8 ?va8 rfl ?hya8 hHeld ?resta8
 case hya8 => rintro w ⟨hS0, hS2, hS3, hS4, hS5, hS6⟩; go_simp; try with_reducible rfl
 simp only [Act.put, aA, aB, aC, aD, aE, aF]
 refine rd 9 rfl (fun K hK => ?_)
 simp only [aD, aE, aF]
 go_simp
 refine hK.out _ _ ⟨(cell_al _ hM1).trans hHeld.1, (cell_al _ hxz).trans hHeld.2.1, (cell_al _ hbs).trans hHeld.2.2.1, (cell_al _ hbs).trans hHeld.2.2.2.1, (cell_al _ hbs).trans hHeld.2.2.2.2.1, (cell_al _ hbs).trans hHeld.2.2.2.2.2⟩ (fun hHeld => ?_)
 clear hK
 refine rd 10 rfl (fun K hK => ?_)
 simp only [aD, aE, aF]
 go_simp
 refine hK.out _ _ ⟨(cell_al _ hM1).trans c0, (cell_al _ hxz).trans x2, (cell_al _ hbs).trans d0, (cell_al _ hbs).trans d1, (cell_al _ hbs).trans d2, (cell_al _ hbs).trans d3⟩ (fun hHeld => ?_)
 clear hK hHeld
 refine wpAnyH_done (by kernel_rfl) ?_ _
 have HQy := hidc (HQz.out.below ((boxB wz (.cells #[.int .i64 s.i, .int .i64 s.o, .int .i64 s.m, .string s.code] 65)).drew) hB1)
 have HKy : Hid (KR w ((wz.alloc (.cells #[.int .i64 s.i, .int .i64 s.o, .int .i64 s.m, .string s.code] 65)).drew)) := HKz.out.trans (KR.below (boxB wz _).drew)
 replace c0 : ((wz.alloc (.cells #[.int .i64 s.i, .int .i64 s.o, .int .i64 s.m, .string s.code] 65)).drew).cell? ⟨M, 0, none⟩ = some (.slice (some ⟨b, off, none⟩) S.length cap) := (cell_al _ hM1).trans c0
 replace c2 : ((wz.alloc (.cells #[.int .i64 s.i, .int .i64 s.o, .int .i64 s.m, .string s.code] 65)).drew).cell? ⟨M, 2, none⟩ = some (.int .i64 (m.sec : Nat)) := (cell_al _ hM1).trans c2
 replace c3 : ((wz.alloc (.cells #[.int .i64 s.i, .int .i64 s.o, .int .i64 s.m, .string s.code] 65)).drew).cell? ⟨M, 3, none⟩ = some (.int .i64 (m.pl : Nat)) := (cell_al _ hM1).trans c3
 replace c4 : ((wz.alloc (.cells #[.int .i64 s.i, .int .i64 s.o, .int .i64 s.m, .string s.code] 65)).drew).cell? ⟨M, 4, none⟩ = some (.int .i64 (m.base : Nat)) := (cell_al _ hM1).trans c4
 replace c5 : ((wz.alloc (.cells #[.int .i64 s.i, .int .i64 s.o, .int .i64 s.m, .string s.code] 65)).drew).cell? ⟨M, 5, none⟩ = some (.slice sa sn sc) := (cell_al _ hM1).trans c5
 replace c6 : ((wz.alloc (.cells #[.int .i64 s.i, .int .i64 s.o, .int .i64 s.m, .string s.code] 65)).drew).cell? ⟨M, 6, none⟩ = some (.slice fa fn fc) := (cell_al _ hM1).trans c6
 replace x1 : ((wz.alloc (.cells #[.int .i64 s.i, .int .i64 s.o, .int .i64 s.m, .string s.code] 65)).drew).cell? ⟨w.heap.size, 1, none⟩ = some (.int .i64 20) := (cell_al _ hxz).trans x1
 replace x2 : ((wz.alloc (.cells #[.int .i64 s.i, .int .i64 s.o, .int .i64 s.m, .string s.code] 65)).drew).cell? ⟨w.heap.size, 2, none⟩ = some (.int .i64 (n : Nat)) := (cell_al _ hxz).trans x2
 have hKs : ((wz.alloc (.cells #[.int .i64 s.i, .int .i64 s.o, .int .i64 s.m, .string s.code] 65)).drew).heap[wz.heap.size]? = some (.cells #[.int .i64 s.i, .int .i64 s.o, .int .i64 s.m, .string s.code] 65 (0, 0)) := heap_alloc_new wz _
 have s0 : ((wz.alloc (.cells #[.int .i64 s.i, .int .i64 s.o, .int .i64 s.m, .string s.code] 65)).drew).cell? ⟨wz.heap.size, 0, none⟩ = some (.int .i64 s.i) := cell_of_block hKs 0
 have s2 : ((wz.alloc (.cells #[.int .i64 s.i, .int .i64 s.o, .int .i64 s.m, .string s.code] 65)).drew).cell? ⟨wz.heap.size, 2, none⟩ = some (.int .i64 s.m) := cell_of_block hKs 2
 replace f2 := HQy.out.froz 2
 replace f3 := HQy.out.froz 3
 replace f4 := HQy.out.froz 4
 replace f6 := HQy.out.froz 6
 have HXy : Hid (((wz.alloc (.cells #[.int .i64 s.i, .int .i64 s.o, .int .i64 s.m, .string s.code] 65)).drew).heap[w.heap.size]? = some (.cells #[.int .i64 (pl : Nat), .int .i64 20, .int .i64 (n : Nat), .slice ta tl tc, .int .i64 (nx : Nat)] 129 (0, 0))) := (Below.heap_alloc _ _ _ (by omega)).trans HXz.out
 have hs2 : ((wz.alloc (.cells #[.int .i64 s.i, .int .i64 s.o, .int .i64 s.m, .string s.code] 65)).drew).heap.size = wz.heap.size + 1 := by simp
 clear d0 d1 d2 d3 HQz HKz HXz
 have HS := hidc hKs
 clear hKs
 generalize ((wz.alloc (.cells #[.int .i64 s.i, .int .i64 s.o, .int .i64 s.m, .string s.code] 65)).drew) = wy at *
 replace hM1 : M < wy.heap.size := by omega
 replace hB1 : B ≤ wy.heap.size := by omega
 have hxy : w.heap.size < wy.heap.size := by omega
 have hzy : wz.heap.size < wy.heap.size := by omega
 generalize hwzs : wz.heap.size = zs at *
 clear hwzs
 subst hs1
 go_wp2_with fail
 go_quiet (fail)
 go_wp2_with fail
 go_quiet (fail)
 go_wp2_with fail
 refine (run_ends (v := 4) (RumX.below ⟨_, HQy.out⟩ (bdr (Below.refl _ _) _) hB1) (by simp [World.drewN]; omega)).mono ?_
 rintro e w5 ⟨rfl, hm5, hB5, hk5, hs5⟩
 have HM5 := hidc hm5
 have HK5 := hidc hk5
 clear hm5 hk5
 go_wp2_with fail
 go_end0
 exact ⟨rfl, HM5.out, hB5, HKy.out.trans ((KR.below (bdr (Below.refl _ _) _)).trans HK5.out), by simp [World.drewN] at hs5; omega⟩
theorem run_sections_20g {w0 w : World} {M B : Nat} {sv : Value} {d : ByteArray} {m : MS} {T : List (Nat × Nat × Int)} (h : RumX w0 w M B sv d m T) (hB : B ≤ w.heap.size) (pl nx tl tc : Nat) (ta : Option Addr) (n : Nat) (S : List Sec) (b off cap : Nat) (hF : sv = .slice (some ⟨b, off, none⟩) S.length cap) (hS : SecsAt w0 b off S) (hbB : b < B) (hbM : b ≠ M) (hal : S.all secB = true) (hst : m.st.length ≤ 100) (hfr : m.fr.length ≤ 8) (hn : n < S.length) (hin : inS S n ≤ (m.st.length : Int) - m.base) (h64 : ¬ (64 : Int) < m.st.length + maxS S n - inS S n) :
  Calls Tryz.prog 71 #[.pointer (some ⟨M, 0, none⟩), .agg #[.int .i64 (pl : Nat), .int .i64 20, .int .i64 (n : Nat), .slice ta tl tc, .int .i64 (nx : Nat)]] w (RDo w0 w M B sv d ({ m with sec := n, pl := 0, base := m.st.length - (inS S n).toNat }) T) := by
 subst hF
 obtain ⟨iz, hiz, hzz0, hzz1, hzz2⟩ := info_parts Tryz.infoRFrame
 have hM := h.size
 have hlt := h.lt
 obtain ⟨V, hq⟩ := h.below (boxB w (.cells #[.int .i64 (pl : Nat), .int .i64 20, .int .i64 (n : Nat), .slice ta tl tc, .int .i64 (nx : Nat)] 129)) hB
 have hB1 : B ≤ (w.alloc (.cells #[.int .i64 (pl : Nat), .int .i64 20, .int .i64 (n : Nat), .slice ta tl tc, .int .i64 (nx : Nat)] 129)).heap.size := by simp; omega
 have HK0 : Hid (KR w (w.alloc (.cells #[.int .i64 (pl : Nat), .int .i64 20, .int .i64 (n : Nat), .slice ta tl tc, .int .i64 (nx : Nat)] 129))) := KR.below (boxB w _)
 have hM1 := hq.size
 have hs1 : (w.alloc (.cells #[.int .i64 (pl : Nat), .int .i64 20, .int .i64 (n : Nat), .slice ta tl tc, .int .i64 (nx : Nat)] 129)).heap.size = w.heap.size + 1 := by simp
 obtain ⟨q0, q1, q2, q3⟩ := hS.at n hn
 have d0 := (hq.kp.cell hbB hbM (off + n * 4)).trans q0
 have d1 := (hq.kp.cell hbB hbM (off + n * 4 + 1)).trans q1
 have d2 := (hq.kp.cell hbB hbM (off + n * 4 + 2)).trans q2
 have d3 := (hq.kp.cell hbB hbM (off + n * 4 + 3)).trans q3
 have hbs : b < (w.alloc (.cells #[.int .i64 (pl : Nat), .int .i64 20, .int .i64 (n : Nat), .slice ta tl tc, .int .i64 (nx : Nat)] 129)).heap.size := by omega
 have hsec := (secB_iff _).1 (sec_get hal n hn)
 rw [inS_get S n hn] at *
 try rw [maxS_get S n hn] at *
 generalize S[n] = s at *
 have x0 : (w.alloc (.cells #[.int .i64 (pl : Nat), .int .i64 20, .int .i64 (n : Nat), .slice ta tl tc, .int .i64 (nx : Nat)] 129)).cell? ⟨w.heap.size, 0, none⟩ = some (.int .i64 (pl : Nat)) := cell_of_block (heap_alloc_new w _) 0
 have x1 : (w.alloc (.cells #[.int .i64 (pl : Nat), .int .i64 20, .int .i64 (n : Nat), .slice ta tl tc, .int .i64 (nx : Nat)] 129)).cell? ⟨w.heap.size, 1, none⟩ = some (.int .i64 20) := cell_of_block (heap_alloc_new w _) 1
 have x2 : (w.alloc (.cells #[.int .i64 (pl : Nat), .int .i64 20, .int .i64 (n : Nat), .slice ta tl tc, .int .i64 (nx : Nat)] 129)).cell? ⟨w.heap.size, 2, none⟩ = some (.int .i64 (n : Nat)) := cell_of_block (heap_alloc_new w _) 2
 have HXB := hidc (heap_alloc_new w (.cells #[.int .i64 (pl : Nat), .int .i64 20, .int .i64 (n : Nat), .slice ta tl tc, .int .i64 (nx : Nat)] 129))
 have c0 := hq.c0
 have c2 := hq.c2
 have c3 := hq.c3
 have c4 := hq.c4
 have c5 := hq.c5
 have c6 := hq.c6
 obtain ⟨sa, sc, hsv⟩ := row_form hq.st
 obtain ⟨fa, fc, hfv⟩ := row_form hq.fr
 rw [hsv] at c5
 rw [hfv] at c6
 have f2 := hq.froz 2
 have f3 := hq.froz 3
 have f4 := hq.froz 4
 have f6 := hq.froz 6
 have HQ := hidc hq
 have HFV := hidc hfv
 skip
 clear hq hsv hfv q0 q1 q2 q3
 generalize hsn : m.st.length = sn at *
 have HSN := hidc hsn
 clear hsn
 generalize hfn : m.fr.length = fn at *
 have HFN := hidc hfn
 clear hfn
 go_enter Tryz.func71, Tryz.ntmps71
 go_wp2_with fail
 go_quiet (fail)
 go_wp2_with fail
 have HQz := hidc (HQ.out.below (bdr (Below.refl _ _) nq) hB1)
 have HKz : Hid (KR w ((w.alloc (.cells #[.int .i64 (pl : Nat), .int .i64 20, .int .i64 (n : Nat), .slice ta tl tc, .int .i64 (nx : Nat)] 129)).drewN nq)) := KR.below (bdr (boxB w _) nq)
 replace d0 : ((w.alloc (.cells #[.int .i64 (pl : Nat), .int .i64 20, .int .i64 (n : Nat), .slice ta tl tc, .int .i64 (nx : Nat)] 129)).drewN nq).cell? ⟨b, off + n * 4, none⟩ = some (.int .i64 s.i) := d0
 replace d1 : ((w.alloc (.cells #[.int .i64 (pl : Nat), .int .i64 20, .int .i64 (n : Nat), .slice ta tl tc, .int .i64 (nx : Nat)] 129)).drewN nq).cell? ⟨b, off + n * 4 + 1, none⟩ = some (.int .i64 s.o) := d1
 replace d2 : ((w.alloc (.cells #[.int .i64 (pl : Nat), .int .i64 20, .int .i64 (n : Nat), .slice ta tl tc, .int .i64 (nx : Nat)] 129)).drewN nq).cell? ⟨b, off + n * 4 + 2, none⟩ = some (.int .i64 s.m) := d2
 replace d3 : ((w.alloc (.cells #[.int .i64 (pl : Nat), .int .i64 20, .int .i64 (n : Nat), .slice ta tl tc, .int .i64 (nx : Nat)] 129)).drewN nq).cell? ⟨b, off + n * 4 + 3, none⟩ = some (.string s.code) := d3
 replace c0 : ((w.alloc (.cells #[.int .i64 (pl : Nat), .int .i64 20, .int .i64 (n : Nat), .slice ta tl tc, .int .i64 (nx : Nat)] 129)).drewN nq).cell? ⟨M, 0, none⟩ = some (.slice (some ⟨b, off, none⟩) S.length cap) := c0
 replace c2 : ((w.alloc (.cells #[.int .i64 (pl : Nat), .int .i64 20, .int .i64 (n : Nat), .slice ta tl tc, .int .i64 (nx : Nat)] 129)).drewN nq).cell? ⟨M, 2, none⟩ = some (.int .i64 (m.sec : Nat)) := c2
 replace c3 : ((w.alloc (.cells #[.int .i64 (pl : Nat), .int .i64 20, .int .i64 (n : Nat), .slice ta tl tc, .int .i64 (nx : Nat)] 129)).drewN nq).cell? ⟨M, 3, none⟩ = some (.int .i64 (m.pl : Nat)) := c3
 replace c4 : ((w.alloc (.cells #[.int .i64 (pl : Nat), .int .i64 20, .int .i64 (n : Nat), .slice ta tl tc, .int .i64 (nx : Nat)] 129)).drewN nq).cell? ⟨M, 4, none⟩ = some (.int .i64 (m.base : Nat)) := c4
 replace c5 : ((w.alloc (.cells #[.int .i64 (pl : Nat), .int .i64 20, .int .i64 (n : Nat), .slice ta tl tc, .int .i64 (nx : Nat)] 129)).drewN nq).cell? ⟨M, 5, none⟩ = some (.slice sa sn sc) := c5
 replace c6 : ((w.alloc (.cells #[.int .i64 (pl : Nat), .int .i64 20, .int .i64 (n : Nat), .slice ta tl tc, .int .i64 (nx : Nat)] 129)).drewN nq).cell? ⟨M, 6, none⟩ = some (.slice fa fn fc) := c6
 replace x1 : ((w.alloc (.cells #[.int .i64 (pl : Nat), .int .i64 20, .int .i64 (n : Nat), .slice ta tl tc, .int .i64 (nx : Nat)] 129)).drewN nq).cell? ⟨w.heap.size, 1, none⟩ = some (.int .i64 20) := x1
 replace x2 : ((w.alloc (.cells #[.int .i64 (pl : Nat), .int .i64 20, .int .i64 (n : Nat), .slice ta tl tc, .int .i64 (nx : Nat)] 129)).drewN nq).cell? ⟨w.heap.size, 2, none⟩ = some (.int .i64 (n : Nat)) := x2
 replace f2 : ((w.alloc (.cells #[.int .i64 (pl : Nat), .int .i64 20, .int .i64 (n : Nat), .slice ta tl tc, .int .i64 (nx : Nat)] 129)).drewN nq).frozen? ⟨M, 2, none⟩ = false := f2
 replace f3 : ((w.alloc (.cells #[.int .i64 (pl : Nat), .int .i64 20, .int .i64 (n : Nat), .slice ta tl tc, .int .i64 (nx : Nat)] 129)).drewN nq).frozen? ⟨M, 3, none⟩ = false := f3
 replace f4 : ((w.alloc (.cells #[.int .i64 (pl : Nat), .int .i64 20, .int .i64 (n : Nat), .slice ta tl tc, .int .i64 (nx : Nat)] 129)).drewN nq).frozen? ⟨M, 4, none⟩ = false := f4
 replace f6 : ((w.alloc (.cells #[.int .i64 (pl : Nat), .int .i64 20, .int .i64 (n : Nat), .slice ta tl tc, .int .i64 (nx : Nat)] 129)).drewN nq).frozen? ⟨M, 6, none⟩ = false := f6
 replace hM1 : M < ((w.alloc (.cells #[.int .i64 (pl : Nat), .int .i64 20, .int .i64 (n : Nat), .slice ta tl tc, .int .i64 (nx : Nat)] 129)).drewN nq).heap.size := hM1
 replace hB1 : B ≤ ((w.alloc (.cells #[.int .i64 (pl : Nat), .int .i64 20, .int .i64 (n : Nat), .slice ta tl tc, .int .i64 (nx : Nat)] 129)).drewN nq).heap.size := hB1
 replace hbs : b < ((w.alloc (.cells #[.int .i64 (pl : Nat), .int .i64 20, .int .i64 (n : Nat), .slice ta tl tc, .int .i64 (nx : Nat)] 129)).drewN nq).heap.size := hbs
 replace hs1 : ((w.alloc (.cells #[.int .i64 (pl : Nat), .int .i64 20, .int .i64 (n : Nat), .slice ta tl tc, .int .i64 (nx : Nat)] 129)).drewN nq).heap.size = w.heap.size + 1 := hs1
 have HXz : Hid (((w.alloc (.cells #[.int .i64 (pl : Nat), .int .i64 20, .int .i64 (n : Nat), .slice ta tl tc, .int .i64 (nx : Nat)] 129)).drewN nq).heap[w.heap.size]? = some (.cells #[.int .i64 (pl : Nat), .int .i64 20, .int .i64 (n : Nat), .slice ta tl tc, .int .i64 (nx : Nat)] 129 (0, 0))) := HXB.out
 clear x0 HQ HXB HK0
 generalize ((w.alloc (.cells #[.int .i64 (pl : Nat), .int .i64 20, .int .i64 (n : Nat), .slice ta tl tc, .int .i64 (nx : Nat)] 129)).drewN nq) = wz at *
 have hxz : w.heap.size < wz.heap.size := by omega
 refine wp_region_held_drew (S := fun w' => w'.cell? ⟨M, 0, none⟩ = some (.slice (some ⟨b, off, none⟩) S.length cap) ∧ w'.cell? ⟨w.heap.size, 2, none⟩ = some (.int .i64 (n : Nat)) ∧ w'.cell? ⟨b, off + n * 4, none⟩ = some (.int .i64 s.i) ∧ w'.cell? ⟨b, off + n * 4 + 1, none⟩ = some (.int .i64 s.o) ∧ w'.cell? ⟨b, off + n * 4 + 2, none⟩ = some (.int .i64 s.m) ∧ w'.cell? ⟨b, off + n * 4 + 3, none⟩ = some (.string s.code)) (by kernel_rfl) ⟨c0, x2, d0, d1, d2, d3⟩ (fun hHeld => ?_)
 refine tk 0 ?va0 rfl ?hya0 hHeld ?resta0
 case hya0 => rintro w ⟨hS0, hS2, hS3, hS4, hS5, hS6⟩; go_simp; try with_reducible rfl
 simp only [Act.put, aA, aB, aC, aD, aE]
 refine tk 1 ?va1 rfl ?hya1 hHeld ?resta1
 case hya1 => rintro w ⟨hS0, hS2, hS3, hS4, hS5, hS6⟩; go_simp; try with_reducible rfl
 simp only [Act.put, aA, aB, aC, aD, aE, aF]
 refine tk 2 ?va2 rfl ?hya2 hHeld ?resta2
 case hya2 => rintro w ⟨hS0, hS2, hS3, hS4, hS5, hS6⟩; go_simp; try with_reducible rfl
 simp only [Act.put, aA, aB, aC, aD, aE, aF]
 refine tk 3 ?va3 rfl ?hya3 hHeld ?resta3
 case hya3 => rintro w ⟨hS0, hS2, hS3, hS4, hS5, hS6⟩; go_simp; try with_reducible rfl
 simp only [Act.put, aA, aB, aC, aD, aE, aF]
 refine tk 4 ?va4 rfl ?hya4 hHeld ?resta4
 case hya4 => rintro w ⟨hS0, hS2, hS3, hS4, hS5, hS6⟩; go_simp; try with_reducible rfl
 simp only [Act.put, aA, aB, aC, aD, aE, aF]
 refine tk 5 ?va5 rfl ?hya5 hHeld ?resta5
 case hya5 => rintro w ⟨hS0, hS2, hS3, hS4, hS5, hS6⟩; go_simp; try with_reducible rfl
 simp only [Act.put, aA, aB, aC, aD, aE, aF]
 refine tk 6 ?va6 rfl ?hya6 hHeld ?resta6
 case hya6 => rintro w ⟨hS0, hS2, hS3, hS4, hS5, hS6⟩; go_simp; try with_reducible rfl
 simp only [Act.put, aA, aB, aC, aD, aE, aF]
 refine tk 7 ?va7 rfl ?hya7 hHeld ?resta7
 case hya7 => rintro w ⟨hS0, hS2, hS3, hS4, hS5, hS6⟩; go_simp; try with_reducible rfl
 simp only [Act.put, aA, aB, aC, aD, aE, aF]
 refine tk 8 ?va8 rfl ?hya8 hHeld ?resta8
 case hya8 => rintro w ⟨hS0, hS2, hS3, hS4, hS5, hS6⟩; go_simp; try with_reducible rfl
 simp only [Act.put, aA, aB, aC, aD, aE, aF]
 refine rd 9 rfl (fun K hK => ?_)
 simp only [aD, aE, aF]
 go_simp
 refine hK.out _ _ ⟨(cell_al _ hM1).trans hHeld.1, (cell_al _ hxz).trans hHeld.2.1, (cell_al _ hbs).trans hHeld.2.2.1, (cell_al _ hbs).trans hHeld.2.2.2.1, (cell_al _ hbs).trans hHeld.2.2.2.2.1, (cell_al _ hbs).trans hHeld.2.2.2.2.2⟩ (fun hHeld => ?_)
 clear hK
 refine rd 10 rfl (fun K hK => ?_)
 simp only [aD, aE, aF]
 go_simp
 refine hK.out _ _ ⟨(cell_al _ hM1).trans c0, (cell_al _ hxz).trans x2, (cell_al _ hbs).trans d0, (cell_al _ hbs).trans d1, (cell_al _ hbs).trans d2, (cell_al _ hbs).trans d3⟩ (fun hHeld => ?_)
 clear hK hHeld
 refine wpAnyH_done (by kernel_rfl) ?_ _
 have HQy := hidc (HQz.out.below ((boxB wz (.cells #[.int .i64 s.i, .int .i64 s.o, .int .i64 s.m, .string s.code] 65)).drew) hB1)
 have HKy : Hid (KR w ((wz.alloc (.cells #[.int .i64 s.i, .int .i64 s.o, .int .i64 s.m, .string s.code] 65)).drew)) := HKz.out.trans (KR.below (boxB wz _).drew)
 replace c0 : ((wz.alloc (.cells #[.int .i64 s.i, .int .i64 s.o, .int .i64 s.m, .string s.code] 65)).drew).cell? ⟨M, 0, none⟩ = some (.slice (some ⟨b, off, none⟩) S.length cap) := (cell_al _ hM1).trans c0
 replace c2 : ((wz.alloc (.cells #[.int .i64 s.i, .int .i64 s.o, .int .i64 s.m, .string s.code] 65)).drew).cell? ⟨M, 2, none⟩ = some (.int .i64 (m.sec : Nat)) := (cell_al _ hM1).trans c2
 replace c3 : ((wz.alloc (.cells #[.int .i64 s.i, .int .i64 s.o, .int .i64 s.m, .string s.code] 65)).drew).cell? ⟨M, 3, none⟩ = some (.int .i64 (m.pl : Nat)) := (cell_al _ hM1).trans c3
 replace c4 : ((wz.alloc (.cells #[.int .i64 s.i, .int .i64 s.o, .int .i64 s.m, .string s.code] 65)).drew).cell? ⟨M, 4, none⟩ = some (.int .i64 (m.base : Nat)) := (cell_al _ hM1).trans c4
 replace c5 : ((wz.alloc (.cells #[.int .i64 s.i, .int .i64 s.o, .int .i64 s.m, .string s.code] 65)).drew).cell? ⟨M, 5, none⟩ = some (.slice sa sn sc) := (cell_al _ hM1).trans c5
 replace c6 : ((wz.alloc (.cells #[.int .i64 s.i, .int .i64 s.o, .int .i64 s.m, .string s.code] 65)).drew).cell? ⟨M, 6, none⟩ = some (.slice fa fn fc) := (cell_al _ hM1).trans c6
 replace x1 : ((wz.alloc (.cells #[.int .i64 s.i, .int .i64 s.o, .int .i64 s.m, .string s.code] 65)).drew).cell? ⟨w.heap.size, 1, none⟩ = some (.int .i64 20) := (cell_al _ hxz).trans x1
 replace x2 : ((wz.alloc (.cells #[.int .i64 s.i, .int .i64 s.o, .int .i64 s.m, .string s.code] 65)).drew).cell? ⟨w.heap.size, 2, none⟩ = some (.int .i64 (n : Nat)) := (cell_al _ hxz).trans x2
 have hKs : ((wz.alloc (.cells #[.int .i64 s.i, .int .i64 s.o, .int .i64 s.m, .string s.code] 65)).drew).heap[wz.heap.size]? = some (.cells #[.int .i64 s.i, .int .i64 s.o, .int .i64 s.m, .string s.code] 65 (0, 0)) := heap_alloc_new wz _
 have s0 : ((wz.alloc (.cells #[.int .i64 s.i, .int .i64 s.o, .int .i64 s.m, .string s.code] 65)).drew).cell? ⟨wz.heap.size, 0, none⟩ = some (.int .i64 s.i) := cell_of_block hKs 0
 have s2 : ((wz.alloc (.cells #[.int .i64 s.i, .int .i64 s.o, .int .i64 s.m, .string s.code] 65)).drew).cell? ⟨wz.heap.size, 2, none⟩ = some (.int .i64 s.m) := cell_of_block hKs 2
 replace f2 := HQy.out.froz 2
 replace f3 := HQy.out.froz 3
 replace f4 := HQy.out.froz 4
 replace f6 := HQy.out.froz 6
 have HXy : Hid (((wz.alloc (.cells #[.int .i64 s.i, .int .i64 s.o, .int .i64 s.m, .string s.code] 65)).drew).heap[w.heap.size]? = some (.cells #[.int .i64 (pl : Nat), .int .i64 20, .int .i64 (n : Nat), .slice ta tl tc, .int .i64 (nx : Nat)] 129 (0, 0))) := (Below.heap_alloc _ _ _ (by omega)).trans HXz.out
 have hs2 : ((wz.alloc (.cells #[.int .i64 s.i, .int .i64 s.o, .int .i64 s.m, .string s.code] 65)).drew).heap.size = wz.heap.size + 1 := by simp
 clear d0 d1 d2 d3 HQz HKz HXz
 have HS := hidc hKs
 clear hKs
 generalize ((wz.alloc (.cells #[.int .i64 s.i, .int .i64 s.o, .int .i64 s.m, .string s.code] 65)).drew) = wy at *
 replace hM1 : M < wy.heap.size := by omega
 replace hB1 : B ≤ wy.heap.size := by omega
 have hxy : w.heap.size < wy.heap.size := by omega
 have hzy : wz.heap.size < wy.heap.size := by omega
 generalize hwzs : wz.heap.size = zs at *
 clear hwzs
 subst hs1
 go_wp2_with fail
 go_quiet (fail)
 go_wp2_with fail
 go_quiet (fail)
 go_wp2_with fail
 have hBV : (sn : Int) - s.i = ((sn - s.i.toNat : Nat) : Int) := by omega
 rw [hBV]
 go_end0
 exact ⟨rfl, ⟨_, (((HQy.out.below (bdr (Below.refl _ _) _) hB1).set_sec n).set_pl 0).set_base (sn - s.i.toNat)⟩, by simp [World.setCell, World.drewN]; omega, HKy.out.trans ((KR.below (bdr (Below.refl _ _) _)).trans ((HQy.out.below (bdr (Below.refl _ _) _) hB1).kr3 _ _ _ _ _ _)), by simp [World.setCell, World.drewN]; omega⟩
theorem run_sections_18d {w0 w : World} {M B : Nat} {sv : Value} {d : ByteArray} {m : MS} {T : List (Nat × Nat × Int)} (h : RumX w0 w M B sv d m T) (hB : B ≤ w.heap.size) (pl nx tl tc : Nat) (ta : Option Addr) (n : Nat) (S : List Sec) (b off cap : Nat) (hF : sv = .slice (some ⟨b, off, none⟩) S.length cap) (hS : SecsAt w0 b off S) (hbB : b < B) (hbM : b ≠ M) (hal : S.all secB = true) (hst : m.st.length ≤ 100) (hfr : m.fr.length ≤ 8) (hn : n < S.length) (hin : inS S n ≤ (m.st.length : Int) - m.base) (h8 : m.fr.length = 8) :
  Calls Tryz.prog 71 #[.pointer (some ⟨M, 0, none⟩), .agg #[.int .i64 (pl : Nat), .int .i64 18, .int .i64 (n : Nat), .slice ta tl tc, .int .i64 (nx : Nat)]] w (RDo w0 w M B sv d ({ m with fin := some 3 }) T) := by
 subst hF
 obtain ⟨iz, hiz, hzz0, hzz1, hzz2⟩ := info_parts Tryz.infoRFrame
 have hM := h.size
 have hlt := h.lt
 obtain ⟨V, hq⟩ := h.below (boxB w (.cells #[.int .i64 (pl : Nat), .int .i64 18, .int .i64 (n : Nat), .slice ta tl tc, .int .i64 (nx : Nat)] 129)) hB
 have hB1 : B ≤ (w.alloc (.cells #[.int .i64 (pl : Nat), .int .i64 18, .int .i64 (n : Nat), .slice ta tl tc, .int .i64 (nx : Nat)] 129)).heap.size := by simp; omega
 have HK0 : Hid (KR w (w.alloc (.cells #[.int .i64 (pl : Nat), .int .i64 18, .int .i64 (n : Nat), .slice ta tl tc, .int .i64 (nx : Nat)] 129))) := KR.below (boxB w _)
 have hM1 := hq.size
 have hs1 : (w.alloc (.cells #[.int .i64 (pl : Nat), .int .i64 18, .int .i64 (n : Nat), .slice ta tl tc, .int .i64 (nx : Nat)] 129)).heap.size = w.heap.size + 1 := by simp
 obtain ⟨q0, q1, q2, q3⟩ := hS.at n hn
 have d0 := (hq.kp.cell hbB hbM (off + n * 4)).trans q0
 have d1 := (hq.kp.cell hbB hbM (off + n * 4 + 1)).trans q1
 have d2 := (hq.kp.cell hbB hbM (off + n * 4 + 2)).trans q2
 have d3 := (hq.kp.cell hbB hbM (off + n * 4 + 3)).trans q3
 have hbs : b < (w.alloc (.cells #[.int .i64 (pl : Nat), .int .i64 18, .int .i64 (n : Nat), .slice ta tl tc, .int .i64 (nx : Nat)] 129)).heap.size := by omega
 have hsec := (secB_iff _).1 (sec_get hal n hn)
 rw [inS_get S n hn] at *
 try rw [maxS_get S n hn] at *
 generalize S[n] = s at *
 have x0 : (w.alloc (.cells #[.int .i64 (pl : Nat), .int .i64 18, .int .i64 (n : Nat), .slice ta tl tc, .int .i64 (nx : Nat)] 129)).cell? ⟨w.heap.size, 0, none⟩ = some (.int .i64 (pl : Nat)) := cell_of_block (heap_alloc_new w _) 0
 have x1 : (w.alloc (.cells #[.int .i64 (pl : Nat), .int .i64 18, .int .i64 (n : Nat), .slice ta tl tc, .int .i64 (nx : Nat)] 129)).cell? ⟨w.heap.size, 1, none⟩ = some (.int .i64 18) := cell_of_block (heap_alloc_new w _) 1
 have x2 : (w.alloc (.cells #[.int .i64 (pl : Nat), .int .i64 18, .int .i64 (n : Nat), .slice ta tl tc, .int .i64 (nx : Nat)] 129)).cell? ⟨w.heap.size, 2, none⟩ = some (.int .i64 (n : Nat)) := cell_of_block (heap_alloc_new w _) 2
 have HXB := hidc (heap_alloc_new w (.cells #[.int .i64 (pl : Nat), .int .i64 18, .int .i64 (n : Nat), .slice ta tl tc, .int .i64 (nx : Nat)] 129))
 have c0 := hq.c0
 have c2 := hq.c2
 have c3 := hq.c3
 have c4 := hq.c4
 have c5 := hq.c5
 have c6 := hq.c6
 obtain ⟨sa, sc, hsv⟩ := row_form hq.st
 obtain ⟨fa, fc, hfv⟩ := row_form hq.fr
 rw [hsv] at c5
 rw [hfv] at c6
 have f2 := hq.froz 2
 have f3 := hq.froz 3
 have f4 := hq.froz 4
 have f6 := hq.froz 6
 have HQ := hidc hq
 have HFV := hidc hfv
 have hn8 : ((m.fr.length : Int) == 8) = true := by rw [h8]; rfl
 clear h8
 clear hq hsv hfv q0 q1 q2 q3
 generalize hsn : m.st.length = sn at *
 have HSN := hidc hsn
 clear hsn
 generalize hfn : m.fr.length = fn at *
 have HFN := hidc hfn
 clear hfn
 go_enter Tryz.func71, Tryz.ntmps71
 go_wp2_with fail
 go_quiet (fail)
 go_wp2_with fail
 refine (run_ends (v := 3) (RumX.below ⟨_, HQ.out⟩ (bdr (Below.refl _ _) _) hB1) (by simp [World.drewN]; omega)).mono ?_
 rintro e w5 ⟨rfl, hm5, hB5, hk5, hs5⟩
 have HM5 := hidc hm5
 have HK5 := hidc hk5
 clear hm5 hk5
 go_wp2_with fail
 go_end0
 exact ⟨rfl, HM5.out, hB5, HK0.out.trans ((KR.below (bdr (Below.refl _ _) _)).trans HK5.out), by simp [World.drewN] at hs5; omega⟩
theorem run_sections_18f {w0 w : World} {M B : Nat} {sv : Value} {d : ByteArray} {m : MS} {T : List (Nat × Nat × Int)} (h : RumX w0 w M B sv d m T) (hB : B ≤ w.heap.size) (pl nx tl tc : Nat) (ta : Option Addr) (n : Nat) (S : List Sec) (b off cap : Nat) (hF : sv = .slice (some ⟨b, off, none⟩) S.length cap) (hS : SecsAt w0 b off S) (hbB : b < B) (hbM : b ≠ M) (hal : S.all secB = true) (hst : m.st.length ≤ 100) (hfr : m.fr.length ≤ 8) (hn : n < S.length) (hin : inS S n ≤ (m.st.length : Int) - m.base) (h8 : m.fr.length ≠ 8) (h64 : (64 : Int) < m.st.length + maxS S n - inS S n) :
  Calls Tryz.prog 71 #[.pointer (some ⟨M, 0, none⟩), .agg #[.int .i64 (pl : Nat), .int .i64 18, .int .i64 (n : Nat), .slice ta tl tc, .int .i64 (nx : Nat)]] w (RDo w0 w M B sv d ({ m with fin := some 4 }) T) := by
 subst hF
 obtain ⟨iz, hiz, hzz0, hzz1, hzz2⟩ := info_parts Tryz.infoRFrame
 have hM := h.size
 have hlt := h.lt
 obtain ⟨V, hq⟩ := h.below (boxB w (.cells #[.int .i64 (pl : Nat), .int .i64 18, .int .i64 (n : Nat), .slice ta tl tc, .int .i64 (nx : Nat)] 129)) hB
 have hB1 : B ≤ (w.alloc (.cells #[.int .i64 (pl : Nat), .int .i64 18, .int .i64 (n : Nat), .slice ta tl tc, .int .i64 (nx : Nat)] 129)).heap.size := by simp; omega
 have HK0 : Hid (KR w (w.alloc (.cells #[.int .i64 (pl : Nat), .int .i64 18, .int .i64 (n : Nat), .slice ta tl tc, .int .i64 (nx : Nat)] 129))) := KR.below (boxB w _)
 have hM1 := hq.size
 have hs1 : (w.alloc (.cells #[.int .i64 (pl : Nat), .int .i64 18, .int .i64 (n : Nat), .slice ta tl tc, .int .i64 (nx : Nat)] 129)).heap.size = w.heap.size + 1 := by simp
 obtain ⟨q0, q1, q2, q3⟩ := hS.at n hn
 have d0 := (hq.kp.cell hbB hbM (off + n * 4)).trans q0
 have d1 := (hq.kp.cell hbB hbM (off + n * 4 + 1)).trans q1
 have d2 := (hq.kp.cell hbB hbM (off + n * 4 + 2)).trans q2
 have d3 := (hq.kp.cell hbB hbM (off + n * 4 + 3)).trans q3
 have hbs : b < (w.alloc (.cells #[.int .i64 (pl : Nat), .int .i64 18, .int .i64 (n : Nat), .slice ta tl tc, .int .i64 (nx : Nat)] 129)).heap.size := by omega
 have hsec := (secB_iff _).1 (sec_get hal n hn)
 rw [inS_get S n hn] at *
 try rw [maxS_get S n hn] at *
 generalize S[n] = s at *
 have x0 : (w.alloc (.cells #[.int .i64 (pl : Nat), .int .i64 18, .int .i64 (n : Nat), .slice ta tl tc, .int .i64 (nx : Nat)] 129)).cell? ⟨w.heap.size, 0, none⟩ = some (.int .i64 (pl : Nat)) := cell_of_block (heap_alloc_new w _) 0
 have x1 : (w.alloc (.cells #[.int .i64 (pl : Nat), .int .i64 18, .int .i64 (n : Nat), .slice ta tl tc, .int .i64 (nx : Nat)] 129)).cell? ⟨w.heap.size, 1, none⟩ = some (.int .i64 18) := cell_of_block (heap_alloc_new w _) 1
 have x2 : (w.alloc (.cells #[.int .i64 (pl : Nat), .int .i64 18, .int .i64 (n : Nat), .slice ta tl tc, .int .i64 (nx : Nat)] 129)).cell? ⟨w.heap.size, 2, none⟩ = some (.int .i64 (n : Nat)) := cell_of_block (heap_alloc_new w _) 2
 have HXB := hidc (heap_alloc_new w (.cells #[.int .i64 (pl : Nat), .int .i64 18, .int .i64 (n : Nat), .slice ta tl tc, .int .i64 (nx : Nat)] 129))
 have c0 := hq.c0
 have c2 := hq.c2
 have c3 := hq.c3
 have c4 := hq.c4
 have c5 := hq.c5
 have c6 := hq.c6
 obtain ⟨sa, sc, hsv⟩ := row_form hq.st
 obtain ⟨fa, fc, hfv⟩ := row_form hq.fr
 rw [hsv] at c5
 rw [hfv] at c6
 have f2 := hq.froz 2
 have f3 := hq.froz 3
 have f4 := hq.froz 4
 have f6 := hq.froz 6
 have HQ := hidc hq
 have HFV := hidc hfv
 have hn8 : ((m.fr.length : Int) == 8) = false := by rw [beq_eq_false_iff_ne]; omega
 clear hq hsv hfv q0 q1 q2 q3
 generalize hsn : m.st.length = sn at *
 have HSN := hidc hsn
 clear hsn
 generalize hfn : m.fr.length = fn at *
 have HFN := hidc hfn
 clear hfn
 go_enter Tryz.func71, Tryz.ntmps71
 go_wp2_with fail
 go_quiet (fail)
 go_wp2_with fail
 have HQz := hidc (HQ.out.below (bdr (Below.refl _ _) nq) hB1)
 have HKz : Hid (KR w ((w.alloc (.cells #[.int .i64 (pl : Nat), .int .i64 18, .int .i64 (n : Nat), .slice ta tl tc, .int .i64 (nx : Nat)] 129)).drewN nq)) := KR.below (bdr (boxB w _) nq)
 replace d0 : ((w.alloc (.cells #[.int .i64 (pl : Nat), .int .i64 18, .int .i64 (n : Nat), .slice ta tl tc, .int .i64 (nx : Nat)] 129)).drewN nq).cell? ⟨b, off + n * 4, none⟩ = some (.int .i64 s.i) := d0
 replace d1 : ((w.alloc (.cells #[.int .i64 (pl : Nat), .int .i64 18, .int .i64 (n : Nat), .slice ta tl tc, .int .i64 (nx : Nat)] 129)).drewN nq).cell? ⟨b, off + n * 4 + 1, none⟩ = some (.int .i64 s.o) := d1
 replace d2 : ((w.alloc (.cells #[.int .i64 (pl : Nat), .int .i64 18, .int .i64 (n : Nat), .slice ta tl tc, .int .i64 (nx : Nat)] 129)).drewN nq).cell? ⟨b, off + n * 4 + 2, none⟩ = some (.int .i64 s.m) := d2
 replace d3 : ((w.alloc (.cells #[.int .i64 (pl : Nat), .int .i64 18, .int .i64 (n : Nat), .slice ta tl tc, .int .i64 (nx : Nat)] 129)).drewN nq).cell? ⟨b, off + n * 4 + 3, none⟩ = some (.string s.code) := d3
 replace c0 : ((w.alloc (.cells #[.int .i64 (pl : Nat), .int .i64 18, .int .i64 (n : Nat), .slice ta tl tc, .int .i64 (nx : Nat)] 129)).drewN nq).cell? ⟨M, 0, none⟩ = some (.slice (some ⟨b, off, none⟩) S.length cap) := c0
 replace c2 : ((w.alloc (.cells #[.int .i64 (pl : Nat), .int .i64 18, .int .i64 (n : Nat), .slice ta tl tc, .int .i64 (nx : Nat)] 129)).drewN nq).cell? ⟨M, 2, none⟩ = some (.int .i64 (m.sec : Nat)) := c2
 replace c3 : ((w.alloc (.cells #[.int .i64 (pl : Nat), .int .i64 18, .int .i64 (n : Nat), .slice ta tl tc, .int .i64 (nx : Nat)] 129)).drewN nq).cell? ⟨M, 3, none⟩ = some (.int .i64 (m.pl : Nat)) := c3
 replace c4 : ((w.alloc (.cells #[.int .i64 (pl : Nat), .int .i64 18, .int .i64 (n : Nat), .slice ta tl tc, .int .i64 (nx : Nat)] 129)).drewN nq).cell? ⟨M, 4, none⟩ = some (.int .i64 (m.base : Nat)) := c4
 replace c5 : ((w.alloc (.cells #[.int .i64 (pl : Nat), .int .i64 18, .int .i64 (n : Nat), .slice ta tl tc, .int .i64 (nx : Nat)] 129)).drewN nq).cell? ⟨M, 5, none⟩ = some (.slice sa sn sc) := c5
 replace c6 : ((w.alloc (.cells #[.int .i64 (pl : Nat), .int .i64 18, .int .i64 (n : Nat), .slice ta tl tc, .int .i64 (nx : Nat)] 129)).drewN nq).cell? ⟨M, 6, none⟩ = some (.slice fa fn fc) := c6
 replace x1 : ((w.alloc (.cells #[.int .i64 (pl : Nat), .int .i64 18, .int .i64 (n : Nat), .slice ta tl tc, .int .i64 (nx : Nat)] 129)).drewN nq).cell? ⟨w.heap.size, 1, none⟩ = some (.int .i64 18) := x1
 replace x2 : ((w.alloc (.cells #[.int .i64 (pl : Nat), .int .i64 18, .int .i64 (n : Nat), .slice ta tl tc, .int .i64 (nx : Nat)] 129)).drewN nq).cell? ⟨w.heap.size, 2, none⟩ = some (.int .i64 (n : Nat)) := x2
 replace f2 : ((w.alloc (.cells #[.int .i64 (pl : Nat), .int .i64 18, .int .i64 (n : Nat), .slice ta tl tc, .int .i64 (nx : Nat)] 129)).drewN nq).frozen? ⟨M, 2, none⟩ = false := f2
 replace f3 : ((w.alloc (.cells #[.int .i64 (pl : Nat), .int .i64 18, .int .i64 (n : Nat), .slice ta tl tc, .int .i64 (nx : Nat)] 129)).drewN nq).frozen? ⟨M, 3, none⟩ = false := f3
 replace f4 : ((w.alloc (.cells #[.int .i64 (pl : Nat), .int .i64 18, .int .i64 (n : Nat), .slice ta tl tc, .int .i64 (nx : Nat)] 129)).drewN nq).frozen? ⟨M, 4, none⟩ = false := f4
 replace f6 : ((w.alloc (.cells #[.int .i64 (pl : Nat), .int .i64 18, .int .i64 (n : Nat), .slice ta tl tc, .int .i64 (nx : Nat)] 129)).drewN nq).frozen? ⟨M, 6, none⟩ = false := f6
 replace hM1 : M < ((w.alloc (.cells #[.int .i64 (pl : Nat), .int .i64 18, .int .i64 (n : Nat), .slice ta tl tc, .int .i64 (nx : Nat)] 129)).drewN nq).heap.size := hM1
 replace hB1 : B ≤ ((w.alloc (.cells #[.int .i64 (pl : Nat), .int .i64 18, .int .i64 (n : Nat), .slice ta tl tc, .int .i64 (nx : Nat)] 129)).drewN nq).heap.size := hB1
 replace hbs : b < ((w.alloc (.cells #[.int .i64 (pl : Nat), .int .i64 18, .int .i64 (n : Nat), .slice ta tl tc, .int .i64 (nx : Nat)] 129)).drewN nq).heap.size := hbs
 replace hs1 : ((w.alloc (.cells #[.int .i64 (pl : Nat), .int .i64 18, .int .i64 (n : Nat), .slice ta tl tc, .int .i64 (nx : Nat)] 129)).drewN nq).heap.size = w.heap.size + 1 := hs1
 have HXz : Hid (((w.alloc (.cells #[.int .i64 (pl : Nat), .int .i64 18, .int .i64 (n : Nat), .slice ta tl tc, .int .i64 (nx : Nat)] 129)).drewN nq).heap[w.heap.size]? = some (.cells #[.int .i64 (pl : Nat), .int .i64 18, .int .i64 (n : Nat), .slice ta tl tc, .int .i64 (nx : Nat)] 129 (0, 0))) := HXB.out
 clear x0 HQ HXB HK0
 generalize ((w.alloc (.cells #[.int .i64 (pl : Nat), .int .i64 18, .int .i64 (n : Nat), .slice ta tl tc, .int .i64 (nx : Nat)] 129)).drewN nq) = wz at *
 have hxz : w.heap.size < wz.heap.size := by omega
 refine wp_region_held_drew (S := fun w' => w'.cell? ⟨M, 0, none⟩ = some (.slice (some ⟨b, off, none⟩) S.length cap) ∧ w'.cell? ⟨w.heap.size, 2, none⟩ = some (.int .i64 (n : Nat)) ∧ w'.cell? ⟨b, off + n * 4, none⟩ = some (.int .i64 s.i) ∧ w'.cell? ⟨b, off + n * 4 + 1, none⟩ = some (.int .i64 s.o) ∧ w'.cell? ⟨b, off + n * 4 + 2, none⟩ = some (.int .i64 s.m) ∧ w'.cell? ⟨b, off + n * 4 + 3, none⟩ = some (.string s.code)) (by kernel_rfl) ⟨c0, x2, d0, d1, d2, d3⟩ (fun hHeld => ?_)
 refine tk 0 ?va0 rfl ?hya0 hHeld ?resta0
 case hya0 => rintro w ⟨hS0, hS2, hS3, hS4, hS5, hS6⟩; go_simp; try with_reducible rfl
 simp only [Act.put, aA, aB, aC, aD, aE]
 refine tk 1 ?va1 rfl ?hya1 hHeld ?resta1
 case hya1 => rintro w ⟨hS0, hS2, hS3, hS4, hS5, hS6⟩; go_simp; try with_reducible rfl
 simp only [Act.put, aA, aB, aC, aD, aE, aF]
 refine tk 2 ?va2 rfl ?hya2 hHeld ?resta2
 case hya2 => rintro w ⟨hS0, hS2, hS3, hS4, hS5, hS6⟩; go_simp; try with_reducible rfl
 simp only [Act.put, aA, aB, aC, aD, aE, aF]
 refine tk 3 ?va3 rfl ?hya3 hHeld ?resta3
 case hya3 => rintro w ⟨hS0, hS2, hS3, hS4, hS5, hS6⟩; go_simp; try with_reducible rfl
 simp only [Act.put, aA, aB, aC, aD, aE, aF]
 refine tk 4 ?va4 rfl ?hya4 hHeld ?resta4
 case hya4 => rintro w ⟨hS0, hS2, hS3, hS4, hS5, hS6⟩; go_simp; try with_reducible rfl
 simp only [Act.put, aA, aB, aC, aD, aE, aF]
 refine tk 5 ?va5 rfl ?hya5 hHeld ?resta5
 case hya5 => rintro w ⟨hS0, hS2, hS3, hS4, hS5, hS6⟩; go_simp; try with_reducible rfl
 simp only [Act.put, aA, aB, aC, aD, aE, aF]
 refine tk 6 ?va6 rfl ?hya6 hHeld ?resta6
 case hya6 => rintro w ⟨hS0, hS2, hS3, hS4, hS5, hS6⟩; go_simp; try with_reducible rfl
 simp only [Act.put, aA, aB, aC, aD, aE, aF]
 refine tk 7 ?va7 rfl ?hya7 hHeld ?resta7
 case hya7 => rintro w ⟨hS0, hS2, hS3, hS4, hS5, hS6⟩; go_simp; try with_reducible rfl
 simp only [Act.put, aA, aB, aC, aD, aE, aF]
 refine tk 8 ?va8 rfl ?hya8 hHeld ?resta8
 case hya8 => rintro w ⟨hS0, hS2, hS3, hS4, hS5, hS6⟩; go_simp; try with_reducible rfl
 simp only [Act.put, aA, aB, aC, aD, aE, aF]
 refine rd 9 rfl (fun K hK => ?_)
 simp only [aD, aE, aF]
 go_simp
 refine hK.out _ _ ⟨(cell_al _ hM1).trans hHeld.1, (cell_al _ hxz).trans hHeld.2.1, (cell_al _ hbs).trans hHeld.2.2.1, (cell_al _ hbs).trans hHeld.2.2.2.1, (cell_al _ hbs).trans hHeld.2.2.2.2.1, (cell_al _ hbs).trans hHeld.2.2.2.2.2⟩ (fun hHeld => ?_)
 clear hK
 refine rd 10 rfl (fun K hK => ?_)
 simp only [aD, aE, aF]
 go_simp
 refine hK.out _ _ ⟨(cell_al _ hM1).trans c0, (cell_al _ hxz).trans x2, (cell_al _ hbs).trans d0, (cell_al _ hbs).trans d1, (cell_al _ hbs).trans d2, (cell_al _ hbs).trans d3⟩ (fun hHeld => ?_)
 clear hK hHeld
 refine wpAnyH_done (by kernel_rfl) ?_ _
 have HQy := hidc (HQz.out.below ((boxB wz (.cells #[.int .i64 s.i, .int .i64 s.o, .int .i64 s.m, .string s.code] 65)).drew) hB1)
 have HKy : Hid (KR w ((wz.alloc (.cells #[.int .i64 s.i, .int .i64 s.o, .int .i64 s.m, .string s.code] 65)).drew)) := HKz.out.trans (KR.below (boxB wz _).drew)
 replace c0 : ((wz.alloc (.cells #[.int .i64 s.i, .int .i64 s.o, .int .i64 s.m, .string s.code] 65)).drew).cell? ⟨M, 0, none⟩ = some (.slice (some ⟨b, off, none⟩) S.length cap) := (cell_al _ hM1).trans c0
 replace c2 : ((wz.alloc (.cells #[.int .i64 s.i, .int .i64 s.o, .int .i64 s.m, .string s.code] 65)).drew).cell? ⟨M, 2, none⟩ = some (.int .i64 (m.sec : Nat)) := (cell_al _ hM1).trans c2
 replace c3 : ((wz.alloc (.cells #[.int .i64 s.i, .int .i64 s.o, .int .i64 s.m, .string s.code] 65)).drew).cell? ⟨M, 3, none⟩ = some (.int .i64 (m.pl : Nat)) := (cell_al _ hM1).trans c3
 replace c4 : ((wz.alloc (.cells #[.int .i64 s.i, .int .i64 s.o, .int .i64 s.m, .string s.code] 65)).drew).cell? ⟨M, 4, none⟩ = some (.int .i64 (m.base : Nat)) := (cell_al _ hM1).trans c4
 replace c5 : ((wz.alloc (.cells #[.int .i64 s.i, .int .i64 s.o, .int .i64 s.m, .string s.code] 65)).drew).cell? ⟨M, 5, none⟩ = some (.slice sa sn sc) := (cell_al _ hM1).trans c5
 replace c6 : ((wz.alloc (.cells #[.int .i64 s.i, .int .i64 s.o, .int .i64 s.m, .string s.code] 65)).drew).cell? ⟨M, 6, none⟩ = some (.slice fa fn fc) := (cell_al _ hM1).trans c6
 replace x1 : ((wz.alloc (.cells #[.int .i64 s.i, .int .i64 s.o, .int .i64 s.m, .string s.code] 65)).drew).cell? ⟨w.heap.size, 1, none⟩ = some (.int .i64 18) := (cell_al _ hxz).trans x1
 replace x2 : ((wz.alloc (.cells #[.int .i64 s.i, .int .i64 s.o, .int .i64 s.m, .string s.code] 65)).drew).cell? ⟨w.heap.size, 2, none⟩ = some (.int .i64 (n : Nat)) := (cell_al _ hxz).trans x2
 have hKs : ((wz.alloc (.cells #[.int .i64 s.i, .int .i64 s.o, .int .i64 s.m, .string s.code] 65)).drew).heap[wz.heap.size]? = some (.cells #[.int .i64 s.i, .int .i64 s.o, .int .i64 s.m, .string s.code] 65 (0, 0)) := heap_alloc_new wz _
 have s0 : ((wz.alloc (.cells #[.int .i64 s.i, .int .i64 s.o, .int .i64 s.m, .string s.code] 65)).drew).cell? ⟨wz.heap.size, 0, none⟩ = some (.int .i64 s.i) := cell_of_block hKs 0
 have s2 : ((wz.alloc (.cells #[.int .i64 s.i, .int .i64 s.o, .int .i64 s.m, .string s.code] 65)).drew).cell? ⟨wz.heap.size, 2, none⟩ = some (.int .i64 s.m) := cell_of_block hKs 2
 replace f2 := HQy.out.froz 2
 replace f3 := HQy.out.froz 3
 replace f4 := HQy.out.froz 4
 replace f6 := HQy.out.froz 6
 have HXy : Hid (((wz.alloc (.cells #[.int .i64 s.i, .int .i64 s.o, .int .i64 s.m, .string s.code] 65)).drew).heap[w.heap.size]? = some (.cells #[.int .i64 (pl : Nat), .int .i64 18, .int .i64 (n : Nat), .slice ta tl tc, .int .i64 (nx : Nat)] 129 (0, 0))) := (Below.heap_alloc _ _ _ (by omega)).trans HXz.out
 have hs2 : ((wz.alloc (.cells #[.int .i64 s.i, .int .i64 s.o, .int .i64 s.m, .string s.code] 65)).drew).heap.size = wz.heap.size + 1 := by simp
 clear d0 d1 d2 d3 HQz HKz HXz
 have HS := hidc hKs
 clear hKs
 generalize ((wz.alloc (.cells #[.int .i64 s.i, .int .i64 s.o, .int .i64 s.m, .string s.code] 65)).drew) = wy at *
 replace hM1 : M < wy.heap.size := by omega
 replace hB1 : B ≤ wy.heap.size := by omega
 have hxy : w.heap.size < wy.heap.size := by omega
 have hzy : wz.heap.size < wy.heap.size := by omega
 generalize hwzs : wz.heap.size = zs at *
 clear hwzs
 subst hs1
 go_wp2_with fail
 go_quiet (fail)
 go_wp2_with fail
 go_quiet (fail)
 go_wp2_with fail
 refine (run_ends (v := 4) (RumX.below ⟨_, HQy.out⟩ (bdr (Below.refl _ _) _) hB1) (by simp [World.drewN]; omega)).mono ?_
 rintro e w5 ⟨rfl, hm5, hB5, hk5, hs5⟩
 have HM5 := hidc hm5
 have HK5 := hidc hk5
 clear hm5 hk5
 go_wp2_with fail
 go_end0
 exact ⟨rfl, HM5.out, hB5, HKy.out.trans ((KR.below (bdr (Below.refl _ _) _)).trans HK5.out), by simp [World.drewN] at hs5; omega⟩
theorem run_sections_18g {w0 w : World} {M B : Nat} {sv : Value} {d : ByteArray} {m : MS} {T : List (Nat × Nat × Int)} (h : RumX w0 w M B sv d m T) (hB : B ≤ w.heap.size) (pl nx tl tc : Nat) (ta : Option Addr) (n : Nat) (S : List Sec) (b off cap : Nat) (hF : sv = .slice (some ⟨b, off, none⟩) S.length cap) (hS : SecsAt w0 b off S) (hbB : b < B) (hbM : b ≠ M) (hal : S.all secB = true) (hst : m.st.length ≤ 100) (hfr : m.fr.length ≤ 8) (hn : n < S.length) (hin : inS S n ≤ (m.st.length : Int) - m.base) (h8 : m.fr.length ≠ 8) (h64 : ¬ (64 : Int) < m.st.length + maxS S n - inS S n) :
  Calls Tryz.prog 71 #[.pointer (some ⟨M, 0, none⟩), .agg #[.int .i64 (pl : Nat), .int .i64 18, .int .i64 (n : Nat), .slice ta tl tc, .int .i64 (nx : Nat)]] w (RDo w0 w M B sv d ({ m with fr := m.fr ++ [(m.sec, m.pl, m.base)], sec := n, pl := 0, base := m.st.length - (inS S n).toNat }) T) := by
 subst hF
 obtain ⟨iz, hiz, hzz0, hzz1, hzz2⟩ := info_parts Tryz.infoRFrame
 have hM := h.size
 have hlt := h.lt
 obtain ⟨V, hq⟩ := h.below (boxB w (.cells #[.int .i64 (pl : Nat), .int .i64 18, .int .i64 (n : Nat), .slice ta tl tc, .int .i64 (nx : Nat)] 129)) hB
 have hB1 : B ≤ (w.alloc (.cells #[.int .i64 (pl : Nat), .int .i64 18, .int .i64 (n : Nat), .slice ta tl tc, .int .i64 (nx : Nat)] 129)).heap.size := by simp; omega
 have HK0 : Hid (KR w (w.alloc (.cells #[.int .i64 (pl : Nat), .int .i64 18, .int .i64 (n : Nat), .slice ta tl tc, .int .i64 (nx : Nat)] 129))) := KR.below (boxB w _)
 have hM1 := hq.size
 have hs1 : (w.alloc (.cells #[.int .i64 (pl : Nat), .int .i64 18, .int .i64 (n : Nat), .slice ta tl tc, .int .i64 (nx : Nat)] 129)).heap.size = w.heap.size + 1 := by simp
 obtain ⟨q0, q1, q2, q3⟩ := hS.at n hn
 have d0 := (hq.kp.cell hbB hbM (off + n * 4)).trans q0
 have d1 := (hq.kp.cell hbB hbM (off + n * 4 + 1)).trans q1
 have d2 := (hq.kp.cell hbB hbM (off + n * 4 + 2)).trans q2
 have d3 := (hq.kp.cell hbB hbM (off + n * 4 + 3)).trans q3
 have hbs : b < (w.alloc (.cells #[.int .i64 (pl : Nat), .int .i64 18, .int .i64 (n : Nat), .slice ta tl tc, .int .i64 (nx : Nat)] 129)).heap.size := by omega
 have hsec := (secB_iff _).1 (sec_get hal n hn)
 rw [inS_get S n hn] at *
 try rw [maxS_get S n hn] at *
 generalize S[n] = s at *
 have x0 : (w.alloc (.cells #[.int .i64 (pl : Nat), .int .i64 18, .int .i64 (n : Nat), .slice ta tl tc, .int .i64 (nx : Nat)] 129)).cell? ⟨w.heap.size, 0, none⟩ = some (.int .i64 (pl : Nat)) := cell_of_block (heap_alloc_new w _) 0
 have x1 : (w.alloc (.cells #[.int .i64 (pl : Nat), .int .i64 18, .int .i64 (n : Nat), .slice ta tl tc, .int .i64 (nx : Nat)] 129)).cell? ⟨w.heap.size, 1, none⟩ = some (.int .i64 18) := cell_of_block (heap_alloc_new w _) 1
 have x2 : (w.alloc (.cells #[.int .i64 (pl : Nat), .int .i64 18, .int .i64 (n : Nat), .slice ta tl tc, .int .i64 (nx : Nat)] 129)).cell? ⟨w.heap.size, 2, none⟩ = some (.int .i64 (n : Nat)) := cell_of_block (heap_alloc_new w _) 2
 have HXB := hidc (heap_alloc_new w (.cells #[.int .i64 (pl : Nat), .int .i64 18, .int .i64 (n : Nat), .slice ta tl tc, .int .i64 (nx : Nat)] 129))
 have c0 := hq.c0
 have c2 := hq.c2
 have c3 := hq.c3
 have c4 := hq.c4
 have c5 := hq.c5
 have c6 := hq.c6
 obtain ⟨sa, sc, hsv⟩ := row_form hq.st
 obtain ⟨fa, fc, hfv⟩ := row_form hq.fr
 rw [hsv] at c5
 rw [hfv] at c6
 have f2 := hq.froz 2
 have f3 := hq.froz 3
 have f4 := hq.froz 4
 have f6 := hq.froz 6
 have HQ := hidc hq
 have HFV := hidc hfv
 have hn8 : ((m.fr.length : Int) == 8) = false := by rw [beq_eq_false_iff_ne]; omega
 clear hq hsv hfv q0 q1 q2 q3
 generalize hsn : m.st.length = sn at *
 have HSN := hidc hsn
 clear hsn
 generalize hfn : m.fr.length = fn at *
 have HFN := hidc hfn
 clear hfn
 go_enter Tryz.func71, Tryz.ntmps71
 go_wp2_with fail
 go_quiet (fail)
 go_wp2_with fail
 have HQz := hidc (HQ.out.below (bdr (Below.refl _ _) nq) hB1)
 have HKz : Hid (KR w ((w.alloc (.cells #[.int .i64 (pl : Nat), .int .i64 18, .int .i64 (n : Nat), .slice ta tl tc, .int .i64 (nx : Nat)] 129)).drewN nq)) := KR.below (bdr (boxB w _) nq)
 replace d0 : ((w.alloc (.cells #[.int .i64 (pl : Nat), .int .i64 18, .int .i64 (n : Nat), .slice ta tl tc, .int .i64 (nx : Nat)] 129)).drewN nq).cell? ⟨b, off + n * 4, none⟩ = some (.int .i64 s.i) := d0
 replace d1 : ((w.alloc (.cells #[.int .i64 (pl : Nat), .int .i64 18, .int .i64 (n : Nat), .slice ta tl tc, .int .i64 (nx : Nat)] 129)).drewN nq).cell? ⟨b, off + n * 4 + 1, none⟩ = some (.int .i64 s.o) := d1
 replace d2 : ((w.alloc (.cells #[.int .i64 (pl : Nat), .int .i64 18, .int .i64 (n : Nat), .slice ta tl tc, .int .i64 (nx : Nat)] 129)).drewN nq).cell? ⟨b, off + n * 4 + 2, none⟩ = some (.int .i64 s.m) := d2
 replace d3 : ((w.alloc (.cells #[.int .i64 (pl : Nat), .int .i64 18, .int .i64 (n : Nat), .slice ta tl tc, .int .i64 (nx : Nat)] 129)).drewN nq).cell? ⟨b, off + n * 4 + 3, none⟩ = some (.string s.code) := d3
 replace c0 : ((w.alloc (.cells #[.int .i64 (pl : Nat), .int .i64 18, .int .i64 (n : Nat), .slice ta tl tc, .int .i64 (nx : Nat)] 129)).drewN nq).cell? ⟨M, 0, none⟩ = some (.slice (some ⟨b, off, none⟩) S.length cap) := c0
 replace c2 : ((w.alloc (.cells #[.int .i64 (pl : Nat), .int .i64 18, .int .i64 (n : Nat), .slice ta tl tc, .int .i64 (nx : Nat)] 129)).drewN nq).cell? ⟨M, 2, none⟩ = some (.int .i64 (m.sec : Nat)) := c2
 replace c3 : ((w.alloc (.cells #[.int .i64 (pl : Nat), .int .i64 18, .int .i64 (n : Nat), .slice ta tl tc, .int .i64 (nx : Nat)] 129)).drewN nq).cell? ⟨M, 3, none⟩ = some (.int .i64 (m.pl : Nat)) := c3
 replace c4 : ((w.alloc (.cells #[.int .i64 (pl : Nat), .int .i64 18, .int .i64 (n : Nat), .slice ta tl tc, .int .i64 (nx : Nat)] 129)).drewN nq).cell? ⟨M, 4, none⟩ = some (.int .i64 (m.base : Nat)) := c4
 replace c5 : ((w.alloc (.cells #[.int .i64 (pl : Nat), .int .i64 18, .int .i64 (n : Nat), .slice ta tl tc, .int .i64 (nx : Nat)] 129)).drewN nq).cell? ⟨M, 5, none⟩ = some (.slice sa sn sc) := c5
 replace c6 : ((w.alloc (.cells #[.int .i64 (pl : Nat), .int .i64 18, .int .i64 (n : Nat), .slice ta tl tc, .int .i64 (nx : Nat)] 129)).drewN nq).cell? ⟨M, 6, none⟩ = some (.slice fa fn fc) := c6
 replace x1 : ((w.alloc (.cells #[.int .i64 (pl : Nat), .int .i64 18, .int .i64 (n : Nat), .slice ta tl tc, .int .i64 (nx : Nat)] 129)).drewN nq).cell? ⟨w.heap.size, 1, none⟩ = some (.int .i64 18) := x1
 replace x2 : ((w.alloc (.cells #[.int .i64 (pl : Nat), .int .i64 18, .int .i64 (n : Nat), .slice ta tl tc, .int .i64 (nx : Nat)] 129)).drewN nq).cell? ⟨w.heap.size, 2, none⟩ = some (.int .i64 (n : Nat)) := x2
 replace f2 : ((w.alloc (.cells #[.int .i64 (pl : Nat), .int .i64 18, .int .i64 (n : Nat), .slice ta tl tc, .int .i64 (nx : Nat)] 129)).drewN nq).frozen? ⟨M, 2, none⟩ = false := f2
 replace f3 : ((w.alloc (.cells #[.int .i64 (pl : Nat), .int .i64 18, .int .i64 (n : Nat), .slice ta tl tc, .int .i64 (nx : Nat)] 129)).drewN nq).frozen? ⟨M, 3, none⟩ = false := f3
 replace f4 : ((w.alloc (.cells #[.int .i64 (pl : Nat), .int .i64 18, .int .i64 (n : Nat), .slice ta tl tc, .int .i64 (nx : Nat)] 129)).drewN nq).frozen? ⟨M, 4, none⟩ = false := f4
 replace f6 : ((w.alloc (.cells #[.int .i64 (pl : Nat), .int .i64 18, .int .i64 (n : Nat), .slice ta tl tc, .int .i64 (nx : Nat)] 129)).drewN nq).frozen? ⟨M, 6, none⟩ = false := f6
 replace hM1 : M < ((w.alloc (.cells #[.int .i64 (pl : Nat), .int .i64 18, .int .i64 (n : Nat), .slice ta tl tc, .int .i64 (nx : Nat)] 129)).drewN nq).heap.size := hM1
 replace hB1 : B ≤ ((w.alloc (.cells #[.int .i64 (pl : Nat), .int .i64 18, .int .i64 (n : Nat), .slice ta tl tc, .int .i64 (nx : Nat)] 129)).drewN nq).heap.size := hB1
 replace hbs : b < ((w.alloc (.cells #[.int .i64 (pl : Nat), .int .i64 18, .int .i64 (n : Nat), .slice ta tl tc, .int .i64 (nx : Nat)] 129)).drewN nq).heap.size := hbs
 replace hs1 : ((w.alloc (.cells #[.int .i64 (pl : Nat), .int .i64 18, .int .i64 (n : Nat), .slice ta tl tc, .int .i64 (nx : Nat)] 129)).drewN nq).heap.size = w.heap.size + 1 := hs1
 have HXz : Hid (((w.alloc (.cells #[.int .i64 (pl : Nat), .int .i64 18, .int .i64 (n : Nat), .slice ta tl tc, .int .i64 (nx : Nat)] 129)).drewN nq).heap[w.heap.size]? = some (.cells #[.int .i64 (pl : Nat), .int .i64 18, .int .i64 (n : Nat), .slice ta tl tc, .int .i64 (nx : Nat)] 129 (0, 0))) := HXB.out
 clear x0 HQ HXB HK0
 generalize ((w.alloc (.cells #[.int .i64 (pl : Nat), .int .i64 18, .int .i64 (n : Nat), .slice ta tl tc, .int .i64 (nx : Nat)] 129)).drewN nq) = wz at *
 have hxz : w.heap.size < wz.heap.size := by omega
 refine wp_region_held_drew (S := fun w' => w'.cell? ⟨M, 0, none⟩ = some (.slice (some ⟨b, off, none⟩) S.length cap) ∧ w'.cell? ⟨w.heap.size, 2, none⟩ = some (.int .i64 (n : Nat)) ∧ w'.cell? ⟨b, off + n * 4, none⟩ = some (.int .i64 s.i) ∧ w'.cell? ⟨b, off + n * 4 + 1, none⟩ = some (.int .i64 s.o) ∧ w'.cell? ⟨b, off + n * 4 + 2, none⟩ = some (.int .i64 s.m) ∧ w'.cell? ⟨b, off + n * 4 + 3, none⟩ = some (.string s.code)) (by kernel_rfl) ⟨c0, x2, d0, d1, d2, d3⟩ (fun hHeld => ?_)
 refine tk 0 ?va0 rfl ?hya0 hHeld ?resta0
 case hya0 => rintro w ⟨hS0, hS2, hS3, hS4, hS5, hS6⟩; go_simp; try with_reducible rfl
 simp only [Act.put, aA, aB, aC, aD, aE]
 refine tk 1 ?va1 rfl ?hya1 hHeld ?resta1
 case hya1 => rintro w ⟨hS0, hS2, hS3, hS4, hS5, hS6⟩; go_simp; try with_reducible rfl
 simp only [Act.put, aA, aB, aC, aD, aE, aF]
 refine tk 2 ?va2 rfl ?hya2 hHeld ?resta2
 case hya2 => rintro w ⟨hS0, hS2, hS3, hS4, hS5, hS6⟩; go_simp; try with_reducible rfl
 simp only [Act.put, aA, aB, aC, aD, aE, aF]
 refine tk 3 ?va3 rfl ?hya3 hHeld ?resta3
 case hya3 => rintro w ⟨hS0, hS2, hS3, hS4, hS5, hS6⟩; go_simp; try with_reducible rfl
 simp only [Act.put, aA, aB, aC, aD, aE, aF]
 refine tk 4 ?va4 rfl ?hya4 hHeld ?resta4
 case hya4 => rintro w ⟨hS0, hS2, hS3, hS4, hS5, hS6⟩; go_simp; try with_reducible rfl
 simp only [Act.put, aA, aB, aC, aD, aE, aF]
 refine tk 5 ?va5 rfl ?hya5 hHeld ?resta5
 case hya5 => rintro w ⟨hS0, hS2, hS3, hS4, hS5, hS6⟩; go_simp; try with_reducible rfl
 simp only [Act.put, aA, aB, aC, aD, aE, aF]
 refine tk 6 ?va6 rfl ?hya6 hHeld ?resta6
 case hya6 => rintro w ⟨hS0, hS2, hS3, hS4, hS5, hS6⟩; go_simp; try with_reducible rfl
 simp only [Act.put, aA, aB, aC, aD, aE, aF]
 refine tk 7 ?va7 rfl ?hya7 hHeld ?resta7
 case hya7 => rintro w ⟨hS0, hS2, hS3, hS4, hS5, hS6⟩; go_simp; try with_reducible rfl
 simp only [Act.put, aA, aB, aC, aD, aE, aF]
 refine tk 8 ?va8 rfl ?hya8 hHeld ?resta8
 case hya8 => rintro w ⟨hS0, hS2, hS3, hS4, hS5, hS6⟩; go_simp; try with_reducible rfl
 simp only [Act.put, aA, aB, aC, aD, aE, aF]
 refine rd 9 rfl (fun K hK => ?_)
 simp only [aD, aE, aF]
 go_simp
 refine hK.out _ _ ⟨(cell_al _ hM1).trans hHeld.1, (cell_al _ hxz).trans hHeld.2.1, (cell_al _ hbs).trans hHeld.2.2.1, (cell_al _ hbs).trans hHeld.2.2.2.1, (cell_al _ hbs).trans hHeld.2.2.2.2.1, (cell_al _ hbs).trans hHeld.2.2.2.2.2⟩ (fun hHeld => ?_)
 clear hK
 refine rd 10 rfl (fun K hK => ?_)
 simp only [aD, aE, aF]
 go_simp
 refine hK.out _ _ ⟨(cell_al _ hM1).trans c0, (cell_al _ hxz).trans x2, (cell_al _ hbs).trans d0, (cell_al _ hbs).trans d1, (cell_al _ hbs).trans d2, (cell_al _ hbs).trans d3⟩ (fun hHeld => ?_)
 clear hK hHeld
 refine wpAnyH_done (by kernel_rfl) ?_ _
 have HQy := hidc (HQz.out.below ((boxB wz (.cells #[.int .i64 s.i, .int .i64 s.o, .int .i64 s.m, .string s.code] 65)).drew) hB1)
 have HKy : Hid (KR w ((wz.alloc (.cells #[.int .i64 s.i, .int .i64 s.o, .int .i64 s.m, .string s.code] 65)).drew)) := HKz.out.trans (KR.below (boxB wz _).drew)
 replace c0 : ((wz.alloc (.cells #[.int .i64 s.i, .int .i64 s.o, .int .i64 s.m, .string s.code] 65)).drew).cell? ⟨M, 0, none⟩ = some (.slice (some ⟨b, off, none⟩) S.length cap) := (cell_al _ hM1).trans c0
 replace c2 : ((wz.alloc (.cells #[.int .i64 s.i, .int .i64 s.o, .int .i64 s.m, .string s.code] 65)).drew).cell? ⟨M, 2, none⟩ = some (.int .i64 (m.sec : Nat)) := (cell_al _ hM1).trans c2
 replace c3 : ((wz.alloc (.cells #[.int .i64 s.i, .int .i64 s.o, .int .i64 s.m, .string s.code] 65)).drew).cell? ⟨M, 3, none⟩ = some (.int .i64 (m.pl : Nat)) := (cell_al _ hM1).trans c3
 replace c4 : ((wz.alloc (.cells #[.int .i64 s.i, .int .i64 s.o, .int .i64 s.m, .string s.code] 65)).drew).cell? ⟨M, 4, none⟩ = some (.int .i64 (m.base : Nat)) := (cell_al _ hM1).trans c4
 replace c5 : ((wz.alloc (.cells #[.int .i64 s.i, .int .i64 s.o, .int .i64 s.m, .string s.code] 65)).drew).cell? ⟨M, 5, none⟩ = some (.slice sa sn sc) := (cell_al _ hM1).trans c5
 replace c6 : ((wz.alloc (.cells #[.int .i64 s.i, .int .i64 s.o, .int .i64 s.m, .string s.code] 65)).drew).cell? ⟨M, 6, none⟩ = some (.slice fa fn fc) := (cell_al _ hM1).trans c6
 replace x1 : ((wz.alloc (.cells #[.int .i64 s.i, .int .i64 s.o, .int .i64 s.m, .string s.code] 65)).drew).cell? ⟨w.heap.size, 1, none⟩ = some (.int .i64 18) := (cell_al _ hxz).trans x1
 replace x2 : ((wz.alloc (.cells #[.int .i64 s.i, .int .i64 s.o, .int .i64 s.m, .string s.code] 65)).drew).cell? ⟨w.heap.size, 2, none⟩ = some (.int .i64 (n : Nat)) := (cell_al _ hxz).trans x2
 have hKs : ((wz.alloc (.cells #[.int .i64 s.i, .int .i64 s.o, .int .i64 s.m, .string s.code] 65)).drew).heap[wz.heap.size]? = some (.cells #[.int .i64 s.i, .int .i64 s.o, .int .i64 s.m, .string s.code] 65 (0, 0)) := heap_alloc_new wz _
 have s0 : ((wz.alloc (.cells #[.int .i64 s.i, .int .i64 s.o, .int .i64 s.m, .string s.code] 65)).drew).cell? ⟨wz.heap.size, 0, none⟩ = some (.int .i64 s.i) := cell_of_block hKs 0
 have s2 : ((wz.alloc (.cells #[.int .i64 s.i, .int .i64 s.o, .int .i64 s.m, .string s.code] 65)).drew).cell? ⟨wz.heap.size, 2, none⟩ = some (.int .i64 s.m) := cell_of_block hKs 2
 replace f2 := HQy.out.froz 2
 replace f3 := HQy.out.froz 3
 replace f4 := HQy.out.froz 4
 replace f6 := HQy.out.froz 6
 have HXy : Hid (((wz.alloc (.cells #[.int .i64 s.i, .int .i64 s.o, .int .i64 s.m, .string s.code] 65)).drew).heap[w.heap.size]? = some (.cells #[.int .i64 (pl : Nat), .int .i64 18, .int .i64 (n : Nat), .slice ta tl tc, .int .i64 (nx : Nat)] 129 (0, 0))) := (Below.heap_alloc _ _ _ (by omega)).trans HXz.out
 have hs2 : ((wz.alloc (.cells #[.int .i64 s.i, .int .i64 s.o, .int .i64 s.m, .string s.code] 65)).drew).heap.size = wz.heap.size + 1 := by simp
 clear d0 d1 d2 d3 HQz HKz HXz
 have HS := hidc hKs
 clear hKs
 generalize ((wz.alloc (.cells #[.int .i64 s.i, .int .i64 s.o, .int .i64 s.m, .string s.code] 65)).drew) = wy at *
 replace hM1 : M < wy.heap.size := by omega
 replace hB1 : B ≤ wy.heap.size := by omega
 have hxy : w.heap.size < wy.heap.size := by omega
 have hzy : wz.heap.size < wy.heap.size := by omega
 generalize hwzs : wz.heap.size = zs at *
 clear hwzs
 subst hs1
 go_wp2_with fail
 go_quiet (fail)
 go_wp2_with fail
 generalize nq = nq1 at *
 go_quiet (fail)
 go_wp2_with fail
 refine wp_region_held_drew (S := fun w' => w'.cell? ⟨M, 2, none⟩ = some (.int .i64 (m.sec : Nat)) ∧ w'.cell? ⟨M, 3, none⟩ = some (.int .i64 (m.pl : Nat)) ∧ w'.cell? ⟨M, 4, none⟩ = some (.int .i64 (m.base : Nat))) (by kernel_rfl) ⟨c2, c3, c4⟩ (fun hHeld => ?_)
 have HQd := hidc (HQy.out.below ((bdr (Below.refl _ _) (nq1 + nq)).drew) hB1)
 have HKd : Hid (KR w (wy.drewN (nq1 + nq)).drew) := HKy.out.trans (KR.below ((bdr (Below.refl _ _) (nq1 + nq)).drew))
 have HXd : Hid ((wy.drewN (nq1 + nq)).drew.heap[w.heap.size]? = some (.cells #[.int .i64 (pl : Nat), .int .i64 18, .int .i64 (n : Nat), .slice ta tl tc, .int .i64 (nx : Nat)] 129 (0, 0))) := HXy.out
 replace c2 : (wy.drewN (nq1 + nq)).drew.cell? ⟨M, 2, none⟩ = some (.int .i64 (m.sec : Nat)) := c2
 replace c3 : (wy.drewN (nq1 + nq)).drew.cell? ⟨M, 3, none⟩ = some (.int .i64 (m.pl : Nat)) := c3
 replace c4 : (wy.drewN (nq1 + nq)).drew.cell? ⟨M, 4, none⟩ = some (.int .i64 (m.base : Nat)) := c4
 replace c6 : (wy.drewN (nq1 + nq)).drew.cell? ⟨M, 6, none⟩ = some (.slice fa fn fc) := c6
 have hBd : B ≤ (wy.drewN (nq1 + nq)).drew.heap.size := hB1
 have hMd : M < (wy.drewN (nq1 + nq)).drew.heap.size := hM1
 have hsd : wy.heap.size ≤ (wy.drewN (nq1 + nq)).drew.heap.size := Nat.le_refl _
 clear c0 c5 x1 x2 s0 s2 f2 f3 f4 f6 HQy HKy HXy HS
 generalize (wy.drewN (nq1 + nq)).drew = wd at *
 have HQa := hidc (HQd.out.below (boxB wd (.cells #[.int .i64 (m.sec : Nat), .int .i64 (m.pl : Nat), .int .i64 (m.base : Nat)] 161)) hBd)
 have HFa : Hid ((wd.alloc (.cells #[.int .i64 (m.sec : Nat), .int .i64 (m.pl : Nat), .int .i64 (m.base : Nat)] 161)).ownsRow B 161 3 (.slice fa fn fc) fn (fV m.fr)) := by
  have := HQa.out.fr
  rw [HFV.out, HFN.out] at this
  exact this
 refine tk 0 ?vc0 rfl ?hyc0 hHeld ?restc0
 case hyc0 => rintro w ⟨hS2, hS3, hS4⟩; go_simp; try with_reducible rfl
 simp only [Act.put, aA, aB, aC, aD, aE]
 refine tk 1 ?vc1 rfl ?hyc1 hHeld ?restc1
 case hyc1 => rintro w ⟨hS2, hS3, hS4⟩; go_simp; try with_reducible rfl
 simp only [Act.put, aA, aB, aC, aD, aE, aF]
 refine tk 2 ?vc2 rfl ?hyc2 hHeld ?restc2
 case hyc2 => rintro w ⟨hS2, hS3, hS4⟩; go_simp; try with_reducible rfl
 simp only [Act.put, aA, aB, aC, aD, aE, aF]
 refine tk 3 ?vc3 rfl ?hyc3 hHeld ?restc3
 case hyc3 => rintro w ⟨hS2, hS3, hS4⟩; go_simp; try with_reducible rfl
 simp only [Act.put, aA, aB, aC, aD, aE, aF]
 refine tk 5 ?vc5 rfl ?hyc5 hHeld ?restc5
 case hyc5 => rintro w ⟨hS2, hS3, hS4⟩; go_simp; try with_reducible rfl
 simp only [Act.put, aA, aB, aC, aD, aE, aF]
 refine tk 6 ?vc6 rfl ?hyc6 hHeld ?restc6
 case hyc6 => rintro w ⟨hS2, hS3, hS4⟩; go_simp; try with_reducible rfl
 simp only [Act.put, aA, aB, aC, aD, aE, aF]
 refine tk 7 ?vc7 rfl ?hyc7 hHeld ?restc7
 case hyc7 => rintro w ⟨hS2, hS3, hS4⟩; go_simp; try with_reducible rfl
 simp only [Act.put, aA, aB, aC, aD, aE, aF]
 refine tk 8 ?vc8 rfl ?hyc8 hHeld ?restc8
 case hyc8 => rintro w ⟨hS2, hS3, hS4⟩; go_simp; try with_reducible rfl
 simp only [Act.put, aA, aB, aC, aD, aE, aF]
 refine tk 9 ?vc9 rfl ?hyc9 hHeld ?restc9
 case hyc9 => rintro w ⟨hS2, hS3, hS4⟩; go_simp; try with_reducible rfl
 simp only [Act.put, aA, aB, aC, aD, aE, aF]
 refine tk 10 ?vc10 rfl ?hyc10 hHeld ?restc10
 case hyc10 => rintro w ⟨hS2, hS3, hS4⟩; go_simp; try with_reducible rfl
 simp only [Act.put, aA, aB, aC, aD, aE, aF]
 refine tk 11 ?vc11 rfl ?hyc11 hHeld ?restc11
 case hyc11 => rintro w ⟨hS2, hS3, hS4⟩; go_simp; try with_reducible rfl
 simp only [Act.put, aA, aB, aC, aD, aE, aF]
 refine tk 12 ?vc12 rfl ?hyc12 hHeld ?restc12
 case hyc12 => rintro w ⟨hS2, hS3, hS4⟩; go_simp; try with_reducible rfl
 simp only [Act.put, aA, aB, aC, aD, aE, aF]
 refine tk 13 ?vc13 rfl ?hyc13 hHeld ?restc13
 case hyc13 => rintro w ⟨hS2, hS3, hS4⟩; go_simp; try with_reducible rfl
 simp only [Act.put, aA, aB, aC, aD, aE, aF]
 refine tk 14 ?vc14 rfl ?hyc14 hHeld ?restc14
 case hyc14 => rintro w ⟨hS2, hS3, hS4⟩; go_simp; try with_reducible rfl
 simp only [Act.put, aA, aB, aC, aD, aE, aF]
 refine tk 15 ?vc15 rfl ?hyc15 hHeld ?restc15
 case hyc15 => rintro w ⟨hS2, hS3, hS4⟩; go_simp; try with_reducible rfl
 simp only [Act.put, aA, aB, aC, aD, aE, aF]
 refine tk 16 ?vc16 rfl ?hyc16 hHeld ?restc16
 case hyc16 => rintro w ⟨hS2, hS3, hS4⟩; go_simp; try with_reducible rfl
 simp only [Act.put, aA, aB, aC, aD, aE, aF]
 refine tk 17 ?vc17 rfl ?hyc17 hHeld ?restc17
 case hyc17 => rintro w ⟨hS2, hS3, hS4⟩; go_simp; try with_reducible rfl
 simp only [Act.put, aA, aB, aC, aD, aE, aF]
 refine wpAnyH_ready (rs := [4, 18]) (by kernel_rfl) (by simp) ?_
 refine AllReadyH.cons (i := 4) rfl (fun K hK => ?ga4) (AllReadyH.cons (i := 18) rfl (fun K hK => ?ga18) AllReadyH.nil)
 case ga4 =>
  simp only [aD, aE, aF]
  go_simp
  refine hK.out _ _ ⟨c2, c3, c4⟩ (fun hHeld => ?_)
  clear hK
  refine rd 18 rfl (fun K hK => ?_)
  simp only [aD, aE, aF]
  go_simp
  refine hK.out _ _ ⟨(cell_al _ hMd).trans c2, (cell_al _ hMd).trans c3, (cell_al _ hMd).trans c4⟩ (fun hHeld => ?_)
  clear hK
  refine rd 19 rfl (fun K hK => ?_)
  refine step_append_lies _ rfl _ _ 57 rfl B 161 iz (.agg #[.int .i64 0, .int .i64 0, .int .i64 0]) 3 24 Tryz.underlying57 hiz hzz0 hzz1 hzz2 rfl (by decide) (.slice fa fn fc) fn (fV m.fr) rfl HFa.out ⟨wd.heap.size, 0, none⟩ 1 1 [.int .i64 (m.sec : Nat), .int .i64 (m.pl : Nat), .int .i64 (m.base : Nat)] rfl rfl (newsRF _ _ _ _ _ rfl) (oneF _ _ _) (by decide) (by unfold maxLen; omega) (by omega) (by simp; omega) _ rfl ?_
  intro ga ca w5 hown5 hgrow5 hat5 hlt5
  have hl5 : (m.fr ++ [(m.sec, m.pl, m.base)]).length = fn + 1 := by rw [List.length_append, HFN.out]; rfl
  have hown' : w5.ownsRow B 161 3 (.slice (some ⟨ga, 0, none⟩) (m.fr ++ [(m.sec, m.pl, m.base)]).length ca) (m.fr ++ [(m.sec, m.pl, m.base)]).length (fV (m.fr ++ [(m.sec, m.pl, m.base)])) := by
   rw [hl5, fV_append]
   exact hown5
  rw [← HFV.out] at hgrow5 hat5
  have HG := hidc (HQa.out.grow_fr (by simp; omega) ga ca (m.fr ++ [(m.sec, m.pl, m.base)]) hgrow5 hown' (by simpa using hat5))
  rw [hl5] at HG
  have hB5 : B ≤ w5.heap.size := by have := hgrow5.size; simp at this; omega
  have hS5 : wd.heap.size ≤ w5.heap.size := by have := hgrow5.size; simp at this; omega
  obtain ⟨hc5, ⟨cs5, e5, _⟩, _⟩ := HQa.out.grown hgrow5 (by simp; omega) (fun k hk => (HQa.out.fr.lt k hk).1)
  have HKr := hidc ((KR.below (boxB wd (.cells #[.int .i64 (m.sec : Nat), .int .i64 (m.pl : Nat), .int .i64 (m.base : Nat)] 161))).trans (KR.grown HQa.out.fr hgrow5 (.inr (.inl rfl))))
  have hx5 : w5.heap[w.heap.size]? = some (.cells #[.int .i64 (pl : Nat), .int .i64 18, .int .i64 (n : Nat), .slice ta tl tc, .int .i64 (nx : Nat)] 129 (0, 0)) := HKr.out _ _ _ _ HXd.out (by decide) (by decide) (by decide) (by decide)
  have x25 : w5.cell? ⟨w.heap.size, 2, none⟩ = some (.int .i64 (n : Nat)) := cell_of_block hx5 2
  have hxM : w.heap.size ≠ M := by omega
  have HK5 : Hid (KR wd (w5.setCell ⟨M, 6, none⟩ (.slice (some ⟨ga, 0, none⟩) (fn + 1) ca))) := HKr.out.trans (KR.setTy e5 (.inl rfl) _ _)
  have c65 : w5.cell? ⟨M, 6, none⟩ = some V.fr := (hc5 6).trans HQa.out.c6
  have f65 : w5.frozen? ⟨M, 6, none⟩ = false := unfrozen_of_block e5 6
  have c25 := (hc5 2).trans HQa.out.c2
  have c35 := (hc5 3).trans HQa.out.c3
  have c45 := (hc5 4).trans HQa.out.c4
  have f25 : w5.frozen? ⟨M, 2, none⟩ = false := unfrozen_of_block e5 2
  have f35 : w5.frozen? ⟨M, 3, none⟩ = false := unfrozen_of_block e5 3
  have f45 : w5.frozen? ⟨M, 4, none⟩ = false := unfrozen_of_block e5 4
  have hM5 : M < w5.heap.size := by omega
  have hX5 : w.heap.size < w5.heap.size := blt hx5
  clear hown5 hgrow5 hat5 hlt5 hown' hc5 e5 hl5 hx5
  refine hK.out _ _ ⟨c25, c35, c45⟩ (fun hHeld => ?_)
  clear hK
  refine tk 20 ?vbu20 rfl ?hybu20 hHeld ?restbu20
  case hybu20 => intro w hSw; (try dsimp only at hSw); go_simp; try with_reducible rfl
  simp only [Act.put, aA, aB, aC, aD, aE, aF]
  refine tk 21 ?vbu21 rfl ?hybu21 hHeld ?restbu21
  case hybu21 => intro w hSw; (try dsimp only at hSw); go_simp; try with_reducible rfl
  simp only [Act.put, aA, aB, aC, aD, aE, aF]
  refine rd 22 rfl (fun K hK => ?_)
  simp only [aD, aE, aF]
  go_simp
  refine hK.out _ _ ⟨(mset_other (adne (by omega))).trans c25, (mset_other (adne (by omega))).trans c35, (mset_other (adne (by omega))).trans c45⟩ (fun hHeld => ?_)
  clear hK hHeld
  refine wpAnyH_done (by kernel_rfl) ?_ _
  go_wp2_with fail
  have hBV : (sn : Int) - s.i = ((sn - s.i.toNat : Nat) : Int) := by omega
  rw [hBV]
  go_end0
  exact ⟨rfl, ⟨_, ((HG.out.set_sec n).set_pl 0).set_base (sn - s.i.toNat)⟩, by simp [World.setCell]; omega, HKd.out.trans (HK5.out.trans (HG.out.kr3 _ _ _ _ _ _)), by simp [World.setCell]; omega⟩
 case ga18 =>
  simp only [aD, aE, aF]
  go_simp
  refine hK.out _ _ ⟨(cell_al _ hMd).trans c2, (cell_al _ hMd).trans c3, (cell_al _ hMd).trans c4⟩ (fun hHeld => ?_)
  clear hK
  have c6a : (wd.alloc (.cells #[.int .i64 (m.sec : Nat), .int .i64 (m.pl : Nat), .int .i64 (m.base : Nat)] 161)).cell? ⟨M, 6, none⟩ = some (.slice fa fn fc) := (cell_al _ hMd).trans c6
  refine rd 4 rfl (fun K hK => ?_)
  simp only [aD, aE, aF]
  go_simp
  refine hK.out _ _ ⟨(cell_al _ hMd).trans c2, (cell_al _ hMd).trans c3, (cell_al _ hMd).trans c4⟩ (fun hHeld => ?_)
  clear hK
  refine rd 19 rfl (fun K hK => ?_)
  refine step_append_lies _ rfl _ _ 57 rfl B 161 iz (.agg #[.int .i64 0, .int .i64 0, .int .i64 0]) 3 24 Tryz.underlying57 hiz hzz0 hzz1 hzz2 rfl (by decide) (.slice fa fn fc) fn (fV m.fr) rfl HFa.out ⟨wd.heap.size, 0, none⟩ 1 1 [.int .i64 (m.sec : Nat), .int .i64 (m.pl : Nat), .int .i64 (m.base : Nat)] rfl rfl (newsRF _ _ _ _ _ rfl) (oneF _ _ _) (by decide) (by unfold maxLen; omega) (by omega) (by simp; omega) _ rfl ?_
  intro ga ca w5 hown5 hgrow5 hat5 hlt5
  have hl5 : (m.fr ++ [(m.sec, m.pl, m.base)]).length = fn + 1 := by rw [List.length_append, HFN.out]; rfl
  have hown' : w5.ownsRow B 161 3 (.slice (some ⟨ga, 0, none⟩) (m.fr ++ [(m.sec, m.pl, m.base)]).length ca) (m.fr ++ [(m.sec, m.pl, m.base)]).length (fV (m.fr ++ [(m.sec, m.pl, m.base)])) := by
   rw [hl5, fV_append]
   exact hown5
  rw [← HFV.out] at hgrow5 hat5
  have HG := hidc (HQa.out.grow_fr (by simp; omega) ga ca (m.fr ++ [(m.sec, m.pl, m.base)]) hgrow5 hown' (by simpa using hat5))
  rw [hl5] at HG
  have hB5 : B ≤ w5.heap.size := by have := hgrow5.size; simp at this; omega
  have hS5 : wd.heap.size ≤ w5.heap.size := by have := hgrow5.size; simp at this; omega
  obtain ⟨hc5, ⟨cs5, e5, _⟩, _⟩ := HQa.out.grown hgrow5 (by simp; omega) (fun k hk => (HQa.out.fr.lt k hk).1)
  have HKr := hidc ((KR.below (boxB wd (.cells #[.int .i64 (m.sec : Nat), .int .i64 (m.pl : Nat), .int .i64 (m.base : Nat)] 161))).trans (KR.grown HQa.out.fr hgrow5 (.inr (.inl rfl))))
  have hx5 : w5.heap[w.heap.size]? = some (.cells #[.int .i64 (pl : Nat), .int .i64 18, .int .i64 (n : Nat), .slice ta tl tc, .int .i64 (nx : Nat)] 129 (0, 0)) := HKr.out _ _ _ _ HXd.out (by decide) (by decide) (by decide) (by decide)
  have x25 : w5.cell? ⟨w.heap.size, 2, none⟩ = some (.int .i64 (n : Nat)) := cell_of_block hx5 2
  have hxM : w.heap.size ≠ M := by omega
  have HK5 : Hid (KR wd (w5.setCell ⟨M, 6, none⟩ (.slice (some ⟨ga, 0, none⟩) (fn + 1) ca))) := HKr.out.trans (KR.setTy e5 (.inl rfl) _ _)
  have c65 : w5.cell? ⟨M, 6, none⟩ = some V.fr := (hc5 6).trans HQa.out.c6
  have f65 : w5.frozen? ⟨M, 6, none⟩ = false := unfrozen_of_block e5 6
  have c25 := (hc5 2).trans HQa.out.c2
  have c35 := (hc5 3).trans HQa.out.c3
  have c45 := (hc5 4).trans HQa.out.c4
  have f25 : w5.frozen? ⟨M, 2, none⟩ = false := unfrozen_of_block e5 2
  have f35 : w5.frozen? ⟨M, 3, none⟩ = false := unfrozen_of_block e5 3
  have f45 : w5.frozen? ⟨M, 4, none⟩ = false := unfrozen_of_block e5 4
  have hM5 : M < w5.heap.size := by omega
  have hX5 : w.heap.size < w5.heap.size := blt hx5
  clear hown5 hgrow5 hat5 hlt5 hown' hc5 e5 hl5 hx5
  refine hK.out _ _ ⟨c25, c35, c45⟩ (fun hHeld => ?_)
  clear hK
  refine tk 20 ?vbv20 rfl ?hybv20 hHeld ?restbv20
  case hybv20 => intro w hSw; (try dsimp only at hSw); go_simp; try with_reducible rfl
  simp only [Act.put, aA, aB, aC, aD, aE, aF]
  refine tk 21 ?vbv21 rfl ?hybv21 hHeld ?restbv21
  case hybv21 => intro w hSw; (try dsimp only at hSw); go_simp; try with_reducible rfl
  simp only [Act.put, aA, aB, aC, aD, aE, aF]
  refine rd 22 rfl (fun K hK => ?_)
  simp only [aD, aE, aF]
  go_simp
  refine hK.out _ _ ⟨(mset_other (adne (by omega))).trans c25, (mset_other (adne (by omega))).trans c35, (mset_other (adne (by omega))).trans c45⟩ (fun hHeld => ?_)
  clear hK hHeld
  refine wpAnyH_done (by kernel_rfl) ?_ _
  go_wp2_with fail
  have hBV : (sn : Int) - s.i = ((sn - s.i.toNat : Nat) : Int) := by omega
  rw [hBV]
  go_end0
  exact ⟨rfl, ⟨_, ((HG.out.set_sec n).set_pl 0).set_base (sn - s.i.toNat)⟩, by simp [World.setCell]; omega, HKd.out.trans (HK5.out.trans (HG.out.kr3 _ _ _ _ _ _)), by simp [World.setCell]; omega⟩
end Go.Proofs.YtdhmandnamajpaaGreatDoor
