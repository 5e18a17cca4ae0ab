import Derived.Test.YtdhmandnamajpaaGreatDoorY00
import Derived.Test.YtdhmandnamajpaaGreatDoorY22
import Derived.Defers
import Derived.Laws.EntriesVeiled
import Derived.Laws.Tables
import Derived.Laws.Rows
namespace Go.Proofs.YtdhmandnamajpaaGreatDoor
open Go.RowKit Go.Joins
set_option maxHeartbeats 1000000
set_option maxRecDepth 4000
theorem own_poke {w : World} {B e s n : Nat} {v : Value} {xs : List Value} (h : w.ownsRow B e s v n xs) {g : Nat} {cs : Array Value} {ty : TypeId} {fz : Nat × Nat} (hg : w.heap[g]? = some (.cells cs ty fz)) (hne : e ≠ ty) (i : Nat) (u : Value) : (w.setCell ⟨g, i, none⟩ u).ownsRow B e s v n xs := by
 refine ⟨h.1, h.2.imp id (fun ⟨g', cap, cur, hv, hb, hc, r⟩ => ⟨g', cap, cur, hv, hb, (Below.heap_setCell _ _ _ _ ?_).trans hc, r⟩)⟩
 intro e2
 subst e2
 rw [hg] at hc
 injection hc with hc
 injection hc with h1 h2 h3
 exact hne h2.symm
theorem Mach.poke {w0 w : World} {M B : Nat} {F : Fix} {m : MS} {frV outV : Value} {g sc : Nat} (h : Mach w0 w M B F m frV (.slice (some ⟨g, 0, none⟩) m.st.length sc) outV) (hgM : g ≠ M) (hgB : B ≤ g) (j v : Nat) :
  Mach w0 (w.setCell ⟨g, j, none⟩ (.int .u16 (v : Nat))) M B F { m with st := m.st.set j v } frV (.slice (some ⟨g, 0, none⟩) m.st.length sc) outV := by
 obtain ⟨cs, e, e'⟩ := h.blk
 obtain ⟨gcs, ge⟩ : ∃ cur, w.heap[g]? = some (.cells cur 85 (0, 0)) := by
  rcases h.st.2 with ⟨e1, _⟩ | ⟨g', cap, cur, hv, _, hg', _⟩
  ·cases e1
  ·injection hv with q1 q2 q3
   injection q1 with q1
   injection q1 with q1
   subst q1
   exact ⟨cur, hg'⟩
 have hM' : M ≠ g := Ne.symm hgM
 refine ⟨⟨cs, (Below.heap_setCell _ _ _ _ hM').trans e, e'⟩, (set_other _ hM').trans h.c0, (set_other _ hM').trans h.c1, (set_other _ hM').trans h.c2, (set_other _ hM').trans h.c3, (set_other _ hM').trans h.c4, (set_other _ hM').trans h.c5, (set_other _ hM').trans h.c6, (set_other _ hM').trans h.c7, fun a ha => (set_other _ hM').trans (h.cm a ha), (set_other _ hM').trans h.c24, (set_other _ hM').trans h.c25, (set_other _ hM').trans h.c26, (set_other _ hM').trans h.c27, (set_other _ hM').trans h.c28, ?_, own_poke h.fr ge (by decide) _ _, own_poke h.out ge (by decide) _ _, ?_, h.lt, h.mlen⟩
 ·have := row_set h.st j (.int .u16 (v : Nat))
  rw [show (m.st.set j v).length = m.st.length by simp, show uV (m.st.set j v) = (uV m.st).set j (.int .u16 (v : Nat)) by simp [uV, List.map_set]]
  exact this
 ·exact h.kp.trans ⟨rfl, rfl, rfl, by simp [World.setCell], fun k hk _ => Below.heap_setCell _ _ _ _ (by show k ≠ g; omega)⟩
theorem Mach.poke2 {w0 w : World} {M B : Nat} {F : Fix} {m : MS} {frV outV : Value} {g sc n : Nat} {l : List Nat} (h : Mach w0 w M B F { m with st := l } frV (.slice (some ⟨g, 0, none⟩) n sc) outV) (hgM : g ≠ M) (hgB : B ≤ g) (j v : Nat) :
  Mach w0 (w.setCell ⟨g, j, none⟩ (.int .u16 (v : Nat))) M B F { m with st := l.set j v } frV (.slice (some ⟨g, 0, none⟩) n sc) outV := by
 have hn : n = l.length := by
  rcases h.st.2 with ⟨e1, _⟩ | ⟨g', cap, cur, hv, _⟩
  ·cases e1
  ·injection hv
 subst hn
 exact Mach.poke (m := { m with st := l }) h hgM hgB j v
theorem unf {w : World} {B n g c : Nat} {xs : List Value} (h : w.ownsRow B 85 1 (.slice (some ⟨g, 0, none⟩) n c) n xs) (j : Nat) : w.frozen? ⟨g, j, none⟩ = false := by
 rcases h.2 with ⟨e1, _⟩ | ⟨g', cap, cur, hv, _, hg', _⟩
 ·cases e1
 ·injection hv with q1 q2 q3
  injection q1 with q1
  injection q1 with q1
  subst q1
  exact unfrozen_of_block hg' j
theorem st_under_i (a : Option Addr) (n c k r : Nat) (z : Int) (hz : z = ((k : Nat) : Int)) (hr : n - 1 - k = r) (w : World) (hn : n ≤ 200) (hk : k < n) : Calls Tryz.prog 132 #[.slice a n c, .int .i64 z] w fun e w' => e = .returned (.int .i64 ((r : Nat) : Int)) ∧ w' = w := by
 subst hz hr
 exact st_under a n c k w hn hk
theorem do_swap {w0 w : World} {M B : Nat} {F : Fix} {m : MS} (h : MachX w0 w M B F m) (hB : B ≤ w.heap.size) (x : Ins) (ta : Option Addr) (tc : Nat) (hl : m.st.length ≤ 100) (hn : x.n + 1 < m.st.length) :
  Calls Tryz.prog 99 #[.pointer (some ⟨M, 0, none⟩), .agg #[.int .i64 x.op, .int .i64 x.pl, .int .i64 x.nx, .int .i64 x.n, .slice ta x.to.length tc]] w (DoP w0 w M B F ({ m with st := (m.st.set (m.st.length - 1 - (x.n + 1)) (topN m.st 0)).set (m.st.length - 1 - 0) (topN m.st (x.n + 1)) })) := by
 obtain ⟨frV, outV, hy⟩ := h.y
 have hM : M < w.heap.size := by obtain ⟨_, _, _, q⟩ := h; exact q.size
 have hlt : M < B := by obtain ⟨_, _, _, q⟩ := h; exact q.lt
 have HM := hidc (hy.below (boxB w (.cells #[.int .i64 x.op, .int .i64 x.pl, .int .i64 x.nx, .int .i64 x.n, .slice ta x.to.length tc] 116)) hB)
 have hB1 : B ≤ (w.alloc (.cells #[.int .i64 x.op, .int .i64 x.pl, .int .i64 x.nx, .int .i64 x.n, .slice ta x.to.length tc] 116)).heap.size := by simp; omega
 have HK0 := hidc (KT.below (boxB w (.cells #[.int .i64 x.op, .int .i64 x.pl, .int .i64 x.nx, .int .i64 x.n, .slice ta x.to.length tc] 116)))
 clear h hy
 go_enter Tryz.func99, Tryz.ntmps99
 have hI := box3 w x (.slice ta x.to.length tc)
 obtain ⟨stV, hmach⟩ := HM.out
 have hmd := (hmach.below ((Below.refl _ _).drew) hB1).below ((Below.refl _ _).drew) hB1
 obtain ⟨sa, sc, hsv⟩ := row_form hmd.st
 subst hsv
 obtain ⟨g, hga, hgB, hgs, hcy⟩ := row_cell hmd.st (topN_get m.st 0 (by omega))
 subst hga
 have hcx : (w.alloc (.cells #[.int .i64 x.op, .int .i64 x.pl, .int .i64 x.nx, .int .i64 x.n, .slice ta x.to.length tc] 116)).drew.drew.cell? ⟨g, m.st.length - 1 - (x.n + 1), none⟩ = some (.int .u16 (topN m.st (x.n + 1) : Nat)) := by
  obtain ⟨g', e, _, _, q⟩ := row_cell hmd.st (topN_get m.st (x.n + 1) hn)
  injection e with e
  injection e with e
  rw [e]; exact q
 have hgM : g ≠ M := by omega
 have HS := hidc (((hmd.poke hgM hgB (m.st.length - 1 - (x.n + 1)) (topN m.st 0))).poke2 hgM hgB (m.st.length - 1 - 0) (topN m.st (x.n + 1)))
 have HKW : Hid (KT w (w.alloc (.cells #[.int .i64 x.op, .int .i64 x.pl, .int .i64 x.nx, .int .i64 x.n, .slice ta x.to.length tc] 116)).drew.drew) := HK0.out.trans ((KT.below ((Below.refl _ _).drew)).trans (KT.below ((Below.refl _ _).drew)))
 have HKP : Hid (KT (w.alloc (.cells #[.int .i64 x.op, .int .i64 x.pl, .int .i64 x.nx, .int .i64 x.n, .slice ta x.to.length tc] 116)).drew.drew (((w.alloc (.cells #[.int .i64 x.op, .int .i64 x.pl, .int .i64 x.nx, .int .i64 x.n, .slice ta x.to.length tc] 116)).drew.drew.setCell ⟨g, m.st.length - 1 - (x.n + 1), none⟩ (.int .u16 (topN m.st 0 : Nat))).setCell ⟨g, m.st.length - 1 - 0, none⟩ (.int .u16 (topN m.st (x.n + 1) : Nat)))) := by
  obtain ⟨gcs, ge⟩ : ∃ cur, (w.alloc (.cells #[.int .i64 x.op, .int .i64 x.pl, .int .i64 x.nx, .int .i64 x.n, .slice ta x.to.length tc] 116)).drew.drew.heap[g]? = some (.cells cur 85 (0, 0)) := by
   rcases hmd.st.2 with ⟨e1, _⟩ | ⟨g', cap, cur, hv, _, hg', _⟩
   ·cases e1
   ·injection hv with q1 q2 q3
    injection q1 with q1
    injection q1 with q1
    subst q1
    exact ⟨cur, hg'⟩
  exact (KT.row ge _ _).trans (KT.row (block_setCell ge _) _ _)
 have hBa : B ≤ (w.alloc (.cells #[.int .i64 x.op, .int .i64 x.pl, .int .i64 x.nx, .int .i64 x.n, .slice ta x.to.length tc] 116)).drew.drew.heap.size := hB1
 have hsa : w.heap.size + 1 = (w.alloc (.cells #[.int .i64 x.op, .int .i64 x.pl, .int .i64 x.nx, .int .i64 x.n, .slice ta x.to.length tc] 116)).drew.drew.heap.size := by simp
 have c7a : (w.alloc (.cells #[.int .i64 x.op, .int .i64 x.pl, .int .i64 x.nx, .int .i64 x.n, .slice ta x.to.length tc] 116)).drew.cell? ⟨M, 7, none⟩ = some (.slice (some ⟨g, 0, none⟩) m.st.length sc) := hmd.c7
 have c7b := hmd.c7
 have hIa : (w.alloc (.cells #[.int .i64 x.op, .int .i64 x.pl, .int .i64 x.nx, .int .i64 x.n, .slice ta x.to.length tc] 116)).drew.heap[w.heap.size]? = some (.cells #[.int .i64 x.op, .int .i64 x.pl, .int .i64 x.nx, .int .i64 x.n, .slice ta x.to.length tc] 116 (0, 0)) := hI
 have i3 : (w.alloc (.cells #[.int .i64 x.op, .int .i64 x.pl, .int .i64 x.nx, .int .i64 x.n, .slice ta x.to.length tc] 116)).drew.cell? ⟨w.heap.size, 3, none⟩ = some (.int .i64 x.n) := by rw [cell_of_block hIa]; rfl
 have hMa := hmd.size
 have fzy := unf hmd.st (m.st.length - 1 - 0)
 have fzx := unf hmd.st (m.st.length - 1 - (x.n + 1))
 have hw1 : IntKind.i64.wrap ((x.n : Int) + 1) = (x.n : Int) + 1 := by rw [IntKind.wrap_i64]; omega
 have hxy : m.st.length - 1 - (x.n + 1) ≠ m.st.length - 1 - 0 := by omega
 have hix : m.st.length - 1 - (x.n + 1) < m.st.length := by omega
 have hiy : m.st.length - 1 - 0 < m.st.length := by omega
 have HN2 := hidc hn
 clear HM HK0 hmach hI hmd hIa
 have HPOST : Hid ((m.st.set (m.st.length - 1 - (x.n + 1)) (topN m.st 0)).set (m.st.length - 1 - 0) (topN m.st (x.n + 1)) = (m.st.set (m.st.length - 1 - (x.n + 1)) (topN m.st 0)).set (m.st.length - 1 - 0) (topN m.st (x.n + 1))) := rfl
 generalize hxg : m.st.length - 1 - (x.n + 1) = ix at *
 generalize hyg : m.st.length - 1 - 0 = iy at *
 have HX := hidc hxg
 have HY := hidc hyg
 clear hxg hyg HPOST
 go_wp2_with fail
 refine wp_region_held_drew (S := fun w' => w'.cell? ⟨M, 7, none⟩ = some (.slice (some ⟨g, 0, none⟩) m.st.length sc) ∧ w'.cell? ⟨w.heap.size, 3, none⟩ = some (.int .i64 x.n)) (by kernel_rfl) ⟨c7a, i3⟩ (fun hHeld => ?_)
 refine tk 0 ?va0 rfl ?hya0 hHeld ?resta0
 case hya0 => rintro w ⟨z0, z1⟩; go_simp; try with_reducible rfl
 simp only [Act.put, aA, aB, aC, aD, aE]
 refine tk 1 ?va1 rfl ?hya1 hHeld ?resta1
 case hya1 => rintro w ⟨z0, z1⟩; go_simp; try with_reducible rfl
 simp only [Act.put, aA, aB, aC, aD, aE, aF]
 refine tk 2 ?va2 rfl ?hya2 hHeld ?resta2
 case hya2 => rintro w ⟨z0, z1⟩; go_simp; try with_reducible rfl
 simp only [Act.put, aA, aB, aC, aD, aE, aF]
 refine tk 3 ?va3 rfl ?hya3 hHeld ?resta3
 case hya3 => rintro w ⟨z0, z1⟩; go_simp; try with_reducible rfl
 simp only [Act.put, aA, aB, aC, aD, aE, aF]
 refine tk 4 ?va4 rfl ?hya4 hHeld ?resta4
 case hya4 => rintro w ⟨z0, z1⟩; go_simp; try with_reducible rfl
 simp only [Act.put, aA, aB, aC, aD, aE, aF]
 refine tk 5 ?va5 rfl ?hya5 hHeld ?resta5
 case hya5 => rintro w ⟨z0, z1⟩; go_simp; try with_reducible rfl
 simp only [Act.put, aA, aB, aC, aD, aE, aF]
 refine tk 6 (.int .i64 ((x.n : Int) + 1)) rfl ?hya6 hHeld ?resta6
 case hya6 => rintro w ⟨z0, z1⟩; go_simp; try with_reducible rfl
 simp only [Act.put, aA, aB, aC, aD, aE, aF]
 refine tk 8 ?va8 rfl ?hya8 hHeld ?resta8
 case hya8 => rintro w ⟨z0, z1⟩; go_simp; try with_reducible rfl
 simp only [Act.put, aA, aB, aC, aD, aE, aF]
 refine tk 9 ?va9 rfl ?hya9 hHeld ?resta9
 case hya9 => rintro w ⟨z0, z1⟩; go_simp; try with_reducible rfl
 simp only [Act.put, aA, aB, aC, aD, aE, aF]
 refine tk 10 ?va10 rfl ?hya10 hHeld ?resta10
 case hya10 => rintro w ⟨z0, z1⟩; go_simp; try with_reducible rfl
 simp only [Act.put, aA, aB, aC, aD, aE, aF]
 refine tk 11 ?va11 rfl ?hya11 hHeld ?resta11
 case hya11 => rintro w ⟨z0, z1⟩; go_simp; try with_reducible rfl
 simp only [Act.put, aA, aB, aC, aD, aE, aF]
 refine rd 7 rfl (fun K hK => ?_)
 simp only [aD, aE, aF]
 go_simp
 go_at_call 132
 refine (st_under_i (some ⟨g, 0, none⟩) m.st.length sc (x.n + 1) ix _ (by omega) (by have := HX.out; have := HY.out; omega) _ (by omega) (by omega)).mono ?_
 rintro e w3 ⟨rfl, hw3⟩
 subst hw3
 go_wp2_with fail
 refine hK.out _ _ hHeld (fun hHeld => ?_)
 clear hK
 refine rd 12 rfl (fun K hK => ?_)
 simp only [aD, aE, aF]
 go_simp
 go_at_call 132
 refine (st_under_i (some ⟨g, 0, none⟩) m.st.length sc 0 iy _ rfl (by have := HY.out; omega) _ (by omega) (by omega)).mono ?_
 rintro e w3 ⟨rfl, hw3⟩
 subst hw3
 go_wp2_with fail
 refine hK.out _ _ hHeld (fun hHeld => ?_)
 clear hK
 refine tk 13 ?vp13 rfl ?hyp13 hHeld ?restp13
 case hyp13 => rintro w ⟨z0, z1⟩; go_simp; try with_reducible rfl
 simp only [Act.put, aA, aB, aC, aD, aE, aF]
 refine tk 14 ?vp14 rfl ?hyp14 hHeld ?restp14
 case hyp14 => rintro w ⟨z0, z1⟩; go_simp; try with_reducible rfl
 simp only [Act.put, aA, aB, aC, aD, aE, aF]
 refine wpAnyH_done (by kernel_rfl) ?_ _
 clear hHeld
 go_wp2_with fail
 refine wp_region_held_drew (S := fun w' => w'.cell? ⟨M, 7, none⟩ = some (.slice (some ⟨g, 0, none⟩) m.st.length sc)) (by kernel_rfl) c7b (fun hHeld => ?_)
 generalize (w.alloc (.cells #[.int .i64 x.op, .int .i64 x.pl, .int .i64 x.nx, .int .i64 x.n, .slice ta x.to.length tc] 116)).drew.drew = wb at *
 refine tk 0 ?vpa0 rfl ?hypa0 hHeld ?restpa0
 case hypa0 => intro w hSw; (try dsimp only at hSw); go_simp; try with_reducible rfl
 simp only [Act.put, aA, aB, aC, aD, aE]
 refine tk 1 ?vpa1 rfl ?hypa1 hHeld ?restpa1
 case hypa1 => intro w hSw; (try dsimp only at hSw); go_simp; try with_reducible rfl
 simp only [Act.put, aA, aB, aC, aD, aE, aF]
 refine tk 2 ?vpa2 rfl ?hypa2 hHeld ?restpa2
 case hypa2 => intro w hSw; (try dsimp only at hSw); go_simp; try with_reducible rfl
 simp only [Act.put, aA, aB, aC, aD, aE, aF]
 refine tk 3 ?vpa3 rfl ?hypa3 hHeld ?restpa3
 case hypa3 => intro w hSw; (try dsimp only at hSw); go_simp; try with_reducible rfl
 simp only [Act.put, aA, aB, aC, aD, aE, aF]
 refine tk 4 ?vpa4 rfl ?hypa4 hHeld ?restpa4
 case hypa4 => intro w hSw; (try dsimp only at hSw); go_simp; try with_reducible rfl
 simp only [Act.put, aA, aB, aC, aD, aE, aF]
 refine tk 5 ?vpa5 rfl ?hypa5 hHeld ?restpa5
 case hypa5 => intro w hSw; (try dsimp only at hSw); go_simp; try with_reducible rfl
 simp only [Act.put, aA, aB, aC, aD, aE, aF]
 refine tk 6 ?vpa6 rfl ?hypa6 hHeld ?restpa6
 case hypa6 => intro w hSw; (try dsimp only at hSw); go_simp; try with_reducible rfl
 simp only [Act.put, aA, aB, aC, aD, aE, aF]
 refine tk 7 ?vpa7 rfl ?hypa7 hHeld ?restpa7
 case hypa7 => intro w hSw; (try dsimp only at hSw); go_simp; try with_reducible rfl
 simp only [Act.put, aA, aB, aC, aD, aE, aF]
 refine tk 8 ?vpa8 rfl ?hypa8 hHeld ?restpa8
 case hypa8 => intro w hSw; (try dsimp only at hSw); go_simp; try with_reducible rfl
 simp only [Act.put, aA, aB, aC, aD, aE, aF]
 refine tk 9 ?vpa9 rfl ?hypa9 hHeld ?restpa9
 case hypa9 => intro w hSw; (try dsimp only at hSw); go_simp; try with_reducible rfl
 simp only [Act.put, aA, aB, aC, aD, aE, aF]
 refine tk 10 ?vpa10 rfl ?hypa10 hHeld ?restpa10
 case hypa10 => intro w hSw; (try dsimp only at hSw); go_simp; try with_reducible rfl
 simp only [Act.put, aA, aB, aC, aD, aE, aF]
 refine tk 11 ?vpa11 rfl ?hypa11 hHeld ?restpa11
 case hypa11 => intro w hSw; (try dsimp only at hSw); go_simp; try with_reducible rfl
 simp only [Act.put, aA, aB, aC, aD, aE, aF]
 refine tk 12 ?vpa12 rfl ?hypa12 hHeld ?restpa12
 case hypa12 => intro w hSw; (try dsimp only at hSw); go_simp; try with_reducible rfl
 simp only [Act.put, aA, aB, aC, aD, aE, aF]
 refine tk 13 ?vpa13 rfl ?hypa13 hHeld ?restpa13
 case hypa13 => intro w hSw; (try dsimp only at hSw); go_simp; try with_reducible rfl
 simp only [Act.put, aA, aB, aC, aD, aE, aF]
 refine tk 14 ?vpa14 rfl ?hypa14 hHeld ?restpa14
 case hypa14 => intro w hSw; (try dsimp only at hSw); go_simp; try with_reducible rfl
 simp only [Act.put, aA, aB, aC, aD, aE, aF]
 refine tk 15 ?vpa15 rfl ?hypa15 hHeld ?restpa15
 case hypa15 => intro w hSw; (try dsimp only at hSw); go_simp; try with_reducible rfl
 simp only [Act.put, aA, aB, aC, aD, aE, aF]
 refine tk 17 ?vpa17 rfl ?hypa17 hHeld ?restpa17
 case hypa17 => intro w hSw; (try dsimp only at hSw); go_simp; try with_reducible rfl
 simp only [Act.put, aA, aB, aC, aD, aE, aF]
 refine tk 18 ?vpa18 rfl ?hypa18 hHeld ?restpa18
 case hypa18 => intro w hSw; (try dsimp only at hSw); go_simp; try with_reducible rfl
 simp only [Act.put, aA, aB, aC, aD, aE, aF]
 refine tk 19 ?vpa19 rfl ?hypa19 hHeld ?restpa19
 case hypa19 => intro w hSw; (try dsimp only at hSw); go_simp; try with_reducible rfl
 simp only [Act.put, aA, aB, aC, aD, aE, aF]
 refine tk 20 ?vpa20 rfl ?hypa20 hHeld ?restpa20
 case hypa20 => intro w hSw; (try dsimp only at hSw); go_simp; try with_reducible rfl
 simp only [Act.put, aA, aB, aC, aD, aE, aF]
 refine tk 21 ?vpa21 rfl ?hypa21 hHeld ?restpa21
 case hypa21 => intro w hSw; (try dsimp only at hSw); go_simp; try with_reducible rfl
 simp only [Act.put, aA, aB, aC, aD, aE, aF]
 refine tk 22 ?vpa22 rfl ?hypa22 hHeld ?restpa22
 case hypa22 => intro w hSw; (try dsimp only at hSw); go_simp; try with_reducible rfl
 simp only [Act.put, aA, aB, aC, aD, aE, aF]
 refine wpAnyH_ready (rs := [16, 23]) (by kernel_rfl) (by simp) ?_
 refine AllReadyH.cons (i := 16) rfl (fun K hK => ?pg1) (AllReadyH.cons (i := 23) rfl (fun K hK => ?pg2) AllReadyH.nil)
 case pg1 =>
  simp only [aD, aE, aF]
  go_simp
  refine hK.out _ _ hHeld (fun hHeld => ?_)
  clear hK
  refine rd 23 rfl (fun K hK => ?_)
  simp only [aD, aE, aF]
  go_simp
  refine hK.out _ _ hHeld (fun hHeld => ?_)
  clear hK
  refine tk 24 ?vpg1e24 rfl ?hypg1e24 hHeld ?restpg1e24
  case hypg1e24 => intro w hSw; (try dsimp only at hSw); go_simp; try with_reducible rfl
  simp only [Act.put, aA, aB, aC, aD, aE, aF]
  refine rd 25 rfl (fun K hK => ?_)
  simp only [aD, aE, aF]
  go_simp
  refine hK.out _ _ ((set_other _ (Ne.symm hgM)).trans hHeld) (fun hHeld => ?_)
  clear hK
  refine tk 26 ?vpg1f26 rfl ?hypg1f26 hHeld ?restpg1f26
  case hypg1f26 => intro w hSw; (try dsimp only at hSw); go_simp; try with_reducible rfl
  simp only [Act.put, aA, aB, aC, aD, aE, aF]
  refine rd 27 rfl (fun K hK => ?_)
  simp only [aD, aE, aF]
  go_simp
  refine hK.out _ _ ((set_other _ (Ne.symm hgM)).trans hHeld) (fun hHeld => ?_)
  clear hK
  refine wpAnyH_done (by kernel_rfl) ?_ _
  clear hHeld
  go_wp2_with fail
  go_end0
  exact ⟨rfl, ⟨_, _, _, HS.out⟩, by simp [World.setCell]; omega, HKW.out.trans HKP.out, by simp [World.setCell]; omega⟩
 case pg2 =>
  simp only [aD, aE, aF]
  go_simp
  refine hK.out _ _ hHeld (fun hHeld => ?_)
  clear hK
  refine rd 16 rfl (fun K hK => ?_)
  simp only [aD, aE, aF]
  go_simp
  refine hK.out _ _ hHeld (fun hHeld => ?_)
  clear hK
  refine tk 24 ?vpg2e24 rfl ?hypg2e24 hHeld ?restpg2e24
  case hypg2e24 => intro w hSw; (try dsimp only at hSw); go_simp; try with_reducible rfl
  simp only [Act.put, aA, aB, aC, aD, aE, aF]
  refine rd 25 rfl (fun K hK => ?_)
  simp only [aD, aE, aF]
  go_simp
  refine hK.out _ _ ((set_other _ (Ne.symm hgM)).trans hHeld) (fun hHeld => ?_)
  clear hK
  refine tk 26 ?vpg2f26 rfl ?hypg2f26 hHeld ?restpg2f26
  case hypg2f26 => intro w hSw; (try dsimp only at hSw); go_simp; try with_reducible rfl
  simp only [Act.put, aA, aB, aC, aD, aE, aF]
  refine rd 27 rfl (fun K hK => ?_)
  simp only [aD, aE, aF]
  go_simp
  refine hK.out _ _ ((set_other _ (Ne.symm hgM)).trans hHeld) (fun hHeld => ?_)
  clear hK
  refine wpAnyH_done (by kernel_rfl) ?_ _
  clear hHeld
  go_wp2_with fail
  go_end0
  exact ⟨rfl, ⟨_, _, _, HS.out⟩, by simp [World.setCell]; omega, HKW.out.trans HKP.out, by simp [World.setCell]; omega⟩
end Go.Proofs.YtdhmandnamajpaaGreatDoor
namespace Go.Proofs.YtdhmandnamajpaaGreatDoor
open Go.RowKit Go.Joins
set_option maxHeartbeats 1000000
set_option maxRecDepth 4000
theorem m_step {w0 w : World} {M B : Nat} {F : Fix} {m : MS} (h : MachX w0 w M B F m) (hl : m.st.length ≤ 100) (hb : m.base ≤ m.st.length) :
  Calls Tryz.prog 57 #[.pointer (some ⟨M, 0, none⟩)] w fun e w' => e = .returned (.agg #[.int .i64 (m.sec : Nat), .int .i64 (m.pl : Nat), .int .i64 ((m.st.length : Int) - m.base)]) ∧ Below w.heap.size w w' := by
 obtain ⟨frV, stV, outV, hmach⟩ := h
 have hM := hmach.size
 obtain ⟨sa, sc, hsv⟩ := row_form hmach.st
 subst hsv
 have c3 := hmach.c3
 have c4 := hmach.c4
 have c5 := hmach.c5
 have c7 := hmach.c7
 have hw1 : IntKind.i64.wrap ((m.st.length : Int) - m.base) = (m.st.length : Int) - m.base := by rw [IntKind.wrap_i64]; omega
 clear hmach
 go_enter Tryz.func57, Tryz.ntmps57
 go_wp2_with fail
 have hne : M ≠ w.heap.size := by omega
 have kZ : (w.alloc (.cells #[.int .i64 0, .int .i64 0, .int .i64 0] 63)).drew.heap[w.heap.size]? = some (.cells #[.int .i64 0, .int .i64 0, .int .i64 0] 63 (0, 0)) := heap_alloc_new w _
 have dc : ∀ i, (w.alloc (.cells #[.int .i64 0, .int .i64 0, .int .i64 0] 63)).drew.cell? ⟨M, i, none⟩ = w.cell? ⟨M, i, none⟩ := fun i => (bcell (boxB w (.cells #[.int .i64 0, .int .i64 0, .int .i64 0] 63)).drew).1 M i hM
 have hbw : Below w.heap.size w (w.alloc (.cells #[.int .i64 0, .int .i64 0, .int .i64 0] 63)).drew := (boxB _ _).drew
 refine wp_region_held_drew (S := fun w' => w'.cell? ⟨M, 3, none⟩ = some (.int .i64 (m.sec : Nat)) ∧ w'.cell? ⟨M, 4, none⟩ = some (.int .i64 (m.pl : Nat)) ∧ w'.cell? ⟨M, 5, none⟩ = some (.int .i64 (m.base : Nat)) ∧ w'.cell? ⟨M, 7, none⟩ = some (.slice sa m.st.length sc)) (by kernel_rfl) ⟨(dc 3).trans c3, (dc 4).trans c4, (dc 5).trans c5, (dc 7).trans c7⟩ (fun hHeld => ?_)
 generalize (w.alloc (.cells #[.int .i64 0, .int .i64 0, .int .i64 0] 63)).drew = wa at *
 have z0 := cell_of_block kZ 0
 have z1 := cell_of_block kZ 1
 have z2 := cell_of_block kZ 2
 have y0 := unfrozen_of_block kZ 0
 have y1 := unfrozen_of_block kZ 1
 have y2 := unfrozen_of_block kZ 2
 refine tk 0 ?va0 rfl ?hya0 hHeld ?resta0
 case hya0 => rintro w ⟨q0, q1, q2, q3⟩; go_simp; try with_reducible rfl
 simp only [Act.put, aA, aB, aC, aD, aE]
 refine tk 1 ?va1 rfl ?hya1 hHeld ?resta1
 case hya1 => rintro w ⟨q0, q1, q2, q3⟩; go_simp; try with_reducible rfl
 simp only [Act.put, aA, aB, aC, aD, aE, aF]
 refine tk 2 ?va2 rfl ?hya2 hHeld ?resta2
 case hya2 => rintro w ⟨q0, q1, q2, q3⟩; go_simp; try with_reducible rfl
 simp only [Act.put, aA, aB, aC, aD, aE, aF]
 refine tk 3 ?va3 rfl ?hya3 hHeld ?resta3
 case hya3 => rintro w ⟨q0, q1, q2, q3⟩; go_simp; try with_reducible rfl
 simp only [Act.put, aA, aB, aC, aD, aE, aF]
 refine tk 4 ?va4 rfl ?hya4 hHeld ?resta4
 case hya4 => rintro w ⟨q0, q1, q2, q3⟩; go_simp; try with_reducible rfl
 simp only [Act.put, aA, aB, aC, aD, aE, aF]
 refine tk 5 ?va5 rfl ?hya5 hHeld ?resta5
 case hya5 => rintro w ⟨q0, q1, q2, q3⟩; go_simp; try with_reducible rfl
 simp only [Act.put, aA, aB, aC, aD, aE, aF]
 refine tk 6 ?va6 rfl ?hya6 hHeld ?resta6
 case hya6 => rintro w ⟨q0, q1, q2, q3⟩; go_simp; try with_reducible rfl
 simp only [Act.put, aA, aB, aC, aD, aE, aF]
 refine tk 7 ?va7 rfl ?hya7 hHeld ?resta7
 case hya7 => rintro w ⟨q0, q1, q2, q3⟩; go_simp; try with_reducible rfl
 simp only [Act.put, aA, aB, aC, aD, aE, aF]
 refine tk 8 ?va8 rfl ?hya8 hHeld ?resta8
 case hya8 => rintro w ⟨q0, q1, q2, q3⟩; go_simp; try with_reducible rfl
 simp only [Act.put, aA, aB, aC, aD, aE, aF]
 refine tk 9 ?va9 rfl ?hya9 hHeld ?resta9
 case hya9 => rintro w ⟨q0, q1, q2, q3⟩; go_simp; try with_reducible rfl
 simp only [Act.put, aA, aB, aC, aD, aE, aF]
 refine tk 10 ?va10 rfl ?hya10 hHeld ?resta10
 case hya10 => rintro w ⟨q0, q1, q2, q3⟩; go_simp; try with_reducible rfl
 simp only [Act.put, aA, aB, aC, aD, aE, aF]
 refine tk 11 ?va11 rfl ?hya11 hHeld ?resta11
 case hya11 => rintro w ⟨q0, q1, q2, q3⟩; go_simp; try with_reducible rfl
 simp only [Act.put, aA, aB, aC, aD, aE, aF]
 refine tk 12 ?va12 rfl ?hya12 hHeld ?resta12
 case hya12 => rintro w ⟨q0, q1, q2, q3⟩; go_simp; try with_reducible rfl
 simp only [Act.put, aA, aB, aC, aD, aE, aF]
 refine tk 13 ?va13 rfl ?hya13 hHeld ?resta13
 case hya13 => rintro w ⟨q0, q1, q2, q3⟩; go_simp; try with_reducible rfl
 simp only [Act.put, aA, aB, aC, aD, aE, aF]
 refine tk 14 ?va14 rfl ?hya14 hHeld ?resta14
 case hya14 => rintro w ⟨q0, q1, q2, q3⟩; go_simp; try with_reducible rfl
 simp only [Act.put, aA, aB, aC, aD, aE, aF]
 refine tk 15 ?va15 rfl ?hya15 hHeld ?resta15
 case hya15 => rintro w ⟨q0, q1, q2, q3⟩; go_simp; try with_reducible rfl
 simp only [Act.put, aA, aB, aC, aD, aE, aF]
 refine tk 16 ?va16 rfl ?hya16 hHeld ?resta16
 case hya16 => rintro w ⟨q0, q1, q2, q3⟩; go_simp; try with_reducible rfl
 simp only [Act.put, aA, aB, aC, aD, aE, aF]
 refine tk 17 ?va17 rfl ?hya17 hHeld ?resta17
 case hya17 => rintro w ⟨q0, q1, q2, q3⟩; go_simp; try with_reducible rfl
 simp only [Act.put, aA, aB, aC, aD, aE, aF]
 refine tk 18 ?va18 rfl ?hya18 hHeld ?resta18
 case hya18 => rintro w ⟨q0, q1, q2, q3⟩; go_simp; try with_reducible rfl
 simp only [Act.put, aA, aB, aC, aD, aE, aF]
 refine tk 19 ?va19 rfl ?hya19 hHeld ?resta19
 case hya19 => rintro w ⟨q0, q1, q2, q3⟩; go_simp; try with_reducible rfl
 simp only [Act.put, aA, aB, aC, aD, aE, aF]
 refine tk 20 (.int .i64 ((m.st.length : Int) - m.base)) rfl ?hya20 hHeld ?resta20
 case hya20 => rintro w ⟨q0, q1, q2, q3⟩; go_simp; try with_reducible rfl
 simp only [Act.put, aA, aB, aC, aD, aE, aF]
 refine tk 21 ?va21 rfl ?hya21 hHeld ?resta21
 case hya21 => rintro w ⟨q0, q1, q2, q3⟩; go_simp; try with_reducible rfl
 simp only [Act.put, aA, aB, aC, aD, aE, aF]
 refine rd 22 rfl (fun K hK => ?_)
 simp only [aD, aE, aF]
 go_simp
 refine hK.out _ _ ⟨(set_other _ hne).trans ((set_other _ hne).trans ((set_other _ hne).trans hHeld.1)), (set_other _ hne).trans ((set_other _ hne).trans ((set_other _ hne).trans hHeld.2.1)), (set_other _ hne).trans ((set_other _ hne).trans ((set_other _ hne).trans hHeld.2.2.1)), (set_other _ hne).trans ((set_other _ hne).trans ((set_other _ hne).trans hHeld.2.2.2))⟩ (fun hHeld => ?_)
 clear hK
 refine wpAnyH_done (by kernel_rfl) ?_ _
 have hF : (((wa.setCell ⟨w.heap.size, 0, none⟩ (.int .i64 (m.sec : Nat))).setCell ⟨w.heap.size, 1, none⟩ (.int .i64 (m.pl : Nat))).setCell ⟨w.heap.size, 2, none⟩ (.int .i64 ((m.st.length : Int) - m.base))).heap[w.heap.size]? = some (.cells #[.int .i64 (m.sec : Nat), .int .i64 (m.pl : Nat), .int .i64 ((m.st.length : Int) - m.base)] 63 (0, 0)) := block_setCell (block_setCell (block_setCell kZ _) _) _
 have r0 := cell_of_block hF 0
 have r1 := cell_of_block hF 1
 have r2 := cell_of_block hF 2
 clear z0 z1 z2 y0 y1 y2 hHeld dc kZ hF
 go_wp2_with fail
 exact bodyPost_ret (v := .agg #[.int .i64 (m.sec : Nat), .int .i64 (m.pl : Nat), .int .i64 ((m.st.length : Int) - m.base)]) (by simp [results, Tryz.results57, go_sem, r0, r1, r2]) rfl ⟨rfl, ((hbw.setCell (Nat.le_refl _) _).setCell (Nat.le_refl _) _).setCell (Nat.le_refl _) _⟩
def opF (op : Nat) : Nat := [89, 90, 91, 92, 93, 94, 95, 96, 97, 98, 99, 100, 101, 102, 103, 104, 105, 106, 107, 108, 109].getD op 0
structure Stat (w0 : World) (M B : Nat) (F : Fix) (S : List Sec) (b off cap : Nat) : Prop where
 secs : F.secsV = .slice (some ⟨b, off, none⟩) S.length cap
 at0 : SecsAt w0 b off S
 lt : b < B
 ne : b ≠ M
theorem do_any {w0 w : World} {M B : Nat} {F : Fix} {S : List Sec} {b off cap : Nat} (hSt : Stat w0 M B F S b off cap) (hS : Sound S) {m : MS} (hg : Good S m) (ho : m.out.length ≤ 4000) (h : MachX w0 w M B F (paidM (nowI S m) m)) (hB : B ≤ w.heap.size) (ta : Option Addr) (tc : Nat)
  (hT : ∀ (j : Nat) (t : Int), (nowI S m).to[j]? = some t → 0 ≤ t ∧ ∃ q, ta = some ⟨q, 0, none⟩ ∧ q < B ∧ q ≠ M ∧ w0.cell? ⟨q, j, none⟩ = some (.int .i64 t)) :
  Calls Tryz.prog (opF (nowI S m).op) #[.pointer (some ⟨M, 0, none⟩), .agg #[.int .i64 (nowI S m).op, .int .i64 (nowI S m).pl, .int .i64 (nowI S m).nx, .int .i64 (nowI S m).n, .slice ta (nowI S m).to.length tc]] w (DoP w0 w M B F (doI S F.d (nowI S m) (paidM (nowI S m) m))) := by
 have N := atH_now hS hg.here
 have hsm := hg.small hS
 have hto := insI_to (codeS S m.sec) m.pl
 have hnl : (nowI S m).n < 65536 := insI_n_lt _ _
 have hnow : nowI S m = insI (codeS S m.sec) m.pl := rfl
 rw [← hnow] at N hto
 generalize nowI S m = x at *
 clear hnow
 have hlow := N.low
 have hbase := hg.base
 have hv : ∀ n, topN m.st n < 65536 := fun n => getD_lt hg.vals _
 have e1 : (paidM x m).st = m.st := rfl
 have e2 : (paidM x m).fr = m.fr := rfl
 have e3 : (paidM x m).out = m.out := rfl
 have hfew := hg.few
 have hfr := hg.frames
 obtain ⟨hk, _⟩ := hg.here
 have hop := N.op
 generalize paidM x m = p at *
 have hl : p.st.length ≤ 100 := by rw [e1]; omega
 rcases op_cases x.op with o | o | o | o | o | o | o | o | o | o | o | o | o | o | o | o | o
 ·rw [doI_0 S F.d x p o]
  have hf : opF x.op = 89 := by rw [o]; rfl
  rw [hf]
  exact do_stop h hB x ta tc
 ·rw [doI_1 S F.d x p o]
  have hf : opF x.op = 90 := by rw [o]; rfl
  rw [hf]
  exact do_fail h hB x ta tc
 ·rw [doI_2 S F.d x p o]
  have hf : opF x.op = 91 := by rw [o]; rfl
  rw [hf]
  exact do_push h hB x ta tc hnl hl
 ·rw [doI_3 S F.d x p o]
  have ht : takesI S S[m.sec] x = 1 := by simp [takesI, takesT, o]
  have hf : opF x.op = 92 := by rw [o]; rfl
  rw [hf]
  exact do_pop h hB x ta tc hl (by rw [e1]; omega)
 ·rw [doI_sum S F.d x p o]
  have o' : x.op = 4 ∨ x.op = 5 ∨ x.op = 6 ∨ x.op = 7 ∨ x.op = 8 := by omega
  have ht : takesI S S[m.sec] x = 2 := by rcases o' with q | q | q | q | q <;> simp [takesI, takesT, q]
  have h2 : 2 ≤ p.st.length := by rw [e1]; omega
  rcases o' with q | q | q | q | q
  ·have hf : opF x.op = 93 := by rw [q]; rfl
   rw [hf]
   have := do_add h hB x ta tc hl h2
   rw [← q] at this
   exact this
  ·have hf : opF x.op = 94 := by rw [q]; rfl
   rw [hf]
   have := do_sub h hB x ta tc hl h2
   rw [← q] at this
   exact this
  ·have hf : opF x.op = 95 := by rw [q]; rfl
   rw [hf]
   have := do_mul h hB x ta tc hl h2
   rw [← q] at this
   exact this
  ·have hf : opF x.op = 96 := by rw [q]; rfl
   rw [hf]
   have := do_less h hB x ta tc hl h2
   rw [← q] at this
   exact this
  ·have hf : opF x.op = 97 := by rw [q]; rfl
   rw [hf]
   have := do_same h hB x ta tc hl h2
   rw [← q] at this
   exact this
 ·rw [doI_9 S F.d x p o]
  have ht : takesI S S[m.sec] x = (1 : Int) + x.n := by simp [takesI, takesT, o]
  have hf : opF x.op = 98 := by rw [o]; rfl
  rw [hf]
  exact do_dup h hB x ta tc hl (by rw [e1]; omega)
 ·rw [doI_10 S F.d x p o]
  have ht : takesI S S[m.sec] x = (2 : Int) + x.n := by simp [takesI, takesT, o]
  have hf : opF x.op = 99 := by rw [o]; rfl
  rw [hf]
  exact do_swap h hB x ta tc hl (by rw [e1]; omega)
 ·rw [doI_11 S F.d x p o]
  have ht : takesI S S[m.sec] x = 1 := by simp [takesI, takesT, o]
  have hf : opF x.op = 100 := by rw [o]; rfl
  rw [hf]
  exact do_load h hB x ta tc hl (by rw [e1]; omega)
 ·rw [doI_12 S F.d x p o]
  have ht : takesI S S[m.sec] x = 2 := by simp [takesI, takesT, o]
  have hf : opF x.op = 101 := by rw [o]; rfl
  rw [hf]
  exact do_store h hB x ta tc hl (by rw [e1]; omega)
 ·rw [doI_13 S F.d x p o]
  have ht : takesI S S[m.sec] x = 1 := by simp [takesI, takesT, o]
  have hf : opF x.op = 102 := by rw [o]; rfl
  rw [hf]
  exact do_data h hB x ta tc hl (by rw [e1]; omega) (by rw [e1]; exact hv 0)
 ·rw [doI_14 S F.d x p o]
  have ht : takesI S S[m.sec] x = 1 := by simp [takesI, takesT, o]
  have hf : opF x.op = 103 := by rw [o]; rfl
  rw [hf]
  exact do_emit h hB x ta tc hl (by rw [e1]; omega) (by rw [e3]; exact ho) (by rw [e1]; exact hv 0)
 ·rw [doI_15 S F.d x p o]
  have hf : opF x.op = 104 := by rw [o]; rfl
  rw [hf]
  exact do_jump h hB x ta tc (hto.1 o) hT
 ·rw [doI_16 S F.d x p o]
  have ht : takesI S S[m.sec] x = 1 := by simp [takesI, takesT, o]
  have hf : opF x.op = 105 := by rw [o]; rfl
  rw [hf]
  exact do_jumpIf h hB x ta tc hl (by rw [e1]; omega) (hto.2.1 o) (by rw [e1]; exact hv 0) hT
 ·rw [doI_17 S F.d x p o]
  have ht : takesI S S[m.sec] x = 1 := by simp [takesI, takesT, o]
  have hf : opF x.op = 106 := by rw [o]; rfl
  rw [hf]
  exact do_jumpBy h hB x ta tc hl (by rw [e1]; omega) (by rw [e1]; exact hv 0) hT
 ·rw [doI_18 S F.d x p o]
  have ht : takesI S S[m.sec] x = inS S x.n := by simp [takesI, o]
  have hf : opF x.op = 107 := by rw [o]; rfl
  rw [hf]
  exact do_call h hB x ta tc S b off cap hSt.secs hSt.at0 hSt.lt hSt.ne (N.name (by simp [namesB, o])).1 hS.fit hl (by rw [e1]; omega) (by rw [e2]; exact hfew)
 ·rw [doI_19 S F.d x p o]
  have hpos : 1 ≤ m.fr.length := by
   obtain ⟨r1, _, _⟩ := N.ret (by simp [returnsB, o])
   cases hrev : m.fr.reverse with
   | nil => rw [hrev] at hfr; exact absurd ((outS_at S m.sec hk).symm.trans hfr) r1
   | cons f r =>
    have := congrArg List.length hrev
    simp at this
    omega
  have hf : opF x.op = 108 := by rw [o]; rfl
  rw [hf]
  exact do_goBack h hB x ta tc (by rw [e2]; exact hfew) (by rw [e2]; exact hpos)
 ·rw [doI_20 S F.d x p o]
  have o' : x.op = 20 := by omega
  have hf : opF x.op = 109 := by rw [o']; rfl
  have ht : takesI S S[m.sec] x = inS S x.n := by simp [takesI, o']
  rw [hf]
  exact do_goOver h hB x ta tc S b off cap hSt.secs hSt.at0 hSt.lt hSt.ne (N.name (by simp [namesB, o'])).1 hS.fit hl (by rw [e1]; omega)
end Go.Proofs.YtdhmandnamajpaaGreatDoor
namespace Go.Proofs.YtdhmandnamajpaaGreatDoor
open Go.RowKit Go.Joins
set_option maxHeartbeats 1000000
set_option maxRecDepth 4000
def deedsA : Array Value := #[.func (.func 89) #[] #[], .func (.func 90) #[] #[], .func (.func 91) #[] #[], .func (.func 92) #[] #[], .func (.func 93) #[] #[], .func (.func 94) #[] #[], .func (.func 95) #[] #[], .func (.func 96) #[] #[], .func (.func 97) #[] #[], .func (.func 98) #[] #[], .func (.func 99) #[] #[], .func (.func 100) #[] #[], .func (.func 101) #[] #[], .func (.func 102) #[] #[], .func (.func 103) #[] #[], .func (.func 104) #[] #[], .func (.func 105) #[] #[], .func (.func 106) #[] #[], .func (.func 107) #[] #[], .func (.func 108) #[] #[], .func (.func 109) #[] #[]]
theorem below_row {B : Nat} {a w : World} (h : Below B a w) {g : Nat} (hg : B ≤ g) (cs : Array Value) : Below B a (w.setRow g cs) := h.trans ⟨rfl, rfl, rfl, by simp, fun k hk => setRow_other _ _ _ _ (by omega)⟩
def zeroF : Array Value := #[.nilFunc, .nilFunc, .nilFunc, .nilFunc, .nilFunc, .nilFunc, .nilFunc, .nilFunc, .nilFunc, .nilFunc, .nilFunc, .nilFunc, .nilFunc, .nilFunc, .nilFunc, .nilFunc, .nilFunc, .nilFunc, .nilFunc, .nilFunc, .nilFunc]
theorem mach_doings (w : World) : Calls Tryz.prog 54 #[] w fun e w' => e = .returned (.agg deedsA) ∧ Below w.heap.size w w' := by
 go_enter Tryz.func54, Tryz.ntmps54
 go_wp2_with (refine wpList_store_row rfl 113 (.tmp 0) (.tmp 1) rfl w.heap.size deedsA rfl rfl 113 zeroF (heap_alloc_new w _) (by kernel_rfl) (by kernel_rfl) (by kernel_rfl) ?_)
 exact bodyPost_ret (v := .agg deedsA) (results_cell_row Tryz.results54 _ _ w.heap.size 113 deedsA (0, 0) _ rfl (setRow_heap _ _ _ _ _ _ (heap_alloc_new w _)) Tryz.underlying113 rfl (by kernel_rfl)) rfl ⟨rfl, below_row (boxB _ _) (Nat.le_refl _) _⟩
theorem mach_idle (v : Value) (w : World) (hv : ∃ a b c, v = .agg #[.int .i64 a, .int .i64 b, .int .i64 c]) : Calls Tryz.prog 33 #[v] w fun e w' => e = .returned (.tuple #[]) ∧ Below w.heap.size w w' := by
 obtain ⟨a, b, c, rfl⟩ := hv
 go_enter Tryz.func33, Tryz.ntmps33
 go_wp2_with fail
 go_end0
 exact ⟨rfl, boxB _ _⟩
theorem m_settle {w0 w : World} {M B : Nat} {F : Fix} {m : MS} (h : MachX w0 w M B F m) (hB : B ≤ w.heap.size) (hf : m.fin.isSome = true) (u : FrameMode) :
  CallsD Tryz.prog 53 #[.pointer (some ⟨M, 0, none⟩)] u w fun e u' w' => u' = u ∧ (e = .returned (.tuple #[]) ∧ MachX w0 w' M B F { m with out := outM m } ∧ B ≤ w'.heap.size ∧ KT w w' ∧ w.heap.size ≤ w'.heap.size) := by
 obtain ⟨frV, stV, outV, hmach⟩ := h
 have hM := hmach.size
 have c24 := hmach.c24
 have c25 := hmach.c25
 have f25 := hmach.froz 25
 have HM := hidc hmach
 have HC := hidc (hmach.cut_out (.slice none 0 0) [] ⟨rfl, .inl ⟨rfl, rfl⟩⟩)
 have HK : Hid (KT w (w.setCell ⟨M, 25, none⟩ (.slice none 0 0))) := by
  obtain ⟨cs, e, _⟩ := hmach.blk
  exact KT.set e _ _
 clear hmach
 by_cases h0 : m.fin = some 0
 ·have HO : Hid ({ m with out := outM m } = m) := by
   show { m with out := outM m } = m
   unfold outM
   rw [if_pos h0]
  have he : endOf m = 0 := by unfold endOf; rw [h0]; rfl
  rw [he] at c24
  go_enter_d Tryz.func53, Tryz.ntmps53
  go_wp2_with fail
  go_end0
  exact ⟨rfl, by rw [HO.out]; exact ⟨_, _, _, HM.out⟩, hB, KT.refl _, Nat.le_refl _⟩
 ·have HO : Hid ({ m with out := outM m } = { m with out := [] }) := by
   show { m with out := outM m } = { m with out := [] }
   unfold outM
   rw [if_neg h0]
  have he : ((endOf m : Int) != 0) = true := by
   unfold endOf
   cases hq : m.fin with
   | none => rw [hq] at hf; cases hf
   | some e =>
    simp
    intro e0
    subst e0
    exact h0 hq
  generalize endOf m = en at *
  go_enter_d Tryz.func53, Tryz.ntmps53
  go_wp2_with fail
  go_end0
  exact ⟨rfl, by rw [HO.out]; exact ⟨_, _, _, HC.out⟩, by simpa [World.setCell] using hB, HK.out, by simp [World.setCell]⟩
end Go.Proofs.YtdhmandnamajpaaGreatDoor
