import Derived.Test.YtdhmandnamajpaaGreatDoorY00
import Derived.Test.YtdhmandnamajpaaGreatDoorY13
namespace Go.Proofs.YtdhmandnamajpaaGreatDoor
open Go.RowKit Go.Joins
set_option maxHeartbeats 1000000
set_option maxRecDepth 4000
def callM (S : List Sec) (n : Nat) (m : MS) : MS := if m.fr.length = 8 then { m with fin := some 3 } else enterM S n { m with fr := m.fr ++ [(m.sec, m.pl, m.base)] }
theorem newsFd (w : World) (a b c : Value) (g : Nat) (hg : g = w.heap.size) : ∀ j u, [a, b, c][j]? = some u → (w.alloc (.cells #[a, b, c] 81)).cell? ((⟨g, 0, none⟩ : Addr).add j) = some u := newsF w a b c g hg
theorem do_call {w0 w : World} {M B : Nat} {F : Fix} {m : MS} (h : MachX w0 w M B F m) (hB : B ≤ w.heap.size) (x : Ins) (ta : Option Addr) (tc : Nat) (S : List Sec) (b off cap : Nat) (hF : F.secsV = .slice (some ⟨b, off, none⟩) S.length cap) (hS : SecsAt w0 b off S) (hbB : b < B) (hbM : b ≠ M) (hn : x.n < S.length) (hal : S.all secB = true) (hl : m.st.length ≤ 100) (hin : inS S x.n ≤ m.st.length) (h8 : m.fr.length ≤ 8) :
  Calls Tryz.prog 107 #[.pointer (some ⟨M, 0, none⟩), .agg #[.int .i64 x.op, .int .i64 x.pl, .int .i64 x.nx, .int .i64 x.n, .slice ta x.to.length tc]] w (DoP w0 w M B F (callM S x.n m)) := by
 obtain ⟨frV, outV, hy⟩ := h.y
 have hM : M < w.heap.size := by obtain ⟨_, _, _, q⟩ := h; exact q.size
 have hlt : M < B := by obtain ⟨_, _, _, q⟩ := h; exact q.lt
 have HM := hidc (hy.below (boxB w (.cells #[.int .i64 x.op, .int .i64 x.pl, .int .i64 x.nx, .int .i64 x.n, .slice ta x.to.length tc] 116)) hB)
 have hB1 : B ≤ (w.alloc (.cells #[.int .i64 x.op, .int .i64 x.pl, .int .i64 x.nx, .int .i64 x.n, .slice ta x.to.length tc] 116)).heap.size := by simp; omega
 have HK0 := hidc (KT.below (boxB w (.cells #[.int .i64 x.op, .int .i64 x.pl, .int .i64 x.nx, .int .i64 x.n, .slice ta x.to.length tc] 116)))
 clear h hy
 go_enter Tryz.func107, Tryz.ntmps107
 obtain ⟨iz, hiz, hzz0, hzz1, hzz2⟩ := info_parts Tryz.infoFrame
 have hI := box3 w x (.slice ta x.to.length tc)
 obtain ⟨stV, hmach⟩ := HM.out
 obtain ⟨fa, fc, hfv⟩ := row_form hmach.fr
 subst hfv
 have HMA := hidc hmach
 have c6 := hmach.c6
 clear hmach
 have c6w : w.cell? ⟨M, 6, none⟩ = some (.slice fa m.fr.length fc) := by
  have := c6
  rw [(bcell (boxB w (.cells #[.int .i64 x.op, .int .i64 x.pl, .int .i64 x.nx, .int .i64 x.n, .slice ta x.to.length tc] 116))).1 _ _ hM] at this
  exact this
 clear c6
 by_cases hf : m.fr.length = 8
 ·have HC : Hid (callM S x.n m = { m with fin := some 3 }) := if_pos hf
  have hf8 : ((m.fr.length : Int) == 8) = true := by rw [hf]; rfl
  clear hf
  go_wp2_with fail
  refine (m_end (v := 3) HM.out.x hB1).mono ?_
  rintro e w3 ⟨rfl, hm, hB3, hk, hs3⟩
  have HM3 := hidc hm
  have HK3 := hidc hk
  clear hm hk
  go_wp2_with fail
  go_end0
  exact ⟨rfl, by rw [HC.out]; exact HM3.out, hB3, HK0.out.trans HK3.out, by simp at hs3; omega⟩
 ·have HC : Hid (callM S x.n m = enterM S x.n { m with fr := m.fr ++ [(m.sec, m.pl, m.base)] }) := if_neg hf
  have hf8 : ((m.fr.length : Int) == 8) = false := by simp; omega
  clear hf
  go_wp2_with fail
  have hmd := HMA.out.below ((Below.refl _ _).drew) hB1
  have hId : (w.alloc (.cells #[.int .i64 x.op, .int .i64 x.pl, .int .i64 x.nx, .int .i64 x.n, .slice ta x.to.length tc] 116)).drew.heap[w.heap.size]? = some (.cells #[.int .i64 x.op, .int .i64 x.pl, .int .i64 x.nx, .int .i64 x.n, .slice ta x.to.length tc] 116 (0, 0)) := hI
  have HKW : Hid (KT w (w.alloc (.cells #[.int .i64 x.op, .int .i64 x.pl, .int .i64 x.nx, .int .i64 x.n, .slice ta x.to.length tc] 116)).drew) := HK0.out.trans (KT.below ((Below.refl _ _).drew))
  have hBa : B ≤ (w.alloc (.cells #[.int .i64 x.op, .int .i64 x.pl, .int .i64 x.nx, .int .i64 x.n, .slice ta x.to.length tc] 116)).drew.heap.size := hB1
  have hsa : w.heap.size + 1 = (w.alloc (.cells #[.int .i64 x.op, .int .i64 x.pl, .int .i64 x.nx, .int .i64 x.n, .slice ta x.to.length tc] 116)).drew.heap.size := by simp
  refine wp_region_held_drew (S := fun w' => w'.cell? ⟨M, 3, none⟩ = some (.int .i64 (m.sec : Nat)) ∧ w'.cell? ⟨M, 4, none⟩ = some (.int .i64 (m.pl : Nat)) ∧ w'.cell? ⟨M, 5, none⟩ = some (.int .i64 (m.base : Nat))) (by kernel_rfl) ⟨hmd.c3, hmd.c4, hmd.c5⟩ (fun hHeld => ?_)
  generalize (w.alloc (.cells #[.int .i64 x.op, .int .i64 x.pl, .int .i64 x.nx, .int .i64 x.n, .slice ta x.to.length tc] 116)).drew = wa at *
  have c6a := hmd.c6
  have hMa := hmd.size
  have hIa := hId
  have HMB := hidc (hmd.below (boxB wa (.cells #[.int .i64 (m.sec : Nat), .int .i64 (m.pl : Nat), .int .i64 (m.base : Nat)] 81)) hBa)
  clear hmd hI c6w hId
  refine tk 0 ?va0 rfl ?hya0 hHeld ?resta0
  case hya0 => rintro w ⟨z0, z1, z2⟩; go_simp; try with_reducible rfl
  simp only [Act.put, aA, aB, aC, aD, aE]
  refine tk 1 ?va1 rfl ?hya1 hHeld ?resta1
  case hya1 => rintro w ⟨z0, z1, z2⟩; go_simp; try with_reducible rfl
  simp only [Act.put, aA, aB, aC, aD, aE, aF]
  refine tk 2 ?va2 rfl ?hya2 hHeld ?resta2
  case hya2 => rintro w ⟨z0, z1, z2⟩; go_simp; try with_reducible rfl
  simp only [Act.put, aA, aB, aC, aD, aE, aF]
  refine tk 3 ?va3 rfl ?hya3 hHeld ?resta3
  case hya3 => rintro w ⟨z0, z1, z2⟩; go_simp; try with_reducible rfl
  simp only [Act.put, aA, aB, aC, aD, aE, aF]
  refine tk 5 ?va5 rfl ?hya5 hHeld ?resta5
  case hya5 => rintro w ⟨z0, z1, z2⟩; go_simp; try with_reducible rfl
  simp only [Act.put, aA, aB, aC, aD, aE, aF]
  refine tk 6 ?va6 rfl ?hya6 hHeld ?resta6
  case hya6 => rintro w ⟨z0, z1, z2⟩; go_simp; try with_reducible rfl
  simp only [Act.put, aA, aB, aC, aD, aE, aF]
  refine tk 7 ?va7 rfl ?hya7 hHeld ?resta7
  case hya7 => rintro w ⟨z0, z1, z2⟩; go_simp; try with_reducible rfl
  simp only [Act.put, aA, aB, aC, aD, aE, aF]
  refine tk 8 ?va8 rfl ?hya8 hHeld ?resta8
  case hya8 => rintro w ⟨z0, z1, z2⟩; go_simp; try with_reducible rfl
  simp only [Act.put, aA, aB, aC, aD, aE, aF]
  refine wpAnyH_ready (rs := [4, 9]) (by kernel_rfl) (by simp) ?_
  refine AllReadyH.cons (i := 4) rfl (fun K hK => ?gfour) (AllReadyH.cons (i := 9) rfl (fun K hK => ?gnine) AllReadyH.nil)
  case gfour =>
   simp only [aD, aE, aF]
   go_simp
   refine hK.out _ _ hHeld (fun hHeld => ?_)
   clear hK
   refine rd 9 rfl (fun K hK => ?_)
   simp only [aD, aE, aF]
   go_simp
   refine hK.out _ _ ⟨HMB.out.c3, HMB.out.c4, HMB.out.c5⟩ (fun hHeld => ?_)
   clear hK
   refine rd 10 rfl (fun K hK => ?_)
   refine step_append_lies _ rfl _ _ 82 rfl B 81 iz (.agg #[.int .i64 0, .int .i64 0, .int .i64 0]) 3 24 Tryz.underlying82 hiz hzz0 hzz1 hzz2 rfl (by decide) _ m.fr.length (fV m.fr) rfl HMB.out.fr ⟨wa.heap.size, 0, none⟩ 1 1 [.int .i64 (m.sec : Nat), .int .i64 (m.pl : Nat), .int .i64 (m.base : Nat)] rfl rfl (newsFd _ _ _ _ _ rfl) (oneF _ _ _) (by decide) (by unfold maxLen; omega) (by omega) (by simp; omega) _ rfl ?_
   intro ga ca w5 hown5 hgrow5 hat5 hlt5
   have hown' : w5.ownsRow B 81 3 (.slice (some ⟨ga, 0, none⟩) (m.fr.length + 1) ca) (m.fr ++ [(m.sec, m.pl, m.base)]).length (fV (m.fr ++ [(m.sec, m.pl, m.base)])) := by
    have e1 : (m.fr ++ [(m.sec, m.pl, m.base)]).length = m.fr.length + 1 := by simp
    rw [e1, fV_append]
    exact hown5
   obtain ⟨hcM, ⟨cs5, eb5, _⟩, _⟩ := HMB.out.grown hgrow5 (by simp; omega) (fun k hk => (HMB.out.fr.lt k hk).1)
   have HG := hidc (HMB.out.grow_fr (by simp; omega) _ (m.fr ++ [(m.sec, m.pl, m.base)]) hgrow5 hown')
   have HKG : Hid (KT wa (w5.setCell ⟨M, 6, none⟩ (.slice (some ⟨ga, 0, none⟩) (m.fr.length + 1) ca))) := ((KT.below (boxB _ _)).trans (KT.grown HMB.out.fr hgrow5 (.inr (.inl rfl)))).trans (KT.set eb5 _ _)
   have hB5 : B ≤ w5.heap.size := by have := hgrow5.size; simp at this; omega
   have hS5 : wa.heap.size ≤ w5.heap.size := by have := hgrow5.size; simp at this; omega
   have c6' : w5.cell? ⟨M, 6, none⟩ = some (.slice fa m.fr.length fc) := (hcM 6).trans HMB.out.c6
   have f6' : w5.frozen? ⟨M, 6, none⟩ = false := unfrozen_of_block eb5 6
   have hM5 : M < w5.heap.size := by omega
   refine hK.out _ _ ⟨(hcM 3).trans HMB.out.c3, (hcM 4).trans HMB.out.c4, (hcM 5).trans HMB.out.c5⟩ (fun hHeld => ?_)
   clear hK hown5 hgrow5 hat5 hlt5 hown' eb5 hcM
   simp only [Act.put, aA, aB, aC, aD, aE, aF]
   refine tk 11 ?vpt11 rfl ?hypt11 hHeld ?restpt11
   case hypt11 => rintro w ⟨z0, z1, z2⟩; go_simp; try with_reducible rfl
   simp only [Act.put, aA, aB, aC, aD, aE, aF]
   refine tk 12 ?vpt12 rfl ?hypt12 hHeld ?restpt12
   case hypt12 => rintro w ⟨z0, z1, z2⟩; go_simp; try with_reducible rfl
   simp only [Act.put, aA, aB, aC, aD, aE, aF]
   refine rd 13 rfl (fun K hK => ?_)
   simp only [aD, aE, aF]
   go_simp
   refine hK.out _ _ ⟨(mset_other (adne (by omega))).trans hHeld.1, (mset_other (adne (by omega))).trans hHeld.2.1, (mset_other (adne (by omega))).trans hHeld.2.2⟩ (fun hHeld => ?_)
   clear hK
   refine wpAnyH_done (by kernel_rfl) ?_ _
   clear hHeld c6' f6'
   have hI6 := HKG.out _ _ _ _ hIa (by decide) (by decide) (by decide) (by decide)
   have hB6 : B ≤ (w5.setCell ⟨M, 6, none⟩ (.slice (some ⟨ga, 0, none⟩) (m.fr.length + 1) ca)).heap.size := by simpa [World.setCell] using hB5
   have hS6 : wa.heap.size ≤ (w5.setCell ⟨M, 6, none⟩ (.slice (some ⟨ga, 0, none⟩) (m.fr.length + 1) ca)).heap.size := by simpa [World.setCell] using hS5
   generalize (w5.setCell ⟨M, 6, none⟩ (.slice (some ⟨ga, 0, none⟩) (m.fr.length + 1) ca)) = w6 at *
   have i3 : w6.cell? ⟨w.heap.size, 3, none⟩ = some (.int .i64 x.n) := by rw [cell_of_block hI6]; rfl
   have hI6s : w.heap.size < w6.heap.size := blt hI6
   clear hI6
   go_wp2_with fail
   refine (m_enter (m := { m with fr := m.fr ++ [(m.sec, m.pl, m.base)] }) ⟨_, _, _, HG.out⟩ hB6 S b off cap x.n hF hS hbB hbM hn hal hl hin).mono ?_
   rintro e w7 ⟨rfl, hm, hB7, hk, hs⟩
   have HM7 := hidc hm
   have HK7 := hidc hk
   clear hm hk
   go_wp2_with fail
   go_end0
   exact ⟨rfl, by rw [HC.out]; exact HM7.out, hB7, HKW.out.trans (HKG.out.trans HK7.out), by omega⟩
  case gnine =>
   simp only [aD, aE, aF]
   go_simp
   refine hK.out _ _ ⟨HMB.out.c3, HMB.out.c4, HMB.out.c5⟩ (fun hHeld => ?_)
   clear hK
   have c6b := HMB.out.c6
   refine rd 4 rfl (fun K hK => ?_)
   simp only [aD, aE, aF]
   go_simp
   refine hK.out _ _ hHeld (fun hHeld => ?_)
   clear hK c6b
   refine rd 10 rfl (fun K hK => ?_)
   refine step_append_lies _ rfl _ _ 82 rfl B 81 iz (.agg #[.int .i64 0, .int .i64 0, .int .i64 0]) 3 24 Tryz.underlying82 hiz hzz0 hzz1 hzz2 rfl (by decide) _ m.fr.length (fV m.fr) rfl HMB.out.fr ⟨wa.heap.size, 0, none⟩ 1 1 [.int .i64 (m.sec : Nat), .int .i64 (m.pl : Nat), .int .i64 (m.base : Nat)] rfl rfl (newsFd _ _ _ _ _ rfl) (oneF _ _ _) (by decide) (by unfold maxLen; omega) (by omega) (by simp; omega) _ rfl ?_
   intro ga ca w5 hown5 hgrow5 hat5 hlt5
   have hown' : w5.ownsRow B 81 3 (.slice (some ⟨ga, 0, none⟩) (m.fr.length + 1) ca) (m.fr ++ [(m.sec, m.pl, m.base)]).length (fV (m.fr ++ [(m.sec, m.pl, m.base)])) := by
    have e1 : (m.fr ++ [(m.sec, m.pl, m.base)]).length = m.fr.length + 1 := by simp
    rw [e1, fV_append]
    exact hown5
   obtain ⟨hcM, ⟨cs5, eb5, _⟩, _⟩ := HMB.out.grown hgrow5 (by simp; omega) (fun k hk => (HMB.out.fr.lt k hk).1)
   have HG := hidc (HMB.out.grow_fr (by simp; omega) _ (m.fr ++ [(m.sec, m.pl, m.base)]) hgrow5 hown')
   have HKG : Hid (KT wa (w5.setCell ⟨M, 6, none⟩ (.slice (some ⟨ga, 0, none⟩) (m.fr.length + 1) ca))) := ((KT.below (boxB _ _)).trans (KT.grown HMB.out.fr hgrow5 (.inr (.inl rfl)))).trans (KT.set eb5 _ _)
   have hB5 : B ≤ w5.heap.size := by have := hgrow5.size; simp at this; omega
   have hS5 : wa.heap.size ≤ w5.heap.size := by have := hgrow5.size; simp at this; omega
   have c6' : w5.cell? ⟨M, 6, none⟩ = some (.slice fa m.fr.length fc) := (hcM 6).trans HMB.out.c6
   have f6' : w5.frozen? ⟨M, 6, none⟩ = false := unfrozen_of_block eb5 6
   have hM5 : M < w5.heap.size := by omega
   refine hK.out _ _ ⟨(hcM 3).trans HMB.out.c3, (hcM 4).trans HMB.out.c4, (hcM 5).trans HMB.out.c5⟩ (fun hHeld => ?_)
   clear hK hown5 hgrow5 hat5 hlt5 hown' eb5 hcM
   simp only [Act.put, aA, aB, aC, aD, aE, aF]
   refine tk 11 ?vqt11 rfl ?hyqt11 hHeld ?restqt11
   case hyqt11 => rintro w ⟨z0, z1, z2⟩; go_simp; try with_reducible rfl
   simp only [Act.put, aA, aB, aC, aD, aE, aF]
   refine tk 12 ?vqt12 rfl ?hyqt12 hHeld ?restqt12
   case hyqt12 => rintro w ⟨z0, z1, z2⟩; go_simp; try with_reducible rfl
   simp only [Act.put, aA, aB, aC, aD, aE, aF]
   refine rd 13 rfl (fun K hK => ?_)
   simp only [aD, aE, aF]
   go_simp
   refine hK.out _ _ ⟨(mset_other (adne (by omega))).trans hHeld.1, (mset_other (adne (by omega))).trans hHeld.2.1, (mset_other (adne (by omega))).trans hHeld.2.2⟩ (fun hHeld => ?_)
   clear hK
   refine wpAnyH_done (by kernel_rfl) ?_ _
   clear hHeld c6' f6'
   have hI6 := HKG.out _ _ _ _ hIa (by decide) (by decide) (by decide) (by decide)
   have hB6 : B ≤ (w5.setCell ⟨M, 6, none⟩ (.slice (some ⟨ga, 0, none⟩) (m.fr.length + 1) ca)).heap.size := by simpa [World.setCell] using hB5
   have hS6 : wa.heap.size ≤ (w5.setCell ⟨M, 6, none⟩ (.slice (some ⟨ga, 0, none⟩) (m.fr.length + 1) ca)).heap.size := by simpa [World.setCell] using hS5
   generalize (w5.setCell ⟨M, 6, none⟩ (.slice (some ⟨ga, 0, none⟩) (m.fr.length + 1) ca)) = w6 at *
   have i3 : w6.cell? ⟨w.heap.size, 3, none⟩ = some (.int .i64 x.n) := by rw [cell_of_block hI6]; rfl
   have hI6s : w.heap.size < w6.heap.size := blt hI6
   clear hI6
   go_wp2_with fail
   refine (m_enter (m := { m with fr := m.fr ++ [(m.sec, m.pl, m.base)] }) ⟨_, _, _, HG.out⟩ hB6 S b off cap x.n hF hS hbB hbM hn hal hl hin).mono ?_
   rintro e w7 ⟨rfl, hm, hB7, hk, hs⟩
   have HM7 := hidc hm
   have HK7 := hidc hk
   clear hm hk
   go_wp2_with fail
   go_end0
   exact ⟨rfl, by rw [HC.out]; exact HM7.out, hB7, HKW.out.trans (HKG.out.trans HK7.out), by omega⟩
end Go.Proofs.YtdhmandnamajpaaGreatDoor
namespace Go.Proofs.YtdhmandnamajpaaGreatDoor
open Go.RowKit Go.Joins
set_option maxHeartbeats 1000000
set_option maxRecDepth 4000
theorem do_emit {w0 w : World} {M B : Nat} {F : Fix} {m : MS} (h : MachX w0 w M B F m) (hB : B ≤ w.heap.size) (x : Ins) (ta : Option Addr) (tc : Nat) (hl : m.st.length ≤ 100) (h1 : 1 ≤ m.st.length) (ho : m.out.length ≤ 4000) (hv : topN m.st 0 < 65536) :
  Calls Tryz.prog 103 #[.pointer (some ⟨M, 0, none⟩), .agg #[.int .i64 x.op, .int .i64 x.pl, .int .i64 x.nx, .int .i64 x.n, .slice ta x.to.length tc]] w (DoP w0 w M B F ({ m with st := dropN m.st 1, out := m.out ++ [topN m.st 0] })) := by
 obtain ⟨frV, outV, hy⟩ := h.y
 have hM : M < w.heap.size := by obtain ⟨_, _, _, q⟩ := h; exact q.size
 have hlt : M < B := by obtain ⟨_, _, _, q⟩ := h; exact q.lt
 have HM := hidc (hy.below (boxB w (.cells #[.int .i64 x.op, .int .i64 x.pl, .int .i64 x.nx, .int .i64 x.n, .slice ta x.to.length tc] 116)) hB)
 have hB1 : B ≤ (w.alloc (.cells #[.int .i64 x.op, .int .i64 x.pl, .int .i64 x.nx, .int .i64 x.n, .slice ta x.to.length tc] 116)).heap.size := by simp; omega
 have HK0 := hidc (KT.below (boxB w (.cells #[.int .i64 x.op, .int .i64 x.pl, .int .i64 x.nx, .int .i64 x.n, .slice ta x.to.length tc] 116)))
 clear h hy
 go_enter Tryz.func103, Tryz.ntmps103
 obtain ⟨iz, hiz, hzz0, hzz1, hzz2⟩ := info_parts Tryz.infoInt
 have hw64 : IntKind.i64.wrap (topN m.st 0 : Int) = (topN m.st 0 : Int) := by rw [IntKind.wrap_i64]; omega
 obtain ⟨oa, oc, hov⟩ : ∃ a c, outV = .slice a m.out.length c := by obtain ⟨_, q⟩ := HM.out; exact row_form q.out
 subst hov
 have HMa := hidc (HM.out.below ((Below.refl _ _).drew) hB1)
 have HKW : Hid (KT w (w.alloc (.cells #[.int .i64 x.op, .int .i64 x.pl, .int .i64 x.nx, .int .i64 x.n, .slice ta x.to.length tc] 116)).drew) := HK0.out.trans (KT.below ((Below.refl _ _).drew))
 have hBa : B ≤ (w.alloc (.cells #[.int .i64 x.op, .int .i64 x.pl, .int .i64 x.nx, .int .i64 x.n, .slice ta x.to.length tc] 116)).drew.heap.size := hB1
 have hsa : w.heap.size + 1 = (w.alloc (.cells #[.int .i64 x.op, .int .i64 x.pl, .int .i64 x.nx, .int .i64 x.n, .slice ta x.to.length tc] 116)).drew.heap.size := by simp
 have c25a : (w.alloc (.cells #[.int .i64 x.op, .int .i64 x.pl, .int .i64 x.nx, .int .i64 x.n, .slice ta x.to.length tc] 116)).drew.cell? ⟨M, 25, none⟩ = some (.slice oa m.out.length oc) := by obtain ⟨_, q⟩ := HMa.out; exact q.c25
 clear HM HK0
 go_wp2_with fail
 refine wp_region_held_drew (S := fun _ => True) (by kernel_rfl) trivial (fun hHeld => ?_)
 generalize (w.alloc (.cells #[.int .i64 x.op, .int .i64 x.pl, .int .i64 x.nx, .int .i64 x.n, .slice ta x.to.length tc] 116)).drew = wa at *
 refine tk 0 ?va0 rfl ?hya0 hHeld ?resta0
 case hya0 => intro w hSw; (try dsimp only at hSw); go_simp; try with_reducible rfl
 simp only [Act.put, aA, aB, aC, aD, aE]
 refine tk 1 ?va1 rfl ?hya1 hHeld ?resta1
 case hya1 => intro w hSw; (try dsimp only at hSw); go_simp; try with_reducible rfl
 simp only [Act.put, aA, aB, aC, aD, aE, aF]
 refine tk 2 ?va2 rfl ?hya2 hHeld ?resta2
 case hya2 => intro w hSw; (try dsimp only at hSw); go_simp; try with_reducible rfl
 simp only [Act.put, aA, aB, aC, aD, aE, aF]
 refine tk 3 ?va3 rfl ?hya3 hHeld ?resta3
 case hya3 => intro w hSw; (try dsimp only at hSw); go_simp; try with_reducible rfl
 simp only [Act.put, aA, aB, aC, aD, aE, aF]
 refine tk 4 ?va4 rfl ?hya4 hHeld ?resta4
 case hya4 => intro w hSw; (try dsimp only at hSw); go_simp; try with_reducible rfl
 simp only [Act.put, aA, aB, aC, aD, aE, aF]
 refine tk 6 ?va6 rfl ?hya6 hHeld ?resta6
 case hya6 => intro w hSw; (try dsimp only at hSw); go_simp; try with_reducible rfl
 simp only [Act.put, aA, aB, aC, aD, aE, aF]
 refine tk 7 ?va7 rfl ?hya7 hHeld ?resta7
 case hya7 => intro w hSw; (try dsimp only at hSw); go_simp; try with_reducible rfl
 simp only [Act.put, aA, aB, aC, aD, aE, aF]
 refine tk 8 ?va8 rfl ?hya8 hHeld ?resta8
 case hya8 => intro w hSw; (try dsimp only at hSw); go_simp; try with_reducible rfl
 simp only [Act.put, aA, aB, aC, aD, aE, aF]
 refine wpAnyH_ready (rs := [5, 9]) (by kernel_rfl) (by simp) ?_
 refine AllReadyH.cons (i := 5) rfl (fun K hK => ?gfive) (AllReadyH.cons (i := 9) rfl (fun K hK => ?gnine) AllReadyH.nil)
 case gfive =>
  simp only [aD, aE, aF]
  go_simp
  refine hK.out _ _ trivial (fun hHeld => ?_)
  clear hK
  refine rd 9 rfl (fun K hK => ?_)
  simp only [aD, aE, aF]
  go_simp
  go_at_call 129
  refine (st_take (m := m) (frV := frV) (outV := .slice oa m.out.length oc) HMa.out hBa (by omega) h1).mono ?_
  rintro e w2 ⟨rfl, hm, hB2, hk, hs2⟩
  obtain ⟨stV, hmach⟩ := hm
  have HM2 := hidc hmach
  have HK2 := hidc hk
  have HMB := hidc (hmach.below (boxB w2 (.cells #[.int .i64 (topN m.st 0 : Nat)] 3)) hB2)
  have c25b := hmach.c25
  have hM2 := hmach.size
  clear hk hmach
  go_wp2_with fail
  refine hK.out _ _ trivial (fun hHeld => ?_)
  clear hK
  refine tk 10 (.int .i64 (topN m.st 0 : Int)) rfl ?hyp10 hHeld ?restp10
  case hyp10 => intro w hSw; (try dsimp only at hSw); go_simp; try with_reducible rfl
  simp only [Act.put, aA, aB, aC, aD, aE, aF]
  refine rd 11 rfl (fun K hK => ?_)
  simp only [aD, aE, aF]
  go_simp
  refine hK.out _ _ trivial (fun hHeld => ?_)
  clear hK
  refine rd 12 rfl (fun K hK => ?_)
  refine step_append_lies _ rfl _ _ 22 rfl B 3 iz (.int .i64 0) 1 8 Tryz.underlying22 hiz hzz0 hzz1 hzz2 rfl (by decide) _ m.out.length (nV m.out) rfl HMB.out.out ⟨w2.heap.size, 0, none⟩ 1 1 [.int .i64 (topN m.st 0 : Nat)] rfl rfl (newsN _ _ _ rfl) (one1c _) (by decide) (by unfold maxLen; omega) (by omega) (by simp; omega) _ rfl ?_
  intro ga ca w5 hown5 hgrow5 hat5 hlt5
  have hown' : w5.ownsRow B 3 1 (.slice (some ⟨ga, 0, none⟩) (m.out.length + 1) ca) (m.out ++ [topN m.st 0]).length (nV (m.out ++ [topN m.st 0])) := by
   have e1 : (m.out ++ [topN m.st 0]).length = m.out.length + 1 := by simp
   rw [e1, show nV (m.out ++ [topN m.st 0]) = nV m.out ++ [.int .i64 (topN m.st 0 : Nat)] by simp [nV]]
   exact hown5
  obtain ⟨hcM, ⟨cs5, eb5, _⟩, _⟩ := HMB.out.grown hgrow5 (by simp; omega) (fun k hk => (HMB.out.out.lt k hk).1)
  have HG := hidc (HMB.out.grow_out (by simp; omega) _ (m.out ++ [topN m.st 0]) hgrow5 hown')
  have HKG : Hid (KT w2 (w5.setCell ⟨M, 25, none⟩ (.slice (some ⟨ga, 0, none⟩) (m.out.length + 1) ca))) := ((KT.below (boxB _ _)).trans (KT.grown HMB.out.out hgrow5 (.inr (.inr rfl)))).trans (KT.set eb5 _ _)
  have hB5 : B ≤ w5.heap.size := by have := hgrow5.size; simp at this; omega
  have hS5 : w2.heap.size ≤ w5.heap.size := by have := hgrow5.size; simp at this; omega
  have c25' : w5.cell? ⟨M, 25, none⟩ = some (.slice oa m.out.length oc) := (hcM 25).trans HMB.out.c25
  have f25' : w5.frozen? ⟨M, 25, none⟩ = false := unfrozen_of_block eb5 25
  have hM5 : M < w5.heap.size := by omega
  refine hK.out _ _ trivial (fun hHeld => ?_)
  clear hK hown5 hgrow5 hat5 hlt5 hown' eb5 hcM
  simp only [Act.put, aA, aB, aC, aD, aE, aF]
  refine tk 13 ?vpt13 rfl ?hypt13 hHeld ?restpt13
  case hypt13 => intro w hSw; (try dsimp only at hSw); go_simp; try with_reducible rfl
  simp only [Act.put, aA, aB, aC, aD, aE, aF]
  refine tk 14 ?vpt14 rfl ?hypt14 hHeld ?restpt14
  case hypt14 => intro w hSw; (try dsimp only at hSw); go_simp; try with_reducible rfl
  simp only [Act.put, aA, aB, aC, aD, aE, aF]
  refine tk 15 ?vpt15 rfl ?hypt15 hHeld ?restpt15
  case hypt15 => intro w hSw; (try dsimp only at hSw); go_simp; try with_reducible rfl
  simp only [Act.put, aA, aB, aC, aD, aE, aF]
  refine rd 16 rfl (fun K hK => ?_)
  simp only [aD, aE, aF]
  go_simp
  refine hK.out _ _ trivial (fun hHeld => ?_)
  clear hK
  refine wpAnyH_done (by kernel_rfl) ?_ _
  clear hHeld c25' f25'
  go_wp2_with fail
  go_end0
  exact ⟨rfl, ⟨_, _, _, HG.out⟩, by simpa [World.setCell] using hB5, HKW.out.trans (HK2.out.trans HKG.out), by simp [World.setCell]; omega⟩
 case gnine =>
  simp only [aD, aE, aF]
  go_simp
  go_at_call 129
  refine (st_take (m := m) (frV := frV) (outV := .slice oa m.out.length oc) HMa.out hBa (by omega) h1).mono ?_
  rintro e w2 ⟨rfl, hm, hB2, hk, hs2⟩
  obtain ⟨stV, hmach⟩ := hm
  have HM2 := hidc hmach
  have HK2 := hidc hk
  have HMB := hidc (hmach.below (boxB w2 (.cells #[.int .i64 (topN m.st 0 : Nat)] 3)) hB2)
  have c25b := hmach.c25
  have hM2 := hmach.size
  clear hk hmach
  go_wp2_with fail
  refine hK.out _ _ trivial (fun hHeld => ?_)
  clear hK
  refine tk 10 (.int .i64 (topN m.st 0 : Int)) rfl ?hyq10 hHeld ?restq10
  case hyq10 => intro w hSw; (try dsimp only at hSw); go_simp; try with_reducible rfl
  simp only [Act.put, aA, aB, aC, aD, aE, aF]
  refine wpAnyH_ready (rs := [5, 11]) (by kernel_rfl) (by simp) ?_
  refine AllReadyH.cons (i := 5) rfl (fun K hK => ?gf2) (AllReadyH.cons (i := 11) rfl (fun K hK => ?ge2) AllReadyH.nil)
  case gf2 =>
   simp only [aD, aE, aF]
   go_simp
   refine hK.out _ _ trivial (fun hHeld => ?_)
   clear hK
   refine rd 11 rfl (fun K hK => ?_)
   simp only [aD, aE, aF]
   go_simp
   refine hK.out _ _ trivial (fun hHeld => ?_)
   clear hK
   refine rd 12 rfl (fun K hK => ?_)
   refine step_append_lies _ rfl _ _ 22 rfl B 3 iz (.int .i64 0) 1 8 Tryz.underlying22 hiz hzz0 hzz1 hzz2 rfl (by decide) _ m.out.length (nV m.out) rfl HMB.out.out ⟨w2.heap.size, 0, none⟩ 1 1 [.int .i64 (topN m.st 0 : Nat)] rfl rfl (newsN _ _ _ rfl) (one1c _) (by decide) (by unfold maxLen; omega) (by omega) (by simp; omega) _ rfl ?_
   intro ga ca w5 hown5 hgrow5 hat5 hlt5
   have hown' : w5.ownsRow B 3 1 (.slice (some ⟨ga, 0, none⟩) (m.out.length + 1) ca) (m.out ++ [topN m.st 0]).length (nV (m.out ++ [topN m.st 0])) := by
    have e1 : (m.out ++ [topN m.st 0]).length = m.out.length + 1 := by simp
    rw [e1, show nV (m.out ++ [topN m.st 0]) = nV m.out ++ [.int .i64 (topN m.st 0 : Nat)] by simp [nV]]
    exact hown5
   obtain ⟨hcM, ⟨cs5, eb5, _⟩, _⟩ := HMB.out.grown hgrow5 (by simp; omega) (fun k hk => (HMB.out.out.lt k hk).1)
   have HG := hidc (HMB.out.grow_out (by simp; omega) _ (m.out ++ [topN m.st 0]) hgrow5 hown')
   have HKG : Hid (KT w2 (w5.setCell ⟨M, 25, none⟩ (.slice (some ⟨ga, 0, none⟩) (m.out.length + 1) ca))) := ((KT.below (boxB _ _)).trans (KT.grown HMB.out.out hgrow5 (.inr (.inr rfl)))).trans (KT.set eb5 _ _)
   have hB5 : B ≤ w5.heap.size := by have := hgrow5.size; simp at this; omega
   have hS5 : w2.heap.size ≤ w5.heap.size := by have := hgrow5.size; simp at this; omega
   have c25' : w5.cell? ⟨M, 25, none⟩ = some (.slice oa m.out.length oc) := (hcM 25).trans HMB.out.c25
   have f25' : w5.frozen? ⟨M, 25, none⟩ = false := unfrozen_of_block eb5 25
   have hM5 : M < w5.heap.size := by omega
   refine hK.out _ _ trivial (fun hHeld => ?_)
   clear hK hown5 hgrow5 hat5 hlt5 hown' eb5 hcM
   simp only [Act.put, aA, aB, aC, aD, aE, aF]
   refine tk 13 ?vrt13 rfl ?hyrt13 hHeld ?restrt13
   case hyrt13 => intro w hSw; (try dsimp only at hSw); go_simp; try with_reducible rfl
   simp only [Act.put, aA, aB, aC, aD, aE, aF]
   refine tk 14 ?vrt14 rfl ?hyrt14 hHeld ?restrt14
   case hyrt14 => intro w hSw; (try dsimp only at hSw); go_simp; try with_reducible rfl
   simp only [Act.put, aA, aB, aC, aD, aE, aF]
   refine tk 15 ?vrt15 rfl ?hyrt15 hHeld ?restrt15
   case hyrt15 => intro w hSw; (try dsimp only at hSw); go_simp; try with_reducible rfl
   simp only [Act.put, aA, aB, aC, aD, aE, aF]
   refine rd 16 rfl (fun K hK => ?_)
   simp only [aD, aE, aF]
   go_simp
   refine hK.out _ _ trivial (fun hHeld => ?_)
   clear hK
   refine wpAnyH_done (by kernel_rfl) ?_ _
   clear hHeld c25' f25'
   go_wp2_with fail
   go_end0
   exact ⟨rfl, ⟨_, _, _, HG.out⟩, by simpa [World.setCell] using hB5, HKW.out.trans (HK2.out.trans HKG.out), by simp [World.setCell]; omega⟩
  case ge2 =>
   simp only [aD, aE, aF]
   go_simp
   refine hK.out _ _ trivial (fun hHeld => ?_)
   clear hK
   have c25c := HMB.out.c25
   refine rd 5 rfl (fun K hK => ?_)
   simp only [aD, aE, aF]
   go_simp
   refine hK.out _ _ trivial (fun hHeld => ?_)
   clear hK c25c
   refine rd 12 rfl (fun K hK => ?_)
   refine step_append_lies _ rfl _ _ 22 rfl B 3 iz (.int .i64 0) 1 8 Tryz.underlying22 hiz hzz0 hzz1 hzz2 rfl (by decide) _ m.out.length (nV m.out) rfl HMB.out.out ⟨w2.heap.size, 0, none⟩ 1 1 [.int .i64 (topN m.st 0 : Nat)] rfl rfl (newsN _ _ _ rfl) (one1c _) (by decide) (by unfold maxLen; omega) (by omega) (by simp; omega) _ rfl ?_
   intro ga ca w5 hown5 hgrow5 hat5 hlt5
   have hown' : w5.ownsRow B 3 1 (.slice (some ⟨ga, 0, none⟩) (m.out.length + 1) ca) (m.out ++ [topN m.st 0]).length (nV (m.out ++ [topN m.st 0])) := by
    have e1 : (m.out ++ [topN m.st 0]).length = m.out.length + 1 := by simp
    rw [e1, show nV (m.out ++ [topN m.st 0]) = nV m.out ++ [.int .i64 (topN m.st 0 : Nat)] by simp [nV]]
    exact hown5
   obtain ⟨hcM, ⟨cs5, eb5, _⟩, _⟩ := HMB.out.grown hgrow5 (by simp; omega) (fun k hk => (HMB.out.out.lt k hk).1)
   have HG := hidc (HMB.out.grow_out (by simp; omega) _ (m.out ++ [topN m.st 0]) hgrow5 hown')
   have HKG : Hid (KT w2 (w5.setCell ⟨M, 25, none⟩ (.slice (some ⟨ga, 0, none⟩) (m.out.length + 1) ca))) := ((KT.below (boxB _ _)).trans (KT.grown HMB.out.out hgrow5 (.inr (.inr rfl)))).trans (KT.set eb5 _ _)
   have hB5 : B ≤ w5.heap.size := by have := hgrow5.size; simp at this; omega
   have hS5 : w2.heap.size ≤ w5.heap.size := by have := hgrow5.size; simp at this; omega
   have c25' : w5.cell? ⟨M, 25, none⟩ = some (.slice oa m.out.length oc) := (hcM 25).trans HMB.out.c25
   have f25' : w5.frozen? ⟨M, 25, none⟩ = false := unfrozen_of_block eb5 25
   have hM5 : M < w5.heap.size := by omega
   refine hK.out _ _ trivial (fun hHeld => ?_)
   clear hK hown5 hgrow5 hat5 hlt5 hown' eb5 hcM
   simp only [Act.put, aA, aB, aC, aD, aE, aF]
   refine tk 13 ?vst13 rfl ?hyst13 hHeld ?restst13
   case hyst13 => intro w hSw; (try dsimp only at hSw); go_simp; try with_reducible rfl
   simp only [Act.put, aA, aB, aC, aD, aE, aF]
   refine tk 14 ?vst14 rfl ?hyst14 hHeld ?restst14
   case hyst14 => intro w hSw; (try dsimp only at hSw); go_simp; try with_reducible rfl
   simp only [Act.put, aA, aB, aC, aD, aE, aF]
   refine tk 15 ?vst15 rfl ?hyst15 hHeld ?restst15
   case hyst15 => intro w hSw; (try dsimp only at hSw); go_simp; try with_reducible rfl
   simp only [Act.put, aA, aB, aC, aD, aE, aF]
   refine rd 16 rfl (fun K hK => ?_)
   simp only [aD, aE, aF]
   go_simp
   refine hK.out _ _ trivial (fun hHeld => ?_)
   clear hK
   refine wpAnyH_done (by kernel_rfl) ?_ _
   clear hHeld c25' f25'
   go_wp2_with fail
   go_end0
   exact ⟨rfl, ⟨_, _, _, HG.out⟩, by simpa [World.setCell] using hB5, HKW.out.trans (HK2.out.trans HKG.out), by simp [World.setCell]; omega⟩
theorem do_dup {w0 w : World} {M B : Nat} {F : Fix} {m : MS} (h : MachX w0 w M B F m) (hB : B ≤ w.heap.size) (x : Ins) (ta : Option Addr) (tc : Nat) (hl : m.st.length ≤ 100) (hn : x.n < m.st.length) :
  Calls Tryz.prog 98 #[.pointer (some ⟨M, 0, none⟩), .agg #[.int .i64 x.op, .int .i64 x.pl, .int .i64 x.nx, .int .i64 x.n, .slice ta x.to.length tc]] w (DoP w0 w M B F ({ m with st := m.st ++ [topN m.st x.n] })) := by
 obtain ⟨frV, outV, hy⟩ := h.y
 have hM : M < w.heap.size := by obtain ⟨_, _, _, q⟩ := h; exact q.size
 have hlt : M < B := by obtain ⟨_, _, _, q⟩ := h; exact q.lt
 have HM := hidc (hy.below (boxB w (.cells #[.int .i64 x.op, .int .i64 x.pl, .int .i64 x.nx, .int .i64 x.n, .slice ta x.to.length tc] 116)) hB)
 have hB1 : B ≤ (w.alloc (.cells #[.int .i64 x.op, .int .i64 x.pl, .int .i64 x.nx, .int .i64 x.n, .slice ta x.to.length tc] 116)).heap.size := by simp; omega
 have HK0 := hidc (KT.below (boxB w (.cells #[.int .i64 x.op, .int .i64 x.pl, .int .i64 x.nx, .int .i64 x.n, .slice ta x.to.length tc] 116)))
 clear h hy
 go_enter Tryz.func98, Tryz.ntmps98
 have hI := box3 w x (.slice ta x.to.length tc)
 obtain ⟨stV, hmach⟩ := HM.out
 have hmd := hmach.below ((Below.refl _ _).drew) hB1
 obtain ⟨sa, sc, hsv⟩ := row_form hmd.st
 subst hsv
 obtain ⟨g, hga, hgB, hgs, hcg⟩ := row_cell hmd.st (topN_get m.st x.n hn)
 subst hga
 have HKW : Hid (KT w (w.alloc (.cells #[.int .i64 x.op, .int .i64 x.pl, .int .i64 x.nx, .int .i64 x.n, .slice ta x.to.length tc] 116)).drew) := HK0.out.trans (KT.below ((Below.refl _ _).drew))
 have hBa : B ≤ (w.alloc (.cells #[.int .i64 x.op, .int .i64 x.pl, .int .i64 x.nx, .int .i64 x.n, .slice ta x.to.length tc] 116)).drew.heap.size := hB1
 have hsa : w.heap.size + 1 = (w.alloc (.cells #[.int .i64 x.op, .int .i64 x.pl, .int .i64 x.nx, .int .i64 x.n, .slice ta x.to.length tc] 116)).drew.heap.size := by simp
 have hIa : (w.alloc (.cells #[.int .i64 x.op, .int .i64 x.pl, .int .i64 x.nx, .int .i64 x.n, .slice ta x.to.length tc] 116)).drew.heap[w.heap.size]? = some (.cells #[.int .i64 x.op, .int .i64 x.pl, .int .i64 x.nx, .int .i64 x.n, .slice ta x.to.length tc] 116 (0, 0)) := hI
 have c7a := hmd.c7
 have HMa := hidc hmd
 have hMa := hmd.size
 have hix : ((m.st.length - 1 - x.n : Nat) : Int) < (m.st.length : Int) := by omega
 clear HM HK0 hmach hI hmd
 go_wp2_with fail
 refine wp_region_held_drew (S := fun w' => w'.cell? ⟨w.heap.size, 3, none⟩ = some (.int .i64 x.n)) (by kernel_rfl) (by rw [cell_of_block hIa]; rfl) (fun hHeld => ?_)
 generalize (w.alloc (.cells #[.int .i64 x.op, .int .i64 x.pl, .int .i64 x.nx, .int .i64 x.n, .slice ta x.to.length tc] 116)).drew = wa at *
 refine tk 0 ?va0 rfl ?hya0 hHeld ?resta0
 case hya0 => intro w hSw; (try dsimp only at hSw); go_simp; try with_reducible rfl
 simp only [Act.put, aA, aB, aC, aD, aE]
 refine tk 1 ?va1 rfl ?hya1 hHeld ?resta1
 case hya1 => intro w hSw; (try dsimp only at hSw); go_simp; try with_reducible rfl
 simp only [Act.put, aA, aB, aC, aD, aE, aF]
 refine tk 2 ?va2 rfl ?hya2 hHeld ?resta2
 case hya2 => intro w hSw; (try dsimp only at hSw); go_simp; try with_reducible rfl
 simp only [Act.put, aA, aB, aC, aD, aE, aF]
 refine tk 3 ?va3 rfl ?hya3 hHeld ?resta3
 case hya3 => intro w hSw; (try dsimp only at hSw); go_simp; try with_reducible rfl
 simp only [Act.put, aA, aB, aC, aD, aE, aF]
 refine tk 4 ?va4 rfl ?hya4 hHeld ?resta4
 case hya4 => intro w hSw; (try dsimp only at hSw); go_simp; try with_reducible rfl
 simp only [Act.put, aA, aB, aC, aD, aE, aF]
 refine tk 5 ?va5 rfl ?hya5 hHeld ?resta5
 case hya5 => intro w hSw; (try dsimp only at hSw); go_simp; try with_reducible rfl
 simp only [Act.put, aA, aB, aC, aD, aE, aF]
 refine tk 7 ?va7 rfl ?hya7 hHeld ?resta7
 case hya7 => intro w hSw; (try dsimp only at hSw); go_simp; try with_reducible rfl
 simp only [Act.put, aA, aB, aC, aD, aE, aF]
 refine tk 8 ?va8 rfl ?hya8 hHeld ?resta8
 case hya8 => intro w hSw; (try dsimp only at hSw); go_simp; try with_reducible rfl
 simp only [Act.put, aA, aB, aC, aD, aE, aF]
 refine tk 9 ?va9 rfl ?hya9 hHeld ?resta9
 case hya9 => intro w hSw; (try dsimp only at hSw); go_simp; try with_reducible rfl
 simp only [Act.put, aA, aB, aC, aD, aE, aF]
 refine tk 11 ?va11 rfl ?hya11 hHeld ?resta11
 case hya11 => intro w hSw; (try dsimp only at hSw); go_simp; try with_reducible rfl
 simp only [Act.put, aA, aB, aC, aD, aE, aF]
 refine tk 12 ?va12 rfl ?hya12 hHeld ?resta12
 case hya12 => intro w hSw; (try dsimp only at hSw); go_simp; try with_reducible rfl
 simp only [Act.put, aA, aB, aC, aD, aE, aF]
 refine wpAnyH_ready (rs := [6, 10]) (by kernel_rfl) (by simp) ?_
 refine AllReadyH.cons (i := 6) rfl (fun K hK => ?gsix) (AllReadyH.cons (i := 10) rfl (fun K hK => ?gten) AllReadyH.nil)
 case gsix =>
  simp only [aD, aE, aF]
  go_simp
  refine hK.out _ _ hHeld (fun hHeld => ?_)
  clear hK
  refine rd 10 rfl (fun K hK => ?_)
  simp only [aD, aE, aF]
  go_simp
  refine hK.out _ _ hHeld (fun hHeld => ?_)
  clear hK
  refine rd 13 rfl (fun K hK => ?_)
  simp only [aD, aE, aF]
  go_simp
  go_at_call 132
  refine (st_under (some ⟨g, 0, none⟩) m.st.length sc x.n _ (by omega) hn).mono ?_
  rintro e w3 ⟨rfl, rfl⟩
  go_wp2_with fail
  refine hK.out _ _ hHeld (fun hHeld => ?_)
  clear hK
  refine tk 14 ?vpd14 rfl ?hypd14 hHeld ?restpd14
  case hypd14 => intro w hSw; go_simp; try with_reducible rfl
  simp only [Act.put, aA, aB, aC, aD, aE, aF]
  refine rd 15 rfl (fun K hK => ?_)
  simp only [aD, aE, aF]
  go_simp
  refine hK.out _ _ hHeld (fun hHeld => ?_)
  clear hK
  refine rd 16 rfl (fun K hK => ?_)
  simp only [aD, aE, aF]
  go_simp
  go_at_call 128
  refine (st_lay (m := m) (frV := frV) (outV := outV) ⟨_, HMa.out⟩ (topN m.st x.n) hBa hl).mono ?_
  rintro e w2 ⟨rfl, hm, hB2, hk, hs2⟩
  have HM2 := hidc hm
  have HK2 := hidc hk
  have hI2 := hk _ _ _ _ hIa (by decide) (by decide) (by decide) (by decide)
  clear hm hk
  go_wp2_with fail
  refine hK.out _ _ (by show w2.cell? ⟨w.heap.size, 3, none⟩ = some (.int .i64 x.n); rw [cell_of_block hI2]; rfl) (fun hHeld => ?_)
  clear hK
  refine wpAnyH_done (by kernel_rfl) ?_ _
  clear hHeld
  go_wp2_with fail
  go_end0
  exact ⟨rfl, HM2.out.x, hB2, HKW.out.trans HK2.out, by omega⟩
 case gten =>
  simp only [aD, aE, aF]
  go_simp
  refine hK.out _ _ hHeld (fun hHeld => ?_)
  clear hK
  refine wpAnyH_ready (rs := [6, 13]) (by kernel_rfl) (by simp) ?_
  refine AllReadyH.cons (i := 6) rfl (fun K hK => ?gs2) (AllReadyH.cons (i := 13) rfl (fun K hK => ?gt2) AllReadyH.nil)
  case gs2 =>
   simp only [aD, aE, aF]
   go_simp
   refine hK.out _ _ hHeld (fun hHeld => ?_)
   clear hK
   refine rd 13 rfl (fun K hK => ?_)
   simp only [aD, aE, aF]
   go_simp
   go_at_call 132
   refine (st_under (some ⟨g, 0, none⟩) m.st.length sc x.n _ (by omega) hn).mono ?_
   rintro e w3 ⟨rfl, rfl⟩
   go_wp2_with fail
   refine hK.out _ _ hHeld (fun hHeld => ?_)
   clear hK
   refine tk 14 ?vqd14 rfl ?hyqd14 hHeld ?restqd14
   case hyqd14 => intro w hSw; go_simp; try with_reducible rfl
   simp only [Act.put, aA, aB, aC, aD, aE, aF]
   refine rd 15 rfl (fun K hK => ?_)
   simp only [aD, aE, aF]
   go_simp
   refine hK.out _ _ hHeld (fun hHeld => ?_)
   clear hK
   refine rd 16 rfl (fun K hK => ?_)
   simp only [aD, aE, aF]
   go_simp
   go_at_call 128
   refine (st_lay (m := m) (frV := frV) (outV := outV) ⟨_, HMa.out⟩ (topN m.st x.n) hBa hl).mono ?_
   rintro e w2 ⟨rfl, hm, hB2, hk, hs2⟩
   have HM2 := hidc hm
   have HK2 := hidc hk
   have hI2 := hk _ _ _ _ hIa (by decide) (by decide) (by decide) (by decide)
   clear hm hk
   go_wp2_with fail
   refine hK.out _ _ (by show w2.cell? ⟨w.heap.size, 3, none⟩ = some (.int .i64 x.n); rw [cell_of_block hI2]; rfl) (fun hHeld => ?_)
   clear hK
   refine wpAnyH_done (by kernel_rfl) ?_ _
   clear hHeld
   go_wp2_with fail
   go_end0
   exact ⟨rfl, HM2.out.x, hB2, HKW.out.trans HK2.out, by omega⟩
  case gt2 =>
   simp only [aD, aE, aF]
   go_simp
   go_at_call 132
   refine (st_under (some ⟨g, 0, none⟩) m.st.length sc x.n _ (by omega) hn).mono ?_
   rintro e w3 ⟨rfl, rfl⟩
   go_wp2_with fail
   refine hK.out _ _ hHeld (fun hHeld => ?_)
   clear hK
   refine rd 6 rfl (fun K hK => ?_)
   simp only [aD, aE, aF]
   go_simp
   refine hK.out _ _ hHeld (fun hHeld => ?_)
   clear hK
   refine tk 14 ?vrd14 rfl ?hyrd14 hHeld ?restrd14
   case hyrd14 => intro w hSw; go_simp; try with_reducible rfl
   simp only [Act.put, aA, aB, aC, aD, aE, aF]
   refine rd 15 rfl (fun K hK => ?_)
   simp only [aD, aE, aF]
   go_simp
   refine hK.out _ _ hHeld (fun hHeld => ?_)
   clear hK
   refine rd 16 rfl (fun K hK => ?_)
   simp only [aD, aE, aF]
   go_simp
   go_at_call 128
   refine (st_lay (m := m) (frV := frV) (outV := outV) ⟨_, HMa.out⟩ (topN m.st x.n) hBa hl).mono ?_
   rintro e w2 ⟨rfl, hm, hB2, hk, hs2⟩
   have HM2 := hidc hm
   have HK2 := hidc hk
   have hI2 := hk _ _ _ _ hIa (by decide) (by decide) (by decide) (by decide)
   clear hm hk
   go_wp2_with fail
   refine hK.out _ _ (by show w2.cell? ⟨w.heap.size, 3, none⟩ = some (.int .i64 x.n); rw [cell_of_block hI2]; rfl) (fun hHeld => ?_)
   clear hK
   refine wpAnyH_done (by kernel_rfl) ?_ _
   clear hHeld
   go_wp2_with fail
   go_end0
   exact ⟨rfl, HM2.out.x, hB2, HKW.out.trans HK2.out, by omega⟩
end Go.Proofs.YtdhmandnamajpaaGreatDoor
