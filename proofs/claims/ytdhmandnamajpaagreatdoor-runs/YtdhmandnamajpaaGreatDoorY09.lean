import Derived.Test.YtdhmandnamajpaaGreatDoorY00
import Derived.Test.YtdhmandnamajpaaGreatDoorY08
import Derived.Test.YtdhmandnamajpaaGreatDoorY01
import Derived.Test.YtdhmandnamajpaaGreatDoorY05
namespace Go.Proofs.YtdhmandnamajpaaGreatDoor
open Go.RowKit Go.Joins
set_option maxHeartbeats 3000000
set_option maxRecDepth 4000
theorem cut_ok_table (c : ByteArray) (p k z : Nat) (w : World) (hp : p < c.size) (hs : c.size ≤ 120) (ho : byteN c p = 17) (hp1 : p + 1 < c.size) (hk : byteN c (p + 1) = k) (hzk : z = 2 + 2 * (k + 1)) (he : p + z ≤ c.size) :
  Calls Tryz.prog 114 #[.string c, .int .i64 p] w (CutOk c p w) := by
 obtain ⟨iz, hiz, hzz0, hzz1, hzz2⟩ := info_parts Tryz.infoInt
 have hz : sizeI c p = z := by unfold sizeI; rw [ho, if_pos ⟨rfl, hp1⟩, hk, hzk]; rfl
 have e1 : insI c p = ⟨17, p, p + z, 0, tos c (p + z) (p + 2) (k + 1)⟩ := by
  unfold insI
  rw [hz, ho, hk]
  rfl
 have HE := hidc e1
 have hb : c[p].toNat = 17 := by rw [byte_nat c p hp]; exact ho
 have hbk : c[p + 1].toNat = k := by rw [byte_nat c (p + 1) hp1]; exact hk
 have hk256 : k < 256 := by rw [← hk]; exact byteN_lt _ _
 have hzz : (p : Int) + 2 + 2 * ((k : Int) + 1) = (p : Int) + z := by omega
 have HK := hidc hzk
 clear e1 hz ho hk hzk
 go_enter Tryz.func114, Tryz.ntmps114
 go_wp2_with fail
 have HM0 : Hid (CutM w ((w.alloc (.cells #[.int .i64 0, .int .i64 0, .int .i64 0, .slice none 0 0, .int .i64 0] 129)).alloc (.cells #[.int .i64 p, .int .i64 17, .int .i64 k, .slice none 0 0, .int .i64 ((p : Int) + z)] 129)) c p 17 z (p + 2) 0 k (.slice none 0 0)) := ⟨(Below.heap_alloc _ _ _ (by simp)).trans (heap_alloc_new w _), by have := heap_alloc_new (w.alloc (.cells #[.int .i64 0, .int .i64 0, .int .i64 0, .slice none 0 0, .int .i64 0] 129)) (.cells #[.int .i64 p, .int .i64 17, .int .i64 k, .slice none 0 0, .int .i64 ((p : Int) + z)] 129); rw [show (w.alloc (.cells #[.int .i64 0, .int .i64 0, .int .i64 0, .slice none 0 0, .int .i64 0] 129)).heap.size = w.heap.size + 1 by simp] at this; exact this, ⟨by simp [tos, iV], .inl ⟨rfl, rfl⟩⟩, below2 _ _ _⟩
 go_loopw [8] (fun iv wr => ∃ (i : Nat) (pv : Value), i ≤ k + 1 ∧ iv = .int .i64 ((p + 2 + 2 * i : Nat) : Int) ∧ Hid (CutM w wr c p 17 z (p + 2) i k pv)) (fun iv _ => (p + z) - (intOf iv).toNat)
 case atStart => exact ⟨0, _, Nat.zero_le _, by first | rfl | (congr 1; omega), HM0.out⟩
 case round =>
  clear HM0
  obtain ⟨i, pv, hi, rfl, HM⟩ := hrel
  obtain ⟨pa, pc, rfl⟩ := row_form HM.out.row
  have x3 : wr.cell? ⟨w.heap.size + 1, 3, none⟩ = some (.slice pa i pc) := by rw [cell_of_block HM.out.ins]; rfl
  have x4 : wr.cell? ⟨w.heap.size + 1, 4, none⟩ = some (.int .i64 ((p : Int) + z)) := by rw [cell_of_block HM.out.ins]; rfl
  have hsz : w.heap.size + 2 ≤ wr.heap.size := by have := HM.out.ins; have := (Array.getElem?_eq_some_iff.1 this).1; omega
  have hq1 : w.heap.size + 1 < wr.heap.size := by omega
  have hq0 : w.heap.size < wr.heap.size := by omega
  by_cases hlt : i < k + 1
  ·have i1 : p + 2 + 2 * i + 1 < c.size := by have := HK.out; omega
   have HTF : Hid (toF c (p + z) (p + 2) i = ((p + z : Nat) : Int) + sgn (byteN c (p + 2 + 2 * i)) (byteN c (p + 2 + 2 * i + 1))) := rfl
   obtain ⟨z0, z1⟩ := sgn_le _ _ (byteN_lt c (p + 2 + 2 * i)) (byteN_lt c (p + 2 + 2 * i + 1))
   have hat : p + 2 + 2 * i < p + z := by have := HK.out; omega
   generalize hatg : p + 2 + 2 * i = at0 at *
   have HAT := hidc hatg
   clear hatg
   go_wp2_with fail
   have hw : IntKind.i64.wrap ((p : Int) + z + sgn (byteN c at0) (byteN c (at0 + 1))) = ((p : Int) + z + sgn (byteN c at0) (byteN c (at0 + 1))) := by rw [IntKind.wrap_i64]; omega
   refine wp_region_held_drew (S := fun w' => w'.cell? ⟨w.heap.size + 1, 4, none⟩ = some (.int .i64 ((p : Int) + z))) (by kernel_rfl) x4 (fun hHeld => ?_)
   refine tk 0 ?va0 rfl ?hya0 hHeld ?resta0
   case hya0 => intro w hSw; (try dsimp only at hSw); go_simp; try with_reducible rfl
   simp only [Act.put, aA, aB, aC, aD, aE]
   refine tk 2 ?va2 rfl ?hya2 hHeld ?resta2
   case hya2 => intro w hSw; (try dsimp only at hSw); go_simp; try with_reducible rfl
   simp only [Act.put, aA, aB, aC, aD, aE, aF]
   refine tk 3 ?va3 rfl ?hya3 hHeld ?resta3
   case hya3 => intro w hSw; (try dsimp only at hSw); go_simp; try with_reducible rfl
   simp only [Act.put, aA, aB, aC, aD, aE, aF]
   refine tk 4 ?va4 rfl ?hya4 hHeld ?resta4
   case hya4 => intro w hSw; (try dsimp only at hSw); go_simp; try with_reducible rfl
   simp only [Act.put, aA, aB, aC, aD, aE, aF]
   refine tk 5 ?va5 rfl ?hya5 hHeld ?resta5
   case hya5 => intro w hSw; (try dsimp only at hSw); go_simp; try with_reducible rfl
   simp only [Act.put, aA, aB, aC, aD, aE, aF]
   refine wpAnyH_ready (rs := [1, 6]) (by kernel_rfl) (by simp) ?_
   refine AllReadyH.cons (i := 1) rfl (fun K hK => ?ga1) (AllReadyH.cons (i := 6) rfl (fun K hK => ?ga6) AllReadyH.nil)
   case ga1 =>
    simp only [aD, aE, aF]
    go_simp
    refine hK.out _ _ hHeld (fun hHeld => ?_)
    clear hK
    refine rd 6 rfl (fun K hK => ?_)
    simp only [aD, aE, aF]
    go_simp
    go_at_call 137
    refine (ref_far c at0 _ i1 hs).mono ?_
    rintro e w2 ⟨rfl, qn, rfl⟩
    go_wp2_with fail
    refine hK.out _ _ hHeld (fun hHeld => ?_)
    clear hK
    refine tk 7 (.int .i64 ((p : Int) + z + sgn (byteN c at0) (byteN c (at0 + 1)))) rfl ?hyb7 hHeld ?restb7
    case hyb7 => intro w hSw; (try dsimp only at hSw); go_simp
    simp only [Act.put, aA, aB, aC, aD, aE, aF]
    refine rd 8 rfl (fun K hK => ?_)
    simp only [aD, aE, aF]
    go_simp
    refine hK.out _ _ ((cell_al _ (by simp; omega)).trans hHeld) (fun hHeld => ?_)
    clear hK
    refine rd 9 rfl (fun K hK => ?_)
    refine step_append_lies _ rfl _ _ 22 rfl (w.heap.size + 2) 3 iz (.int .i64 0) 1 8 Tryz.underlying22 hiz hzz0 hzz1 hzz2 rfl (by decide) _ i (iV (tos c (p + z) (p + 2) i)) rfl ((own_drN HM.out.row).alloc _) ⟨wr.heap.size, 0, none⟩ 1 1 [.int .i64 ((p : Int) + z + sgn (byteN c at0) (byteN c (at0 + 1)))] rfl rfl (news1q _ _ _ rfl _) (one1c _) (by decide) (by unfold maxLen; omega) (by omega) (by simp; omega) _ rfl ?_
    intro ga ca w5 hown5 hgrow5 hat5 hlt5
    have HSTEP := hidc (HM.out.step hgrow5 (by have := hown5; rw [show ((p : Int) + z + sgn (byteN c at0) (byteN c (at0 + 1))) = toF c (p + z) (p + 2) i from HTF.out.symm] at this; exact this))
    have hI5 : w5.heap[w.heap.size + 1]? = some (.cells #[.int .i64 p, .int .i64 17, .int .i64 k, .slice pa i pc, .int .i64 ((p : Int) + z)] 129 (0, 0)) := by
     rw [hgrow5.block (w.heap.size + 1) (by simp; omega) (fun e => by have := (HM.out.row.lt _ e.symm).1; omega)]
     exact (Below.heap_alloc (wr.drewN _) _ _ (blt HM.out.ins)).trans HM.out.ins
    have v3 : w5.cell? ⟨w.heap.size + 1, 3, none⟩ = some (.slice pa i pc) := by rw [cell_of_block hI5]; rfl
    have v4 : w5.cell? ⟨w.heap.size + 1, 4, none⟩ = some (.int .i64 ((p : Int) + z)) := by rw [cell_of_block hI5]; rfl
    have f3 : w5.frozen? ⟨w.heap.size + 1, 3, none⟩ = false := unfrozen_of_block hI5 3
    clear hown5 hgrow5 hat5 hlt5 hI5
    refine hK.out _ _ v4 (fun hHeld => ?_)
    clear hK
    simp only [Act.put, aA, aB, aC, aD, aE, aF]
    refine tk 10 ?vbz10 rfl ?hybz10 hHeld ?restbz10
    case hybz10 => intro w hSw; (try dsimp only at hSw); go_simp; try with_reducible rfl
    simp only [Act.put, aA, aB, aC, aD, aE, aF]
    refine rd 11 rfl (fun K hK => ?_)
    simp only [aD, aE, aF]
    go_simp
    refine hK.out _ _ (by rw [cell_of_block HSTEP.out.ins]; rfl) (fun hHeld => ?_)
    clear hK
    refine wpAnyH_done (by kernel_rfl) ?_ _
    go_wp2_with fail
    refine ⟨⟨i + 1, _, by omega, by have := HAT.out; congr 1; omega, HSTEP.out⟩, ?_⟩
    simp [intOf]
    omega
   case ga6 =>
    simp only [aD, aE, aF]
    go_simp
    go_at_call 137
    refine (ref_far c at0 _ i1 hs).mono ?_
    rintro e w2 ⟨rfl, qn, rfl⟩
    go_wp2_with fail
    refine hK.out _ _ hHeld (fun hHeld => ?_)
    clear hK
    refine tk 7 (.int .i64 ((p : Int) + z + sgn (byteN c at0) (byteN c (at0 + 1)))) rfl ?hyc7 hHeld ?restc7
    case hyc7 => intro w hSw; (try dsimp only at hSw); go_simp
    simp only [Act.put, aA, aB, aC, aD, aE, aF]
    refine wpAnyH_ready (rs := [1, 8]) (by kernel_rfl) (by simp) ?_
    refine AllReadyH.cons (i := 1) rfl (fun K hK => ?gb1) (AllReadyH.cons (i := 8) rfl (fun K hK => ?gb8) AllReadyH.nil)
    case gb1 =>
     simp only [aD, aE, aF]
     go_simp
     refine hK.out _ _ hHeld (fun hHeld => ?_)
     clear hK
     refine rd 8 rfl (fun K hK => ?_)
     simp only [aD, aE, aF]
     go_simp
     refine hK.out _ _ ((cell_al _ (by simp; omega)).trans hHeld) (fun hHeld => ?_)
     clear hK
     refine rd 9 rfl (fun K hK => ?_)
     refine step_append_lies _ rfl _ _ 22 rfl (w.heap.size + 2) 3 iz (.int .i64 0) 1 8 Tryz.underlying22 hiz hzz0 hzz1 hzz2 rfl (by decide) _ i (iV (tos c (p + z) (p + 2) i)) rfl ((own_drN HM.out.row).alloc _) ⟨wr.heap.size, 0, none⟩ 1 1 [.int .i64 ((p : Int) + z + sgn (byteN c at0) (byteN c (at0 + 1)))] rfl rfl (news1q _ _ _ rfl _) (one1c _) (by decide) (by unfold maxLen; omega) (by omega) (by simp; omega) _ rfl ?_
     intro ga ca w5 hown5 hgrow5 hat5 hlt5
     have HSTEP := hidc (HM.out.step hgrow5 (by have := hown5; rw [show ((p : Int) + z + sgn (byteN c at0) (byteN c (at0 + 1))) = toF c (p + z) (p + 2) i from HTF.out.symm] at this; exact this))
     have hI5 : w5.heap[w.heap.size + 1]? = some (.cells #[.int .i64 p, .int .i64 17, .int .i64 k, .slice pa i pc, .int .i64 ((p : Int) + z)] 129 (0, 0)) := by
      rw [hgrow5.block (w.heap.size + 1) (by simp; omega) (fun e => by have := (HM.out.row.lt _ e.symm).1; omega)]
      exact (Below.heap_alloc (wr.drewN _) _ _ (blt HM.out.ins)).trans HM.out.ins
     have v3 : w5.cell? ⟨w.heap.size + 1, 3, none⟩ = some (.slice pa i pc) := by rw [cell_of_block hI5]; rfl
     have v4 : w5.cell? ⟨w.heap.size + 1, 4, none⟩ = some (.int .i64 ((p : Int) + z)) := by rw [cell_of_block hI5]; rfl
     have f3 : w5.frozen? ⟨w.heap.size + 1, 3, none⟩ = false := unfrozen_of_block hI5 3
     clear hown5 hgrow5 hat5 hlt5 hI5
     refine hK.out _ _ v4 (fun hHeld => ?_)
     clear hK
     simp only [Act.put, aA, aB, aC, aD, aE, aF]
     refine tk 10 ?vdz10 rfl ?hydz10 hHeld ?restdz10
     case hydz10 => intro w hSw; (try dsimp only at hSw); go_simp; try with_reducible rfl
     simp only [Act.put, aA, aB, aC, aD, aE, aF]
     refine rd 11 rfl (fun K hK => ?_)
     simp only [aD, aE, aF]
     go_simp
     refine hK.out _ _ (by rw [cell_of_block HSTEP.out.ins]; rfl) (fun hHeld => ?_)
     clear hK
     refine wpAnyH_done (by kernel_rfl) ?_ _
     go_wp2_with fail
     refine ⟨⟨i + 1, _, by omega, by have := HAT.out; congr 1; omega, HSTEP.out⟩, ?_⟩
     simp [intOf]
     omega
    case gb8 =>
     simp only [aD, aE, aF]
     go_simp
     refine hK.out _ _ ((cell_al _ (by simp; omega)).trans hHeld) (fun hHeld => ?_)
     clear hK
     have x3a : ((wr.drewN (1 + qn)).alloc (.cells #[.int .i64 ((p : Int) + z + sgn (byteN c at0) (byteN c (at0 + 1)))] 3)).cell? ⟨w.heap.size + 1, 3, none⟩ = some (.slice pa i pc) := (cell_al (w := wr.drewN (1 + qn)) _ hq1).trans x3
     refine rd 1 rfl (fun K hK => ?_)
     simp only [aD, aE, aF]
     go_simp
     refine hK.out _ _ hHeld (fun hHeld => ?_)
     clear hK
     refine rd 9 rfl (fun K hK => ?_)
     refine step_append_lies _ rfl _ _ 22 rfl (w.heap.size + 2) 3 iz (.int .i64 0) 1 8 Tryz.underlying22 hiz hzz0 hzz1 hzz2 rfl (by decide) _ i (iV (tos c (p + z) (p + 2) i)) rfl ((own_drN HM.out.row).alloc _) ⟨wr.heap.size, 0, none⟩ 1 1 [.int .i64 ((p : Int) + z + sgn (byteN c at0) (byteN c (at0 + 1)))] rfl rfl (news1q _ _ _ rfl _) (one1c _) (by decide) (by unfold maxLen; omega) (by omega) (by simp; omega) _ rfl ?_
     intro ga ca w5 hown5 hgrow5 hat5 hlt5
     have HSTEP := hidc (HM.out.step hgrow5 (by have := hown5; rw [show ((p : Int) + z + sgn (byteN c at0) (byteN c (at0 + 1))) = toF c (p + z) (p + 2) i from HTF.out.symm] at this; exact this))
     have hI5 : w5.heap[w.heap.size + 1]? = some (.cells #[.int .i64 p, .int .i64 17, .int .i64 k, .slice pa i pc, .int .i64 ((p : Int) + z)] 129 (0, 0)) := by
      rw [hgrow5.block (w.heap.size + 1) (by simp; omega) (fun e => by have := (HM.out.row.lt _ e.symm).1; omega)]
      exact (Below.heap_alloc (wr.drewN _) _ _ (blt HM.out.ins)).trans HM.out.ins
     have v3 : w5.cell? ⟨w.heap.size + 1, 3, none⟩ = some (.slice pa i pc) := by rw [cell_of_block hI5]; rfl
     have v4 : w5.cell? ⟨w.heap.size + 1, 4, none⟩ = some (.int .i64 ((p : Int) + z)) := by rw [cell_of_block hI5]; rfl
     have f3 : w5.frozen? ⟨w.heap.size + 1, 3, none⟩ = false := unfrozen_of_block hI5 3
     clear hown5 hgrow5 hat5 hlt5 hI5
     refine hK.out _ _ v4 (fun hHeld => ?_)
     clear hK
     simp only [Act.put, aA, aB, aC, aD, aE, aF]
     refine tk 10 ?vez10 rfl ?hyez10 hHeld ?restez10
     case hyez10 => intro w hSw; (try dsimp only at hSw); go_simp; try with_reducible rfl
     simp only [Act.put, aA, aB, aC, aD, aE, aF]
     refine rd 11 rfl (fun K hK => ?_)
     simp only [aD, aE, aF]
     go_simp
     refine hK.out _ _ (by rw [cell_of_block HSTEP.out.ins]; rfl) (fun hHeld => ?_)
     clear hK
     refine wpAnyH_done (by kernel_rfl) ?_ _
     go_wp2_with fail
     refine ⟨⟨i + 1, _, by omega, by have := HAT.out; congr 1; omega, HSTEP.out⟩, ?_⟩
     simp [intOf]
     omega
  ·have hie : i = k + 1 := by omega
   subst hie
   have r0 : wr.cell? ⟨w.heap.size, 0, none⟩ = some (.int .i64 0) := by rw [cell_of_block HM.out.res]; rfl
   have r1 : wr.cell? ⟨w.heap.size, 1, none⟩ = some (.int .i64 0) := by rw [cell_of_block HM.out.res]; rfl
   have r2 : wr.cell? ⟨w.heap.size, 2, none⟩ = some (.int .i64 0) := by rw [cell_of_block HM.out.res]; rfl
   have r3 : wr.cell? ⟨w.heap.size, 3, none⟩ = some (.slice none 0 0) := by rw [cell_of_block HM.out.res]; rfl
   have r4 : wr.cell? ⟨w.heap.size, 4, none⟩ = some (.int .i64 0) := by rw [cell_of_block HM.out.res]; rfl
   have u0 : wr.frozen? ⟨w.heap.size, 0, none⟩ = false := unfrozen_of_block HM.out.res 0
   have u1 : wr.frozen? ⟨w.heap.size, 1, none⟩ = false := unfrozen_of_block HM.out.res 1
   have u2 : wr.frozen? ⟨w.heap.size, 2, none⟩ = false := unfrozen_of_block HM.out.res 2
   have u3 : wr.frozen? ⟨w.heap.size, 3, none⟩ = false := unfrozen_of_block HM.out.res 3
   have u4 : wr.frozen? ⟨w.heap.size, 4, none⟩ = false := unfrozen_of_block HM.out.res 4
   have x0 : wr.cell? ⟨w.heap.size + 1, 0, none⟩ = some (.int .i64 p) := by rw [cell_of_block HM.out.ins]; rfl
   have x1 : wr.cell? ⟨w.heap.size + 1, 1, none⟩ = some (.int .i64 17) := by rw [cell_of_block HM.out.ins]; rfl
   have x2 : wr.cell? ⟨w.heap.size + 1, 2, none⟩ = some (.int .i64 k) := by rw [cell_of_block HM.out.ins]; rfl
   go_wp2_with fail
   have hF : (((((wr.setCell ⟨w.heap.size, 0, none⟩ (.int .i64 p)).setCell ⟨w.heap.size, 1, none⟩ (.int .i64 17)).setCell ⟨w.heap.size, 2, none⟩ (.int .i64 k)).setCell ⟨w.heap.size, 3, none⟩ (.slice pa (k + 1) pc)).setCell ⟨w.heap.size, 4, none⟩ (.int .i64 ((p : Int) + z))).heap[w.heap.size]? = some (.cells #[.int .i64 p, .int .i64 17, .int .i64 k, .slice pa (k + 1) pc, .int .i64 ((p : Int) + z)] 129 (0, 0)) :=
    block_setCell (block_setCell (block_setCell (block_setCell (block_setCell HM.out.res _) _) _) _) _
   have b0 := cell_of_block hF 0
   have b1 := cell_of_block hF 1
   have b2 := cell_of_block hF 2
   have b3 := cell_of_block hF 3
   have b4 := cell_of_block hF 4
   refine bodyPost_ret (v := .tuple #[.agg #[.int .i64 p, .int .i64 17, .int .i64 k, .slice pa (k + 1) pc, .int .i64 ((p : Int) + z)], .bool true]) (by simp [results, Tryz.results114, go_sem, b0, b1, b2, b3, b4]) rfl ⟨k, pa, pc, ?_, ?_, ?_, ?_⟩
   ·rw [HE.out]; simp only [tos_len]; rfl
   ·rw [HE.out]; exact fun h => by cases h
   ·rw [HE.out]
    simp only [tos_len]
    exact own_mono (own_set (own_set (own_set (own_set (own_set HM.out.row (by omega) _ _) (by omega) _ _) (by omega) _ _) (by omega) _ _) (by omega) _ _) (by omega)
   ·exact ((((HM.out.bel.setCell (Nat.le_refl _) _).setCell (Nat.le_refl _) _).setCell (Nat.le_refl _) _).setCell (Nat.le_refl _) _).setCell (Nat.le_refl _) _
end Go.Proofs.YtdhmandnamajpaaGreatDoor
namespace Go.Proofs.YtdhmandnamajpaaGreatDoor
open Go.RowKit Go.Joins
set_option maxHeartbeats 3000000
set_option maxRecDepth 4000
theorem cut_ok_push (c : ByteArray) (p : Nat) (w : World) (hp : p < c.size) (hs : c.size ≤ 120) (ho : byteN c p = 2) (he : p + 3 ≤ c.size) :
  Calls Tryz.prog 114 #[.string c, .int .i64 p] w (CutOk c p w) := by
 have hz : sizeI c p = 3 := by unfold sizeI; rw [ho, if_neg (by omega)]; rfl
 have i1 : p + 1 < c.size := by omega
 have i2 : p + 2 < c.size := by omega
 have e1 : insI c p = ⟨2, p, p + 3, 256 * c[p + 1].toNat + c[p + 2].toNat, []⟩ := by
  unfold insI
  rw [hz, ho, byte_nat c (p + 1) i1, byte_nat c (p + 2) i2]
  rfl
 have HE := hidc e1
 have hb : c[p].toNat = 2 := by rw [byte_nat c p hp]; exact ho
 clear e1 hz ho
 have hx1 : c[p + 1].toNat < 256 := UInt8.toNat_lt _
 have hx2 : c[p + 2].toNat < 256 := UInt8.toNat_lt _
 have hw1 : IntKind.i64.wrap ((p : Int) + 1) = (p : Int) + 1 := by rw [IntKind.wrap_i64]; omega
 have hw2 : IntKind.i64.wrap ((p : Int) + 2) = (p : Int) + 2 := by rw [IntKind.wrap_i64]; omega
 have h4 : IntKind.i64.wrap (c[p + 1].toNat : Int) = (c[p + 1].toNat : Int) := by rw [IntKind.wrap_i64]; omega
 have h5 : IntKind.i64.wrap (256 * (c[p + 1].toNat : Int)) = 256 * (c[p + 1].toNat : Int) := by rw [IntKind.wrap_i64]; omega
 have h10 : IntKind.i64.wrap (c[p + 2].toNat : Int) = (c[p + 2].toNat : Int) := by rw [IntKind.wrap_i64]; omega
 have h11 : IntKind.i64.wrap (256 * (c[p + 1].toNat : Int) + (c[p + 2].toNat : Int)) = (256 * (c[p + 1].toNat : Int) + (c[p + 2].toNat : Int)) := by rw [IntKind.wrap_i64]; omega
 have j0 : (0 : Int) ≤ (p : Int) + 1 := by omega
 have j1 : (p : Int) + 1 < (c.size : Int) := by omega
 have j2 : ((p : Int) + 1).toNat = p + 1 := by omega
 have k0 : (0 : Int) ≤ (p : Int) + 2 := by omega
 have k1 : (p : Int) + 2 < (c.size : Int) := by omega
 have k2 : ((p : Int) + 2).toNat = p + 2 := by omega
 go_enter Tryz.func114, Tryz.ntmps114
 go_wp2_with fail
 refine wp_region_held_drew (S := fun _ => True) (by kernel_rfl) trivial (fun hHeld => ?_)
 refine tk 0 ?va0 rfl ?hya0 hHeld ?resta0
 case hya0 => intro w hSw; (try dsimp only at hSw); go_simp; try with_reducible rfl
 simp only [Act.put, aA, aB, aC, aD, aE]
 refine tk 1 ?va1 rfl ?hya1 hHeld ?resta1
 case hya1 => intro w hSw; (try dsimp only at hSw); go_simp; try with_reducible rfl
 simp only [Act.put, aA, aB, aC, aD, aE, aF]
 refine tk 2 (.int .i64 ((p : Int) + 1)) rfl ?hya2 hHeld ?resta2
 case hya2 => intro w hSw; (try dsimp only at hSw); go_simp; try with_reducible rfl
 simp only [Act.put, aA, aB, aC, aD, aE, aF]
 refine tk 3 (.int .u8 (c[p + 1].toNat : Int)) rfl ?hya3 hHeld ?resta3
 case hya3 => intro w hSw; (try dsimp only at hSw); go_simp; try with_reducible rfl
 simp only [Act.put, aA, aB, aC, aD, aE, aF]
 refine tk 4 (.int .i64 (c[p + 1].toNat : Int)) rfl ?hya4 hHeld ?resta4
 case hya4 => intro w hSw; (try dsimp only at hSw); go_simp; (try simp only [h4, h5, h10, h11]); try with_reducible rfl
 simp only [Act.put, aA, aB, aC, aD, aE, aF]
 refine tk 5 (.int .i64 (256 * (c[p + 1].toNat : Int))) rfl ?hya5 hHeld ?resta5
 case hya5 => intro w hSw; (try dsimp only at hSw); go_simp; (try simp only [h4, h5, h10, h11]); try with_reducible rfl
 simp only [Act.put, aA, aB, aC, aD, aE, aF]
 refine tk 6 ?va6 rfl ?hya6 hHeld ?resta6
 case hya6 => intro w hSw; (try dsimp only at hSw); go_simp; try with_reducible rfl
 simp only [Act.put, aA, aB, aC, aD, aE, aF]
 refine tk 7 ?va7 rfl ?hya7 hHeld ?resta7
 case hya7 => intro w hSw; (try dsimp only at hSw); go_simp; try with_reducible rfl
 simp only [Act.put, aA, aB, aC, aD, aE, aF]
 refine tk 8 (.int .i64 ((p : Int) + 2)) rfl ?hya8 hHeld ?resta8
 case hya8 => intro w hSw; (try dsimp only at hSw); go_simp; try with_reducible rfl
 simp only [Act.put, aA, aB, aC, aD, aE, aF]
 refine tk 9 (.int .u8 (c[p + 2].toNat : Int)) rfl ?hya9 hHeld ?resta9
 case hya9 => intro w hSw; (try dsimp only at hSw); go_simp; try with_reducible rfl
 simp only [Act.put, aA, aB, aC, aD, aE, aF]
 refine tk 10 (.int .i64 (c[p + 2].toNat : Int)) rfl ?hya10 hHeld ?resta10
 case hya10 => intro w hSw; (try dsimp only at hSw); go_simp; (try simp only [h4, h5, h10, h11]); try with_reducible rfl
 simp only [Act.put, aA, aB, aC, aD, aE, aF]
 refine tk 11 (.int .i64 (256 * (c[p + 1].toNat : Int) + (c[p + 2].toNat : Int))) rfl ?hya11 hHeld ?resta11
 case hya11 => intro w hSw; (try dsimp only at hSw); go_simp; (try simp only [h4, h5, h10, h11]); try with_reducible rfl
 simp only [Act.put, aA, aB, aC, aD, aE, aF]
 refine tk 12 ?va12 rfl ?hya12 hHeld ?resta12
 case hya12 => intro w hSw; (try dsimp only at hSw); go_simp; try with_reducible rfl
 simp only [Act.put, aA, aB, aC, aD, aE, aF]
 refine rd 13 rfl (fun K hK => ?_)
 simp only [aD, aE, aF]
 go_simp
 refine hK.out _ _ trivial (fun hHeld => ?_)
 clear hK
 refine wpAnyH_done (by kernel_rfl) ?_ _
 go_wp2_with fail
 go_loopw [8] (fun iv wr => iv = .int .i64 ((p : Int) + 3) ∧ wr = ((w.alloc (.cells #[.int .i64 0, .int .i64 0, .int .i64 0, .slice none 0 0, .int .i64 0] 129)).alloc (.cells #[.int .i64 p, .int .i64 2, .int .i64 (256 * (c[p + 1].toNat : Int) + (c[p + 2].toNat : Int)), .slice none 0 0, .int .i64 ((p : Int) + 3)] 129)).drew) (fun _ _ => 0)
 case atStart => exact ⟨rfl, rfl⟩
 case round =>
  obtain ⟨rfl, rfl⟩ := hrel
  go_wp2_with fail
  exact bodyPost_ret (v := .tuple #[.agg #[.int .i64 p, .int .i64 2, .int .i64 (256 * (c[p + 1].toNat : Int) + (c[p + 2].toNat : Int)), .slice none 0 0, .int .i64 ((p : Int) + 3)], .bool true]) (by simp [results, Tryz.results114, go_sem]) rfl ⟨_, none, 0, by rw [HE.out]; rfl, by rw [HE.out]; intro _; show (256 * (c[p + 1].toNat : Int) + (c[p + 2].toNat : Int)) = ((256 * c[p + 1].toNat + c[p + 2].toNat : Nat) : Int); omega, by rw [HE.out]; exact row_nil _ _, (below2 _ _ _).drew⟩
theorem ref_cut_ok (c : ByteArray) (p : Nat) (w : World) (hp : p < c.size) (hs : c.size ≤ 120) (he : opE c p = 0) : Calls Tryz.prog 114 #[.string c, .int .i64 p] w (CutOk c p w) := by
 obtain ⟨h21, hsz⟩ := opE_zero he
 by_cases h1 : byteN c p = 9 ∨ byteN c p = 10 ∨ byteN c p = 18 ∨ byteN c p = 20
 ·have hz : sizeI c p = 2 := by unfold sizeI; rw [if_neg (by omega)]; rcases h1 with h | h | h | h <;> rw [h] <;> rfl
  exact cut_ok_two c p _ w hp hs rfl h1 (by omega)
 by_cases h2 : byteN c p = 2
 ·have hz : sizeI c p = 3 := by unfold sizeI; rw [if_neg (by omega), h2]; rfl
  exact cut_ok_push c p w hp hs h2 (by omega)
 by_cases h15 : byteN c p = 15
 ·have hz : sizeI c p = 3 := by unfold sizeI; rw [if_neg (by omega), h15]; rfl
  exact cut_ok_15 c p _ w hp hs rfl h15 (by omega)
 by_cases h16 : byteN c p = 16
 ·have hz : sizeI c p = 3 := by unfold sizeI; rw [if_neg (by omega), h16]; rfl
  exact cut_ok_16 c p _ w hp hs rfl h16 (by omega)
 by_cases h17 : byteN c p = 17
 ·have hp1 : p + 1 < c.size := by
   by_cases h : p + 1 < c.size
   ·exact h
   ·have : sizeI c p = 2 := by unfold sizeI; rw [if_neg (by omega), h17]; rfl
    omega
  have hz : sizeI c p = 2 + 2 * (byteN c (p + 1) + 1) := by unfold sizeI; rw [if_pos ⟨h17, hp1⟩, h17]; rfl
  exact cut_ok_table c p _ _ w hp hs h17 hp1 rfl rfl (by rw [← hz]; exact hsz)
 exact cut_ok_one c p _ w hp hs rfl h21 h2 (by omega) (by omega) h15 h16 h17 (by omega) (by omega)
theorem ref_cut_bad (c : ByteArray) (p : Nat) (w : World) (hp : p < c.size) (hs : c.size ≤ 120) (he : c.size < p + sizeI c p) : Calls Tryz.prog 114 #[.string c, .int .i64 p] w (CutBad w) := by
 by_cases h1 : byteN c p = 9 ∨ byteN c p = 10 ∨ byteN c p = 18 ∨ byteN c p = 20
 ·have hz : sizeI c p = 2 := by unfold sizeI; rw [if_neg (by omega)]; rcases h1 with h | h | h | h <;> rw [h] <;> rfl
  exact cut_bad_two c p _ w hp hs rfl h1 (by omega)
 by_cases h2 : byteN c p = 2 ∨ byteN c p = 15 ∨ byteN c p = 16
 ·have hz : sizeI c p = 3 := by unfold sizeI; rw [if_neg (by omega)]; rcases h2 with h | h | h <;> rw [h] <;> rfl
  exact cut_bad_three c p _ w hp hs rfl h2 (by omega)
 by_cases h17 : byteN c p = 17
 ·by_cases hp1 : p + 1 < c.size
  ·have hz : sizeI c p = 2 + 2 * (byteN c (p + 1) + 1) := by unfold sizeI; rw [if_pos ⟨h17, hp1⟩, h17]; rfl
   exact cut_bad_table c p w hp1 hs h17 (by rw [← hz]; exact he)
  ·exact cut_bad_k c p w hp hs h17 (by omega)
 ·have hz : sizeI c p = 1 := by unfold sizeI; rw [if_neg (by omega)]; unfold sizeT; rw [if_neg (by omega), if_neg (by omega)]
  omega
end Go.Proofs.YtdhmandnamajpaaGreatDoor
namespace Go.Proofs.YtdhmandnamajpaaGreatDoor
open Go.RowKit Go.Joins
set_option maxHeartbeats 2000000
set_option maxRecDepth 4000
theorem Tryz.infoIns : (Tryz.prog.info? 129).map (fun i => (i.zero, i.size, i.bytes)) = some (some (.agg #[.int .i64 0, .int .i64 0, .int .i64 0, .slice none 0 0, .int .i64 0]), 5, 56) := by kernel_rfl
structure AllMem (w0 w : World) (pv : Value) (l : List Ins) (xs : List Value) : Prop where
 row : w.ownsRow w0.heap.size 129 5 pv l.length xs
 flat : ∀ k x, l[k]? = some x → xs[k * 5]? = some (.int .i64 x.pl) ∧ xs[k * 5 + 1]? = some (.int .i64 x.op) ∧ (∃ N, xs[k * 5 + 2]? = some (.int .i64 N) ∧ numsAs x N) ∧
  (∃ v, xs[k * 5 + 3]? = some v ∧ w.ownsRow w0.heap.size 3 1 v x.to.length (iV x.to)) ∧ xs[k * 5 + 4]? = some (.int .i64 x.nx)
 bel : Below w0.heap.size w0 w
theorem AllMem.below {w0 w w' : World} {pv : Value} {l : List Ins} {xs : List Value} (h : AllMem w0 w pv l xs) (hb : Below w.heap.size w w') : AllMem w0 w' pv l xs where
 row := own_below h.row hb
 flat := fun k x hk => by
  obtain ⟨a, b, c, ⟨v, e, f⟩, g⟩ := h.flat k x hk
  exact ⟨a, b, c, ⟨v, e, own_below f hb⟩, g⟩
 bel := h.bel.trans (hb.mono h.bel.size)
theorem AllMem.step {w0 w w' : World} {pv : Value} {l : List Ins} {xs : List Value} (h : AllMem w0 w pv l xs) (hg : w.grownBy w' pv.ownBlock) (pv' v : Value) (x : Ins) (N : Int) (hN : numsAs x N)
  (hrow : w'.ownsRow w0.heap.size 129 5 pv' (l.length + 1) (xs ++ [.int .i64 x.pl, .int .i64 x.op, .int .i64 N, v, .int .i64 x.nx])) (hvr : w.ownsRow w0.heap.size 3 1 v x.to.length (iV x.to)) :
  AllMem w0 w' pv' (l ++ [x]) (xs ++ [.int .i64 x.pl, .int .i64 x.op, .int .i64 N, v, .int .i64 x.nx]) where
 row := by rw [List.length_append]; exact hrow
 flat := fun k y hk => by
  have hxl : xs.length = l.length * 5 := h.row.1
  have stay : ∀ {u : Value} {to : List Int}, w.ownsRow w0.heap.size 3 1 u to.length (iV to) → w'.ownsRow w0.heap.size 3 1 u to.length (iV to) := fun hu => hu.kept hg (own_ne hu h.row (by decide))
  by_cases e : k < l.length
  ·rw [List.getElem?_append_left e] at hk
   obtain ⟨a, b, ⟨M, c1, c2⟩, ⟨u, e1, f⟩, g⟩ := h.flat k y hk
   refine ⟨?_, ?_, ⟨M, ?_, c2⟩, ⟨u, ?_, stay f⟩, ?_⟩ <;> rw [List.getElem?_append_left (by omega)] <;> assumption
  ·have hkl : k = l.length := by
    have := (List.getElem?_eq_some_iff.1 hk).1
    simp at this
    omega
   subst hkl
   rw [List.getElem?_append_right (Nat.le_refl _), Nat.sub_self] at hk
   have hxy : x = y := by simpa using hk
   subst hxy
   refine ⟨?_, ?_, ⟨N, ?_, hN⟩, ⟨v, ?_, stay hvr⟩, ?_⟩ <;> rw [List.getElem?_append_right (by omega), hxl]
   ·rw [Nat.sub_self]; rfl
   ·rw [show l.length * 5 + 1 - l.length * 5 = 1 by omega]; rfl
   ·rw [show l.length * 5 + 2 - l.length * 5 = 2 by omega]; rfl
   ·rw [show l.length * 5 + 3 - l.length * 5 = 3 by omega]; rfl
   ·rw [show l.length * 5 + 4 - l.length * 5 = 4 by omega]; rfl
 bel := h.bel.grown hg h.bel.size (fun k hk => (h.row.lt k hk).1)
theorem newsR (w : World) (x0 x1 x2 x3 x4 : Value) (g : Nat) (hg : g = w.heap.size) : ∀ j u, [x0, x1, x2, x3, x4][j]? = some u → (w.alloc (.cells #[x0, x1, x2, x3, x4] 129)).cell? ((⟨g, 0, none⟩ : Addr).add j) = some u := by
 intro j u hj
 subst hg
 have hb : (w.alloc (.cells #[x0, x1, x2, x3, x4] 129)).heap[w.heap.size]? = some (.cells #[x0, x1, x2, x3, x4] 129 (0, 0)) := heap_alloc_new w _
 exact World.news_of_block hb j u hj
theorem oneR (x y z u : Int) (a : Option Addr) (n c : Nat) : ∀ v ∈ [Value.int .i64 x, .int .i64 y, .int .i64 z, .slice a n c, .int .i64 u], v.oneCell' = true := by
 intro v hv
 simp at hv
 rcases hv with rfl | rfl | rfl | rfl | rfl <;> rfl
def AllPost (w : World) (c : ByteArray) : Ending → World → Prop := fun e w' => ∃ v, e = .returned (.tuple #[v, .int .i64 (splitE c).1, .int .i64 (splitE c).2]) ∧ Below w.heap.size w w' ∧
 ((splitE c).1 = 0 → Chain c 0 (codeI c) c.size ∧ ∃ xs, AllMem w w' v (codeI c) xs)
theorem ref_all (c : ByteArray) (w : World) (hs : c.size ≤ 120) : Calls Tryz.prog 64 #[.string c] w (AllPost w c) := by
 obtain ⟨iz, hiz, hzz0, hzz1, hzz2⟩ := info_parts Tryz.infoIns
 go_enter Tryz.func64, Tryz.ntmps64
 go_wp2_with fail
 go_loopw [5, 6] (fun pv iv wr => ∃ (p : Nat) (l : List Ins) (xs : List Value), iv = .int .i64 p ∧ Hid (Chain c 0 l p) ∧ Hid (AllMem w wr pv l xs)) (fun _ iv _ => c.size - (intOf iv).toNat)
 case atStart => exact ⟨0, [], [], rfl, rfl, ⟨⟨rfl, .inl ⟨rfl, rfl⟩⟩, fun k x hk => by simp at hk, Below.refl _ _⟩⟩
 case round =>
  obtain ⟨p, l, xs, rfl, HC, HM⟩ := hrel
  have hsz := HM.out.bel.size
  have hple : p ≤ c.size := chain_le HC.out (Nat.zero_le _)
  have hll : l.length ≤ p := by have := chain_len HC.out; omega
  obtain ⟨pa, pc, rfl⟩ := row_form HM.out.row
  by_cases hp : p < c.size
  ·have hb := byte_nat c p hp
   by_cases h21 : 21 ≤ byteN c p
   ·have e1 := hidc (split_stop HC.out hp (by simp [opE, h21]))
    have e2 : Hid (opE c p = 6) := by show opE c p = 6; simp [opE, h21]
    have h21' : 21 ≤ c[p].toNat := by rw [hb]; exact h21
    clear hb h21
    go_wp2_with fail
    go_ret3
    refine ⟨_, by rw [e1.out, e2.out]; rfl, HM.out.bel, fun h => ?_⟩
    rw [e1.out, e2.out] at h
    cases h
   ·have h21' : ¬ 21 ≤ c[p].toNat := by rw [hb]; exact h21
    have H21 := hidc h21
    clear hb h21
    by_cases hcut : c.size < p + sizeI c p
    ·have e2 : Hid (opE c p = 7) := by show opE c p = 7; have := H21.out; simp [opE, this, hcut]
     have e1 := hidc (split_stop HC.out hp (by rw [e2.out]; simp))
     have HCUT := hidc hcut
     clear hcut
     go_wp2_with fail
     refine (ref_cut_bad c p wr hp hs HCUT.out).mono ?_
     rintro e w1 ⟨v0, v1, v2, v3, v4, rfl, ⟨a3, n3, c3, rfl⟩, hb1⟩
     have HB1 := hidc (HM.out.bel.trans (hb1.mono hsz))
     have hsz1 : w.heap.size ≤ w1.heap.size := HB1.out.size
     clear hb1
     go_wp2_with fail
     go_ret3
     refine ⟨_, by rw [e1.out, e2.out]; rfl, HB1.out.alloc hsz1 _, fun h => ?_⟩
     rw [e1.out, e2.out] at h
     cases h
    ·have HOP : Hid (opE c p = 0) := by show opE c p = 0; have := H21.out; simp [opE, this]; omega
     have HC2 := hidc (chain_snoc HC.out hp HOP.out)
     have HNX := hidc (show (insI c p).nx = p + sizeI c p from rfl)
     have hzp := sizeI_pos c p
     clear hcut
     go_wp2_with fail
     refine (ref_cut_ok c p wr hp hs HOP.out).mono ?_
     rintro e w1 ⟨N, va, vc, rfl, hN, hown, hb1⟩
     generalize insI c p = x at *
     have HN := hidc hN
     have HOW := hidc (own_mono hown hsz)
     have HM1 := hidc (HM.out.below hb1)
     have hsz1 : w.heap.size ≤ w1.heap.size := HM1.out.bel.size
     clear hN hown hb1
     have HMI := hidc (HM1.out.below (below2 w1 (.cells #[.int .i64 x.pl, .int .i64 x.op, .int .i64 N, .slice va x.to.length vc, .int .i64 x.nx] 129) (.cells #[.int .i64 x.pl, .int .i64 x.op, .int .i64 N, .slice va x.to.length vc, .int .i64 x.nx] 129)))
     have HOWI := hidc (own_below HOW.out (below2 w1 (.cells #[.int .i64 x.pl, .int .i64 x.op, .int .i64 N, .slice va x.to.length vc, .int .i64 x.nx] 129) (.cells #[.int .i64 x.pl, .int .i64 x.op, .int .i64 N, .slice va x.to.length vc, .int .i64 x.nx] 129)))
     go_wp2_with (at_builtin; refine wpList_append_lies _ rfl (.tmp 27) (.tmp 29) 124 rfl w.heap.size 129 iz (.agg #[.int .i64 0, .int .i64 0, .int .i64 0, .slice none 0 0, .int .i64 0]) 5 56 Tryz.underlying124 hiz hzz0 hzz1 hzz2 rfl (by decide) _ l.length xs rfl HMI.out.row ⟨w1.heap.size + 1, 0, none⟩ 1 1 [.int .i64 x.pl, .int .i64 x.op, .int .i64 N, .slice va x.to.length vc, .int .i64 x.nx] rfl rfl (newsR _ _ _ _ _ _ _ (by simp)) (oneR _ _ _ _ _ _ _) (by decide) (by unfold maxLen; omega) (by omega) (by simp; omega) _ rfl ?_)
     intro ga ca w5 hown5 hgrow5 hat5 hlt5
     have HSTEP := hidc (HMI.out.step hgrow5 _ _ x N HN.out hown5 HOWI.out)
     have hI5 : w5.heap[w1.heap.size]? = some (.cells #[.int .i64 x.pl, .int .i64 x.op, .int .i64 N, .slice va x.to.length vc, .int .i64 x.nx] 129 (0, 0)) := by
      rw [hgrow5.block w1.heap.size (by simp; omega) (fun e => by have := (HM1.out.row.lt _ e.symm).2; omega)]
      exact (Below.heap_alloc _ _ _ (by simp)).trans (heap_alloc_new w1 _)
     have d4 : w5.cell? ⟨w1.heap.size, 4, none⟩ = some (.int .i64 x.nx) := by rw [cell_of_block hI5]; rfl
     clear hown5 hgrow5 hat5 hlt5 hI5
     go_wp2_with fail
     go_roundw
     case rel => exact ⟨x.nx, l ++ [x], _, rfl, by rw [HNX.out]; exact HC2.out, HSTEP.out⟩
     case measure =>
      have := HNX.out
      simp [intOf]
      omega
  ·obtain ⟨e1, e2⟩ := split_done HC.out (by omega)
   have hps : p = c.size := by omega
   go_wp2_with fail
   go_ret3
   refine ⟨_, by rw [e2]; rfl, HM.out.bel, fun _ => ?_⟩
   rw [e1]
   exact ⟨by rw [← hps]; exact HC.out, xs, HM.out⟩
end Go.Proofs.YtdhmandnamajpaaGreatDoor
