import Derived.Test.YtdhmandnamajpaaGreatDoorY00
import Derived.Test.YtdhmandnamajpaaGreatDoorY07
import Derived.Test.YtdhmandnamajpaaGreatDoorY04
namespace Go.Proofs.YtdhmandnamajpaaGreatDoor
open Go.RowKit Go.Joins
set_option maxHeartbeats 3000000
set_option maxRecDepth 4000
structure CutM (w wr : World) (c : ByteArray) (p op z q i : Nat) (N : Int) (pv : Value) : Prop where
 res : wr.heap[w.heap.size]? = some (.cells #[.int .i64 0, .int .i64 0, .int .i64 0, .slice none 0 0, .int .i64 0] 129 (0, 0))
 ins : wr.heap[w.heap.size + 1]? = some (.cells #[.int .i64 p, .int .i64 op, .int .i64 N, pv, .int .i64 ((p : Int) + z)] 129 (0, 0))
 row : wr.ownsRow (w.heap.size + 2) 3 1 pv i (iV (tos c (p + z) q i))
 bel : Below w.heap.size w wr
theorem own_drN {w : World} {B e s n q : Nat} {v : Value} {xs : List Value} (h : w.ownsRow B e s v n xs) : (w.drewN q).ownsRow B e s v n xs := h
theorem news1q (w : World) (x : Value) (g : Nat) (hg : g = w.heap.size) (q : Nat) : ∀ j u, [x][j]? = some u → ((w.drewN q).alloc (.cells #[x] 3)).cell? ((⟨g, 0, none⟩ : Addr).add j) = some u := by
 intro j u hj
 subst hg
 have hb : ((w.drewN q).alloc (.cells #[x] 3)).heap[w.heap.size]? = some (.cells #[x] 3 (0, 0)) := heap_alloc_new (w.drewN q) _
 exact World.news_of_block hb j u hj
theorem CutM.step {w wr w5 : World} {c : ByteArray} {p op z q i : Nat} {N : Int} {pv : Value} {o : Obj} {k : Nat} (h : CutM w wr c p op z q i N pv) (hg : ((wr.drewN k).alloc o).grownBy w5 pv.ownBlock) {pv' : Value} (hrow : w5.ownsRow (w.heap.size + 2) 3 1 pv' (i + 1) (iV (tos c (p + z) q i) ++ [.int .i64 (toF c (p + z) q i)])) :
  CutM w (w5.setCell ⟨w.heap.size + 1, 3, none⟩ pv') c p op z q (i + 1) N pv' where
 res := by
  rw [Below.heap_setCell _ _ _ _ (by show w.heap.size ≠ w.heap.size + 1; omega), hg.block w.heap.size (by have := blt h.res; simp; omega) (fun e => by have := (h.row.lt _ e.symm).1; omega)]
  exact (Below.heap_alloc (wr.drewN k) o _ (blt h.res)).trans h.res
 ins := by
  have : w5.heap[w.heap.size + 1]? = some (.cells #[.int .i64 p, .int .i64 op, .int .i64 N, pv, .int .i64 ((p : Int) + z)] 129 (0, 0)) := by
   rw [hg.block (w.heap.size + 1) (by have := blt h.ins; simp; omega) (fun e => by have := (h.row.lt _ e.symm).1; omega)]
   exact (Below.heap_alloc (wr.drewN k) o _ (blt h.ins)).trans h.ins
  exact block_setCell this _
 row := by
  rw [tos_succ, iV_snoc]
  exact own_set hrow (by omega) _ _
 bel := ((((bdr h.bel k).alloc h.bel.size o).grown hg (by have := h.bel.size; simp; omega) (fun j hj => by have := (h.row.lt j hj).1; omega)).setCell (p := ⟨w.heap.size + 1, 3, none⟩) (by show w.heap.size ≤ w.heap.size + 1; omega) _)
theorem cut_ok_15 (c : ByteArray) (p op : Nat) (w : World) (hp : p < c.size) (hs : c.size ≤ 120) (ho : byteN c p = op) (hop : op = 15) (he : p + 3 ≤ c.size) :
  Calls Tryz.prog 114 #[.string c, .int .i64 p] w (CutOk c p w) := by
 obtain ⟨iz, hiz, hzz0, hzz1, hzz2⟩ := info_parts Tryz.infoInt
 have hz : sizeI c p = 3 := by unfold sizeI; rw [ho, if_neg (by omega), hop]; rfl
 have e1 : insI c p = ⟨op, p, p + 3, 0, tos c (p + 3) (p + 1) 1⟩ := by
  unfold insI
  rw [hz, ho, hop]
  rfl
 have HE := hidc e1
 have hb : c[p].toNat = op := by rw [byte_nat c p hp]; exact ho
 clear e1 hz ho
 subst hop
 go_enter Tryz.func114, Tryz.ntmps114
 go_wp2_with fail
 have HM0 : Hid (CutM w ((w.alloc (.cells #[.int .i64 0, .int .i64 0, .int .i64 0, .slice none 0 0, .int .i64 0] 129)).alloc (.cells #[.int .i64 p, .int .i64 15, .int .i64 0, .slice none 0 0, .int .i64 ((p : Int) + 3)] 129)) c p 15 3 (p + 1) 0 0 (.slice none 0 0)) := ⟨(Below.heap_alloc _ _ _ (by simp)).trans (heap_alloc_new w _), by have := heap_alloc_new (w.alloc (.cells #[.int .i64 0, .int .i64 0, .int .i64 0, .slice none 0 0, .int .i64 0] 129)) (.cells #[.int .i64 p, .int .i64 15, .int .i64 0, .slice none 0 0, .int .i64 ((p : Int) + 3)] 129); rw [show (w.alloc (.cells #[.int .i64 0, .int .i64 0, .int .i64 0, .slice none 0 0, .int .i64 0] 129)).heap.size = w.heap.size + 1 by simp] at this; exact this, ⟨by simp [tos, iV], .inl ⟨rfl, rfl⟩⟩, below2 _ _ _⟩
 go_loopw [8] (fun iv wr => ∃ (i : Nat) (pv : Value), i ≤ 1 ∧ iv = .int .i64 ((p + 1 + 2 * i : Nat) : Int) ∧ Hid (CutM w wr c p 15 3 (p + 1) i 0 pv)) (fun iv _ => (p + 3) - (intOf iv).toNat)
 case atStart => exact ⟨0, _, Nat.zero_le _, by first | rfl | (congr 1; omega), HM0.out⟩
 case round =>
  clear HM0
  obtain ⟨i, pv, hi, rfl, HM⟩ := hrel
  obtain ⟨pa, pc, rfl⟩ := row_form HM.out.row
  have x3 : wr.cell? ⟨w.heap.size + 1, 3, none⟩ = some (.slice pa i pc) := by rw [cell_of_block HM.out.ins]; rfl
  have x4 : wr.cell? ⟨w.heap.size + 1, 4, none⟩ = some (.int .i64 ((p : Int) + 3)) := by rw [cell_of_block HM.out.ins]; rfl
  have hsz : w.heap.size + 2 ≤ wr.heap.size := by have := HM.out.ins; have := (Array.getElem?_eq_some_iff.1 this).1; omega
  have hq1 : w.heap.size + 1 < wr.heap.size := by omega
  have hq0 : w.heap.size < wr.heap.size := by omega
  by_cases hlt : i < 1
  ·have i1 : p + 1 + 2 * i + 1 < c.size := by omega
   have HTF : Hid (toF c (p + 3) (p + 1) i = ((p + 3 : Nat) : Int) + sgn (byteN c (p + 1 + 2 * i)) (byteN c (p + 1 + 2 * i + 1))) := rfl
   obtain ⟨z0, z1⟩ := sgn_le _ _ (byteN_lt c (p + 1 + 2 * i)) (byteN_lt c (p + 1 + 2 * i + 1))
   have hat : p + 1 + 2 * i < p + 3 := by omega
   generalize hatg : p + 1 + 2 * i = at0 at *
   have HAT := hidc hatg
   clear hatg
   go_wp2_with fail
   have hw : IntKind.i64.wrap ((p : Int) + 3 + sgn (byteN c at0) (byteN c (at0 + 1))) = ((p : Int) + 3 + sgn (byteN c at0) (byteN c (at0 + 1))) := by rw [IntKind.wrap_i64]; omega
   refine wp_region_held_drew (S := fun w' => w'.cell? ⟨w.heap.size + 1, 4, none⟩ = some (.int .i64 ((p : Int) + 3))) (by kernel_rfl) x4 (fun hHeld => ?_)
   refine tk 0 ?va0 rfl ?hya0 hHeld ?resta0
   case hya0 => intro w hSw; (try dsimp only at hSw); go_simp; try with_reducible rfl
   simp only [Act.put, aA, aB, aC, aD, aE]
   refine tk 2 ?va2 rfl ?hya2 hHeld ?resta2
   case hya2 => intro w hSw; (try dsimp only at hSw); go_simp; try with_reducible rfl
   simp only [Act.put, aA, aB, aC, aD, aE, aF]
   refine tk 3 ?va3 rfl ?hya3 hHeld ?resta3
   case hya3 => intro w hSw; (try dsimp only at hSw); go_simp; try with_reducible rfl
   simp only [Act.put, aA, aB, aC, aD, aE, aF]
   refine tk 4 ?va4 rfl ?hya4 hHeld ?resta4
   case hya4 => intro w hSw; (try dsimp only at hSw); go_simp; try with_reducible rfl
   simp only [Act.put, aA, aB, aC, aD, aE, aF]
   refine tk 5 ?va5 rfl ?hya5 hHeld ?resta5
   case hya5 => intro w hSw; (try dsimp only at hSw); go_simp; try with_reducible rfl
   simp only [Act.put, aA, aB, aC, aD, aE, aF]
   refine wpAnyH_ready (rs := [1, 6]) (by kernel_rfl) (by simp) ?_
   refine AllReadyH.cons (i := 1) rfl (fun K hK => ?ga1) (AllReadyH.cons (i := 6) rfl (fun K hK => ?ga6) AllReadyH.nil)
   case ga1 =>
    simp only [aD, aE, aF]
    go_simp
    refine hK.out _ _ hHeld (fun hHeld => ?_)
    clear hK
    refine rd 6 rfl (fun K hK => ?_)
    simp only [aD, aE, aF]
    go_simp
    go_at_call 137
    refine (ref_far c at0 _ i1 hs).mono ?_
    rintro e w2 ⟨rfl, qn, rfl⟩
    go_wp2_with fail
    refine hK.out _ _ hHeld (fun hHeld => ?_)
    clear hK
    refine tk 7 (.int .i64 ((p : Int) + 3 + sgn (byteN c at0) (byteN c (at0 + 1)))) rfl ?hyb7 hHeld ?restb7
    case hyb7 => intro w hSw; (try dsimp only at hSw); go_simp
    simp only [Act.put, aA, aB, aC, aD, aE, aF]
    refine rd 8 rfl (fun K hK => ?_)
    simp only [aD, aE, aF]
    go_simp
    refine hK.out _ _ ((cell_al _ (by simp; omega)).trans hHeld) (fun hHeld => ?_)
    clear hK
    refine rd 9 rfl (fun K hK => ?_)
    refine step_append_lies _ rfl _ _ 22 rfl (w.heap.size + 2) 3 iz (.int .i64 0) 1 8 Tryz.underlying22 hiz hzz0 hzz1 hzz2 rfl (by decide) _ i (iV (tos c (p + 3) (p + 1) i)) rfl ((own_drN HM.out.row).alloc _) ⟨wr.heap.size, 0, none⟩ 1 1 [.int .i64 ((p : Int) + 3 + sgn (byteN c at0) (byteN c (at0 + 1)))] rfl rfl (news1q _ _ _ rfl _) (one1c _) (by decide) (by unfold maxLen; omega) (by omega) (by simp; omega) _ rfl ?_
    intro ga ca w5 hown5 hgrow5 hat5 hlt5
    have HSTEP := hidc (HM.out.step hgrow5 (by have := hown5; rw [show ((p : Int) + 3 + sgn (byteN c at0) (byteN c (at0 + 1))) = toF c (p + 3) (p + 1) i from HTF.out.symm] at this; exact this))
    have hI5 : w5.heap[w.heap.size + 1]? = some (.cells #[.int .i64 p, .int .i64 15, .int .i64 0, .slice pa i pc, .int .i64 ((p : Int) + 3)] 129 (0, 0)) := by
     rw [hgrow5.block (w.heap.size + 1) (by simp; omega) (fun e => by have := (HM.out.row.lt _ e.symm).1; omega)]
     exact (Below.heap_alloc (wr.drewN _) _ _ (blt HM.out.ins)).trans HM.out.ins
    have v3 : w5.cell? ⟨w.heap.size + 1, 3, none⟩ = some (.slice pa i pc) := by rw [cell_of_block hI5]; rfl
    have v4 : w5.cell? ⟨w.heap.size + 1, 4, none⟩ = some (.int .i64 ((p : Int) + 3)) := by rw [cell_of_block hI5]; rfl
    have f3 : w5.frozen? ⟨w.heap.size + 1, 3, none⟩ = false := unfrozen_of_block hI5 3
    clear hown5 hgrow5 hat5 hlt5 hI5
    refine hK.out _ _ v4 (fun hHeld => ?_)
    clear hK
    simp only [Act.put, aA, aB, aC, aD, aE, aF]
    refine tk 10 ?vbz10 rfl ?hybz10 hHeld ?restbz10
    case hybz10 => intro w hSw; (try dsimp only at hSw); go_simp; try with_reducible rfl
    simp only [Act.put, aA, aB, aC, aD, aE, aF]
    refine rd 11 rfl (fun K hK => ?_)
    simp only [aD, aE, aF]
    go_simp
    refine hK.out _ _ (by rw [cell_of_block HSTEP.out.ins]; rfl) (fun hHeld => ?_)
    clear hK
    refine wpAnyH_done (by kernel_rfl) ?_ _
    go_wp2_with fail
    refine ⟨⟨i + 1, _, by omega, by have := HAT.out; congr 1; omega, HSTEP.out⟩, ?_⟩
    simp [intOf]
    omega
   case ga6 =>
    simp only [aD, aE, aF]
    go_simp
    go_at_call 137
    refine (ref_far c at0 _ i1 hs).mono ?_
    rintro e w2 ⟨rfl, qn, rfl⟩
    go_wp2_with fail
    refine hK.out _ _ hHeld (fun hHeld => ?_)
    clear hK
    refine tk 7 (.int .i64 ((p : Int) + 3 + sgn (byteN c at0) (byteN c (at0 + 1)))) rfl ?hyc7 hHeld ?restc7
    case hyc7 => intro w hSw; (try dsimp only at hSw); go_simp
    simp only [Act.put, aA, aB, aC, aD, aE, aF]
    refine wpAnyH_ready (rs := [1, 8]) (by kernel_rfl) (by simp) ?_
    refine AllReadyH.cons (i := 1) rfl (fun K hK => ?gb1) (AllReadyH.cons (i := 8) rfl (fun K hK => ?gb8) AllReadyH.nil)
    case gb1 =>
     simp only [aD, aE, aF]
     go_simp
     refine hK.out _ _ hHeld (fun hHeld => ?_)
     clear hK
     refine rd 8 rfl (fun K hK => ?_)
     simp only [aD, aE, aF]
     go_simp
     refine hK.out _ _ ((cell_al _ (by simp; omega)).trans hHeld) (fun hHeld => ?_)
     clear hK
     refine rd 9 rfl (fun K hK => ?_)
     refine step_append_lies _ rfl _ _ 22 rfl (w.heap.size + 2) 3 iz (.int .i64 0) 1 8 Tryz.underlying22 hiz hzz0 hzz1 hzz2 rfl (by decide) _ i (iV (tos c (p + 3) (p + 1) i)) rfl ((own_drN HM.out.row).alloc _) ⟨wr.heap.size, 0, none⟩ 1 1 [.int .i64 ((p : Int) + 3 + sgn (byteN c at0) (byteN c (at0 + 1)))] rfl rfl (news1q _ _ _ rfl _) (one1c _) (by decide) (by unfold maxLen; omega) (by omega) (by simp; omega) _ rfl ?_
     intro ga ca w5 hown5 hgrow5 hat5 hlt5
     have HSTEP := hidc (HM.out.step hgrow5 (by have := hown5; rw [show ((p : Int) + 3 + sgn (byteN c at0) (byteN c (at0 + 1))) = toF c (p + 3) (p + 1) i from HTF.out.symm] at this; exact this))
     have hI5 : w5.heap[w.heap.size + 1]? = some (.cells #[.int .i64 p, .int .i64 15, .int .i64 0, .slice pa i pc, .int .i64 ((p : Int) + 3)] 129 (0, 0)) := by
      rw [hgrow5.block (w.heap.size + 1) (by simp; omega) (fun e => by have := (HM.out.row.lt _ e.symm).1; omega)]
      exact (Below.heap_alloc (wr.drewN _) _ _ (blt HM.out.ins)).trans HM.out.ins
     have v3 : w5.cell? ⟨w.heap.size + 1, 3, none⟩ = some (.slice pa i pc) := by rw [cell_of_block hI5]; rfl
     have v4 : w5.cell? ⟨w.heap.size + 1, 4, none⟩ = some (.int .i64 ((p : Int) + 3)) := by rw [cell_of_block hI5]; rfl
     have f3 : w5.frozen? ⟨w.heap.size + 1, 3, none⟩ = false := unfrozen_of_block hI5 3
     clear hown5 hgrow5 hat5 hlt5 hI5
     refine hK.out _ _ v4 (fun hHeld => ?_)
     clear hK
     simp only [Act.put, aA, aB, aC, aD, aE, aF]
     refine tk 10 ?vdz10 rfl ?hydz10 hHeld ?restdz10
     case hydz10 => intro w hSw; (try dsimp only at hSw); go_simp; try with_reducible rfl
     simp only [Act.put, aA, aB, aC, aD, aE, aF]
     refine rd 11 rfl (fun K hK => ?_)
     simp only [aD, aE, aF]
     go_simp
     refine hK.out _ _ (by rw [cell_of_block HSTEP.out.ins]; rfl) (fun hHeld => ?_)
     clear hK
     refine wpAnyH_done (by kernel_rfl) ?_ _
     go_wp2_with fail
     refine ⟨⟨i + 1, _, by omega, by have := HAT.out; congr 1; omega, HSTEP.out⟩, ?_⟩
     simp [intOf]
     omega
    case gb8 =>
     simp only [aD, aE, aF]
     go_simp
     refine hK.out _ _ ((cell_al _ (by simp; omega)).trans hHeld) (fun hHeld => ?_)
     clear hK
     have x3a : ((wr.drewN (1 + qn)).alloc (.cells #[.int .i64 ((p : Int) + 3 + sgn (byteN c at0) (byteN c (at0 + 1)))] 3)).cell? ⟨w.heap.size + 1, 3, none⟩ = some (.slice pa i pc) := (cell_al (w := wr.drewN (1 + qn)) _ hq1).trans x3
     refine rd 1 rfl (fun K hK => ?_)
     simp only [aD, aE, aF]
     go_simp
     refine hK.out _ _ hHeld (fun hHeld => ?_)
     clear hK
     refine rd 9 rfl (fun K hK => ?_)
     refine step_append_lies _ rfl _ _ 22 rfl (w.heap.size + 2) 3 iz (.int .i64 0) 1 8 Tryz.underlying22 hiz hzz0 hzz1 hzz2 rfl (by decide) _ i (iV (tos c (p + 3) (p + 1) i)) rfl ((own_drN HM.out.row).alloc _) ⟨wr.heap.size, 0, none⟩ 1 1 [.int .i64 ((p : Int) + 3 + sgn (byteN c at0) (byteN c (at0 + 1)))] rfl rfl (news1q _ _ _ rfl _) (one1c _) (by decide) (by unfold maxLen; omega) (by omega) (by simp; omega) _ rfl ?_
     intro ga ca w5 hown5 hgrow5 hat5 hlt5
     have HSTEP := hidc (HM.out.step hgrow5 (by have := hown5; rw [show ((p : Int) + 3 + sgn (byteN c at0) (byteN c (at0 + 1))) = toF c (p + 3) (p + 1) i from HTF.out.symm] at this; exact this))
     have hI5 : w5.heap[w.heap.size + 1]? = some (.cells #[.int .i64 p, .int .i64 15, .int .i64 0, .slice pa i pc, .int .i64 ((p : Int) + 3)] 129 (0, 0)) := by
      rw [hgrow5.block (w.heap.size + 1) (by simp; omega) (fun e => by have := (HM.out.row.lt _ e.symm).1; omega)]
      exact (Below.heap_alloc (wr.drewN _) _ _ (blt HM.out.ins)).trans HM.out.ins
     have v3 : w5.cell? ⟨w.heap.size + 1, 3, none⟩ = some (.slice pa i pc) := by rw [cell_of_block hI5]; rfl
     have v4 : w5.cell? ⟨w.heap.size + 1, 4, none⟩ = some (.int .i64 ((p : Int) + 3)) := by rw [cell_of_block hI5]; rfl
     have f3 : w5.frozen? ⟨w.heap.size + 1, 3, none⟩ = false := unfrozen_of_block hI5 3
     clear hown5 hgrow5 hat5 hlt5 hI5
     refine hK.out _ _ v4 (fun hHeld => ?_)
     clear hK
     simp only [Act.put, aA, aB, aC, aD, aE, aF]
     refine tk 10 ?vez10 rfl ?hyez10 hHeld ?restez10
     case hyez10 => intro w hSw; (try dsimp only at hSw); go_simp; try with_reducible rfl
     simp only [Act.put, aA, aB, aC, aD, aE, aF]
     refine rd 11 rfl (fun K hK => ?_)
     simp only [aD, aE, aF]
     go_simp
     refine hK.out _ _ (by rw [cell_of_block HSTEP.out.ins]; rfl) (fun hHeld => ?_)
     clear hK
     refine wpAnyH_done (by kernel_rfl) ?_ _
     go_wp2_with fail
     refine ⟨⟨i + 1, _, by omega, by have := HAT.out; congr 1; omega, HSTEP.out⟩, ?_⟩
     simp [intOf]
     omega
  ·have hie : i = 1 := by omega
   subst hie
   have r0 : wr.cell? ⟨w.heap.size, 0, none⟩ = some (.int .i64 0) := by rw [cell_of_block HM.out.res]; rfl
   have r1 : wr.cell? ⟨w.heap.size, 1, none⟩ = some (.int .i64 0) := by rw [cell_of_block HM.out.res]; rfl
   have r2 : wr.cell? ⟨w.heap.size, 2, none⟩ = some (.int .i64 0) := by rw [cell_of_block HM.out.res]; rfl
   have r3 : wr.cell? ⟨w.heap.size, 3, none⟩ = some (.slice none 0 0) := by rw [cell_of_block HM.out.res]; rfl
   have r4 : wr.cell? ⟨w.heap.size, 4, none⟩ = some (.int .i64 0) := by rw [cell_of_block HM.out.res]; rfl
   have u0 : wr.frozen? ⟨w.heap.size, 0, none⟩ = false := unfrozen_of_block HM.out.res 0
   have u1 : wr.frozen? ⟨w.heap.size, 1, none⟩ = false := unfrozen_of_block HM.out.res 1
   have u2 : wr.frozen? ⟨w.heap.size, 2, none⟩ = false := unfrozen_of_block HM.out.res 2
   have u3 : wr.frozen? ⟨w.heap.size, 3, none⟩ = false := unfrozen_of_block HM.out.res 3
   have u4 : wr.frozen? ⟨w.heap.size, 4, none⟩ = false := unfrozen_of_block HM.out.res 4
   have x0 : wr.cell? ⟨w.heap.size + 1, 0, none⟩ = some (.int .i64 p) := by rw [cell_of_block HM.out.ins]; rfl
   have x1 : wr.cell? ⟨w.heap.size + 1, 1, none⟩ = some (.int .i64 15) := by rw [cell_of_block HM.out.ins]; rfl
   have x2 : wr.cell? ⟨w.heap.size + 1, 2, none⟩ = some (.int .i64 0) := by rw [cell_of_block HM.out.ins]; rfl
   go_wp2_with fail
   have hF : (((((wr.setCell ⟨w.heap.size, 0, none⟩ (.int .i64 p)).setCell ⟨w.heap.size, 1, none⟩ (.int .i64 15)).setCell ⟨w.heap.size, 2, none⟩ (.int .i64 0)).setCell ⟨w.heap.size, 3, none⟩ (.slice pa 1 pc)).setCell ⟨w.heap.size, 4, none⟩ (.int .i64 ((p : Int) + 3))).heap[w.heap.size]? = some (.cells #[.int .i64 p, .int .i64 15, .int .i64 0, .slice pa 1 pc, .int .i64 ((p : Int) + 3)] 129 (0, 0)) :=
    block_setCell (block_setCell (block_setCell (block_setCell (block_setCell HM.out.res _) _) _) _) _
   have b0 := cell_of_block hF 0
   have b1 := cell_of_block hF 1
   have b2 := cell_of_block hF 2
   have b3 := cell_of_block hF 3
   have b4 := cell_of_block hF 4
   refine bodyPost_ret (v := .tuple #[.agg #[.int .i64 p, .int .i64 15, .int .i64 0, .slice pa 1 pc, .int .i64 ((p : Int) + 3)], .bool true]) (by simp [results, Tryz.results114, go_sem, b0, b1, b2, b3, b4]) rfl ⟨0, pa, pc, ?_, ?_, ?_, ?_⟩
   ·rw [HE.out]; simp only [tos_len]; rfl
   ·rw [HE.out]; exact fun h => by cases h
   ·rw [HE.out]
    simp only [tos_len]
    exact own_mono (own_set (own_set (own_set (own_set (own_set HM.out.row (by omega) _ _) (by omega) _ _) (by omega) _ _) (by omega) _ _) (by omega) _ _) (by omega)
   ·exact ((((HM.out.bel.setCell (Nat.le_refl _) _).setCell (Nat.le_refl _) _).setCell (Nat.le_refl _) _).setCell (Nat.le_refl _) _).setCell (Nat.le_refl _) _
theorem cut_ok_16 (c : ByteArray) (p op : Nat) (w : World) (hp : p < c.size) (hs : c.size ≤ 120) (ho : byteN c p = op) (hop : op = 16) (he : p + 3 ≤ c.size) :
  Calls Tryz.prog 114 #[.string c, .int .i64 p] w (CutOk c p w) := by
 obtain ⟨iz, hiz, hzz0, hzz1, hzz2⟩ := info_parts Tryz.infoInt
 have hz : sizeI c p = 3 := by unfold sizeI; rw [ho, if_neg (by omega), hop]; rfl
 have e1 : insI c p = ⟨op, p, p + 3, 0, tos c (p + 3) (p + 1) 1⟩ := by
  unfold insI
  rw [hz, ho, hop]
  rfl
 have HE := hidc e1
 have hb : c[p].toNat = op := by rw [byte_nat c p hp]; exact ho
 clear e1 hz ho
 subst hop
 go_enter Tryz.func114, Tryz.ntmps114
 go_wp2_with fail
 have HM0 : Hid (CutM w ((w.alloc (.cells #[.int .i64 0, .int .i64 0, .int .i64 0, .slice none 0 0, .int .i64 0] 129)).alloc (.cells #[.int .i64 p, .int .i64 16, .int .i64 0, .slice none 0 0, .int .i64 ((p : Int) + 3)] 129)) c p 16 3 (p + 1) 0 0 (.slice none 0 0)) := ⟨(Below.heap_alloc _ _ _ (by simp)).trans (heap_alloc_new w _), by have := heap_alloc_new (w.alloc (.cells #[.int .i64 0, .int .i64 0, .int .i64 0, .slice none 0 0, .int .i64 0] 129)) (.cells #[.int .i64 p, .int .i64 16, .int .i64 0, .slice none 0 0, .int .i64 ((p : Int) + 3)] 129); rw [show (w.alloc (.cells #[.int .i64 0, .int .i64 0, .int .i64 0, .slice none 0 0, .int .i64 0] 129)).heap.size = w.heap.size + 1 by simp] at this; exact this, ⟨by simp [tos, iV], .inl ⟨rfl, rfl⟩⟩, below2 _ _ _⟩
 go_loopw [8] (fun iv wr => ∃ (i : Nat) (pv : Value), i ≤ 1 ∧ iv = .int .i64 ((p + 1 + 2 * i : Nat) : Int) ∧ Hid (CutM w wr c p 16 3 (p + 1) i 0 pv)) (fun iv _ => (p + 3) - (intOf iv).toNat)
 case atStart => exact ⟨0, _, Nat.zero_le _, by first | rfl | (congr 1; omega), HM0.out⟩
 case round =>
  clear HM0
  obtain ⟨i, pv, hi, rfl, HM⟩ := hrel
  obtain ⟨pa, pc, rfl⟩ := row_form HM.out.row
  have x3 : wr.cell? ⟨w.heap.size + 1, 3, none⟩ = some (.slice pa i pc) := by rw [cell_of_block HM.out.ins]; rfl
  have x4 : wr.cell? ⟨w.heap.size + 1, 4, none⟩ = some (.int .i64 ((p : Int) + 3)) := by rw [cell_of_block HM.out.ins]; rfl
  have hsz : w.heap.size + 2 ≤ wr.heap.size := by have := HM.out.ins; have := (Array.getElem?_eq_some_iff.1 this).1; omega
  have hq1 : w.heap.size + 1 < wr.heap.size := by omega
  have hq0 : w.heap.size < wr.heap.size := by omega
  by_cases hlt : i < 1
  ·have i1 : p + 1 + 2 * i + 1 < c.size := by omega
   have HTF : Hid (toF c (p + 3) (p + 1) i = ((p + 3 : Nat) : Int) + sgn (byteN c (p + 1 + 2 * i)) (byteN c (p + 1 + 2 * i + 1))) := rfl
   obtain ⟨z0, z1⟩ := sgn_le _ _ (byteN_lt c (p + 1 + 2 * i)) (byteN_lt c (p + 1 + 2 * i + 1))
   have hat : p + 1 + 2 * i < p + 3 := by omega
   generalize hatg : p + 1 + 2 * i = at0 at *
   have HAT := hidc hatg
   clear hatg
   go_wp2_with fail
   have hw : IntKind.i64.wrap ((p : Int) + 3 + sgn (byteN c at0) (byteN c (at0 + 1))) = ((p : Int) + 3 + sgn (byteN c at0) (byteN c (at0 + 1))) := by rw [IntKind.wrap_i64]; omega
   refine wp_region_held_drew (S := fun w' => w'.cell? ⟨w.heap.size + 1, 4, none⟩ = some (.int .i64 ((p : Int) + 3))) (by kernel_rfl) x4 (fun hHeld => ?_)
   refine tk 0 ?va0 rfl ?hya0 hHeld ?resta0
   case hya0 => intro w hSw; (try dsimp only at hSw); go_simp; try with_reducible rfl
   simp only [Act.put, aA, aB, aC, aD, aE]
   refine tk 2 ?va2 rfl ?hya2 hHeld ?resta2
   case hya2 => intro w hSw; (try dsimp only at hSw); go_simp; try with_reducible rfl
   simp only [Act.put, aA, aB, aC, aD, aE, aF]
   refine tk 3 ?va3 rfl ?hya3 hHeld ?resta3
   case hya3 => intro w hSw; (try dsimp only at hSw); go_simp; try with_reducible rfl
   simp only [Act.put, aA, aB, aC, aD, aE, aF]
   refine tk 4 ?va4 rfl ?hya4 hHeld ?resta4
   case hya4 => intro w hSw; (try dsimp only at hSw); go_simp; try with_reducible rfl
   simp only [Act.put, aA, aB, aC, aD, aE, aF]
   refine tk 5 ?va5 rfl ?hya5 hHeld ?resta5
   case hya5 => intro w hSw; (try dsimp only at hSw); go_simp; try with_reducible rfl
   simp only [Act.put, aA, aB, aC, aD, aE, aF]
   refine wpAnyH_ready (rs := [1, 6]) (by kernel_rfl) (by simp) ?_
   refine AllReadyH.cons (i := 1) rfl (fun K hK => ?ga1) (AllReadyH.cons (i := 6) rfl (fun K hK => ?ga6) AllReadyH.nil)
   case ga1 =>
    simp only [aD, aE, aF]
    go_simp
    refine hK.out _ _ hHeld (fun hHeld => ?_)
    clear hK
    refine rd 6 rfl (fun K hK => ?_)
    simp only [aD, aE, aF]
    go_simp
    go_at_call 137
    refine (ref_far c at0 _ i1 hs).mono ?_
    rintro e w2 ⟨rfl, qn, rfl⟩
    go_wp2_with fail
    refine hK.out _ _ hHeld (fun hHeld => ?_)
    clear hK
    refine tk 7 (.int .i64 ((p : Int) + 3 + sgn (byteN c at0) (byteN c (at0 + 1)))) rfl ?hyb7 hHeld ?restb7
    case hyb7 => intro w hSw; (try dsimp only at hSw); go_simp
    simp only [Act.put, aA, aB, aC, aD, aE, aF]
    refine rd 8 rfl (fun K hK => ?_)
    simp only [aD, aE, aF]
    go_simp
    refine hK.out _ _ ((cell_al _ (by simp; omega)).trans hHeld) (fun hHeld => ?_)
    clear hK
    refine rd 9 rfl (fun K hK => ?_)
    refine step_append_lies _ rfl _ _ 22 rfl (w.heap.size + 2) 3 iz (.int .i64 0) 1 8 Tryz.underlying22 hiz hzz0 hzz1 hzz2 rfl (by decide) _ i (iV (tos c (p + 3) (p + 1) i)) rfl ((own_drN HM.out.row).alloc _) ⟨wr.heap.size, 0, none⟩ 1 1 [.int .i64 ((p : Int) + 3 + sgn (byteN c at0) (byteN c (at0 + 1)))] rfl rfl (news1q _ _ _ rfl _) (one1c _) (by decide) (by unfold maxLen; omega) (by omega) (by simp; omega) _ rfl ?_
    intro ga ca w5 hown5 hgrow5 hat5 hlt5
    have HSTEP := hidc (HM.out.step hgrow5 (by have := hown5; rw [show ((p : Int) + 3 + sgn (byteN c at0) (byteN c (at0 + 1))) = toF c (p + 3) (p + 1) i from HTF.out.symm] at this; exact this))
    have hI5 : w5.heap[w.heap.size + 1]? = some (.cells #[.int .i64 p, .int .i64 16, .int .i64 0, .slice pa i pc, .int .i64 ((p : Int) + 3)] 129 (0, 0)) := by
     rw [hgrow5.block (w.heap.size + 1) (by simp; omega) (fun e => by have := (HM.out.row.lt _ e.symm).1; omega)]
     exact (Below.heap_alloc (wr.drewN _) _ _ (blt HM.out.ins)).trans HM.out.ins
    have v3 : w5.cell? ⟨w.heap.size + 1, 3, none⟩ = some (.slice pa i pc) := by rw [cell_of_block hI5]; rfl
    have v4 : w5.cell? ⟨w.heap.size + 1, 4, none⟩ = some (.int .i64 ((p : Int) + 3)) := by rw [cell_of_block hI5]; rfl
    have f3 : w5.frozen? ⟨w.heap.size + 1, 3, none⟩ = false := unfrozen_of_block hI5 3
    clear hown5 hgrow5 hat5 hlt5 hI5
    refine hK.out _ _ v4 (fun hHeld => ?_)
    clear hK
    simp only [Act.put, aA, aB, aC, aD, aE, aF]
    refine tk 10 ?vbz10 rfl ?hybz10 hHeld ?restbz10
    case hybz10 => intro w hSw; (try dsimp only at hSw); go_simp; try with_reducible rfl
    simp only [Act.put, aA, aB, aC, aD, aE, aF]
    refine rd 11 rfl (fun K hK => ?_)
    simp only [aD, aE, aF]
    go_simp
    refine hK.out _ _ (by rw [cell_of_block HSTEP.out.ins]; rfl) (fun hHeld => ?_)
    clear hK
    refine wpAnyH_done (by kernel_rfl) ?_ _
    go_wp2_with fail
    refine ⟨⟨i + 1, _, by omega, by have := HAT.out; congr 1; omega, HSTEP.out⟩, ?_⟩
    simp [intOf]
    omega
   case ga6 =>
    simp only [aD, aE, aF]
    go_simp
    go_at_call 137
    refine (ref_far c at0 _ i1 hs).mono ?_
    rintro e w2 ⟨rfl, qn, rfl⟩
    go_wp2_with fail
    refine hK.out _ _ hHeld (fun hHeld => ?_)
    clear hK
    refine tk 7 (.int .i64 ((p : Int) + 3 + sgn (byteN c at0) (byteN c (at0 + 1)))) rfl ?hyc7 hHeld ?restc7
    case hyc7 => intro w hSw; (try dsimp only at hSw); go_simp
    simp only [Act.put, aA, aB, aC, aD, aE, aF]
    refine wpAnyH_ready (rs := [1, 8]) (by kernel_rfl) (by simp) ?_
    refine AllReadyH.cons (i := 1) rfl (fun K hK => ?gb1) (AllReadyH.cons (i := 8) rfl (fun K hK => ?gb8) AllReadyH.nil)
    case gb1 =>
     simp only [aD, aE, aF]
     go_simp
     refine hK.out _ _ hHeld (fun hHeld => ?_)
     clear hK
     refine rd 8 rfl (fun K hK => ?_)
     simp only [aD, aE, aF]
     go_simp
     refine hK.out _ _ ((cell_al _ (by simp; omega)).trans hHeld) (fun hHeld => ?_)
     clear hK
     refine rd 9 rfl (fun K hK => ?_)
     refine step_append_lies _ rfl _ _ 22 rfl (w.heap.size + 2) 3 iz (.int .i64 0) 1 8 Tryz.underlying22 hiz hzz0 hzz1 hzz2 rfl (by decide) _ i (iV (tos c (p + 3) (p + 1) i)) rfl ((own_drN HM.out.row).alloc _) ⟨wr.heap.size, 0, none⟩ 1 1 [.int .i64 ((p : Int) + 3 + sgn (byteN c at0) (byteN c (at0 + 1)))] rfl rfl (news1q _ _ _ rfl _) (one1c _) (by decide) (by unfold maxLen; omega) (by omega) (by simp; omega) _ rfl ?_
     intro ga ca w5 hown5 hgrow5 hat5 hlt5
     have HSTEP := hidc (HM.out.step hgrow5 (by have := hown5; rw [show ((p : Int) + 3 + sgn (byteN c at0) (byteN c (at0 + 1))) = toF c (p + 3) (p + 1) i from HTF.out.symm] at this; exact this))
     have hI5 : w5.heap[w.heap.size + 1]? = some (.cells #[.int .i64 p, .int .i64 16, .int .i64 0, .slice pa i pc, .int .i64 ((p : Int) + 3)] 129 (0, 0)) := by
      rw [hgrow5.block (w.heap.size + 1) (by simp; omega) (fun e => by have := (HM.out.row.lt _ e.symm).1; omega)]
      exact (Below.heap_alloc (wr.drewN _) _ _ (blt HM.out.ins)).trans HM.out.ins
     have v3 : w5.cell? ⟨w.heap.size + 1, 3, none⟩ = some (.slice pa i pc) := by rw [cell_of_block hI5]; rfl
     have v4 : w5.cell? ⟨w.heap.size + 1, 4, none⟩ = some (.int .i64 ((p : Int) + 3)) := by rw [cell_of_block hI5]; rfl
     have f3 : w5.frozen? ⟨w.heap.size + 1, 3, none⟩ = false := unfrozen_of_block hI5 3
     clear hown5 hgrow5 hat5 hlt5 hI5
     refine hK.out _ _ v4 (fun hHeld => ?_)
     clear hK
     simp only [Act.put, aA, aB, aC, aD, aE, aF]
     refine tk 10 ?vdz10 rfl ?hydz10 hHeld ?restdz10
     case hydz10 => intro w hSw; (try dsimp only at hSw); go_simp; try with_reducible rfl
     simp only [Act.put, aA, aB, aC, aD, aE, aF]
     refine rd 11 rfl (fun K hK => ?_)
     simp only [aD, aE, aF]
     go_simp
     refine hK.out _ _ (by rw [cell_of_block HSTEP.out.ins]; rfl) (fun hHeld => ?_)
     clear hK
     refine wpAnyH_done (by kernel_rfl) ?_ _
     go_wp2_with fail
     refine ⟨⟨i + 1, _, by omega, by have := HAT.out; congr 1; omega, HSTEP.out⟩, ?_⟩
     simp [intOf]
     omega
    case gb8 =>
     simp only [aD, aE, aF]
     go_simp
     refine hK.out _ _ ((cell_al _ (by simp; omega)).trans hHeld) (fun hHeld => ?_)
     clear hK
     have x3a : ((wr.drewN (1 + qn)).alloc (.cells #[.int .i64 ((p : Int) + 3 + sgn (byteN c at0) (byteN c (at0 + 1)))] 3)).cell? ⟨w.heap.size + 1, 3, none⟩ = some (.slice pa i pc) := (cell_al (w := wr.drewN (1 + qn)) _ hq1).trans x3
     refine rd 1 rfl (fun K hK => ?_)
     simp only [aD, aE, aF]
     go_simp
     refine hK.out _ _ hHeld (fun hHeld => ?_)
     clear hK
     refine rd 9 rfl (fun K hK => ?_)
     refine step_append_lies _ rfl _ _ 22 rfl (w.heap.size + 2) 3 iz (.int .i64 0) 1 8 Tryz.underlying22 hiz hzz0 hzz1 hzz2 rfl (by decide) _ i (iV (tos c (p + 3) (p + 1) i)) rfl ((own_drN HM.out.row).alloc _) ⟨wr.heap.size, 0, none⟩ 1 1 [.int .i64 ((p : Int) + 3 + sgn (byteN c at0) (byteN c (at0 + 1)))] rfl rfl (news1q _ _ _ rfl _) (one1c _) (by decide) (by unfold maxLen; omega) (by omega) (by simp; omega) _ rfl ?_
     intro ga ca w5 hown5 hgrow5 hat5 hlt5
     have HSTEP := hidc (HM.out.step hgrow5 (by have := hown5; rw [show ((p : Int) + 3 + sgn (byteN c at0) (byteN c (at0 + 1))) = toF c (p + 3) (p + 1) i from HTF.out.symm] at this; exact this))
     have hI5 : w5.heap[w.heap.size + 1]? = some (.cells #[.int .i64 p, .int .i64 16, .int .i64 0, .slice pa i pc, .int .i64 ((p : Int) + 3)] 129 (0, 0)) := by
      rw [hgrow5.block (w.heap.size + 1) (by simp; omega) (fun e => by have := (HM.out.row.lt _ e.symm).1; omega)]
      exact (Below.heap_alloc (wr.drewN _) _ _ (blt HM.out.ins)).trans HM.out.ins
     have v3 : w5.cell? ⟨w.heap.size + 1, 3, none⟩ = some (.slice pa i pc) := by rw [cell_of_block hI5]; rfl
     have v4 : w5.cell? ⟨w.heap.size + 1, 4, none⟩ = some (.int .i64 ((p : Int) + 3)) := by rw [cell_of_block hI5]; rfl
     have f3 : w5.frozen? ⟨w.heap.size + 1, 3, none⟩ = false := unfrozen_of_block hI5 3
     clear hown5 hgrow5 hat5 hlt5 hI5
     refine hK.out _ _ v4 (fun hHeld => ?_)
     clear hK
     simp only [Act.put, aA, aB, aC, aD, aE, aF]
     refine tk 10 ?vez10 rfl ?hyez10 hHeld ?restez10
     case hyez10 => intro w hSw; (try dsimp only at hSw); go_simp; try with_reducible rfl
     simp only [Act.put, aA, aB, aC, aD, aE, aF]
     refine rd 11 rfl (fun K hK => ?_)
     simp only [aD, aE, aF]
     go_simp
     refine hK.out _ _ (by rw [cell_of_block HSTEP.out.ins]; rfl) (fun hHeld => ?_)
     clear hK
     refine wpAnyH_done (by kernel_rfl) ?_ _
     go_wp2_with fail
     refine ⟨⟨i + 1, _, by omega, by have := HAT.out; congr 1; omega, HSTEP.out⟩, ?_⟩
     simp [intOf]
     omega
  ·have hie : i = 1 := by omega
   subst hie
   have r0 : wr.cell? ⟨w.heap.size, 0, none⟩ = some (.int .i64 0) := by rw [cell_of_block HM.out.res]; rfl
   have r1 : wr.cell? ⟨w.heap.size, 1, none⟩ = some (.int .i64 0) := by rw [cell_of_block HM.out.res]; rfl
   have r2 : wr.cell? ⟨w.heap.size, 2, none⟩ = some (.int .i64 0) := by rw [cell_of_block HM.out.res]; rfl
   have r3 : wr.cell? ⟨w.heap.size, 3, none⟩ = some (.slice none 0 0) := by rw [cell_of_block HM.out.res]; rfl
   have r4 : wr.cell? ⟨w.heap.size, 4, none⟩ = some (.int .i64 0) := by rw [cell_of_block HM.out.res]; rfl
   have u0 : wr.frozen? ⟨w.heap.size, 0, none⟩ = false := unfrozen_of_block HM.out.res 0
   have u1 : wr.frozen? ⟨w.heap.size, 1, none⟩ = false := unfrozen_of_block HM.out.res 1
   have u2 : wr.frozen? ⟨w.heap.size, 2, none⟩ = false := unfrozen_of_block HM.out.res 2
   have u3 : wr.frozen? ⟨w.heap.size, 3, none⟩ = false := unfrozen_of_block HM.out.res 3
   have u4 : wr.frozen? ⟨w.heap.size, 4, none⟩ = false := unfrozen_of_block HM.out.res 4
   have x0 : wr.cell? ⟨w.heap.size + 1, 0, none⟩ = some (.int .i64 p) := by rw [cell_of_block HM.out.ins]; rfl
   have x1 : wr.cell? ⟨w.heap.size + 1, 1, none⟩ = some (.int .i64 16) := by rw [cell_of_block HM.out.ins]; rfl
   have x2 : wr.cell? ⟨w.heap.size + 1, 2, none⟩ = some (.int .i64 0) := by rw [cell_of_block HM.out.ins]; rfl
   go_wp2_with fail
   have hF : (((((wr.setCell ⟨w.heap.size, 0, none⟩ (.int .i64 p)).setCell ⟨w.heap.size, 1, none⟩ (.int .i64 16)).setCell ⟨w.heap.size, 2, none⟩ (.int .i64 0)).setCell ⟨w.heap.size, 3, none⟩ (.slice pa 1 pc)).setCell ⟨w.heap.size, 4, none⟩ (.int .i64 ((p : Int) + 3))).heap[w.heap.size]? = some (.cells #[.int .i64 p, .int .i64 16, .int .i64 0, .slice pa 1 pc, .int .i64 ((p : Int) + 3)] 129 (0, 0)) :=
    block_setCell (block_setCell (block_setCell (block_setCell (block_setCell HM.out.res _) _) _) _) _
   have b0 := cell_of_block hF 0
   have b1 := cell_of_block hF 1
   have b2 := cell_of_block hF 2
   have b3 := cell_of_block hF 3
   have b4 := cell_of_block hF 4
   refine bodyPost_ret (v := .tuple #[.agg #[.int .i64 p, .int .i64 16, .int .i64 0, .slice pa 1 pc, .int .i64 ((p : Int) + 3)], .bool true]) (by simp [results, Tryz.results114, go_sem, b0, b1, b2, b3, b4]) rfl ⟨0, pa, pc, ?_, ?_, ?_, ?_⟩
   ·rw [HE.out]; simp only [tos_len]; rfl
   ·rw [HE.out]; exact fun h => by cases h
   ·rw [HE.out]
    simp only [tos_len]
    exact own_mono (own_set (own_set (own_set (own_set (own_set HM.out.row (by omega) _ _) (by omega) _ _) (by omega) _ _) (by omega) _ _) (by omega) _ _) (by omega)
   ·exact ((((HM.out.bel.setCell (Nat.le_refl _) _).setCell (Nat.le_refl _) _).setCell (Nat.le_refl _) _).setCell (Nat.le_refl _) _).setCell (Nat.le_refl _) _
end Go.Proofs.YtdhmandnamajpaaGreatDoor
