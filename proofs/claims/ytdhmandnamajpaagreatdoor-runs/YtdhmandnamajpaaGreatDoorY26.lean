import Derived.Test.YtdhmandnamajpaaGreatDoorY00
import Derived.Test.YtdhmandnamajpaaGreatDoorY16
import Derived.Test.YtdhmandnamajpaaGreatDoorY17
namespace Go.Proofs.YtdhmandnamajpaaGreatDoor
open Go.RowKit Go.Joins
set_option maxHeartbeats 1000000
theorem firstE_stays {E : Nat → Nat} {l : List Ins} {k m : Nat} {e : Nat × Nat} (h : firstE E l k = e) (he : e.1 ≠ 0) (hkm : k ≤ m) : firstE E l m = e := by
 induction m with
 | zero =>
  have : k = 0 := by omega
  subst this; exact h
 | succ m ih =>
  by_cases e1 : k = m + 1
  ·subst e1; exact h
  ·have := ih (by omega)
   simp only [firstE]
   rw [this, if_pos he]
theorem each_refs {w : World} {L H : Nat} {S : List Sec} {s : Sec} {b off cap g cc : Nat} {l : List Ins} (E : Nat → Nat) (R : Nat → World → Prop) (hl : l.length ≤ 120) (hH : H < w.heap.size)
  (hlook : ∀ k w', R k w' → Look w' L H S s b off cap g cc l) (hbel : ∀ k w' w'', R k w' → Below w'.heap.size w' w'' → R k w'') (hE : ∀ k, E k ≤ 20)
  (hstep : ∀ k x ta tc w', l[k]? = some x → R k w' → TosAt0 w' H (.slice ta x.to.length tc) x.to → Calls Tryz.prog 84 #[.pointer (some ⟨L, 0, none⟩), .agg #[.int .i64 x.op, .int .i64 x.pl, .int .i64 x.nx, .int .i64 x.n, .slice ta x.to.length tc]] w' fun e w'' => e = .returned (.int .i64 (E k : Nat)) ∧ Kp w'.heap.size H w' w'' ∧ (E k = 0 → R (k + 1) w''))
  (h0 : R 0 w) :
  Calls Tryz.prog 83 #[.pointer (some ⟨L, 0, none⟩), .func (.func 84) #[.pointer (some ⟨L, 0, none⟩)] #[]] w fun e w' => e = .returned (.tuple #[.int .i64 (firstE E l l.length).1, .int .i64 (firstE E l l.length).2]) ∧ Kp w.heap.size H w w' ∧ ((firstE E l l.length).1 = 0 → R l.length w') := by
 obtain ⟨_, _, _, _, _, f5, _, hL⟩ := (hlook 0 w h0).facts
 have HLK := hidc hlook
 have HBL := hidc hbel
 have HST := hidc hstep
 have HEE := hidc hE
 have H0 := hidc h0
 clear hlook hbel hstep h0 hE
 go_enter Tryz.func83, Tryz.ntmps83
 go_wp2_with fail
 go_loopw [14] (fun iv wr => ∃ k : Nat, k ≤ l.length ∧ iv = .int .i64 k ∧ Hid (firstE E l k = (0, 0)) ∧ Hid (R k wr) ∧ Hid (Kp w.heap.size H w wr)) (fun iv _ => l.length - (intOf iv).toNat)
 case atStart => exact ⟨0, Nat.zero_le _, rfl, rfl, H0.out, Kp.refl _ _ _⟩
 case round =>
  obtain ⟨k, hk, rfl, HF, HR, HK⟩ := hrel
  by_cases hlt : k < l.length
  ·obtain ⟨c0, c1, c2, c3, ⟨va, vc, c4, ht⟩, hg⟩ := (HLK.out k wr HR.out).ins k hlt
   have HT := hidc ht
   have HX := hidc (show l[k]? = some l[k] from List.getElem?_eq_getElem hlt)
   have HGD := hidc (show (l.getD k ins0) = l[k] by simp [List.getD, hlt])
   generalize l[k] = x at *
   have hsz := HK.out.size
   have hb1 := (Below.refl wr.heap.size wr).alloc (Nat.le_refl _) (.cells #[.int .i64 x.op, .int .i64 x.pl, .int .i64 x.nx, .int .i64 x.n, .slice va x.to.length vc] 116)
   have HR1 := hidc (HBL.out k _ _ HR.out hb1)
   have HT1 := hidc (HT.out.kp (Kp.of hb1 H))
   have HB1 := hidc hb1
   clear ht hb1
   have hE20 := HEE.out k
   cases hek : E k with
   | zero =>
    go_wp2_with fail
    refine (HST.out k x va vc _ HX.out HR1.out HT1.out).mono ?_
    rw [hek]
    rintro e w3 ⟨rfl, hk3, hr3⟩
    have HK3 := hidc hk3
    have HR3 := hidc (hr3 rfl)
    clear hk3 hr3
    go_wp2_with fail
    go_roundw
    case rel =>
     refine ⟨k + 1, by omega, by go_num, ?_, HR3.out, (HK.out.trans ((Kp.of HB1.out H).mono hsz)).trans (HK3.out.mono (by simp; omega))⟩
     show firstE E l (k + 1) = (0, 0)
     simp [firstE, HF.out, hek]
    case measure => simp [intOf]; omega
   | succ m =>
    have HE1 : Hid (firstE E l l.length = (m + 1, x.pl)) := by
     show firstE E l l.length = (m + 1, x.pl)
     have h1 : firstE E l (k + 1) = (m + 1, x.pl) := by
      show (if (firstE E l k).1 ≠ 0 then firstE E l k else if E k ≠ 0 then (E k, (l.getD k ins0).pl) else (0, 0)) = _
      rw [HF.out, HGD.out, hek, if_neg (by simp), if_pos (by simp)]
     exact firstE_stays h1 (by simp) (by omega)
    have hm : (((m + 1 : Nat) : Int) == 0) = false := by simp; omega
    go_wp2_with fail
    refine (HST.out k x va vc _ HX.out HR1.out HT1.out).mono ?_
    rw [hek]
    rintro e w3 ⟨rfl, hk3, hr3⟩
    have d1 : w3.cell? ⟨wr.heap.size, 1, none⟩ = some (.int .i64 x.pl) := (hk3.cell (by simp) (by omega) 1).trans (cell_nw rfl rfl)
    have HK3 := hidc hk3
    clear hk3 hr3
    go_wp2_with fail
    go_quiet (fail)
    go_wp2_with fail
    go_ret2
    refine ⟨by rw [HE1.out]; rfl, ((HK.out.trans ((Kp.of HB1.out H).mono hsz)).trans (HK3.out.mono (by simp; omega))).drewN _, fun h => ?_⟩
    rw [HE1.out] at h
    cases h
  ·have hkl : k = l.length := by omega
   subst hkl
   go_wp2_with fail
   go_ret2
   exact ⟨by rw [HF.out]; rfl, HK.out, fun _ => HR.out⟩
theorem each_flow {w : World} {L H : Nat} {S : List Sec} {s : Sec} {b off cap g cc : Nat} {l : List Ins} (E : Nat → Nat) (R : Nat → World → Prop) (hl : l.length ≤ 120) (hH : H < w.heap.size)
  (hlook : ∀ k w', R k w' → Look w' L H S s b off cap g cc l) (hbel : ∀ k w' w'', R k w' → Below w'.heap.size w' w'' → R k w'') (hE : ∀ k, E k ≤ 20)
  (hstep : ∀ k x ta tc w', l[k]? = some x → R k w' → TosAt0 w' H (.slice ta x.to.length tc) x.to → Calls Tryz.prog 85 #[.pointer (some ⟨L, 0, none⟩), .agg #[.int .i64 x.op, .int .i64 x.pl, .int .i64 x.nx, .int .i64 x.n, .slice ta x.to.length tc]] w' fun e w'' => e = .returned (.int .i64 (E k : Nat)) ∧ Kp w'.heap.size H w' w'' ∧ (E k = 0 → R (k + 1) w''))
  (h0 : R 0 w) :
  Calls Tryz.prog 83 #[.pointer (some ⟨L, 0, none⟩), .func (.func 85) #[.pointer (some ⟨L, 0, none⟩)] #[]] w fun e w' => e = .returned (.tuple #[.int .i64 (firstE E l l.length).1, .int .i64 (firstE E l l.length).2]) ∧ Kp w.heap.size H w w' ∧ ((firstE E l l.length).1 = 0 → R l.length w') := by
 obtain ⟨_, _, _, _, _, f5, _, hL⟩ := (hlook 0 w h0).facts
 have HLK := hidc hlook
 have HBL := hidc hbel
 have HST := hidc hstep
 have HEE := hidc hE
 have H0 := hidc h0
 clear hlook hbel hstep h0 hE
 go_enter Tryz.func83, Tryz.ntmps83
 go_wp2_with fail
 go_loopw [14] (fun iv wr => ∃ k : Nat, k ≤ l.length ∧ iv = .int .i64 k ∧ Hid (firstE E l k = (0, 0)) ∧ Hid (R k wr) ∧ Hid (Kp w.heap.size H w wr)) (fun iv _ => l.length - (intOf iv).toNat)
 case atStart => exact ⟨0, Nat.zero_le _, rfl, rfl, H0.out, Kp.refl _ _ _⟩
 case round =>
  obtain ⟨k, hk, rfl, HF, HR, HK⟩ := hrel
  by_cases hlt : k < l.length
  ·obtain ⟨c0, c1, c2, c3, ⟨va, vc, c4, ht⟩, hg⟩ := (HLK.out k wr HR.out).ins k hlt
   have HT := hidc ht
   have HX := hidc (show l[k]? = some l[k] from List.getElem?_eq_getElem hlt)
   have HGD := hidc (show (l.getD k ins0) = l[k] by simp [List.getD, hlt])
   generalize l[k] = x at *
   have hsz := HK.out.size
   have hb1 := (Below.refl wr.heap.size wr).alloc (Nat.le_refl _) (.cells #[.int .i64 x.op, .int .i64 x.pl, .int .i64 x.nx, .int .i64 x.n, .slice va x.to.length vc] 116)
   have HR1 := hidc (HBL.out k _ _ HR.out hb1)
   have HT1 := hidc (HT.out.kp (Kp.of hb1 H))
   have HB1 := hidc hb1
   clear ht hb1
   have hE20 := HEE.out k
   cases hek : E k with
   | zero =>
    go_wp2_with fail
    refine (HST.out k x va vc _ HX.out HR1.out HT1.out).mono ?_
    rw [hek]
    rintro e w3 ⟨rfl, hk3, hr3⟩
    have HK3 := hidc hk3
    have HR3 := hidc (hr3 rfl)
    clear hk3 hr3
    go_wp2_with fail
    go_roundw
    case rel =>
     refine ⟨k + 1, by omega, by go_num, ?_, HR3.out, (HK.out.trans ((Kp.of HB1.out H).mono hsz)).trans (HK3.out.mono (by simp; omega))⟩
     show firstE E l (k + 1) = (0, 0)
     simp [firstE, HF.out, hek]
    case measure => simp [intOf]; omega
   | succ m =>
    have HE1 : Hid (firstE E l l.length = (m + 1, x.pl)) := by
     show firstE E l l.length = (m + 1, x.pl)
     have h1 : firstE E l (k + 1) = (m + 1, x.pl) := by
      show (if (firstE E l k).1 ≠ 0 then firstE E l k else if E k ≠ 0 then (E k, (l.getD k ins0).pl) else (0, 0)) = _
      rw [HF.out, HGD.out, hek, if_neg (by simp), if_pos (by simp)]
     exact firstE_stays h1 (by simp) (by omega)
    have hm : (((m + 1 : Nat) : Int) == 0) = false := by simp; omega
    go_wp2_with fail
    refine (HST.out k x va vc _ HX.out HR1.out HT1.out).mono ?_
    rw [hek]
    rintro e w3 ⟨rfl, hk3, hr3⟩
    have d1 : w3.cell? ⟨wr.heap.size, 1, none⟩ = some (.int .i64 x.pl) := (hk3.cell (by simp) (by omega) 1).trans (cell_nw rfl rfl)
    have HK3 := hidc hk3
    clear hk3 hr3
    go_wp2_with fail
    go_quiet (fail)
    go_wp2_with fail
    go_ret2
    refine ⟨by rw [HE1.out]; rfl, ((HK.out.trans ((Kp.of HB1.out H).mono hsz)).trans (HK3.out.mono (by simp; omega))).drewN _, fun h => ?_⟩
    rw [HE1.out] at h
    cases h
  ·have hkl : k = l.length := by omega
   subst hkl
   go_wp2_with fail
   go_ret2
   exact ⟨by rw [HF.out]; rfl, HK.out, fun _ => HR.out⟩
end Go.Proofs.YtdhmandnamajpaaGreatDoor
namespace Go.Proofs.YtdhmandnamajpaaGreatDoor
open Go.RowKit Go.Joins
set_option maxHeartbeats 1000000
theorem look_sums {w : World} {L H : Nat} {S : List Sec} {s : Sec} {b off cap g cc : Nat} {l : List Ins} {hs : List (Option (Int × Int))} {cs : Array Value} (h : Look w L H S s b off cap g cc l) (hh : HtsAt w H s.code.size l hs cs) (hch : Chained l s.code.size)
  (hl : l.length ≤ 120) (hnm : ∀ x ∈ l, x.op = 20 → x.n < S.length) :
  Calls Tryz.prog 86 #[.pointer (some ⟨L, 0, none⟩)] w fun e w' => e = .returned (.int .i64 (if greatH hs l.length ≠ s.m then (15 : Int) else if anyRet S l == (s.o == 128) then 16 else 0)) ∧ Below w.heap.size w w' := by
 generalize hres : (if greatH hs l.length ≠ s.m then (15 : Int) else if anyRet S l == (s.o == 128) then 16 else 0) = res
 have HRES := hidc hres
 obtain ⟨f0, f1, f2, f3, f4, f5, f6, hL⟩ := h.facts
 have hH := blt hh.blk
 have HL := hidc h
 have HH := hidc hh
 have HCH := hidc hch
 have HNM := hidc hnm
 clear h hh hch hnm hres
 go_enter Tryz.func86, Tryz.ntmps86
 go_wp2_with fail
 clear f0 f1 f2 f3 f4 f5 f6
 go_loopw [3, 4, 12] (fun gvv rv iv wr => ∃ k : Nat, k ≤ l.length ∧ iv = .int .i64 k ∧ gvv = .int .i64 (greatH hs k) ∧ rv = .bool ((l.take k).any (returnsB S)) ∧ Hid (Below w.heap.size w wr)) (fun _ _ iv _ => l.length - (intOf iv).toNat)
 case atStart => exact ⟨0, Nat.zero_le _, rfl, rfl, by simp, Below.refl _ _⟩
 case round =>
  obtain ⟨k, hk, rfl, rfl, rfl, HB⟩ := hrel
  obtain ⟨f0, f1, f2, f3, f4, f5, f6, hLr⟩ := (HL.out.below HB.out).facts
  have hsz := HB.out.size
  have hHr : H < wr.heap.size := by omega
  by_cases hlt : k < l.length
  ·obtain ⟨c0, c1, c2, c3, ⟨va, vc, c4, ht⟩, hg⟩ := (HL.out.below HB.out).ins k hlt
   have HX := hidc (show l[k]? = some l[k] from List.getElem?_eq_getElem hlt)
   have HTK := hidc (show (l.take (k + 1)).any (returnsB S) = ((l.take k).any (returnsB S) || returnsB S l[k]) by rw [List.take_succ_eq_append_getElem hlt, List.any_append]; simp)
   have hx20 : l[k].op = 20 → l[k].n < S.length := HNM.out _ (List.getElem_mem _)
   have HG1 : Hid (greatH hs (k + 1) = max (greatH hs k) ((hs.getD k none).getD (0, 0)).2) := rfl
   generalize l[k] = x at *
   have hpl := HCH.out.lt k x HX.out
   have kv : wr.cell? ⟨H, x.pl * 3 + 2, none⟩ = some (.int .i64 ((hs.getD k none).getD (0, 0)).2) := by
    have hw := HH.out.below HB.out
    rw [cell_of_block hw.blk]
    exact (hw.span k x HX.out).2.2
   generalize ((hs.getD k none).getD (0, 0)).2 = gv at *
   generalize greatH hs k = gM at *
   generalize hrb : (l.take k).any (returnsB S) = rb at *
   have HRB := hidc hrb
   clear ht hrb
   go_wp2_with fail
   refine wp_region_held_drew (S := fun w' => w'.cell? ⟨L, 6, none⟩ = some (.slice (some ⟨H, 0, none⟩) s.code.size s.code.size) ∧ w'.cell? ⟨wr.heap.size, 1, none⟩ = some (.int .i64 x.pl) ∧ w'.cell? ⟨H, x.pl * 3 + 2, none⟩ = some (.int .i64 gv)) (by kernel_rfl) ⟨(cell_al _ (by omega)).trans f6, cell_nw rfl rfl, (cell_al _ hHr).trans kv⟩ (fun hHeld => ?_)
   refine tk 0 ?va0 rfl ?hya0 hHeld ?resta0
   case hya0 => rintro w ⟨s0, s1, s2⟩; go_simp; try with_reducible rfl
   simp only [Act.put, aA, aB, aC, aD, aE]
   refine tk 1 ?va1 rfl ?hya1 hHeld ?resta1
   case hya1 => rintro w ⟨s0, s1, s2⟩; go_simp; try with_reducible rfl
   simp only [Act.put, aA, aB, aC, aD, aE, aF]
   refine tk 2 ?va2 rfl ?hya2 hHeld ?resta2
   case hya2 => rintro w ⟨s0, s1, s2⟩; go_simp; try with_reducible rfl
   simp only [Act.put, aA, aB, aC, aD, aE, aF]
   refine tk 3 ?va3 rfl ?hya3 hHeld ?resta3
   case hya3 => rintro w ⟨s0, s1, s2⟩; go_simp; try with_reducible rfl
   simp only [Act.put, aA, aB, aC, aD, aE, aF]
   refine tk 4 ?va4 rfl ?hya4 hHeld ?resta4
   case hya4 => rintro w ⟨s0, s1, s2⟩; go_simp; try with_reducible rfl
   simp only [Act.put, aA, aB, aC, aD, aE, aF]
   refine tk 5 ?va5 rfl ?hya5 hHeld ?resta5
   case hya5 => rintro w ⟨s0, s1, s2⟩; go_simp; try with_reducible rfl
   simp only [Act.put, aA, aB, aC, aD, aE, aF]
   refine tk 6 ?va6 rfl ?hya6 hHeld ?resta6
   case hya6 => rintro w ⟨s0, s1, s2⟩; go_simp; try with_reducible rfl
   simp only [Act.put, aA, aB, aC, aD, aE, aF]
   refine tk 7 ?va7 rfl ?hya7 hHeld ?resta7
   case hya7 => rintro w ⟨s0, s1, s2⟩; go_simp; try with_reducible rfl
   simp only [Act.put, aA, aB, aC, aD, aE, aF]
   refine tk 8 ?va8 rfl ?hya8 hHeld ?resta8
   case hya8 => rintro w ⟨s0, s1, s2⟩; go_simp; try with_reducible rfl
   simp only [Act.put, aA, aB, aC, aD, aE, aF]
   refine tk 9 ?va9 rfl ?hya9 hHeld ?resta9
   case hya9 => rintro w ⟨s0, s1, s2⟩; go_simp; try with_reducible rfl
   simp only [Act.put, aA, aB, aC, aD, aE, aF]
   refine tk 10 (.int .i64 (max gM gv)) rfl ?hya10 hHeld ?resta10
   case hya10 => rintro w ⟨s0, s1, s2⟩; go_simp; (try split) <;> (try simp) <;> (try omega)
   simp only [Act.put, aA, aB, aC, aD, aE, aF]
   refine tk 11 ?va11 rfl ?hya11 hHeld ?resta11
   case hya11 => rintro w ⟨s0, s1, s2⟩; go_simp; try with_reducible rfl
   simp only [Act.put, aA, aB, aC, aD, aE, aF]
   refine wpAnyH_done (by kernel_rfl) ?_ _
   clear hHeld
   have HBd := hidc (((HB.out.trans (((Below.refl _ _).alloc (Nat.le_refl _) (.cells #[.int .i64 x.op, .int .i64 x.pl, .int .i64 x.nx, .int .i64 x.n, .slice va x.to.length vc] 116)).mono hsz))).drew)
   have HLd := hidc (HL.out.below HBd.out)
   have y0 : ((wr.alloc (.cells #[.int .i64 x.op, .int .i64 x.pl, .int .i64 x.nx, .int .i64 x.n, .slice va x.to.length vc] 116)).drew).cell? ⟨wr.heap.size, 0, none⟩ = some (.int .i64 x.op) := cell_nw rfl rfl
   have y1 : ((wr.alloc (.cells #[.int .i64 x.op, .int .i64 x.pl, .int .i64 x.nx, .int .i64 x.n, .slice va x.to.length vc] 116)).drew).cell? ⟨wr.heap.size, 1, none⟩ = some (.int .i64 x.pl) := cell_nw rfl rfl
   have y2 : ((wr.alloc (.cells #[.int .i64 x.op, .int .i64 x.pl, .int .i64 x.nx, .int .i64 x.n, .slice va x.to.length vc] 116)).drew).cell? ⟨wr.heap.size, 2, none⟩ = some (.int .i64 x.nx) := cell_nw rfl rfl
   have y3 : ((wr.alloc (.cells #[.int .i64 x.op, .int .i64 x.pl, .int .i64 x.nx, .int .i64 x.n, .slice va x.to.length vc] 116)).drew).cell? ⟨wr.heap.size, 3, none⟩ = some (.int .i64 x.n) := cell_nw rfl rfl
   have y4 : ((wr.alloc (.cells #[.int .i64 x.op, .int .i64 x.pl, .int .i64 x.nx, .int .i64 x.n, .slice va x.to.length vc] 116)).drew).cell? ⟨wr.heap.size, 4, none⟩ = some (.slice va x.to.length vc) := cell_nw rfl rfl
   have hsz2 : w.heap.size ≤ ((wr.alloc (.cells #[.int .i64 x.op, .int .i64 x.pl, .int .i64 x.nx, .int .i64 x.n, .slice va x.to.length vc] 116)).drew).heap.size := HBd.out.size
   generalize ((wr.alloc (.cells #[.int .i64 x.op, .int .i64 x.pl, .int .i64 x.nx, .int .i64 x.n, .slice va x.to.length vc] 116)).drew) = wq at *
   cases rb with
   | true =>
    go_wp2_with fail
    go_roundw
    case rel => exact ⟨k + 1, by omega, by go_num, by rw [HG1.out], by rw [HTK.out]; rfl, HBd.out⟩
    case measure => simp [intOf]; omega
   | false =>
    go_wp2_with (go_at_call 123; refine (look_returns HLd.out x _ hx20).mono ?_; rintro e w5 ⟨rfl, hb5⟩)
    go_roundw
    case rel => exact ⟨k + 1, by omega, by go_num, by rw [HG1.out], by rw [HTK.out]; simp, HBd.out.trans (hb5.mono hsz2)⟩
    case measure => simp [intOf]; omega
  ·have hkl : k = l.length := by omega
   subst hkl
   rw [List.take_length]
   have HAR : Hid (anyRet S l = l.any (returnsB S)) := rfl
   by_cases e1 : greatH hs l.length = s.m
   ·by_cases e2 : s.o = 128
    ·cases hrr : l.any (returnsB S)
     ·go_wp2_with fail
      go_ret
      exact ⟨ret_int (by rw [← HRES.out, HAR.out, hrr]; simp [e1, e2]), HB.out⟩
     ·go_wp2_with fail
      go_ret
      exact ⟨ret_int (by rw [← HRES.out, HAR.out, hrr]; simp [e1, e2]), HB.out⟩
    ·have e3 : (s.o == 128) = false := by simp [e2]
     cases hrr : l.any (returnsB S)
     ·go_wp2_with fail
      go_ret
      exact ⟨ret_int (by rw [← HRES.out, HAR.out, hrr, e3]; simp [e1]), HB.out⟩
     ·go_wp2_with fail
      go_ret
      exact ⟨ret_int (by rw [← HRES.out, HAR.out, hrr, e3]; simp [e1]), HB.out⟩
   ·go_wp2_with fail
    go_ret
    exact ⟨ret_int (by rw [← HRES.out]; simp [e1]), HB.out⟩
end Go.Proofs.YtdhmandnamajpaaGreatDoor
namespace Go.Proofs.YtdhmandnamajpaaGreatDoor
open Go.RowKit Go.Joins
set_option maxHeartbeats 1000000
def nVh (l : List Nat) : List Value := l.map (fun t => .int .i64 (t : Nat))
theorem nV_snoc (l : List Nat) (t : Nat) : nVh (l ++ [t]) = nVh l ++ [.int .i64 t] := by simp [nVh]
theorem namedL_snoc (l : List Ins) (k : Nat) (hk : k < l.length) : namedL (l.take (k + 1)) = namedL (l.take k) ++ (if namesB l[k] then [l[k].n] else []) := by
 unfold namedL
 rw [List.take_succ_eq_append_getElem hk, List.filter_append, List.map_append]
 congr 1
 cases h : namesB l[k] <;> simp [h]
theorem namedL_len (l : List Ins) (k : Nat) : (namedL (l.take k)).length ≤ k := by
 unfold namedL
 rw [List.length_map]
 exact Nat.le_trans (List.length_filter_le _ _) (by simp; omega)
theorem news1n (w : World) (x : Value) (g : Nat) (hg : g = w.heap.size) : ∀ j u, [x][j]? = some u → (w.alloc (.cells #[x] 3)).cell? ((⟨g, 0, none⟩ : Addr).add j) = some u := by
 intro j u hj
 subst hg
 have hb : (w.alloc (.cells #[x] 3)).heap[w.heap.size]? = some (.cells #[x] 3 (0, 0)) := heap_alloc_new w _
 exact World.news_of_block hb j u hj
theorem look_named {w : World} {L H : Nat} {S : List Sec} {s : Sec} {b off cap g cc : Nat} {l : List Ins} (h : Look w L H S s b off cap g cc l) (hl : l.length ≤ 120) :
  Calls Tryz.prog 50 #[.pointer (some ⟨L, 0, none⟩)] w fun e w' => ∃ v, e = .returned v ∧ w'.ownsRow w.heap.size 3 1 v (namedL l).length (nVh (namedL l)) ∧ Below w.heap.size w w' := by
 obtain ⟨iz, hiz, hzz0, hzz1, hzz2⟩ := info_parts Tryz.infoInt
 obtain ⟨f0, f1, f2, f3, f4, f5, f6, hL⟩ := h.facts
 have HL := hidc h
 clear h
 go_enter Tryz.func50, Tryz.ntmps50
 go_wp2_with fail
 clear f0 f1 f2 f3 f4 f5 f6
 go_loopw [3, 11] (fun pv iv wr => ∃ k : Nat, k ≤ l.length ∧ iv = .int .i64 k ∧ Hid (wr.ownsRow w.heap.size 3 1 pv (namedL (l.take k)).length (nVh (namedL (l.take k)))) ∧ Hid (Below w.heap.size w wr)) (fun _ iv _ => l.length - (intOf iv).toNat)
 case atStart => exact ⟨0, Nat.zero_le _, rfl, ⟨by simp [namedL, nVh], .inl ⟨rfl, by simp [namedL]⟩⟩, Below.refl _ _⟩
 case round =>
  obtain ⟨k, hk, rfl, HO, HB⟩ := hrel
  have hsz := HB.out.size
  by_cases hlt : k < l.length
  ·obtain ⟨c0, c1, c2, c3, ⟨va, vc, c4, ht⟩, hg⟩ := (HL.out.below HB.out).ins k hlt
   have HN := hidc (namedL_snoc l k hlt)
   have hnl := namedL_len l k
   generalize l[k] = x at *
   clear ht
   cases hn : namesB x
   ·rw [hn] at HN
    go_wp2_with (go_at_call 87; refine (check_names x _ _).mono ?_; rw [hn]; rintro e w1 ⟨rfl, hb1⟩)
    go_roundw
    case rel =>
     have hb : Below wr.heap.size wr w1 := ((Below.refl _ _).alloc (Nat.le_refl _) _).trans (hb1.mono (by simp))
     refine ⟨k + 1, by omega, by go_num, ?_, HB.out.trans (hb.mono hsz)⟩
     show w1.ownsRow _ _ _ _ _ _
     rw [HN.out]
     simpa using own_below HO.out hb
    case measure => simp [intOf]; omega
   ·rw [hn] at HN
    go_wp2_with fail
    refine (check_names x _ _).mono ?_
    rw [hn]
    rintro e w1 ⟨rfl, hb1⟩
    have hb : Below wr.heap.size wr w1 := ((Below.refl _ _).alloc (Nat.le_refl _) _).trans (hb1.mono (by simp))
    have d3 : w1.cell? ⟨wr.heap.size, 3, none⟩ = some (.int .i64 x.n) := ((bcell hb1).1 _ _ (by simp)).trans (cell_nw rfl rfl)
    have HO1 := hidc (own_below HO.out hb)
    have HB1 := hidc (HB.out.trans (hb.mono hsz))
    have hsz1 : w.heap.size ≤ w1.heap.size := HB1.out.size
    clear hb1 hb
    generalize hm0 : (namedL (l.take k)).length = m0 at *
    have HM0 := hidc hm0
    clear hm0
    go_wp2_with (at_builtin; refine wpList_append_lies _ rfl (.tmp 17) (.tmp 20) 22 rfl w.heap.size 3 iz (.int .i64 0) 1 8 Tryz.underlying22 hiz hzz0 hzz1 hzz2 rfl (by decide) _ m0 (nVh (namedL (l.take k))) rfl (HO1.out.alloc _) ⟨w1.heap.size, 0, none⟩ 1 1 [.int .i64 x.n] rfl rfl (news1n _ _ _ rfl) (one1c _) (by decide) (by unfold maxLen; omega) (by omega) (by simp; omega) _ rfl ?_; intro ga ca w5 hown5 hgrow5 hat5 hlt5; have HO5 := hidc hown5; have HB5 := hidc ((HB1.out.alloc hsz1 _).grown hgrow5 (by simp; omega) (fun j hj => (HO1.out.lt j hj).1)); clear hown5 hgrow5 hat5 hlt5)
    go_roundw
    case rel =>
     refine ⟨k + 1, by omega, by go_num, ?_, HB5.out⟩
     show w5.ownsRow _ _ _ _ _ _
     rw [HN.out]
     have := HO5.out
     simp only [if_true, List.length_append, List.length_cons, List.length_nil, Nat.zero_add, nV_snoc]
     rw [HM0.out]
     exact this
    case measure => simp [intOf]; omega
  ·have hkl : k = l.length := by omega
   subst hkl
   rw [List.take_length] at HO
   go_wp2_with fail
   go_ret
   exact ⟨_, rfl, HO.out, HB.out⟩
end Go.Proofs.YtdhmandnamajpaaGreatDoor
namespace Go.Proofs.YtdhmandnamajpaaGreatDoor
open Go.RowKit Go.Joins
set_option maxHeartbeats 1000000
theorem Kp.below {B B' r : Nat} {w w' : World} (h : Kp B r w w') (h1 : B' ≤ B) (h2 : B' ≤ r) : Below B' w w' := ⟨h.os, h.tape, h.output, h.size, fun k hk => h.block k (by omega) (by omega)⟩
structure Fresh (w : World) (L H : Nat) (S : List Sec) (s : Sec) (b off cap : Nat) (cs : Array Value) : Prop where
 blk : w.heap[L]? = some (.cells #[(.slice (some ⟨b, off, none⟩) S.length cap), .int .i64 s.i, .int .i64 s.o, .int .i64 s.m, .string s.code, .slice none 0 0, (.slice (some ⟨H, 0, none⟩) s.code.size s.code.size)] 104 (0, 0))
 hts : w.heap[H]? = some (.cells cs 141 (0, 0))
 size : cs.size = s.code.size * 3
 span : ∀ p, p < s.code.size → SpanAt cs p none
 secs : SecsAt w b off S
 rows : RowsAt w
 neL : L ≠ H
 neb : b ≠ H
 nebL : b ≠ L
 ne0 : 0 ≠ H
 ne0L : 0 ≠ L
def WholePost (w : World) (B L H : Nat) (S : List Sec) (s : Sec) (b off cap : Nat) : Ending → World → Prop := fun e w' => e = .returned (.tuple #[.int .i64 (wholeE S s).1, .int .i64 (wholeE S s).2]) ∧ Below B w w' ∧
 ((wholeE S s).1 = 0 → ∃ g cc, Look w' L H S s b off cap g cc (codeI s.code))
theorem look_whole {w : World} {B L H : Nat} {S : List Sec} {s : Sec} {b off cap : Nat} {cs : Array Value} (h : Fresh w L H S s b off cap cs) (hBL : B ≤ L) (hBH : B ≤ H) (hS : S.all secB = true) (hs : secB s = true) :
  Calls Tryz.prog 49 #[.pointer (some ⟨L, 0, none⟩)] w (WholePost w B L H S s b off cap) := by
 obtain ⟨_, _, _, s4⟩ := (secB_iff _).1 hs
 have HFr := hidc h
 have hL := blt h.blk
 have hH := blt h.hts
 have HSS := hidc hS
 have HS1 := hidc hs
 clear h hS hs
 go_enter Tryz.func49, Tryz.ntmps49
 go_wp2_with fail
 refine (look_split w L H _ _ s HFr.out.blk HFr.out.rows HFr.out.ne0L hH s4).mono ?_
 rintro e w1 ⟨rfl, hk1, hc1⟩
 have HK1 := hidc hk1
 have HC1 := hidc hc1
 clear hk1 hc1
 have hne1 : (splitE s.code).1 ≤ 20 := splitE_le s.code
 generalize hse : splitE s.code = se at *
 obtain ⟨e1, p1⟩ := se
 simp only at hne1
 have HSE := hidc hse
 clear hse
 cases e1 with
 | succ m =>
  have hm : (((m + 1 : Nat) : Int) == 0) = false := by simp; omega
  have HW : Hid (wholeE S s = (m + 1, p1)) := by show wholeE S s = (m + 1, p1); unfold wholeE; rw [HSE.out]; rfl
  go_wp2_with fail
  go_ret2
  exact ⟨by rw [HW.out]; rfl, HK1.out.below (by omega) hBL, fun h => by rw [HW.out] at h; cases h⟩
 | zero =>
  obtain ⟨hch, g, cc, hb, hg, hI⟩ := HC1.out rfl
  have HCH := hidc (chained hch)
  have hlen : (codeI s.code).length ≤ 120 := by have := chain_len hch; omega
  have hl0 : 0 < (codeI s.code).length := by
   cases hcc : codeI s.code with
   | nil => rw [hcc] at hch; simp [Chain] at hch; omega
   | cons x l => simp
  have HLK : Hid (Look w1 L H S s b off cap g cc (codeI s.code)) := ⟨hb, HFr.out.secs.kp HK1.out HFr.out.nebL, hI, HFr.out.rows.kp HK1.out HFr.out.ne0L, HFr.out.neL, HFr.out.neb, HFr.out.ne0⟩
  have HHB : Hid (w1.heap[H]? = some (.cells cs 141 (0, 0))) := (HK1.out.block H hH (fun e => HFr.out.neL e.symm)).trans HFr.out.hts
  have HWH : Hid (wholeE S s = if (firstE (fun k => refE S (codeI s.code) ((codeI s.code).getD k ins0)) (codeI s.code) (codeI s.code).length).1 ≠ 0 then firstE (fun k => refE S (codeI s.code) ((codeI s.code).getD k ins0)) (codeI s.code) (codeI s.code).length else if (firstE (flowE S s (codeI s.code)) (codeI s.code) (codeI s.code).length).1 ≠ 0 then firstE (flowE S s (codeI s.code)) (codeI s.code) (codeI s.code).length else (sumsE S s (codeI s.code), 0)) := by
   show wholeE S s = _
   unfold wholeE
   rw [HSE.out, if_neg (by simp)]
  clear hch hb hI HC1
  have hH1 : H < w1.heap.size := Nat.lt_of_lt_of_le hH HK1.out.size
  generalize hcl : codeI s.code = l at *
  have HCL := hidc hcl
  clear hcl
  go_wp2_with fail
  refine (each_refs (fun k => refE S l (l.getD k ins0)) (fun _ w' => Look w' L H S s b off cap g cc l ∧ w'.heap[H]? = some (.cells cs 141 (0, 0))) hlen hH1 (fun _ _ h => h.1) (fun _ _ _ h hb => ⟨h.1.below hb, keepB hb h.2⟩) (fun k => refE_le _ _ _) (fun k x ta tc w' hx hR ht => ?hst) ⟨HLK.out, HHB.out⟩).mono ?_
  case hst =>
   have e : l.getD k ins0 = x := by simp [List.getD, hx]
   simp only [e]
   refine (look_references hR.1 x ta tc ht hlen (by have := (HCH.out.op k x hx).2.2; omega)).mono ?_
   rintro e w'' ⟨rfl, hb⟩
   exact ⟨rfl, Kp.of hb H, fun _ => ⟨hR.1.below hb, keepB hb hR.2⟩⟩
  rintro e w2 ⟨rfl, hk2, hr2⟩
  have HK2 := hidc hk2
  have HR2 := hidc hr2
  have HB2 := hidc (((HK1.out.below (B' := B) (by omega) hBL)).trans (hk2.below (B' := B) (by have := HK1.out.size; omega) hBH))
  clear hk2 hr2
  generalize hfe : firstE (fun k => refE S l (l.getD k ins0)) l l.length = fe at *
  obtain ⟨e2, p2⟩ := fe
  have HFE := hidc hfe
  have he2 : e2 ≤ 20 := by have := firstE_le (E := fun k => refE S l (l.getD k ins0)) (l := l) (n := l.length) (B := 20) (fun k => refE_le _ _ _); rw [hfe] at this; exact this
  clear hfe
  cases e2 with
  | succ m =>
   have hm : (((m + 1 : Nat) : Int) == 0) = false := by simp; omega
   go_wp2_with fail
   go_ret2
   exact ⟨by rw [HWH.out]; rfl, HB2.out, fun h => by rw [HWH.out] at h; cases h⟩
  | zero =>
   have HREF : Hid (∀ k x, l[k]? = some x → refE S l x = 0) := fun k x hx => by
    have hk : k < l.length := (List.getElem?_eq_some_iff.1 hx).1
    have := firstE_zero (E := fun k => refE S l (l.getD k ins0)) (l := l) (n := l.length) (by rw [HFE.out]) k hk
    simpa [List.getD, hx] using this
   obtain ⟨hlk2, hhb2⟩ := HR2.out rfl
   obtain ⟨f0, f1, f2, f3, f4, f5, f6, hL2⟩ := hlk2.facts
   have HLK2 := hidc hlk2
   have hp0 : l[0].pl = 0 := HCH.out.zero l[0] (by simp [hl0])
   have HH0 : Hid (HtsAt w2 H s.code.size l (List.replicate l.length none) cs) := ⟨hhb2, HFr.out.size, by simp, fun k x hx => by
    have hg : (List.replicate l.length (none : Option (Int × Int))).getD k none = none := by
     simp only [List.getD, List.getElem?_replicate]
     split <;> rfl
    rw [hg]
    exact HFr.out.span x.pl (HCH.out.lt k x hx)⟩
   have HSET := hidc (HH0.out.set 0 hl0 (by omega) (HCH.out.distinct hl0) s.i s.i)
   rw [hp0] at HSET
   have k0 : w2.cell? ⟨H, 0, none⟩ = some (.bool false) := by rw [cell_of_block hhb2]; exact (HFr.out.span 0 (by omega)).1
   have k1 : w2.cell? ⟨H, 1, none⟩ = some (.int .i64 0) := by rw [cell_of_block hhb2]; exact (HFr.out.span 0 (by omega)).2.1
   have k2 : w2.cell? ⟨H, 2, none⟩ = some (.int .i64 0) := by rw [cell_of_block hhb2]; exact (HFr.out.span 0 (by omega)).2.2
   have z0 : w2.frozen? ⟨H, 0, none⟩ = false := unfrozen_of_block hhb2 0
   have z1 : w2.frozen? ⟨H, 1, none⟩ = false := unfrozen_of_block hhb2 1
   have z2 : w2.frozen? ⟨H, 2, none⟩ = false := unfrozen_of_block hhb2 2
   have hLH := HFr.out.neL
   have hcs : 0 < s.code.size := by omega
   have hH2 : H < w2.heap.size := blt hhb2
   clear hlk2 hhb2 hp0
   go_wp2_with fail
   refine wp_region_held_drew (S := fun w' => w'.cell? ⟨L, 6, none⟩ = some (.slice (some ⟨H, 0, none⟩) s.code.size s.code.size) ∧ w'.cell? ⟨L, 1, none⟩ = some (.int .i64 s.i)) (by kernel_rfl) ⟨f6, f1⟩ (fun hHeld => ?_)
   refine tk 0 ?va0 rfl ?hya0 hHeld ?resta0
   case hya0 => rintro w ⟨s0, s1⟩; go_simp; try with_reducible rfl
   simp only [Act.put, aA, aB, aC, aD, aE]
   refine tk 1 ?va1 rfl ?hya1 hHeld ?resta1
   case hya1 => rintro w ⟨s0, s1⟩; go_simp; try with_reducible rfl
   simp only [Act.put, aA, aB, aC, aD, aE, aF]
   refine tk 2 ?va2 rfl ?hya2 hHeld ?resta2
   case hya2 => rintro w ⟨s0, s1⟩; go_simp; try with_reducible rfl
   simp only [Act.put, aA, aB, aC, aD, aE, aF]
   refine tk 3 ?va3 rfl ?hya3 hHeld ?resta3
   case hya3 => rintro w ⟨s0, s1⟩; go_simp; try with_reducible rfl
   simp only [Act.put, aA, aB, aC, aD, aE, aF]
   refine tk 4 ?va4 rfl ?hya4 hHeld ?resta4
   case hya4 => rintro w ⟨s0, s1⟩; go_simp; try with_reducible rfl
   simp only [Act.put, aA, aB, aC, aD, aE, aF]
   refine tk 5 ?va5 rfl ?hya5 hHeld ?resta5
   case hya5 => rintro w ⟨s0, s1⟩; go_simp; try with_reducible rfl
   simp only [Act.put, aA, aB, aC, aD, aE, aF]
   refine tk 6 ?va6 rfl ?hya6 hHeld ?resta6
   case hya6 => rintro w ⟨s0, s1⟩; go_simp; try with_reducible rfl
   simp only [Act.put, aA, aB, aC, aD, aE, aF]
   refine tk 7 ?va7 rfl ?hya7 hHeld ?resta7
   case hya7 => rintro w ⟨s0, s1⟩; go_simp; try with_reducible rfl
   simp only [Act.put, aA, aB, aC, aD, aE, aF]
   refine tk 8 ?va8 rfl ?hya8 hHeld ?resta8
   case hya8 => rintro w ⟨s0, s1⟩; go_simp; try with_reducible rfl
   simp only [Act.put, aA, aB, aC, aD, aE, aF]
   refine tk 9 ?va9 rfl ?hya9 hHeld ?resta9
   case hya9 => rintro w ⟨s0, s1⟩; go_simp; try with_reducible rfl
   simp only [Act.put, aA, aB, aC, aD, aE, aF]
   refine tk 10 ?va10 rfl ?hya10 hHeld ?resta10
   case hya10 => rintro w ⟨s0, s1⟩; go_simp; try with_reducible rfl
   simp only [Act.put, aA, aB, aC, aD, aE, aF]
   refine tk 11 ?va11 rfl ?hya11 hHeld ?resta11
   case hya11 => rintro w ⟨s0, s1⟩; go_simp; try with_reducible rfl
   simp only [Act.put, aA, aB, aC, aD, aE, aF]
   refine tk 12 ?va12 rfl ?hya12 hHeld ?resta12
   case hya12 => rintro w ⟨s0, s1⟩; go_simp; try with_reducible rfl
   simp only [Act.put, aA, aB, aC, aD, aE, aF]
   refine tk 13 ?va13 rfl ?hya13 hHeld ?resta13
   case hya13 => rintro w ⟨s0, s1⟩; go_simp; try with_reducible rfl
   simp only [Act.put, aA, aB, aC, aD, aE, aF]
   refine tk 14 ?va14 rfl ?hya14 hHeld ?resta14
   case hya14 => rintro w ⟨s0, s1⟩; go_simp; try with_reducible rfl
   simp only [Act.put, aA, aB, aC, aD, aE, aF]
   refine tk 15 ?va15 rfl ?hya15 hHeld ?resta15
   case hya15 => rintro w ⟨s0, s1⟩; go_simp; try with_reducible rfl
   simp only [Act.put, aA, aB, aC, aD, aE, aF]
   refine rd 16 rfl (fun K hK => ?_)
   simp only [aD, aE, aF]
   go_simp
   refine hK.out _ _ ⟨((set_other _ hLH).trans ((set_other _ hLH).trans (set_other _ hLH))).trans f6, ((set_other _ hLH).trans ((set_other _ hLH).trans (set_other _ hLH))).trans f1⟩ (fun hHeld => ?_)
   clear hK hHeld
   refine wpAnyH_done (by kernel_rfl) ?_ _
   have HK3 : Hid (Kp w2.heap.size H w2 ((((w2.setCell ⟨H, 0, none⟩ (.bool true)).setCell ⟨H, 1, none⟩ (.int .i64 s.i)).setCell ⟨H, 2, none⟩ (.int .i64 s.i)).drew)) := ((((Kp.refl w2.heap.size H w2).set _ _).set _ _).set _ _).trans (Kp.of ((Below.refl _ _).drew) H)
   have HLK3 : Hid (Look ((((w2.setCell ⟨H, 0, none⟩ (.bool true)).setCell ⟨H, 1, none⟩ (.int .i64 s.i)).setCell ⟨H, 2, none⟩ (.int .i64 s.i)).drew) L H S s b off cap g cc l) := HLK2.out.kp HK3.out
   have HH3 : Hid (∃ cs', HtsAt ((((w2.setCell ⟨H, 0, none⟩ (.bool true)).setCell ⟨H, 1, none⟩ (.int .i64 s.i)).setCell ⟨H, 2, none⟩ (.int .i64 s.i)).drew) H s.code.size l (hsAt S s l 0) cs') := ⟨_, HSET.out.below ((Below.refl _ _).drew)⟩
   clear k0 k1 k2 z0 z1 z2 f0 f1 f2 f3 f4 f5 f6 HSET HH0 HR2
   generalize ((((w2.setCell ⟨H, 0, none⟩ (.bool true)).setCell ⟨H, 1, none⟩ (.int .i64 s.i)).setCell ⟨H, 2, none⟩ (.int .i64 s.i)).drew) = w3 at *
   have hH3 : H < w3.heap.size := Nat.lt_of_lt_of_le hH2 HK3.out.size
   have HXN : Hid (∀ x ∈ l, (x.op = 2 ∨ x.n < 256) ∧ (namesB x = true → x.n < S.length)) := fun x hx => by
    obtain ⟨k, hk, rfl⟩ := List.getElem_of_mem hx
    have hq : l[k]? = some l[k] := by simp [hk]
    refine ⟨(HCH.out.op k _ hq).2.1, fun hn => ?_⟩
    have := HREF.out k _ hq
    unfold refE at this
    split at this
    ·cases this
    ·split at this
     ·cases this
     ·rename_i h1 h2
      simp [hn] at h2
      unfold mayNameB at h2
      simp at h2
      exact h2.1
   go_wp2_with fail
   refine (each_flow (flowE S s l) (fun k w' => k ≤ l.length ∧ Look w' L H S s b off cap g cc l ∧ ∃ cs', HtsAt w' H s.code.size l (hsAt S s l k) cs') hlen hH3 (fun _ _ h => h.2.1) (fun _ _ _ h hb => ⟨h.1, h.2.1.below hb, h.2.2.elim fun cs' hh => ⟨cs', hh.below hb⟩⟩) (fun k => passE_le _ _ _ _ _ _) (fun k x ta tc w' hx hR ht => ?hst2) ⟨Nat.zero_le _, HLK3.out, HH3.out⟩).mono ?_
   case hst2 =>
    have hk : k < l.length := (List.getElem?_eq_some_iff.1 hx).1
    have e : l.getD k ins0 = x := by simp [List.getD, hx]
    obtain ⟨_, hlk, cs', hh⟩ := hR
    have hfe : flowE S s l k = passE S s l k x (hsAt S s l k) := by unfold flowE; rw [e]
    rw [hfe]
    refine (look_flow hlk hh HCH.out k x hx ta tc ht (HREF.out k x hx) HSS.out HS1.out ((small_hsAt HSS.out HS1.out HXN.out k (by omega)).mono (by omega))).mono ?_
    rintro e w'' ⟨rfl, hkp, hok⟩
    refine ⟨rfl, hkp, fun h0 => ⟨hk, hlk.kp hkp, ?_⟩⟩
    obtain ⟨hs', cs2, hp, hh2⟩ := hok h0
    refine ⟨cs2, ?_⟩
    have : hsAt S s l (k + 1) = hs' := by
     show (passH S s l k (l.getD k ins0) (hsAt S s l k)).getD (hsAt S s l k) = hs'
     rw [e, hp]
     rfl
    rw [this]
    exact hh2
   rintro e w4 ⟨rfl, hk4, hr4⟩
   have HR4 := hidc hr4
   have HB4 := hidc ((HB2.out.trans (HK3.out.below (B' := B) (by have := HB2.out.size; omega) hBH)).trans (hk4.below (B' := B) (by have := HB2.out.size; have := HK3.out.size; omega) hBH))
   clear hk4 hr4
   generalize hfl : firstE (flowE S s l) l l.length = fl at *
   obtain ⟨e4, p4⟩ := fl
   have he4 : e4 ≤ 20 := by have := firstE_le (E := flowE S s l) (l := l) (n := l.length) (B := 20) (fun k => passE_le _ _ _ _ _ _); rw [hfl] at this; exact this
   clear hfl
   cases e4 with
   | succ m =>
    have hm : (((m + 1 : Nat) : Int) == 0) = false := by simp; omega
    go_wp2_with fail
    go_ret2
    exact ⟨by rw [HWH.out]; rfl, HB4.out, fun h => by rw [HWH.out] at h; cases h⟩
   | zero =>
    obtain ⟨_, hlk4, cs4, hh4⟩ := HR4.out rfl
    have HLK4 := hidc hlk4
    have HH4 := hidc hh4
    have HSU : Hid ((if greatH (hsAt S s l l.length) l.length ≠ s.m then (15 : Int) else if anyRet S l == (s.o == 128) then 16 else 0) = (sumsE S s l : Nat)) := by
     show _ = ((sumsE S s l : Nat) : Int)
     unfold sumsE
     split
     ·rfl
     ·split <;> rfl
    clear hlk4 hh4 HR4
    go_wp2_with fail
    refine (look_sums HLK4.out HH4.out HCH.out hlen (fun x hx h20 => (HXN.out x hx).2 (by simp [namesB, h20]))).mono ?_
    rw [HSU.out]
    rintro e w5 ⟨rfl, hb5⟩
    have HLK5 := hidc (HLK4.out.below hb5)
    have HB5 := hidc (HB4.out.trans (hb5.mono (Nat.le_trans (by omega) (Nat.le_of_lt (blt HH4.out.blk)))))
    clear hb5
    go_wp2_with fail
    go_ret2
    exact ⟨by rw [HWH.out]; rfl, HB5.out, fun _ => ⟨g, cc, by rw [HCL.out]; exact HLK5.out⟩⟩
end Go.Proofs.YtdhmandnamajpaaGreatDoor
namespace Go.Proofs.YtdhmandnamajpaaGreatDoor
open Go.RowKit
def Rch (nms : List (List Nat)) (k : Nat) : Prop := ∀ P : Nat → Prop, P 0 → (∀ i j, P i → j ∈ nms.getD i [] → P j) → P k
theorem Rch.zero (nms : List (List Nat)) : Rch nms 0 := fun _ h0 _ => h0
theorem Rch.name {nms : List (List Nat)} {i k : Nat} (h : Rch nms i) (hk : k ∈ nms.getD i []) : Rch nms k := fun P h0 h1 => h1 i k (h P h0 h1) hk
def nmsS (S : List Sec) : List (List Nat) := S.map (fun s => namedL (codeI s.code))
theorem nmsS_get (S : List Sec) (i : Nat) : (nmsS S).getD i [] = namedS S i := by
 simp only [nmsS, namedS, List.getD, List.getElem?_map]
theorem used_iff (S : List Sec) (k : Nat) : Used S k ↔ Rch (nmsS S) k := by
 constructor
 ·intro h P h0 h1
  exact h P h0 (fun i j hi hj => h1 i j hi (by rw [nmsS_get]; exact hj))
 ·intro h P h0 h1
  exact h P h0 (fun i j hi hj => h1 i j hi (by rw [nmsS_get] at hj; exact hj))
theorem count_set : ∀ (us : List Bool) (t : Nat), us[t]? = some false → (us.set t true).count true = us.count true + 1 := by
 intro us
 induction us with
 | nil => intro t h; simp at h
 | cons u us ih =>
  intro t h
  cases t with
  | zero => simp at h; subst h; simp
  | succ t => simp at h; simp only [List.set_cons_succ, List.count_cons]; rw [ih t h]; omega
structure Bfs (nms : List (List Nat)) (n : Nat) (us : List Bool) (fs : List Nat) : Prop where
 len : us.length = n
 cnt : fs.length = us.count true
 mem : ∀ k, us.getD k false = true ↔ k ∈ fs
 rch : ∀ k, k ∈ fs → Rch nms k
 zero : 0 ∈ fs
theorem Bfs.le {nms : List (List Nat)} {n : Nat} {us : List Bool} {fs : List Nat} (h : Bfs nms n us fs) : fs.length ≤ n := by
 rw [h.cnt, ← h.len]; exact List.count_le_length
theorem Bfs.lt {nms : List (List Nat)} {n : Nat} {us : List Bool} {fs : List Nat} (h : Bfs nms n us fs) {k : Nat} (hk : k ∈ fs) : k < n := by
 have := (h.mem k).2 hk
 rw [← h.len]
 rcases Nat.lt_or_ge k us.length with hlt | hge
 ·exact hlt
 ·simp [List.getD, List.getElem?_eq_none hge] at this
theorem Bfs.add {nms : List (List Nat)} {n : Nat} {us : List Bool} {fs : List Nat} (h : Bfs nms n us fs) {t : Nat} (ht : t < n) (hf : us.getD t false = false) (hr : Rch nms t) : Bfs nms n (us.set t true) (fs ++ [t]) where
 len := by simp [h.len]
 cnt := by
  have hlt : t < us.length := by rw [h.len]; exact ht
  have : us[t]? = some false := by
   rw [List.getElem?_eq_getElem hlt]
   simp [List.getD, hlt] at hf
   rw [hf]
  rw [count_set us t this, List.length_append, h.cnt]; rfl
 mem := fun k => by
  have hlt : t < us.length := by rw [h.len]; exact ht
  by_cases e : t = k
  ·subst e
   simp [List.getD, hlt]
  ·have := h.mem k
   simp only [List.getD] at this ⊢
   rw [List.getElem?_set_ne e, this]
   simp
   intro e'
   exact absurd e'.symm e
 rch := fun k hk => by
  rcases List.mem_append.1 hk with h1 | h1
  ·exact h.rch k h1
  ·simp at h1; subst h1; exact hr
 zero := List.mem_append.2 (.inl h.zero)
theorem bfs_start (nms : List (List Nat)) (n : Nat) (hn : 0 < n) : Bfs nms n ((List.replicate n false).set 0 true) [0] where
 len := by simp
 cnt := by
  rw [count_set]
  ·simp [List.count_replicate]
  ·simp [hn]
 mem := fun k => by
  by_cases e : k = 0
  ·subst e; simp [List.getD, hn]
  ·simp only [List.getD]
   rw [List.getElem?_set_ne (fun h => e h.symm), List.getElem?_replicate]
   simp [e]
   split <;> rfl
 rch := fun k hk => by simp at hk; subst hk; exact Rch.zero _
 zero := by simp
def Led (nms : List (List Nat)) (fs : List Nat) (i : Nat) : Prop := ∀ j k t, j < i → fs[j]? = some k → t ∈ nms.getD k [] → t ∈ fs
theorem Led.add {nms : List (List Nat)} {fs : List Nat} {i : Nat} (h : Led nms fs i) (hi : i ≤ fs.length) (t : Nat) : Led nms (fs ++ [t]) i := by
 intro j k u hj hk hu
 rw [List.getElem?_append_left (by omega)] at hk
 exact List.mem_append.2 (.inl (h j k u hj hk hu))
theorem bfs_done {nms : List (List Nat)} {n : Nat} {us : List Bool} {fs : List Nat} (h : Bfs nms n us fs) (hl : Led nms fs fs.length) (k : Nat) : us.getD k false = true ↔ Rch nms k := by
 rw [h.mem]
 refine ⟨h.rch k, fun hr => hr (fun k => k ∈ fs) h.zero ?_⟩
 intro i j hi hj
 obtain ⟨p, hp, rfl⟩ := List.getElem_of_mem hi
 exact hl p _ j hp (by simp [hp]) hj
end Go.Proofs.YtdhmandnamajpaaGreatDoor
