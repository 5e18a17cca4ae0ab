import Derived.Test.YtdhmandnamajpaaGreatDoorY00
import Derived.Test.YtdhmandnamajpaaGreatDoorY19
namespace Go.Proofs.YtdhmandnamajpaaGreatDoor
open Go.RowKit Go.Joins
set_option maxHeartbeats 4000000
set_option maxRecDepth 100000
def SectPost (w : World) (S : List Sec) (s : Sec) : Ending → World → Prop := fun e w' => e = .returned (.tuple #[.int .i64 ((wholeE S s).1 : Nat), .int .i64 ((wholeE S s).2 : Nat)]) ∧ Below w.heap.size w w'
structure SM (w : World) (n0 b off sl cap : Nat) (d : ByteArray) (s : Sec) : Prop where
 u0 : w.cell? ⟨n0, 0, none⟩ = some (.slice (some ⟨b, off, none⟩) sl cap)
 u1 : w.cell? ⟨n0, 1, none⟩ = some (.string d)
 v0 : w.cell? ⟨n0 + 1, 0, none⟩ = some (.int .i64 s.i)
 v1 : w.cell? ⟨n0 + 1, 1, none⟩ = some (.int .i64 s.o)
 v2 : w.cell? ⟨n0 + 1, 2, none⟩ = some (.int .i64 s.m)
 v3 : w.cell? ⟨n0 + 1, 3, none⟩ = some (.string s.code)
 le : n0 + 2 ≤ w.heap.size
theorem SM.below {w w' : World} {B n0 b off sl cap : Nat} {d : ByteArray} {s : Sec} (h : SM w n0 b off sl cap d s) (hB : n0 + 2 ≤ B) (hb : Below B w w') : SM w' n0 b off sl cap d s := by
 obtain ⟨a0, a1, a2, a3, a4, a5, a6⟩ := h
 obtain ⟨hc, _⟩ := bcell hb
 exact ⟨(hc _ _ (by omega)).trans a0, (hc _ _ (by omega)).trans a1, (hc _ _ (by omega)).trans a2, (hc _ _ (by omega)).trans a3, (hc _ _ (by omega)).trans a4, (hc _ _ (by omega)).trans a5, by have := hb.size; omega⟩
theorem SM.two (w : World) (b off sl cap : Nat) (d : ByteArray) (s : Sec) : SM ((w.alloc (.cells #[.slice (some ⟨b, off, none⟩) sl cap, .string d] 40)).alloc (.cells #[.int .i64 s.i, .int .i64 s.o, .int .i64 s.m, .string s.code] 65)) w.heap.size b off sl cap d s := by
 have k0 : ((w.alloc (.cells #[.slice (some ⟨b, off, none⟩) sl cap, .string d] 40)).alloc (.cells #[.int .i64 s.i, .int .i64 s.o, .int .i64 s.m, .string s.code] 65)).heap[w.heap.size]? = some (.cells #[.slice (some ⟨b, off, none⟩) sl cap, .string d] 40 (0, 0)) := (Below.heap_alloc _ _ _ (by simp)).trans (heap_alloc_new w _)
 have k1 : ((w.alloc (.cells #[.slice (some ⟨b, off, none⟩) sl cap, .string d] 40)).alloc (.cells #[.int .i64 s.i, .int .i64 s.o, .int .i64 s.m, .string s.code] 65)).heap[w.heap.size + 1]? = some (.cells #[.int .i64 s.i, .int .i64 s.o, .int .i64 s.m, .string s.code] 65 (0, 0)) := by
  have := heap_alloc_new (w.alloc (.cells #[.slice (some ⟨b, off, none⟩) sl cap, .string d] 40)) (.cells #[.int .i64 s.i, .int .i64 s.o, .int .i64 s.m, .string s.code] 65)
  simpa using this
 refine ⟨?_, ?_, ?_, ?_, ?_, ?_, by simp⟩
 ·rw [cell_of_block k0]; rfl
 ·rw [cell_of_block k0]; rfl
 ·rw [cell_of_block k1]; rfl
 ·rw [cell_of_block k1]; rfl
 ·rw [cell_of_block k1]; rfl
 ·rw [cell_of_block k1]; rfl
theorem ref_section (S : List Sec) (s : Sec) (d : ByteArray) (b off cap : Nat) (w : World) (hS : SecsAt w b off S) (hal : S.all secB = true) (hs1 : secB s = true) :
  Calls Tryz.prog 62 #[.agg #[.slice (some ⟨b, off, none⟩) S.length cap, .string d], .agg #[.int .i64 s.i, .int .i64 s.o, .int .i64 s.m, .string s.code]] w (SectPost w S s) := by
 obtain ⟨q1, q2, q3, q4⟩ := (secB_iff _).1 hs1
 have hb := hS.1
 have HS := hidc hS
 clear hS
 go_enter Tryz.func62, Tryz.ntmps62
 have HSM2 := hidc (SM.two w b off S.length cap d s)
 have HB2 := hidc (below2 w (.cells #[.slice (some ⟨b, off, none⟩) S.length cap, .string d] 40) (.cells #[.int .i64 s.i, .int .i64 s.o, .int .i64 s.m, .string s.code] 65))
 go_wp2_with fail
 refine (ref_all s.code _ q4.2).mono ?_
 rintro e w3 ⟨v, rfl, hb3, hall⟩
 have HB3 := hidc (HB2.out.trans (hb3.mono (by simp; omega)))
 have HSM3 := hidc (HSM2.out.below (by simp) hb3)
 have hsz3 : w.heap.size + 2 ≤ w3.heap.size := HSM3.out.le
 by_cases hsp : (splitE s.code).1 = 0
 case neg =>
  have HW := hidc (whole_split (S := S) hsp)
  have hle : (splitE s.code).1 ≤ 20 := splitE_le _
  obtain ⟨e1, e2⟩ : ∃ a c, splitE s.code = (a, c) := ⟨_, _, rfl⟩
  generalize hsq : splitE s.code = sq at *
  obtain ⟨ea, ep⟩ := sq
  simp only at hsp hle
  have hne : ((ea : Int) == 0) = false := by simp; omega
  clear hall hb3 HSM2 HB2 e1 e2 hsq
  go_wp2_with fail
  go_ret2
  exact ⟨by rw [HW.out]; rfl, HB3.out⟩
 case pos =>
  obtain ⟨hch, xs, hmem⟩ := hall hsp
  have HSP := hidc hsp
  have HCH := hidc (chained hch)
  have hl0 : 0 < (codeI s.code).length := by
   cases hcl : codeI s.code with
   | nil => rw [hcl] at hch; have : (0 : Nat) = s.code.size := hch; omega
   | cons _ _ => simp
  have hlen : (codeI s.code).length ≤ 120 := by have := chain_len hch; omega
  obtain ⟨g, cc, rfl, hri, hnil⟩ := hmem.rins hl0
  have HRI := hidc hri
  have HNIL := hidc hnil
  have hg3 : g < w3.heap.size := hri.lt
  have HWH1 := hidc (fun k x (hk : (codeI s.code)[k]? = some x) h he => whole_ref (S := S) (s := s) hsp hk h he)
  have HWH2 := hidc (fun (hr : ∀ (j : Nat) (y : Ins), (codeI s.code)[j]? = some y → refE S (codeI s.code) y = 0) k x (hk : (codeI s.code)[k]? = some x) h he => whole_flow (S := S) (s := s) hsp hr hk h he)
  have HWH3 := hidc (fun (hr : ∀ (j : Nat) (y : Ins), (codeI s.code)[j]? = some y → refE S (codeI s.code) y = 0) h => whole_sums (S := S) (s := s) hsp hr h)
  rw [hsp]
  clear hall hb3 hmem hri hnil hch hsp HSP HSM2 HB2
  generalize hlq : codeI s.code = l at *
  have HLQ := hidc hlq
  clear hlq
  generalize (splitE s.code).2 = sp2 at *
  obtain ⟨u0, u1, v0, v1, v2, v3, _⟩ := HSM3.out
  go_wp2_with fail
  go_loopw [10] (fun iv wr => ∃ k : Nat, k ≤ l.length ∧ iv = .int .i64 k ∧ Hid (∀ (j : Nat) (y : Ins), j < k → l[j]? = some y → refE S l y = 0) ∧ Hid (Below w3.heap.size w3 wr)) (fun iv _ => l.length - (intOf iv).toNat)
  case atStart => exact ⟨0, Nat.zero_le _, rfl, fun j _ hj => by omega, Below.refl _ _⟩
  case round =>
   obtain ⟨k, hk, rfl, HA, HBL⟩ := hrel
   have hszr : w3.heap.size ≤ wr.heap.size := HBL.out.size
   have HSMr := hidc (HSM3.out.below hsz3 HBL.out)
   have HBr := hidc (HB3.out.trans (HBL.out.mono (by omega)))
   have HRr := hidc (HRI.out.below HBL.out)
   obtain ⟨ru0, ru1, rv0, rv1, rv2, rv3, _⟩ := HSMr.out
   by_cases hkl : k < l.length
   ·have hxk : l[k]? = some l[k] := by simp [hkl]
    generalize l[k] = x at *
    obtain ⟨c0, c1, ⟨N, c2, hN⟩, ⟨ta, tc, c3, hT⟩, c4⟩ := HRr.out.cells k x hxk
    have HXK := hidc hxk
    have HN := hidc hN
    have HNK := hidc ((HNIL.out.below hg3 HBL.out) k x ta tc hxk c3)
    have HT := hidc hT
    have hto := (HCH.out.op k x hxk).2.2
    clear hxk hN hT
    have HRF := hidc (refE_le S l x)
    generalize hre : refE S l x = re at *
    have HRE := hidc hre
    clear hre
    go_wp2_with fail
    refine wp_region_held_drew (S := fun w' => (w'.cell? ⟨w.heap.size, 0, none⟩ = some (.slice (some ⟨b, off, none⟩) S.length cap) ∧ w'.cell? ⟨w.heap.size, 1, none⟩ = some (.string d)) ∧ w'.cell? ⟨g, k * 5, none⟩ = some (.int .i64 x.pl) ∧ w'.cell? ⟨g, k * 5 + 1, none⟩ = some (.int .i64 x.op) ∧ w'.cell? ⟨g, k * 5 + 2, none⟩ = some (.int .i64 N) ∧ w'.cell? ⟨g, k * 5 + 3, none⟩ = some (.slice ta x.to.length tc) ∧ w'.cell? ⟨g, k * 5 + 4, none⟩ = some (.int .i64 x.nx)) (by kernel_rfl) ⟨⟨ru0, ru1⟩, c0, c1, c2, c3, c4⟩ (fun hHeld => ?_)
    refine tk 0 ?vn0 rfl ?hyn0 hHeld ?restn0
    case hyn0 => rintro w ⟨⟨a0, a1⟩, b0, b1, b2, b3, b4⟩; go_simp; try with_reducible rfl
    simp only [Act.put, aA, aB, aC, aD, aE]
    refine tk 1 ?vn1 rfl ?hyn1 hHeld ?restn1
    case hyn1 => rintro w ⟨⟨a0, a1⟩, b0, b1, b2, b3, b4⟩; go_simp; try with_reducible rfl
    simp only [Act.put, aA, aB, aC, aD, aE, aF]
    refine tk 2 ?vn2 rfl ?hyn2 hHeld ?restn2
    case hyn2 => rintro w ⟨⟨a0, a1⟩, b0, b1, b2, b3, b4⟩; go_simp; try with_reducible rfl
    simp only [Act.put, aA, aB, aC, aD, aE, aF]
    refine tk 3 ?vn3 rfl ?hyn3 hHeld ?restn3
    case hyn3 => rintro w ⟨⟨a0, a1⟩, b0, b1, b2, b3, b4⟩; go_simp; try with_reducible rfl
    simp only [Act.put, aA, aB, aC, aD, aE, aF]
    refine tk 4 ?vn4 rfl ?hyn4 hHeld ?restn4
    case hyn4 => rintro w ⟨⟨a0, a1⟩, b0, b1, b2, b3, b4⟩; go_simp; try with_reducible rfl
    simp only [Act.put, aA, aB, aC, aD, aE, aF]
    refine tk 5 ?vn5 rfl ?hyn5 hHeld ?restn5
    case hyn5 => rintro w ⟨⟨a0, a1⟩, b0, b1, b2, b3, b4⟩; go_simp; try with_reducible rfl
    simp only [Act.put, aA, aB, aC, aD, aE, aF]
    refine rd 6 rfl (fun K hK => ?_)
    simp only [aD, aE, aF]
    go_simp
    go_at_call 111
    refine (ref_named S d b off cap g cc l x N ta tc _ (HS.out.below (by omega) HBr.out.drew) (by show g < wr.heap.size; omega) (HRr.out.places) hlen ?hTos (by omega) HN.out).mono ?_
    case hTos => exact tosB_at0 (w := wr.drew) HT.out hszr (HNK.out)
    rw [HRE.out]
    rintro e w5 ⟨rfl, hb5⟩
    go_wp2_with fail
    have HB5 := hidc (((HBL.out.drew).trans (hb5.mono (by exact hszr))))
    refine hK.out _ _ ?hS5 (fun hHeld => ?_)
    case hS5 =>
     obtain ⟨⟨a0, a1⟩, b0, b1, b2, b3, b4⟩ := hHeld
     have hc := fun g i (h : g < wr.heap.size) => (bcell hb5).1 g i h
     exact ⟨⟨(hc _ _ (by omega)).trans a0, (hc _ _ (by omega)).trans a1⟩, (hc _ _ (by omega)).trans b0, (hc _ _ (by omega)).trans b1, (hc _ _ (by omega)).trans b2, (hc _ _ (by omega)).trans b3, (hc _ _ (by omega)).trans b4⟩
    clear hK hb5
    refine tk 7 ?vm7 rfl ?hym7 hHeld ?restm7
    case hym7 => rintro w ⟨⟨a0, a1⟩, b0, b1, b2, b3, b4⟩; go_simp; try with_reducible rfl
    simp only [Act.put, aA, aB, aC, aD, aE, aF]
    refine wpAnyH_done (by kernel_rfl) ?_ _
    obtain ⟨⟨a0, a1⟩, b0, b1, b2, b3, b4⟩ := hHeld
    by_cases h0 : re = 0
    ·subst h0
     clear a0 a1 b0 b1 b2 b3 b4 c0 c1 c2 c3 c4 ru0 ru1 rv0 rv1 rv2 rv3
     go_wp2_with fail
     refine ⟨⟨k + 1, by omega, by first | rfl | go_num, ?_, HB5.out⟩, ?_⟩
     ·intro j y hj hy
      by_cases e : j = k
      ·subst e
       have := HXK.out.symm.trans hy
       injection this with this
       rw [← this]
       exact HRE.out
      ·exact HA.out j y (by omega) hy
     ·simp [intOf]; omega
    ·have hne : ((re : Int) == 0) = false := by simp; omega
     have HW := hidc (HWH1.out k x (HXK.out) HA.out (by rw [HRE.out]; exact h0))
     clear c0 c1 c2 c3 c4 ru0 ru1 rv0 rv1 rv2 rv3
     go_wp2_with fail
     go_quiet (fail)
     go_wp2_with fail
     go_ret2
     exact ⟨by rw [HW.out, HRE.out]; rfl, bdr (HB3.out.trans (HB5.out.mono (by omega))) _⟩
   ·have HREF : Hid (∀ (j : Nat) (y : Ins), l[j]? = some y → refE S l y = 0) := by
     intro j y hy
     have := (List.getElem?_eq_some_iff.1 hy).1
     exact HA.out j y (by omega) hy
    have hkm : k = l.length := by omega
    subst hkm
    clear HA
    have HBB := hidc HBr.out
    have hmk := make_ints l.length (by omega)
    go_wp2_with fail
    refine wp_region_held_drew (S := fun _ => True) (by kernel_rfl) trivial (fun hHeld => ?_)
    refine tk 0 ?vp0 rfl ?hyp0 hHeld ?restp0
    case hyp0 => intro w hSw; (try dsimp only at hSw); go_simp; try with_reducible rfl
    simp only [Act.put, aA, aB, aC, aD, aE]
    refine tk 1 ?vp1 rfl ?hyp1 hHeld ?restp1
    case hyp1 => intro w hSw; (try dsimp only at hSw); go_simp; try with_reducible rfl
    simp only [Act.put, aA, aB, aC, aD, aE, aF]
    refine tk 3 ?vp3 rfl ?hyp3 hHeld ?restp3
    case hyp3 => intro w hSw; (try dsimp only at hSw); go_simp; try with_reducible rfl
    simp only [Act.put, aA, aB, aC, aD, aE, aF]
    refine tk 4 ?vp4 rfl ?hyp4 hHeld ?restp4
    case hyp4 => intro w hSw; (try dsimp only at hSw); go_simp; try with_reducible rfl
    simp only [Act.put, aA, aB, aC, aD, aE, aF]
    refine wpAnyH_ready (rs := [2, 5]) (by kernel_rfl) (by simp) ?_
    refine AllReadyH.cons (i := 2) rfl (fun K hK => ?gtwo) (AllReadyH.cons (i := 5) rfl (fun K hK => ?gfive) AllReadyH.nil)
    case gtwo =>
     generalize hw5 : wr = w5 at *
     clear hw5
     simp only [aD, aE, aF]
     go_simp
     refine hK.out _ _ trivial (fun hHeld => ?_)
     clear hK
     refine rd 5 rfl (fun K hK => ?_)
     simp only [aD, aE, aF]
     go_simp
     refine hK.out _ _ trivial (fun hHeld => ?_)
     clear hK
     refine tk 6 ?vgtwoq6 rfl ?hygtwoq6 hHeld ?restgtwoq6
     case hygtwoq6 => intro w hSw; (try dsimp only at hSw); go_simp; try with_reducible rfl
     simp only [Act.put, aA, aB, aC, aD, aE, aF]
     refine rd 7 rfl (fun K hK => ?_)
     simp only [aD, aE, aF]
     go_simp
     refine hK.out _ _ trivial (fun hHeld => ?_)
     clear hK
     refine tk 8 ?vgtwor8 rfl ?hygtwor8 hHeld ?restgtwor8
     case hygtwor8 => intro w hSw; (try dsimp only at hSw); go_simp; try with_reducible rfl
     simp only [Act.put, aA, aB, aC, aD, aE, aF]
     refine wpAnyH_done (by kernel_rfl) ?_ _
     clear hHeld
     obtain ⟨hA0, hC0, hP0, hB6, hS6⟩ := made3 w5 (.cells (Array.replicate l.length (.int .i64 0)) 3) (.cells (Array.replicate l.length (.int .i64 0)) 3) (.cells #[.slice (some ⟨w5.heap.size, 0, none⟩) l.length l.length, .slice (some ⟨w5.heap.size + 1, 0, none⟩) l.length l.length] 154)
     generalize (((w5.alloc (.cells (Array.replicate l.length (.int .i64 0)) 3)).alloc (.cells (Array.replicate l.length (.int .i64 0)) 3)).alloc (.cells #[.slice (some ⟨w5.heap.size, 0, none⟩) l.length l.length, .slice (some ⟨w5.heap.size + 1, 0, none⟩) l.length l.length] 154)).drew = w6 at *
     rw [← halfV_zero] at hA0 hC0
     have hs6 : w5.heap.size + 3 ≤ w6.heap.size := by omega
     generalize hPg : w5.heap.size + 2 = P at *
     generalize hXg : w5.heap.size + 1 = XX at *
     have hAd : w5.heap.size ≤ w5.heap.size := by omega
     have hCd : w5.heap.size ≤ XX := by omega
     have hAC : w5.heap.size ≠ XX := by omega
     have hPA : P ≠ w5.heap.size := by omega
     have hPC : P ≠ XX := by omega
     have hPd : w5.heap.size ≤ P := by omega
     have HA0 := hidc hA0
     have HC0 := hidc hC0
     have HP0 := hidc hP0
     have HB6 := hidc hB6
     clear hA0 hC0 hP0 hB6 hS6 hXg hPg hmk
     have HNL := hidc hlen
     clear ru0 ru1 rv0 rv1 rv2 rv3
     go_wp2_with fail
     go_loopw [12] (fun iv wk => ∃ k : Nat, k ≤ l.length ∧ iv = .int .i64 k ∧ Hid (wk.heap[P]? = some (.cells #[.slice (some ⟨w5.heap.size, 0, none⟩) l.length l.length, .slice (some ⟨XX, 0, none⟩) l.length l.length] 154 (0, 0))) ∧ Hid (wk.heap[w5.heap.size]? = some (.cells (halfV l.length k) 3 (0, 0))) ∧ Hid (wk.heap[XX]? = some (.cells (halfV l.length k) 3 (0, 0))) ∧ Hid (Below w5.heap.size w5 wk)) (fun iv _ => l.length - (intOf iv).toNat)
     case atStart => exact ⟨0, Nat.zero_le _, rfl, HP0.out, HA0.out, HC0.out, HB6.out⟩
     case round =>
      clear HP0 HA0 HC0
      obtain ⟨k, hk, rfl, HP, HLA, HLC, HBk⟩ := hrel
      have hszk : w5.heap.size ≤ wr.heap.size := HBk.out.size
      have hP1 : P < wr.heap.size := blt HP.out
      have hA1 : w5.heap.size < wr.heap.size := blt HLA.out
      have hC1 : XX < wr.heap.size := blt HLC.out
      have p0 : wr.cell? ⟨P, 0, none⟩ = some (.slice (some ⟨w5.heap.size, 0, none⟩) l.length l.length) := by rw [cell_of_block HP.out]; rfl
      have p1 : wr.cell? ⟨P, 1, none⟩ = some (.slice (some ⟨XX, 0, none⟩) l.length l.length) := by rw [cell_of_block HP.out]; rfl
      by_cases hkl2 : k < l.length
      ·obtain ⟨x1, hx1⟩ : ∃ x1, wr.cell? ⟨w5.heap.size, k, none⟩ = some x1 := by
        rw [cell_of_block HLA.out]
        exact halfV_some l.length k hkl2
       obtain ⟨y1, hy1⟩ : ∃ y1, wr.cell? ⟨XX, k, none⟩ = some y1 := by
        rw [cell_of_block HLC.out]
        exact halfV_some l.length k hkl2
       have f1 : wr.frozen? ⟨w5.heap.size, k, none⟩ = false := unfrozen_of_block HLA.out k
       have f2 : wr.frozen? ⟨XX, k, none⟩ = false := unfrozen_of_block HLC.out k
       have NP : Hid (((wr.setCell ⟨w5.heap.size, k, none⟩ (.int .i64 (-1))).setCell ⟨XX, k, none⟩ (.int .i64 (-1))).heap[P]? = some (.cells #[.slice (some ⟨w5.heap.size, 0, none⟩) l.length l.length, .slice (some ⟨XX, 0, none⟩) l.length l.length] 154 (0, 0))) := (Below.heap_setCell _ _ _ _ hPC).trans ((Below.heap_setCell _ _ _ _ hPA).trans HP.out)
       have NA : Hid (((wr.setCell ⟨w5.heap.size, k, none⟩ (.int .i64 (-1))).setCell ⟨XX, k, none⟩ (.int .i64 (-1))).heap[w5.heap.size]? = some (.cells (halfV l.length (k + 1)) 3 (0, 0))) := by
        rw [← halfV_set l.length k hkl2]
        exact (Below.heap_setCell _ _ _ _ hAC).trans (block_setCell HLA.out _)
       have NC : Hid (((wr.setCell ⟨w5.heap.size, k, none⟩ (.int .i64 (-1))).setCell ⟨XX, k, none⟩ (.int .i64 (-1))).heap[XX]? = some (.cells (halfV l.length (k + 1)) 3 (0, 0))) := by
        rw [← halfV_set l.length k hkl2]
        exact block_setCell ((Below.heap_setCell _ _ _ _ (Ne.symm hAC)).trans HLC.out) _
       go_wp2_with fail
       go_roundw
       case rel => exact ⟨k + 1, by omega, by go_num, NP.out, NA.out, NC.out, (HBk.out.setCell hAd _).setCell hCd _⟩
       case measure => simp [intOf]; omega
      ·obtain rfl : k = l.length := by omega
       have HHR : Hid (HR wr P w5.heap.size XX (List.replicate l.length none)) := by
        obtain ⟨e1, e2⟩ := halfV_full l.length
        have q1 := HLA.out
        have q2 := HLC.out
        rw [e1] at q1
        rw [e2] at q2
        exact ⟨by rw [List.length_replicate]; exact HP.out, q1, q2, hAC, hPA, hPC⟩
       clear HLA HLC HP
       generalize hwk : wr = w7 at *
       clear hwk
       have HSM7 := hidc (HSMr.out.below (B := w5.heap.size) (by have := HSMr.out.le; omega) HBk.out)
       obtain ⟨tu0, tu1, tv0, tv1, tv2, tv3, _⟩ := HSM7.out
       obtain ⟨ca, ch⟩ := HHR.out.cells 0 (by rw [List.length_replicate]; exact hl0)
       obtain ⟨fa, fh⟩ := HHR.out.froz 0
       have hne1 : w.heap.size + 1 ≠ w5.heap.size := by omega
       have hne2 : w.heap.size + 1 ≠ XX := by omega
       go_wp2_with fail
       have cad : w7.drew.cell? ⟨w5.heap.size, 0, none⟩ = some (.int .i64 (loN ((List.replicate l.length none).getD 0 none))) := ca
       have fad : w7.drew.frozen? ⟨w5.heap.size, 0, none⟩ = false := fa
       refine wp_region_held_drew (S := fun w' => w'.cell? ⟨P, 0, none⟩ = some (.slice (some ⟨w5.heap.size, 0, none⟩) l.length l.length) ∧ w'.cell? ⟨w.heap.size + 1, 0, none⟩ = some (.int .i64 s.i)) (by kernel_rfl) ⟨p0, tv0⟩ (fun hHeld => ?_)
       refine tk 0 ?vgtwou0 rfl ?hygtwou0 hHeld ?restgtwou0
       case hygtwou0 => rintro w ⟨z0, z1⟩; go_simp; try with_reducible rfl
       simp only [Act.put, aA, aB, aC, aD, aE]
       refine tk 1 ?vgtwou1 rfl ?hygtwou1 hHeld ?restgtwou1
       case hygtwou1 => rintro w ⟨z0, z1⟩; go_simp; try with_reducible rfl
       simp only [Act.put, aA, aB, aC, aD, aE, aF]
       refine tk 2 ?vgtwou2 rfl ?hygtwou2 hHeld ?restgtwou2
       case hygtwou2 => rintro w ⟨z0, z1⟩; go_simp; try with_reducible rfl
       simp only [Act.put, aA, aB, aC, aD, aE, aF]
       refine tk 3 ?vgtwou3 rfl ?hygtwou3 hHeld ?restgtwou3
       case hygtwou3 => rintro w ⟨z0, z1⟩; go_simp; try with_reducible rfl
       simp only [Act.put, aA, aB, aC, aD, aE, aF]
       refine tk 4 ?vgtwou4 rfl ?hygtwou4 hHeld ?restgtwou4
       case hygtwou4 => rintro w ⟨z0, z1⟩; go_simp; try with_reducible rfl
       simp only [Act.put, aA, aB, aC, aD, aE, aF]
       refine tk 5 ?vgtwou5 rfl ?hygtwou5 hHeld ?restgtwou5
       case hygtwou5 => rintro w ⟨z0, z1⟩; go_simp; try with_reducible rfl
       simp only [Act.put, aA, aB, aC, aD, aE, aF]
       refine tk 6 ?vgtwou6 rfl ?hygtwou6 hHeld ?restgtwou6
       case hygtwou6 => rintro w ⟨z0, z1⟩; go_simp; try with_reducible rfl
       simp only [Act.put, aA, aB, aC, aD, aE, aF]
       refine rd 7 rfl (fun K hK => ?_)
       simp only [aD, aE, aF]
       go_simp
       refine hK.out _ _ ⟨(set_other _ hPA).trans hHeld.1, (set_other _ hne1).trans hHeld.2⟩ (fun hHeld => ?_)
       clear hK
       refine wpAnyH_done (by kernel_rfl) ?_ _
       go_wp2_with fail
       have chd : (w7.drew.setCell ⟨w5.heap.size, 0, none⟩ (.int .i64 s.i)).drew.cell? ⟨XX, 0, none⟩ = some (.int .i64 (hiN ((List.replicate l.length none).getD 0 none))) := (set_other _ (Ne.symm hAC)).trans ch
       have fhd : (w7.drew.setCell ⟨w5.heap.size, 0, none⟩ (.int .i64 s.i)).drew.frozen? ⟨XX, 0, none⟩ = false := (World.frozen?_of_block (w := w7) (Below.heap_setCell _ _ _ _ (Ne.symm hAC))).trans fh
       refine wp_region_held_drew (S := fun w' => w'.cell? ⟨P, 1, none⟩ = some (.slice (some ⟨XX, 0, none⟩) l.length l.length) ∧ w'.cell? ⟨w.heap.size + 1, 0, none⟩ = some (.int .i64 s.i)) (by kernel_rfl) ⟨(set_other _ hPA).trans p1, hHeld.2⟩ (fun hHeld => ?_)
       refine tk 0 ?vgtwov0 rfl ?hygtwov0 hHeld ?restgtwov0
       case hygtwov0 => rintro w ⟨z0, z1⟩; go_simp; try with_reducible rfl
       simp only [Act.put, aA, aB, aC, aD, aE]
       refine tk 1 ?vgtwov1 rfl ?hygtwov1 hHeld ?restgtwov1
       case hygtwov1 => rintro w ⟨z0, z1⟩; go_simp; try with_reducible rfl
       simp only [Act.put, aA, aB, aC, aD, aE, aF]
       refine tk 2 ?vgtwov2 rfl ?hygtwov2 hHeld ?restgtwov2
       case hygtwov2 => rintro w ⟨z0, z1⟩; go_simp; try with_reducible rfl
       simp only [Act.put, aA, aB, aC, aD, aE, aF]
       refine tk 3 ?vgtwov3 rfl ?hygtwov3 hHeld ?restgtwov3
       case hygtwov3 => rintro w ⟨z0, z1⟩; go_simp; try with_reducible rfl
       simp only [Act.put, aA, aB, aC, aD, aE, aF]
       refine tk 4 ?vgtwov4 rfl ?hygtwov4 hHeld ?restgtwov4
       case hygtwov4 => rintro w ⟨z0, z1⟩; go_simp; try with_reducible rfl
       simp only [Act.put, aA, aB, aC, aD, aE, aF]
       refine tk 5 ?vgtwov5 rfl ?hygtwov5 hHeld ?restgtwov5
       case hygtwov5 => rintro w ⟨z0, z1⟩; go_simp; try with_reducible rfl
       simp only [Act.put, aA, aB, aC, aD, aE, aF]
       refine tk 6 ?vgtwov6 rfl ?hygtwov6 hHeld ?restgtwov6
       case hygtwov6 => rintro w ⟨z0, z1⟩; go_simp; try with_reducible rfl
       simp only [Act.put, aA, aB, aC, aD, aE, aF]
       refine rd 7 rfl (fun K hK => ?_)
       simp only [aD, aE, aF]
       go_simp
       refine hK.out _ _ ⟨(set_other _ hPC).trans hHeld.1, (set_other _ hne2).trans hHeld.2⟩ (fun hHeld => ?_)
       clear hK
       refine wpAnyH_done (by kernel_rfl) ?_ _
       have hh8 := HHR.out.set 0 s.i s.i
       have HH8 : Hid (HR ((w7.setCell ⟨w5.heap.size, 0, none⟩ (.int .i64 s.i)).setCell ⟨XX, 0, none⟩ (.int .i64 s.i)).drew.drew P w5.heap.size XX (hsAt S s l 0)) := ⟨hh8.blk, hh8.lo, hh8.hi, hh8.ne⟩
       have HB8 : Hid (Below w3.heap.size w3 ((w7.setCell ⟨w5.heap.size, 0, none⟩ (.int .i64 s.i)).setCell ⟨XX, 0, none⟩ (.int .i64 s.i)).drew.drew) := ((((HBL.out.trans (HBk.out.mono hszr)).setCell (by show w3.heap.size ≤ w5.heap.size; omega) _).setCell (by show w3.heap.size ≤ XX; omega) _).drew).drew
       clear hh8 hHeld chd fhd cad fad ca ch fa fh tu0 tu1 tv0 tv1 tv2 tv3 HHR p0 p1
       go_wp2_with fail
       generalize ((w7.setCell ⟨w5.heap.size, 0, none⟩ (.int .i64 s.i)).setCell ⟨XX, 0, none⟩ (.int .i64 s.i)).drew.drew = w8 at *
       go_loopw [9, 13, 14] (fun bv gv iv wk => ∃ k : Nat, k ≤ l.length ∧ bv = .bool ((l.take k).any (returnsB S)) ∧ gv = .int .i64 (greatH (hsAt S s l k) k) ∧ iv = .int .i64 k ∧ Hid (∀ j, j < k → flowE S s l j = 0) ∧ Hid (HR wk P w5.heap.size XX (hsAt S s l k)) ∧ Hid (Below w3.heap.size w3 wk)) (fun _ _ iv _ => l.length - (intOf iv).toNat)
       case atStart => exact ⟨0, Nat.zero_le _, by simp, rfl, rfl, fun j hj => by omega, HH8.out, HB8.out⟩
       case round =>
        obtain ⟨k, hk, rfl, rfl, rfl, HFL, HHk, HBk3⟩ := hrel
        have HSM9 := hidc (HSM3.out.below hsz3 HBk3.out)
        have hs39 : w3.heap.size ≤ wr.heap.size := HBk3.out.size
        obtain ⟨tu0, tu1, tv0, tv1, tv2, tv3, _⟩ := HSM9.out
        have HBw := hidc (HB3.out.trans (HBk3.out.mono (by omega)))
        generalize hbk : (l.take k).any (returnsB S) = bk at *
        generalize hgk : greatH (hsAt S s l k) k = gk at *
        have HBKK := hidc hbk
        have HGK := hidc hgk
        clear hbk hgk
        by_cases hkn : k < l.length
        ·have hxk : l[k]? = some l[k] := by simp [hkn]
         generalize l[k] = x at *
         have HXK := hidc hxk
         have HR9 := hidc (HRI.out.below HBk3.out)
         have hop := HCH.out.op k x hxk
         have HRX := hidc (ref_names (HREF.out k x hxk))
         have HXN : Hid (∀ y ∈ l, (y.op = 2 ∨ y.n < 256) ∧ (namesB y = true → y.n < S.length)) := by
          intro y hy
          obtain ⟨j, hj, rfl⟩ := List.getElem_of_mem hy
          have hq : l[j]? = some l[j] := by simp [hj]
          exact ⟨(HCH.out.op j _ hq).2.1, (ref_names (HREF.out j _ hq)).1⟩
         have HSMALL : Hid (Small 40000 (hsAt S s l k)) := (small_hsAt hal hs1 HXN.out k hk).mono (by omega)
         have HNNEG := hidc (nneg_hsAt hal hs1 HXN.out k hk HFL.out)
         have HFP := hidc (flow_pass (S := S) (s := s) hxk)
         have hfle := whole_le2 S s l k
         clear hxk
         generalize hfe : flowE S s l k = fe at *
         have HFE := hidc hfe
         clear hfe
         go_wp2_with fail
         refine (ref_pass S s d b off cap g cc w3.heap.size P w5.heap.size XX k l x (hsAt S s l k) _ (HS.out.below (by omega) HBw.out) (by omega) HR9.out HHk.out ⟨by omega, by omega⟩ (hsAt_length S s l k) HXK.out hlen HNNEG.out HSMALL.out hal hs1 hop.1 hop.2.1 HRX.out.1 HRX.out.2 hop.2.2).mono ?_
         rintro e w9 ⟨rfl, hb9, hok⟩
         rw [← HFP.out] at hok
         rw [← HFP.out]
         have HB9 := hidc (HBk3.out.trans hb9)
         have HSMA := hidc (HSM9.out.below (by omega) hb9)
         have HRA := hidc (HR9.out.below hb9)
         have hs9 : w3.heap.size ≤ w9.heap.size := HB9.out.size
         have HOK := hidc hok
         clear hb9 hok tu0 tu1 tv0 tv1 tv2 tv3
         obtain ⟨c0, c1, ⟨N, c2, hN⟩, ⟨ta, tc, c3, hT⟩, c4⟩ := HRA.out.cells k x HXK.out
         have HN := hidc hN
         clear hN hT
         obtain ⟨tu0, tu1, tv0, tv1, tv2, tv3, _⟩ := HSMA.out
         by_cases hfz : fe = 0
         ·subst hfz
          obtain ⟨hs', hph, hhr⟩ := HOK.out rfl
          have hnx := hs_next HXK.out hph
          subst hnx
          have HGN := hidc (great_next (S := S) (s := s) (l := l) (k := k) HFE.out)
          have HAN := hidc (any_next (S := S) HXK.out)
          have HHA := hidc hhr
          clear hph hhr HOK
          obtain ⟨hp0, hp1⟩ := HHA.out.head
          rw [hsAt_length] at hp0 hp1
          obtain ⟨_, hhc⟩ := HHA.out.cells k (by rw [hsAt_length]; exact hkn)
          generalize hiN ((hsAt S s l (k + 1)).getD k none) = hv at *
          rw [HGK.out] at HGN
          rw [HBKK.out] at HAN
          cases bk with
          | true =>
           by_cases hmx : gk < hv
           ·have HMX0 := hidc hmx
            go_wp2_with fail
            refine wp_region_held_drew (S := fun w' => (w'.cell? ⟨w.heap.size, 0, none⟩ = some (.slice (some ⟨b, off, none⟩) S.length cap) ∧ w'.cell? ⟨w.heap.size, 1, none⟩ = some (.string d)) ∧ w'.cell? ⟨g, k * 5, none⟩ = some (.int .i64 x.pl) ∧ w'.cell? ⟨g, k * 5 + 1, none⟩ = some (.int .i64 x.op) ∧ w'.cell? ⟨g, k * 5 + 2, none⟩ = some (.int .i64 N) ∧ w'.cell? ⟨g, k * 5 + 3, none⟩ = some (.slice ta x.to.length tc) ∧ w'.cell? ⟨g, k * 5 + 4, none⟩ = some (.int .i64 x.nx)) (by kernel_rfl) ⟨⟨tu0, tu1⟩, c0, c1, c2, c3, c4⟩ (fun hHeld => ?_)
            refine tk 0 ?vgtwot1g0 rfl ?hygtwot1g0 hHeld ?restgtwot1g0
            case hygtwot1g0 => rintro w ⟨⟨a0, a1⟩, b0, b1, b2, b3, b4⟩; go_simp; try with_reducible rfl
            simp only [Act.put, aA, aB, aC, aD, aE]
            refine tk 1 ?vgtwot1g1 rfl ?hygtwot1g1 hHeld ?restgtwot1g1
            case hygtwot1g1 => rintro w ⟨⟨a0, a1⟩, b0, b1, b2, b3, b4⟩; go_simp; try with_reducible rfl
            simp only [Act.put, aA, aB, aC, aD, aE, aF]
            refine tk 2 ?vgtwot1g2 rfl ?hygtwot1g2 hHeld ?restgtwot1g2
            case hygtwot1g2 => rintro w ⟨⟨a0, a1⟩, b0, b1, b2, b3, b4⟩; go_simp; try with_reducible rfl
            simp only [Act.put, aA, aB, aC, aD, aE, aF]
            refine tk 3 ?vgtwot1g3 rfl ?hygtwot1g3 hHeld ?restgtwot1g3
            case hygtwot1g3 => rintro w ⟨⟨a0, a1⟩, b0, b1, b2, b3, b4⟩; go_simp; try with_reducible rfl
            simp only [Act.put, aA, aB, aC, aD, aE, aF]
            refine tk 4 ?vgtwot1g4 rfl ?hygtwot1g4 hHeld ?restgtwot1g4
            case hygtwot1g4 => rintro w ⟨⟨a0, a1⟩, b0, b1, b2, b3, b4⟩; go_simp; try with_reducible rfl
            simp only [Act.put, aA, aB, aC, aD, aE, aF]
            refine rd 5 rfl (fun K hK => ?_)
            simp only [aD, aE, aF]
            go_simp
            go_at_call 113
            refine (ref_returns S d b off cap x N (.slice ta x.to.length tc) _ (HS.out.below (by omega) (HB3.out.trans (HB9.out.mono (by omega))).drew) HN.out (fun h => HRX.out.1 (by simp [namesB, h]))).mono ?_
            rintro e wA ⟨rfl, hbA⟩
            go_wp2_with fail
            have HBA := hidc ((HB9.out.drew).trans (hbA.mono hs9))
            have HHB := hidc (HHA.out.below (show Below w9.heap.size w9 wA from ((Below.refl w9.heap.size w9).drew).trans hbA))
            refine hK.out _ _ ?hSAgtwot1 (fun hHeld => ?_)
            case hSAgtwot1 =>
             obtain ⟨⟨a0, a1⟩, b0, b1, b2, b3, b4⟩ := hHeld
             have hc := fun g i (h : g < w9.heap.size) => (bcell hbA).1 g i h
             exact ⟨⟨(hc _ _ (by omega)).trans a0, (hc _ _ (by omega)).trans a1⟩, (hc _ _ (by omega)).trans b0, (hc _ _ (by omega)).trans b1, (hc _ _ (by omega)).trans b2, (hc _ _ (by omega)).trans b3, (hc _ _ (by omega)).trans b4⟩
            clear hK hbA
            refine tk 6 ?vgtwot1h6 rfl ?hygtwot1h6 hHeld ?restgtwot1h6
            case hygtwot1h6 => rintro w ⟨⟨a0, a1⟩, b0, b1, b2, b3, b4⟩; go_simp; try with_reducible rfl
            simp only [Act.put, aA, aB, aC, aD, aE, aF]
            refine wpAnyH_done (by kernel_rfl) ?_ _
            clear hHeld
            go_wp2_with fail
            refine ⟨⟨k + 1, by omega, ?_, ?_, by first | rfl | go_num, ?_, HHB.out, HBA.out⟩, ?_⟩
            ·rw [HAN.out]; rfl
            ·rw [HGN.out, if_pos HMX0.out]
            ·intro j hj
             by_cases e : j = k
             ·subst e; exact HFE.out
             ·exact HFL.out j (by omega)
            ·simp [intOf]; omega
           ·have HMX0 := hidc hmx
            go_wp2_with fail
            refine wp_region_held_drew (S := fun w' => (w'.cell? ⟨w.heap.size, 0, none⟩ = some (.slice (some ⟨b, off, none⟩) S.length cap) ∧ w'.cell? ⟨w.heap.size, 1, none⟩ = some (.string d)) ∧ w'.cell? ⟨g, k * 5, none⟩ = some (.int .i64 x.pl) ∧ w'.cell? ⟨g, k * 5 + 1, none⟩ = some (.int .i64 x.op) ∧ w'.cell? ⟨g, k * 5 + 2, none⟩ = some (.int .i64 N) ∧ w'.cell? ⟨g, k * 5 + 3, none⟩ = some (.slice ta x.to.length tc) ∧ w'.cell? ⟨g, k * 5 + 4, none⟩ = some (.int .i64 x.nx)) (by kernel_rfl) ⟨⟨tu0, tu1⟩, c0, c1, c2, c3, c4⟩ (fun hHeld => ?_)
            refine tk 0 ?vgtwot2g0 rfl ?hygtwot2g0 hHeld ?restgtwot2g0
            case hygtwot2g0 => rintro w ⟨⟨a0, a1⟩, b0, b1, b2, b3, b4⟩; go_simp; try with_reducible rfl
            simp only [Act.put, aA, aB, aC, aD, aE]
            refine tk 1 ?vgtwot2g1 rfl ?hygtwot2g1 hHeld ?restgtwot2g1
            case hygtwot2g1 => rintro w ⟨⟨a0, a1⟩, b0, b1, b2, b3, b4⟩; go_simp; try with_reducible rfl
            simp only [Act.put, aA, aB, aC, aD, aE, aF]
            refine tk 2 ?vgtwot2g2 rfl ?hygtwot2g2 hHeld ?restgtwot2g2
            case hygtwot2g2 => rintro w ⟨⟨a0, a1⟩, b0, b1, b2, b3, b4⟩; go_simp; try with_reducible rfl
            simp only [Act.put, aA, aB, aC, aD, aE, aF]
            refine tk 3 ?vgtwot2g3 rfl ?hygtwot2g3 hHeld ?restgtwot2g3
            case hygtwot2g3 => rintro w ⟨⟨a0, a1⟩, b0, b1, b2, b3, b4⟩; go_simp; try with_reducible rfl
            simp only [Act.put, aA, aB, aC, aD, aE, aF]
            refine tk 4 ?vgtwot2g4 rfl ?hygtwot2g4 hHeld ?restgtwot2g4
            case hygtwot2g4 => rintro w ⟨⟨a0, a1⟩, b0, b1, b2, b3, b4⟩; go_simp; try with_reducible rfl
            simp only [Act.put, aA, aB, aC, aD, aE, aF]
            refine rd 5 rfl (fun K hK => ?_)
            simp only [aD, aE, aF]
            go_simp
            go_at_call 113
            refine (ref_returns S d b off cap x N (.slice ta x.to.length tc) _ (HS.out.below (by omega) (HB3.out.trans (HB9.out.mono (by omega))).drew) HN.out (fun h => HRX.out.1 (by simp [namesB, h]))).mono ?_
            rintro e wA ⟨rfl, hbA⟩
            go_wp2_with fail
            have HBA := hidc ((HB9.out.drew).trans (hbA.mono hs9))
            have HHB := hidc (HHA.out.below (show Below w9.heap.size w9 wA from ((Below.refl w9.heap.size w9).drew).trans hbA))
            refine hK.out _ _ ?hSAgtwot2 (fun hHeld => ?_)
            case hSAgtwot2 =>
             obtain ⟨⟨a0, a1⟩, b0, b1, b2, b3, b4⟩ := hHeld
             have hc := fun g i (h : g < w9.heap.size) => (bcell hbA).1 g i h
             exact ⟨⟨(hc _ _ (by omega)).trans a0, (hc _ _ (by omega)).trans a1⟩, (hc _ _ (by omega)).trans b0, (hc _ _ (by omega)).trans b1, (hc _ _ (by omega)).trans b2, (hc _ _ (by omega)).trans b3, (hc _ _ (by omega)).trans b4⟩
            clear hK hbA
            refine tk 6 ?vgtwot2h6 rfl ?hygtwot2h6 hHeld ?restgtwot2h6
            case hygtwot2h6 => rintro w ⟨⟨a0, a1⟩, b0, b1, b2, b3, b4⟩; go_simp; try with_reducible rfl
            simp only [Act.put, aA, aB, aC, aD, aE, aF]
            refine wpAnyH_done (by kernel_rfl) ?_ _
            clear hHeld
            go_wp2_with fail
            refine ⟨⟨k + 1, by omega, ?_, ?_, by first | rfl | go_num, ?_, HHB.out, HBA.out⟩, ?_⟩
            ·rw [HAN.out]; rfl
            ·rw [HGN.out, if_neg (Int.not_lt.2 HMX0.out)]
            ·intro j hj
             by_cases e : j = k
             ·subst e; exact HFE.out
             ·exact HFL.out j (by omega)
            ·simp [intOf]; omega
          | false =>
           by_cases hmx : gk < hv
           ·have HMX0 := hidc hmx
            go_wp2_with fail
            refine wp_region_held_drew (S := fun w' => (w'.cell? ⟨w.heap.size, 0, none⟩ = some (.slice (some ⟨b, off, none⟩) S.length cap) ∧ w'.cell? ⟨w.heap.size, 1, none⟩ = some (.string d)) ∧ w'.cell? ⟨g, k * 5, none⟩ = some (.int .i64 x.pl) ∧ w'.cell? ⟨g, k * 5 + 1, none⟩ = some (.int .i64 x.op) ∧ w'.cell? ⟨g, k * 5 + 2, none⟩ = some (.int .i64 N) ∧ w'.cell? ⟨g, k * 5 + 3, none⟩ = some (.slice ta x.to.length tc) ∧ w'.cell? ⟨g, k * 5 + 4, none⟩ = some (.int .i64 x.nx)) (by kernel_rfl) ⟨⟨tu0, tu1⟩, c0, c1, c2, c3, c4⟩ (fun hHeld => ?_)
            refine tk 0 ?vgtwof1g0 rfl ?hygtwof1g0 hHeld ?restgtwof1g0
            case hygtwof1g0 => rintro w ⟨⟨a0, a1⟩, b0, b1, b2, b3, b4⟩; go_simp; try with_reducible rfl
            simp only [Act.put, aA, aB, aC, aD, aE]
            refine tk 1 ?vgtwof1g1 rfl ?hygtwof1g1 hHeld ?restgtwof1g1
            case hygtwof1g1 => rintro w ⟨⟨a0, a1⟩, b0, b1, b2, b3, b4⟩; go_simp; try with_reducible rfl
            simp only [Act.put, aA, aB, aC, aD, aE, aF]
            refine tk 2 ?vgtwof1g2 rfl ?hygtwof1g2 hHeld ?restgtwof1g2
            case hygtwof1g2 => rintro w ⟨⟨a0, a1⟩, b0, b1, b2, b3, b4⟩; go_simp; try with_reducible rfl
            simp only [Act.put, aA, aB, aC, aD, aE, aF]
            refine tk 3 ?vgtwof1g3 rfl ?hygtwof1g3 hHeld ?restgtwof1g3
            case hygtwof1g3 => rintro w ⟨⟨a0, a1⟩, b0, b1, b2, b3, b4⟩; go_simp; try with_reducible rfl
            simp only [Act.put, aA, aB, aC, aD, aE, aF]
            refine tk 4 ?vgtwof1g4 rfl ?hygtwof1g4 hHeld ?restgtwof1g4
            case hygtwof1g4 => rintro w ⟨⟨a0, a1⟩, b0, b1, b2, b3, b4⟩; go_simp; try with_reducible rfl
            simp only [Act.put, aA, aB, aC, aD, aE, aF]
            refine rd 5 rfl (fun K hK => ?_)
            simp only [aD, aE, aF]
            go_simp
            go_at_call 113
            refine (ref_returns S d b off cap x N (.slice ta x.to.length tc) _ (HS.out.below (by omega) (HB3.out.trans (HB9.out.mono (by omega))).drew) HN.out (fun h => HRX.out.1 (by simp [namesB, h]))).mono ?_
            rintro e wA ⟨rfl, hbA⟩
            go_wp2_with fail
            have HBA := hidc ((HB9.out.drew).trans (hbA.mono hs9))
            have HHB := hidc (HHA.out.below (show Below w9.heap.size w9 wA from ((Below.refl w9.heap.size w9).drew).trans hbA))
            refine hK.out _ _ ?hSAgtwof1 (fun hHeld => ?_)
            case hSAgtwof1 =>
             obtain ⟨⟨a0, a1⟩, b0, b1, b2, b3, b4⟩ := hHeld
             have hc := fun g i (h : g < w9.heap.size) => (bcell hbA).1 g i h
             exact ⟨⟨(hc _ _ (by omega)).trans a0, (hc _ _ (by omega)).trans a1⟩, (hc _ _ (by omega)).trans b0, (hc _ _ (by omega)).trans b1, (hc _ _ (by omega)).trans b2, (hc _ _ (by omega)).trans b3, (hc _ _ (by omega)).trans b4⟩
            clear hK hbA
            refine tk 6 ?vgtwof1h6 rfl ?hygtwof1h6 hHeld ?restgtwof1h6
            case hygtwof1h6 => rintro w ⟨⟨a0, a1⟩, b0, b1, b2, b3, b4⟩; go_simp; try with_reducible rfl
            simp only [Act.put, aA, aB, aC, aD, aE, aF]
            refine wpAnyH_done (by kernel_rfl) ?_ _
            clear hHeld
            go_wp2_with fail
            refine ⟨⟨k + 1, by omega, ?_, ?_, by first | rfl | go_num, ?_, HHB.out, HBA.out⟩, ?_⟩
            ·rw [HAN.out]; rfl
            ·rw [HGN.out, if_pos HMX0.out]
            ·intro j hj
             by_cases e : j = k
             ·subst e; exact HFE.out
             ·exact HFL.out j (by omega)
            ·simp [intOf]; omega
           ·have HMX0 := hidc hmx
            go_wp2_with fail
            refine wp_region_held_drew (S := fun w' => (w'.cell? ⟨w.heap.size, 0, none⟩ = some (.slice (some ⟨b, off, none⟩) S.length cap) ∧ w'.cell? ⟨w.heap.size, 1, none⟩ = some (.string d)) ∧ w'.cell? ⟨g, k * 5, none⟩ = some (.int .i64 x.pl) ∧ w'.cell? ⟨g, k * 5 + 1, none⟩ = some (.int .i64 x.op) ∧ w'.cell? ⟨g, k * 5 + 2, none⟩ = some (.int .i64 N) ∧ w'.cell? ⟨g, k * 5 + 3, none⟩ = some (.slice ta x.to.length tc) ∧ w'.cell? ⟨g, k * 5 + 4, none⟩ = some (.int .i64 x.nx)) (by kernel_rfl) ⟨⟨tu0, tu1⟩, c0, c1, c2, c3, c4⟩ (fun hHeld => ?_)
            refine tk 0 ?vgtwof2g0 rfl ?hygtwof2g0 hHeld ?restgtwof2g0
            case hygtwof2g0 => rintro w ⟨⟨a0, a1⟩, b0, b1, b2, b3, b4⟩; go_simp; try with_reducible rfl
            simp only [Act.put, aA, aB, aC, aD, aE]
            refine tk 1 ?vgtwof2g1 rfl ?hygtwof2g1 hHeld ?restgtwof2g1
            case hygtwof2g1 => rintro w ⟨⟨a0, a1⟩, b0, b1, b2, b3, b4⟩; go_simp; try with_reducible rfl
            simp only [Act.put, aA, aB, aC, aD, aE, aF]
            refine tk 2 ?vgtwof2g2 rfl ?hygtwof2g2 hHeld ?restgtwof2g2
            case hygtwof2g2 => rintro w ⟨⟨a0, a1⟩, b0, b1, b2, b3, b4⟩; go_simp; try with_reducible rfl
            simp only [Act.put, aA, aB, aC, aD, aE, aF]
            refine tk 3 ?vgtwof2g3 rfl ?hygtwof2g3 hHeld ?restgtwof2g3
            case hygtwof2g3 => rintro w ⟨⟨a0, a1⟩, b0, b1, b2, b3, b4⟩; go_simp; try with_reducible rfl
            simp only [Act.put, aA, aB, aC, aD, aE, aF]
            refine tk 4 ?vgtwof2g4 rfl ?hygtwof2g4 hHeld ?restgtwof2g4
            case hygtwof2g4 => rintro w ⟨⟨a0, a1⟩, b0, b1, b2, b3, b4⟩; go_simp; try with_reducible rfl
            simp only [Act.put, aA, aB, aC, aD, aE, aF]
            refine rd 5 rfl (fun K hK => ?_)
            simp only [aD, aE, aF]
            go_simp
            go_at_call 113
            refine (ref_returns S d b off cap x N (.slice ta x.to.length tc) _ (HS.out.below (by omega) (HB3.out.trans (HB9.out.mono (by omega))).drew) HN.out (fun h => HRX.out.1 (by simp [namesB, h]))).mono ?_
            rintro e wA ⟨rfl, hbA⟩
            go_wp2_with fail
            have HBA := hidc ((HB9.out.drew).trans (hbA.mono hs9))
            have HHB := hidc (HHA.out.below (show Below w9.heap.size w9 wA from ((Below.refl w9.heap.size w9).drew).trans hbA))
            refine hK.out _ _ ?hSAgtwof2 (fun hHeld => ?_)
            case hSAgtwof2 =>
             obtain ⟨⟨a0, a1⟩, b0, b1, b2, b3, b4⟩ := hHeld
             have hc := fun g i (h : g < w9.heap.size) => (bcell hbA).1 g i h
             exact ⟨⟨(hc _ _ (by omega)).trans a0, (hc _ _ (by omega)).trans a1⟩, (hc _ _ (by omega)).trans b0, (hc _ _ (by omega)).trans b1, (hc _ _ (by omega)).trans b2, (hc _ _ (by omega)).trans b3, (hc _ _ (by omega)).trans b4⟩
            clear hK hbA
            refine tk 6 ?vgtwof2h6 rfl ?hygtwof2h6 hHeld ?restgtwof2h6
            case hygtwof2h6 => rintro w ⟨⟨a0, a1⟩, b0, b1, b2, b3, b4⟩; go_simp; try with_reducible rfl
            simp only [Act.put, aA, aB, aC, aD, aE, aF]
            refine wpAnyH_done (by kernel_rfl) ?_ _
            clear hHeld
            go_wp2_with fail
            refine ⟨⟨k + 1, by omega, ?_, ?_, by first | rfl | go_num, ?_, HHB.out, HBA.out⟩, ?_⟩
            ·rw [HAN.out]; rfl
            ·rw [HGN.out, if_neg (Int.not_lt.2 HMX0.out)]
            ·intro j hj
             by_cases e : j = k
             ·subst e; exact HFE.out
             ·exact HFL.out j (by omega)
            ·simp [intOf]; omega
         ·have hne : ((fe : Int) == 0) = false := by simp; omega
          have HW := hidc (HWH2.out HREF.out k x HXK.out HFL.out (by rw [HFE.out]; exact hfz))
          rw [HFE.out] at HW
          go_wp2_with fail
          go_quiet (fail)
          go_wp2_with fail
          go_ret2
          exact ⟨by rw [HW.out]; rfl, bdr (HB3.out.trans (HB9.out.mono (by omega))) _⟩
        ·obtain rfl : k = l.length := by omega
         have HW := hidc (HWH3.out HREF.out HFL.out)
         rw [List.take_length] at HBKK
         have HSU : Hid (sumsE S s l = if gk ≠ s.m then 15 else if bk == (s.o == 128) then 16 else 0) := by
          show sumsE S s l = if gk ≠ s.m then 15 else if bk == (s.o == 128) then 16 else 0
          unfold sumsE anyRet
          rw [HGK.out, HBKK.out]
         rw [HSU.out] at HW
         by_cases hgm : gk = s.m
         ·rw [if_neg (by simp [hgm])] at HW
          by_cases ho : s.o = 128
          ·have ho2 : (s.o == 128) = true := by simp [ho]
           rw [ho2] at HW
           cases bk with
           | true =>
            go_wp2_with fail
            go_ret2
            exact ⟨by rw [HW.out]; rfl, HBw.out⟩
           | false =>
            go_wp2_with fail
            go_ret2
            exact ⟨by rw [HW.out]; rfl, HBw.out⟩
          ·have ho2 : (s.o == 128) = false := by simp [ho]
           rw [ho2] at HW
           cases bk with
           | true =>
            go_wp2_with fail
            go_ret2
            exact ⟨by rw [HW.out]; rfl, HBw.out⟩
           | false =>
            go_wp2_with fail
            go_ret2
            exact ⟨by rw [HW.out]; rfl, HBw.out⟩
         ·rw [if_pos hgm] at HW
          go_wp2_with fail
          go_ret2
          exact ⟨by rw [HW.out]; rfl, HBw.out⟩
    case gfive =>
     generalize hw5 : wr = w5 at *
     clear hw5
     simp only [aD, aE, aF]
     go_simp
     refine hK.out _ _ trivial (fun hHeld => ?_)
     clear hK
     refine rd 2 rfl (fun K hK => ?_)
     simp only [aD, aE, aF]
     go_simp
     refine hK.out _ _ trivial (fun hHeld => ?_)
     clear hK
     refine tk 6 ?vgfiveq6 rfl ?hygfiveq6 hHeld ?restgfiveq6
     case hygfiveq6 => intro w hSw; (try dsimp only at hSw); go_simp; try with_reducible rfl
     simp only [Act.put, aA, aB, aC, aD, aE, aF]
     refine rd 7 rfl (fun K hK => ?_)
     simp only [aD, aE, aF]
     go_simp
     refine hK.out _ _ trivial (fun hHeld => ?_)
     clear hK
     refine tk 8 ?vgfiver8 rfl ?hygfiver8 hHeld ?restgfiver8
     case hygfiver8 => intro w hSw; (try dsimp only at hSw); go_simp; try with_reducible rfl
     simp only [Act.put, aA, aB, aC, aD, aE, aF]
     refine wpAnyH_done (by kernel_rfl) ?_ _
     clear hHeld
     obtain ⟨hC0, hA0, hP0, hB6, hS6⟩ := made3 w5 (.cells (Array.replicate l.length (.int .i64 0)) 3) (.cells (Array.replicate l.length (.int .i64 0)) 3) (.cells #[.slice (some ⟨w5.heap.size + 1, 0, none⟩) l.length l.length, .slice (some ⟨w5.heap.size, 0, none⟩) l.length l.length] 154)
     generalize (((w5.alloc (.cells (Array.replicate l.length (.int .i64 0)) 3)).alloc (.cells (Array.replicate l.length (.int .i64 0)) 3)).alloc (.cells #[.slice (some ⟨w5.heap.size + 1, 0, none⟩) l.length l.length, .slice (some ⟨w5.heap.size, 0, none⟩) l.length l.length] 154)).drew = w6 at *
     rw [← halfV_zero] at hA0 hC0
     have hs6 : w5.heap.size + 3 ≤ w6.heap.size := by omega
     generalize hPg : w5.heap.size + 2 = P at *
     generalize hXg : w5.heap.size + 1 = XX at *
     have hAd : w5.heap.size ≤ XX := by omega
     have hCd : w5.heap.size ≤ w5.heap.size := by omega
     have hAC : XX ≠ w5.heap.size := by omega
     have hPA : P ≠ XX := by omega
     have hPC : P ≠ w5.heap.size := by omega
     have hPd : w5.heap.size ≤ P := by omega
     have HA0 := hidc hA0
     have HC0 := hidc hC0
     have HP0 := hidc hP0
     have HB6 := hidc hB6
     clear hA0 hC0 hP0 hB6 hS6 hXg hPg hmk
     have HNL := hidc hlen
     clear ru0 ru1 rv0 rv1 rv2 rv3
     go_wp2_with fail
     go_loopw [12] (fun iv wk => ∃ k : Nat, k ≤ l.length ∧ iv = .int .i64 k ∧ Hid (wk.heap[P]? = some (.cells #[.slice (some ⟨XX, 0, none⟩) l.length l.length, .slice (some ⟨w5.heap.size, 0, none⟩) l.length l.length] 154 (0, 0))) ∧ Hid (wk.heap[XX]? = some (.cells (halfV l.length k) 3 (0, 0))) ∧ Hid (wk.heap[w5.heap.size]? = some (.cells (halfV l.length k) 3 (0, 0))) ∧ Hid (Below w5.heap.size w5 wk)) (fun iv _ => l.length - (intOf iv).toNat)
     case atStart => exact ⟨0, Nat.zero_le _, rfl, HP0.out, HA0.out, HC0.out, HB6.out⟩
     case round =>
      clear HP0 HA0 HC0
      obtain ⟨k, hk, rfl, HP, HLA, HLC, HBk⟩ := hrel
      have hszk : w5.heap.size ≤ wr.heap.size := HBk.out.size
      have hP1 : P < wr.heap.size := blt HP.out
      have hA1 : XX < wr.heap.size := blt HLA.out
      have hC1 : w5.heap.size < wr.heap.size := blt HLC.out
      have p0 : wr.cell? ⟨P, 0, none⟩ = some (.slice (some ⟨XX, 0, none⟩) l.length l.length) := by rw [cell_of_block HP.out]; rfl
      have p1 : wr.cell? ⟨P, 1, none⟩ = some (.slice (some ⟨w5.heap.size, 0, none⟩) l.length l.length) := by rw [cell_of_block HP.out]; rfl
      by_cases hkl2 : k < l.length
      ·obtain ⟨x1, hx1⟩ : ∃ x1, wr.cell? ⟨XX, k, none⟩ = some x1 := by
        rw [cell_of_block HLA.out]
        exact halfV_some l.length k hkl2
       obtain ⟨y1, hy1⟩ : ∃ y1, wr.cell? ⟨w5.heap.size, k, none⟩ = some y1 := by
        rw [cell_of_block HLC.out]
        exact halfV_some l.length k hkl2
       have f1 : wr.frozen? ⟨XX, k, none⟩ = false := unfrozen_of_block HLA.out k
       have f2 : wr.frozen? ⟨w5.heap.size, k, none⟩ = false := unfrozen_of_block HLC.out k
       have NP : Hid (((wr.setCell ⟨XX, k, none⟩ (.int .i64 (-1))).setCell ⟨w5.heap.size, k, none⟩ (.int .i64 (-1))).heap[P]? = some (.cells #[.slice (some ⟨XX, 0, none⟩) l.length l.length, .slice (some ⟨w5.heap.size, 0, none⟩) l.length l.length] 154 (0, 0))) := (Below.heap_setCell _ _ _ _ hPC).trans ((Below.heap_setCell _ _ _ _ hPA).trans HP.out)
       have NA : Hid (((wr.setCell ⟨XX, k, none⟩ (.int .i64 (-1))).setCell ⟨w5.heap.size, k, none⟩ (.int .i64 (-1))).heap[XX]? = some (.cells (halfV l.length (k + 1)) 3 (0, 0))) := by
        rw [← halfV_set l.length k hkl2]
        exact (Below.heap_setCell _ _ _ _ hAC).trans (block_setCell HLA.out _)
       have NC : Hid (((wr.setCell ⟨XX, k, none⟩ (.int .i64 (-1))).setCell ⟨w5.heap.size, k, none⟩ (.int .i64 (-1))).heap[w5.heap.size]? = some (.cells (halfV l.length (k + 1)) 3 (0, 0))) := by
        rw [← halfV_set l.length k hkl2]
        exact block_setCell ((Below.heap_setCell _ _ _ _ (Ne.symm hAC)).trans HLC.out) _
       go_wp2_with fail
       go_roundw
       case rel => exact ⟨k + 1, by omega, by go_num, NP.out, NA.out, NC.out, (HBk.out.setCell hAd _).setCell hCd _⟩
       case measure => simp [intOf]; omega
      ·obtain rfl : k = l.length := by omega
       have HHR : Hid (HR wr P XX w5.heap.size (List.replicate l.length none)) := by
        obtain ⟨e1, e2⟩ := halfV_full l.length
        have q1 := HLA.out
        have q2 := HLC.out
        rw [e1] at q1
        rw [e2] at q2
        exact ⟨by rw [List.length_replicate]; exact HP.out, q1, q2, hAC, hPA, hPC⟩
       clear HLA HLC HP
       generalize hwk : wr = w7 at *
       clear hwk
       have HSM7 := hidc (HSMr.out.below (B := w5.heap.size) (by have := HSMr.out.le; omega) HBk.out)
       obtain ⟨tu0, tu1, tv0, tv1, tv2, tv3, _⟩ := HSM7.out
       obtain ⟨ca, ch⟩ := HHR.out.cells 0 (by rw [List.length_replicate]; exact hl0)
       obtain ⟨fa, fh⟩ := HHR.out.froz 0
       have hne1 : w.heap.size + 1 ≠ XX := by omega
       have hne2 : w.heap.size + 1 ≠ w5.heap.size := by omega
       go_wp2_with fail
       have cad : w7.drew.cell? ⟨XX, 0, none⟩ = some (.int .i64 (loN ((List.replicate l.length none).getD 0 none))) := ca
       have fad : w7.drew.frozen? ⟨XX, 0, none⟩ = false := fa
       refine wp_region_held_drew (S := fun w' => w'.cell? ⟨P, 0, none⟩ = some (.slice (some ⟨XX, 0, none⟩) l.length l.length) ∧ w'.cell? ⟨w.heap.size + 1, 0, none⟩ = some (.int .i64 s.i)) (by kernel_rfl) ⟨p0, tv0⟩ (fun hHeld => ?_)
       refine tk 0 ?vgfiveu0 rfl ?hygfiveu0 hHeld ?restgfiveu0
       case hygfiveu0 => rintro w ⟨z0, z1⟩; go_simp; try with_reducible rfl
       simp only [Act.put, aA, aB, aC, aD, aE]
       refine tk 1 ?vgfiveu1 rfl ?hygfiveu1 hHeld ?restgfiveu1
       case hygfiveu1 => rintro w ⟨z0, z1⟩; go_simp; try with_reducible rfl
       simp only [Act.put, aA, aB, aC, aD, aE, aF]
       refine tk 2 ?vgfiveu2 rfl ?hygfiveu2 hHeld ?restgfiveu2
       case hygfiveu2 => rintro w ⟨z0, z1⟩; go_simp; try with_reducible rfl
       simp only [Act.put, aA, aB, aC, aD, aE, aF]
       refine tk 3 ?vgfiveu3 rfl ?hygfiveu3 hHeld ?restgfiveu3
       case hygfiveu3 => rintro w ⟨z0, z1⟩; go_simp; try with_reducible rfl
       simp only [Act.put, aA, aB, aC, aD, aE, aF]
       refine tk 4 ?vgfiveu4 rfl ?hygfiveu4 hHeld ?restgfiveu4
       case hygfiveu4 => rintro w ⟨z0, z1⟩; go_simp; try with_reducible rfl
       simp only [Act.put, aA, aB, aC, aD, aE, aF]
       refine tk 5 ?vgfiveu5 rfl ?hygfiveu5 hHeld ?restgfiveu5
       case hygfiveu5 => rintro w ⟨z0, z1⟩; go_simp; try with_reducible rfl
       simp only [Act.put, aA, aB, aC, aD, aE, aF]
       refine tk 6 ?vgfiveu6 rfl ?hygfiveu6 hHeld ?restgfiveu6
       case hygfiveu6 => rintro w ⟨z0, z1⟩; go_simp; try with_reducible rfl
       simp only [Act.put, aA, aB, aC, aD, aE, aF]
       refine rd 7 rfl (fun K hK => ?_)
       simp only [aD, aE, aF]
       go_simp
       refine hK.out _ _ ⟨(set_other _ hPA).trans hHeld.1, (set_other _ hne1).trans hHeld.2⟩ (fun hHeld => ?_)
       clear hK
       refine wpAnyH_done (by kernel_rfl) ?_ _
       go_wp2_with fail
       have chd : (w7.drew.setCell ⟨XX, 0, none⟩ (.int .i64 s.i)).drew.cell? ⟨w5.heap.size, 0, none⟩ = some (.int .i64 (hiN ((List.replicate l.length none).getD 0 none))) := (set_other _ (Ne.symm hAC)).trans ch
       have fhd : (w7.drew.setCell ⟨XX, 0, none⟩ (.int .i64 s.i)).drew.frozen? ⟨w5.heap.size, 0, none⟩ = false := (World.frozen?_of_block (w := w7) (Below.heap_setCell _ _ _ _ (Ne.symm hAC))).trans fh
       refine wp_region_held_drew (S := fun w' => w'.cell? ⟨P, 1, none⟩ = some (.slice (some ⟨w5.heap.size, 0, none⟩) l.length l.length) ∧ w'.cell? ⟨w.heap.size + 1, 0, none⟩ = some (.int .i64 s.i)) (by kernel_rfl) ⟨(set_other _ hPA).trans p1, hHeld.2⟩ (fun hHeld => ?_)
       refine tk 0 ?vgfivev0 rfl ?hygfivev0 hHeld ?restgfivev0
       case hygfivev0 => rintro w ⟨z0, z1⟩; go_simp; try with_reducible rfl
       simp only [Act.put, aA, aB, aC, aD, aE]
       refine tk 1 ?vgfivev1 rfl ?hygfivev1 hHeld ?restgfivev1
       case hygfivev1 => rintro w ⟨z0, z1⟩; go_simp; try with_reducible rfl
       simp only [Act.put, aA, aB, aC, aD, aE, aF]
       refine tk 2 ?vgfivev2 rfl ?hygfivev2 hHeld ?restgfivev2
       case hygfivev2 => rintro w ⟨z0, z1⟩; go_simp; try with_reducible rfl
       simp only [Act.put, aA, aB, aC, aD, aE, aF]
       refine tk 3 ?vgfivev3 rfl ?hygfivev3 hHeld ?restgfivev3
       case hygfivev3 => rintro w ⟨z0, z1⟩; go_simp; try with_reducible rfl
       simp only [Act.put, aA, aB, aC, aD, aE, aF]
       refine tk 4 ?vgfivev4 rfl ?hygfivev4 hHeld ?restgfivev4
       case hygfivev4 => rintro w ⟨z0, z1⟩; go_simp; try with_reducible rfl
       simp only [Act.put, aA, aB, aC, aD, aE, aF]
       refine tk 5 ?vgfivev5 rfl ?hygfivev5 hHeld ?restgfivev5
       case hygfivev5 => rintro w ⟨z0, z1⟩; go_simp; try with_reducible rfl
       simp only [Act.put, aA, aB, aC, aD, aE, aF]
       refine tk 6 ?vgfivev6 rfl ?hygfivev6 hHeld ?restgfivev6
       case hygfivev6 => rintro w ⟨z0, z1⟩; go_simp; try with_reducible rfl
       simp only [Act.put, aA, aB, aC, aD, aE, aF]
       refine rd 7 rfl (fun K hK => ?_)
       simp only [aD, aE, aF]
       go_simp
       refine hK.out _ _ ⟨(set_other _ hPC).trans hHeld.1, (set_other _ hne2).trans hHeld.2⟩ (fun hHeld => ?_)
       clear hK
       refine wpAnyH_done (by kernel_rfl) ?_ _
       have hh8 := HHR.out.set 0 s.i s.i
       have HH8 : Hid (HR ((w7.setCell ⟨XX, 0, none⟩ (.int .i64 s.i)).setCell ⟨w5.heap.size, 0, none⟩ (.int .i64 s.i)).drew.drew P XX w5.heap.size (hsAt S s l 0)) := ⟨hh8.blk, hh8.lo, hh8.hi, hh8.ne⟩
       have HB8 : Hid (Below w3.heap.size w3 ((w7.setCell ⟨XX, 0, none⟩ (.int .i64 s.i)).setCell ⟨w5.heap.size, 0, none⟩ (.int .i64 s.i)).drew.drew) := ((((HBL.out.trans (HBk.out.mono hszr)).setCell (by show w3.heap.size ≤ XX; omega) _).setCell (by show w3.heap.size ≤ w5.heap.size; omega) _).drew).drew
       clear hh8 hHeld chd fhd cad fad ca ch fa fh tu0 tu1 tv0 tv1 tv2 tv3 HHR p0 p1
       go_wp2_with fail
       generalize ((w7.setCell ⟨XX, 0, none⟩ (.int .i64 s.i)).setCell ⟨w5.heap.size, 0, none⟩ (.int .i64 s.i)).drew.drew = w8 at *
       go_loopw [9, 13, 14] (fun bv gv iv wk => ∃ k : Nat, k ≤ l.length ∧ bv = .bool ((l.take k).any (returnsB S)) ∧ gv = .int .i64 (greatH (hsAt S s l k) k) ∧ iv = .int .i64 k ∧ Hid (∀ j, j < k → flowE S s l j = 0) ∧ Hid (HR wk P XX w5.heap.size (hsAt S s l k)) ∧ Hid (Below w3.heap.size w3 wk)) (fun _ _ iv _ => l.length - (intOf iv).toNat)
       case atStart => exact ⟨0, Nat.zero_le _, by simp, rfl, rfl, fun j hj => by omega, HH8.out, HB8.out⟩
       case round =>
        obtain ⟨k, hk, rfl, rfl, rfl, HFL, HHk, HBk3⟩ := hrel
        have HSM9 := hidc (HSM3.out.below hsz3 HBk3.out)
        have hs39 : w3.heap.size ≤ wr.heap.size := HBk3.out.size
        obtain ⟨tu0, tu1, tv0, tv1, tv2, tv3, _⟩ := HSM9.out
        have HBw := hidc (HB3.out.trans (HBk3.out.mono (by omega)))
        generalize hbk : (l.take k).any (returnsB S) = bk at *
        generalize hgk : greatH (hsAt S s l k) k = gk at *
        have HBKK := hidc hbk
        have HGK := hidc hgk
        clear hbk hgk
        by_cases hkn : k < l.length
        ·have hxk : l[k]? = some l[k] := by simp [hkn]
         generalize l[k] = x at *
         have HXK := hidc hxk
         have HR9 := hidc (HRI.out.below HBk3.out)
         have hop := HCH.out.op k x hxk
         have HRX := hidc (ref_names (HREF.out k x hxk))
         have HXN : Hid (∀ y ∈ l, (y.op = 2 ∨ y.n < 256) ∧ (namesB y = true → y.n < S.length)) := by
          intro y hy
          obtain ⟨j, hj, rfl⟩ := List.getElem_of_mem hy
          have hq : l[j]? = some l[j] := by simp [hj]
          exact ⟨(HCH.out.op j _ hq).2.1, (ref_names (HREF.out j _ hq)).1⟩
         have HSMALL : Hid (Small 40000 (hsAt S s l k)) := (small_hsAt hal hs1 HXN.out k hk).mono (by omega)
         have HNNEG := hidc (nneg_hsAt hal hs1 HXN.out k hk HFL.out)
         have HFP := hidc (flow_pass (S := S) (s := s) hxk)
         have hfle := whole_le2 S s l k
         clear hxk
         generalize hfe : flowE S s l k = fe at *
         have HFE := hidc hfe
         clear hfe
         go_wp2_with fail
         refine (ref_pass S s d b off cap g cc w3.heap.size P XX w5.heap.size k l x (hsAt S s l k) _ (HS.out.below (by omega) HBw.out) (by omega) HR9.out HHk.out ⟨by omega, by omega⟩ (hsAt_length S s l k) HXK.out hlen HNNEG.out HSMALL.out hal hs1 hop.1 hop.2.1 HRX.out.1 HRX.out.2 hop.2.2).mono ?_
         rintro e w9 ⟨rfl, hb9, hok⟩
         rw [← HFP.out] at hok
         rw [← HFP.out]
         have HB9 := hidc (HBk3.out.trans hb9)
         have HSMA := hidc (HSM9.out.below (by omega) hb9)
         have HRA := hidc (HR9.out.below hb9)
         have hs9 : w3.heap.size ≤ w9.heap.size := HB9.out.size
         have HOK := hidc hok
         clear hb9 hok tu0 tu1 tv0 tv1 tv2 tv3
         obtain ⟨c0, c1, ⟨N, c2, hN⟩, ⟨ta, tc, c3, hT⟩, c4⟩ := HRA.out.cells k x HXK.out
         have HN := hidc hN
         clear hN hT
         obtain ⟨tu0, tu1, tv0, tv1, tv2, tv3, _⟩ := HSMA.out
         by_cases hfz : fe = 0
         ·subst hfz
          obtain ⟨hs', hph, hhr⟩ := HOK.out rfl
          have hnx := hs_next HXK.out hph
          subst hnx
          have HGN := hidc (great_next (S := S) (s := s) (l := l) (k := k) HFE.out)
          have HAN := hidc (any_next (S := S) HXK.out)
          have HHA := hidc hhr
          clear hph hhr HOK
          obtain ⟨hp0, hp1⟩ := HHA.out.head
          rw [hsAt_length] at hp0 hp1
          obtain ⟨_, hhc⟩ := HHA.out.cells k (by rw [hsAt_length]; exact hkn)
          generalize hiN ((hsAt S s l (k + 1)).getD k none) = hv at *
          rw [HGK.out] at HGN
          rw [HBKK.out] at HAN
          cases bk with
          | true =>
           by_cases hmx : gk < hv
           ·have HMX0 := hidc hmx
            go_wp2_with fail
            refine wp_region_held_drew (S := fun w' => (w'.cell? ⟨w.heap.size, 0, none⟩ = some (.slice (some ⟨b, off, none⟩) S.length cap) ∧ w'.cell? ⟨w.heap.size, 1, none⟩ = some (.string d)) ∧ w'.cell? ⟨g, k * 5, none⟩ = some (.int .i64 x.pl) ∧ w'.cell? ⟨g, k * 5 + 1, none⟩ = some (.int .i64 x.op) ∧ w'.cell? ⟨g, k * 5 + 2, none⟩ = some (.int .i64 N) ∧ w'.cell? ⟨g, k * 5 + 3, none⟩ = some (.slice ta x.to.length tc) ∧ w'.cell? ⟨g, k * 5 + 4, none⟩ = some (.int .i64 x.nx)) (by kernel_rfl) ⟨⟨tu0, tu1⟩, c0, c1, c2, c3, c4⟩ (fun hHeld => ?_)
            refine tk 0 ?vgfivet1g0 rfl ?hygfivet1g0 hHeld ?restgfivet1g0
            case hygfivet1g0 => rintro w ⟨⟨a0, a1⟩, b0, b1, b2, b3, b4⟩; go_simp; try with_reducible rfl
            simp only [Act.put, aA, aB, aC, aD, aE]
            refine tk 1 ?vgfivet1g1 rfl ?hygfivet1g1 hHeld ?restgfivet1g1
            case hygfivet1g1 => rintro w ⟨⟨a0, a1⟩, b0, b1, b2, b3, b4⟩; go_simp; try with_reducible rfl
            simp only [Act.put, aA, aB, aC, aD, aE, aF]
            refine tk 2 ?vgfivet1g2 rfl ?hygfivet1g2 hHeld ?restgfivet1g2
            case hygfivet1g2 => rintro w ⟨⟨a0, a1⟩, b0, b1, b2, b3, b4⟩; go_simp; try with_reducible rfl
            simp only [Act.put, aA, aB, aC, aD, aE, aF]
            refine tk 3 ?vgfivet1g3 rfl ?hygfivet1g3 hHeld ?restgfivet1g3
            case hygfivet1g3 => rintro w ⟨⟨a0, a1⟩, b0, b1, b2, b3, b4⟩; go_simp; try with_reducible rfl
            simp only [Act.put, aA, aB, aC, aD, aE, aF]
            refine tk 4 ?vgfivet1g4 rfl ?hygfivet1g4 hHeld ?restgfivet1g4
            case hygfivet1g4 => rintro w ⟨⟨a0, a1⟩, b0, b1, b2, b3, b4⟩; go_simp; try with_reducible rfl
            simp only [Act.put, aA, aB, aC, aD, aE, aF]
            refine rd 5 rfl (fun K hK => ?_)
            simp only [aD, aE, aF]
            go_simp
            go_at_call 113
            refine (ref_returns S d b off cap x N (.slice ta x.to.length tc) _ (HS.out.below (by omega) (HB3.out.trans (HB9.out.mono (by omega))).drew) HN.out (fun h => HRX.out.1 (by simp [namesB, h]))).mono ?_
            rintro e wA ⟨rfl, hbA⟩
            go_wp2_with fail
            have HBA := hidc ((HB9.out.drew).trans (hbA.mono hs9))
            have HHB := hidc (HHA.out.below (show Below w9.heap.size w9 wA from ((Below.refl w9.heap.size w9).drew).trans hbA))
            refine hK.out _ _ ?hSAgfivet1 (fun hHeld => ?_)
            case hSAgfivet1 =>
             obtain ⟨⟨a0, a1⟩, b0, b1, b2, b3, b4⟩ := hHeld
             have hc := fun g i (h : g < w9.heap.size) => (bcell hbA).1 g i h
             exact ⟨⟨(hc _ _ (by omega)).trans a0, (hc _ _ (by omega)).trans a1⟩, (hc _ _ (by omega)).trans b0, (hc _ _ (by omega)).trans b1, (hc _ _ (by omega)).trans b2, (hc _ _ (by omega)).trans b3, (hc _ _ (by omega)).trans b4⟩
            clear hK hbA
            refine tk 6 ?vgfivet1h6 rfl ?hygfivet1h6 hHeld ?restgfivet1h6
            case hygfivet1h6 => rintro w ⟨⟨a0, a1⟩, b0, b1, b2, b3, b4⟩; go_simp; try with_reducible rfl
            simp only [Act.put, aA, aB, aC, aD, aE, aF]
            refine wpAnyH_done (by kernel_rfl) ?_ _
            clear hHeld
            go_wp2_with fail
            refine ⟨⟨k + 1, by omega, ?_, ?_, by first | rfl | go_num, ?_, HHB.out, HBA.out⟩, ?_⟩
            ·rw [HAN.out]; rfl
            ·rw [HGN.out, if_pos HMX0.out]
            ·intro j hj
             by_cases e : j = k
             ·subst e; exact HFE.out
             ·exact HFL.out j (by omega)
            ·simp [intOf]; omega
           ·have HMX0 := hidc hmx
            go_wp2_with fail
            refine wp_region_held_drew (S := fun w' => (w'.cell? ⟨w.heap.size, 0, none⟩ = some (.slice (some ⟨b, off, none⟩) S.length cap) ∧ w'.cell? ⟨w.heap.size, 1, none⟩ = some (.string d)) ∧ w'.cell? ⟨g, k * 5, none⟩ = some (.int .i64 x.pl) ∧ w'.cell? ⟨g, k * 5 + 1, none⟩ = some (.int .i64 x.op) ∧ w'.cell? ⟨g, k * 5 + 2, none⟩ = some (.int .i64 N) ∧ w'.cell? ⟨g, k * 5 + 3, none⟩ = some (.slice ta x.to.length tc) ∧ w'.cell? ⟨g, k * 5 + 4, none⟩ = some (.int .i64 x.nx)) (by kernel_rfl) ⟨⟨tu0, tu1⟩, c0, c1, c2, c3, c4⟩ (fun hHeld => ?_)
            refine tk 0 ?vgfivet2g0 rfl ?hygfivet2g0 hHeld ?restgfivet2g0
            case hygfivet2g0 => rintro w ⟨⟨a0, a1⟩, b0, b1, b2, b3, b4⟩; go_simp; try with_reducible rfl
            simp only [Act.put, aA, aB, aC, aD, aE]
            refine tk 1 ?vgfivet2g1 rfl ?hygfivet2g1 hHeld ?restgfivet2g1
            case hygfivet2g1 => rintro w ⟨⟨a0, a1⟩, b0, b1, b2, b3, b4⟩; go_simp; try with_reducible rfl
            simp only [Act.put, aA, aB, aC, aD, aE, aF]
            refine tk 2 ?vgfivet2g2 rfl ?hygfivet2g2 hHeld ?restgfivet2g2
            case hygfivet2g2 => rintro w ⟨⟨a0, a1⟩, b0, b1, b2, b3, b4⟩; go_simp; try with_reducible rfl
            simp only [Act.put, aA, aB, aC, aD, aE, aF]
            refine tk 3 ?vgfivet2g3 rfl ?hygfivet2g3 hHeld ?restgfivet2g3
            case hygfivet2g3 => rintro w ⟨⟨a0, a1⟩, b0, b1, b2, b3, b4⟩; go_simp; try with_reducible rfl
            simp only [Act.put, aA, aB, aC, aD, aE, aF]
            refine tk 4 ?vgfivet2g4 rfl ?hygfivet2g4 hHeld ?restgfivet2g4
            case hygfivet2g4 => rintro w ⟨⟨a0, a1⟩, b0, b1, b2, b3, b4⟩; go_simp; try with_reducible rfl
            simp only [Act.put, aA, aB, aC, aD, aE, aF]
            refine rd 5 rfl (fun K hK => ?_)
            simp only [aD, aE, aF]
            go_simp
            go_at_call 113
            refine (ref_returns S d b off cap x N (.slice ta x.to.length tc) _ (HS.out.below (by omega) (HB3.out.trans (HB9.out.mono (by omega))).drew) HN.out (fun h => HRX.out.1 (by simp [namesB, h]))).mono ?_
            rintro e wA ⟨rfl, hbA⟩
            go_wp2_with fail
            have HBA := hidc ((HB9.out.drew).trans (hbA.mono hs9))
            have HHB := hidc (HHA.out.below (show Below w9.heap.size w9 wA from ((Below.refl w9.heap.size w9).drew).trans hbA))
            refine hK.out _ _ ?hSAgfivet2 (fun hHeld => ?_)
            case hSAgfivet2 =>
             obtain ⟨⟨a0, a1⟩, b0, b1, b2, b3, b4⟩ := hHeld
             have hc := fun g i (h : g < w9.heap.size) => (bcell hbA).1 g i h
             exact ⟨⟨(hc _ _ (by omega)).trans a0, (hc _ _ (by omega)).trans a1⟩, (hc _ _ (by omega)).trans b0, (hc _ _ (by omega)).trans b1, (hc _ _ (by omega)).trans b2, (hc _ _ (by omega)).trans b3, (hc _ _ (by omega)).trans b4⟩
            clear hK hbA
            refine tk 6 ?vgfivet2h6 rfl ?hygfivet2h6 hHeld ?restgfivet2h6
            case hygfivet2h6 => rintro w ⟨⟨a0, a1⟩, b0, b1, b2, b3, b4⟩; go_simp; try with_reducible rfl
            simp only [Act.put, aA, aB, aC, aD, aE, aF]
            refine wpAnyH_done (by kernel_rfl) ?_ _
            clear hHeld
            go_wp2_with fail
            refine ⟨⟨k + 1, by omega, ?_, ?_, by first | rfl | go_num, ?_, HHB.out, HBA.out⟩, ?_⟩
            ·rw [HAN.out]; rfl
            ·rw [HGN.out, if_neg (Int.not_lt.2 HMX0.out)]
            ·intro j hj
             by_cases e : j = k
             ·subst e; exact HFE.out
             ·exact HFL.out j (by omega)
            ·simp [intOf]; omega
          | false =>
           by_cases hmx : gk < hv
           ·have HMX0 := hidc hmx
            go_wp2_with fail
            refine wp_region_held_drew (S := fun w' => (w'.cell? ⟨w.heap.size, 0, none⟩ = some (.slice (some ⟨b, off, none⟩) S.length cap) ∧ w'.cell? ⟨w.heap.size, 1, none⟩ = some (.string d)) ∧ w'.cell? ⟨g, k * 5, none⟩ = some (.int .i64 x.pl) ∧ w'.cell? ⟨g, k * 5 + 1, none⟩ = some (.int .i64 x.op) ∧ w'.cell? ⟨g, k * 5 + 2, none⟩ = some (.int .i64 N) ∧ w'.cell? ⟨g, k * 5 + 3, none⟩ = some (.slice ta x.to.length tc) ∧ w'.cell? ⟨g, k * 5 + 4, none⟩ = some (.int .i64 x.nx)) (by kernel_rfl) ⟨⟨tu0, tu1⟩, c0, c1, c2, c3, c4⟩ (fun hHeld => ?_)
            refine tk 0 ?vgfivef1g0 rfl ?hygfivef1g0 hHeld ?restgfivef1g0
            case hygfivef1g0 => rintro w ⟨⟨a0, a1⟩, b0, b1, b2, b3, b4⟩; go_simp; try with_reducible rfl
            simp only [Act.put, aA, aB, aC, aD, aE]
            refine tk 1 ?vgfivef1g1 rfl ?hygfivef1g1 hHeld ?restgfivef1g1
            case hygfivef1g1 => rintro w ⟨⟨a0, a1⟩, b0, b1, b2, b3, b4⟩; go_simp; try with_reducible rfl
            simp only [Act.put, aA, aB, aC, aD, aE, aF]
            refine tk 2 ?vgfivef1g2 rfl ?hygfivef1g2 hHeld ?restgfivef1g2
            case hygfivef1g2 => rintro w ⟨⟨a0, a1⟩, b0, b1, b2, b3, b4⟩; go_simp; try with_reducible rfl
            simp only [Act.put, aA, aB, aC, aD, aE, aF]
            refine tk 3 ?vgfivef1g3 rfl ?hygfivef1g3 hHeld ?restgfivef1g3
            case hygfivef1g3 => rintro w ⟨⟨a0, a1⟩, b0, b1, b2, b3, b4⟩; go_simp; try with_reducible rfl
            simp only [Act.put, aA, aB, aC, aD, aE, aF]
            refine tk 4 ?vgfivef1g4 rfl ?hygfivef1g4 hHeld ?restgfivef1g4
            case hygfivef1g4 => rintro w ⟨⟨a0, a1⟩, b0, b1, b2, b3, b4⟩; go_simp; try with_reducible rfl
            simp only [Act.put, aA, aB, aC, aD, aE, aF]
            refine rd 5 rfl (fun K hK => ?_)
            simp only [aD, aE, aF]
            go_simp
            go_at_call 113
            refine (ref_returns S d b off cap x N (.slice ta x.to.length tc) _ (HS.out.below (by omega) (HB3.out.trans (HB9.out.mono (by omega))).drew) HN.out (fun h => HRX.out.1 (by simp [namesB, h]))).mono ?_
            rintro e wA ⟨rfl, hbA⟩
            go_wp2_with fail
            have HBA := hidc ((HB9.out.drew).trans (hbA.mono hs9))
            have HHB := hidc (HHA.out.below (show Below w9.heap.size w9 wA from ((Below.refl w9.heap.size w9).drew).trans hbA))
            refine hK.out _ _ ?hSAgfivef1 (fun hHeld => ?_)
            case hSAgfivef1 =>
             obtain ⟨⟨a0, a1⟩, b0, b1, b2, b3, b4⟩ := hHeld
             have hc := fun g i (h : g < w9.heap.size) => (bcell hbA).1 g i h
             exact ⟨⟨(hc _ _ (by omega)).trans a0, (hc _ _ (by omega)).trans a1⟩, (hc _ _ (by omega)).trans b0, (hc _ _ (by omega)).trans b1, (hc _ _ (by omega)).trans b2, (hc _ _ (by omega)).trans b3, (hc _ _ (by omega)).trans b4⟩
            clear hK hbA
            refine tk 6 ?vgfivef1h6 rfl ?hygfivef1h6 hHeld ?restgfivef1h6
            case hygfivef1h6 => rintro w ⟨⟨a0, a1⟩, b0, b1, b2, b3, b4⟩; go_simp; try with_reducible rfl
            simp only [Act.put, aA, aB, aC, aD, aE, aF]
            refine wpAnyH_done (by kernel_rfl) ?_ _
            clear hHeld
            go_wp2_with fail
            refine ⟨⟨k + 1, by omega, ?_, ?_, by first | rfl | go_num, ?_, HHB.out, HBA.out⟩, ?_⟩
            ·rw [HAN.out]; rfl
            ·rw [HGN.out, if_pos HMX0.out]
            ·intro j hj
             by_cases e : j = k
             ·subst e; exact HFE.out
             ·exact HFL.out j (by omega)
            ·simp [intOf]; omega
           ·have HMX0 := hidc hmx
            go_wp2_with fail
            refine wp_region_held_drew (S := fun w' => (w'.cell? ⟨w.heap.size, 0, none⟩ = some (.slice (some ⟨b, off, none⟩) S.length cap) ∧ w'.cell? ⟨w.heap.size, 1, none⟩ = some (.string d)) ∧ w'.cell? ⟨g, k * 5, none⟩ = some (.int .i64 x.pl) ∧ w'.cell? ⟨g, k * 5 + 1, none⟩ = some (.int .i64 x.op) ∧ w'.cell? ⟨g, k * 5 + 2, none⟩ = some (.int .i64 N) ∧ w'.cell? ⟨g, k * 5 + 3, none⟩ = some (.slice ta x.to.length tc) ∧ w'.cell? ⟨g, k * 5 + 4, none⟩ = some (.int .i64 x.nx)) (by kernel_rfl) ⟨⟨tu0, tu1⟩, c0, c1, c2, c3, c4⟩ (fun hHeld => ?_)
            refine tk 0 ?vgfivef2g0 rfl ?hygfivef2g0 hHeld ?restgfivef2g0
            case hygfivef2g0 => rintro w ⟨⟨a0, a1⟩, b0, b1, b2, b3, b4⟩; go_simp; try with_reducible rfl
            simp only [Act.put, aA, aB, aC, aD, aE]
            refine tk 1 ?vgfivef2g1 rfl ?hygfivef2g1 hHeld ?restgfivef2g1
            case hygfivef2g1 => rintro w ⟨⟨a0, a1⟩, b0, b1, b2, b3, b4⟩; go_simp; try with_reducible rfl
            simp only [Act.put, aA, aB, aC, aD, aE, aF]
            refine tk 2 ?vgfivef2g2 rfl ?hygfivef2g2 hHeld ?restgfivef2g2
            case hygfivef2g2 => rintro w ⟨⟨a0, a1⟩, b0, b1, b2, b3, b4⟩; go_simp; try with_reducible rfl
            simp only [Act.put, aA, aB, aC, aD, aE, aF]
            refine tk 3 ?vgfivef2g3 rfl ?hygfivef2g3 hHeld ?restgfivef2g3
            case hygfivef2g3 => rintro w ⟨⟨a0, a1⟩, b0, b1, b2, b3, b4⟩; go_simp; try with_reducible rfl
            simp only [Act.put, aA, aB, aC, aD, aE, aF]
            refine tk 4 ?vgfivef2g4 rfl ?hygfivef2g4 hHeld ?restgfivef2g4
            case hygfivef2g4 => rintro w ⟨⟨a0, a1⟩, b0, b1, b2, b3, b4⟩; go_simp; try with_reducible rfl
            simp only [Act.put, aA, aB, aC, aD, aE, aF]
            refine rd 5 rfl (fun K hK => ?_)
            simp only [aD, aE, aF]
            go_simp
            go_at_call 113
            refine (ref_returns S d b off cap x N (.slice ta x.to.length tc) _ (HS.out.below (by omega) (HB3.out.trans (HB9.out.mono (by omega))).drew) HN.out (fun h => HRX.out.1 (by simp [namesB, h]))).mono ?_
            rintro e wA ⟨rfl, hbA⟩
            go_wp2_with fail
            have HBA := hidc ((HB9.out.drew).trans (hbA.mono hs9))
            have HHB := hidc (HHA.out.below (show Below w9.heap.size w9 wA from ((Below.refl w9.heap.size w9).drew).trans hbA))
            refine hK.out _ _ ?hSAgfivef2 (fun hHeld => ?_)
            case hSAgfivef2 =>
             obtain ⟨⟨a0, a1⟩, b0, b1, b2, b3, b4⟩ := hHeld
             have hc := fun g i (h : g < w9.heap.size) => (bcell hbA).1 g i h
             exact ⟨⟨(hc _ _ (by omega)).trans a0, (hc _ _ (by omega)).trans a1⟩, (hc _ _ (by omega)).trans b0, (hc _ _ (by omega)).trans b1, (hc _ _ (by omega)).trans b2, (hc _ _ (by omega)).trans b3, (hc _ _ (by omega)).trans b4⟩
            clear hK hbA
            refine tk 6 ?vgfivef2h6 rfl ?hygfivef2h6 hHeld ?restgfivef2h6
            case hygfivef2h6 => rintro w ⟨⟨a0, a1⟩, b0, b1, b2, b3, b4⟩; go_simp; try with_reducible rfl
            simp only [Act.put, aA, aB, aC, aD, aE, aF]
            refine wpAnyH_done (by kernel_rfl) ?_ _
            clear hHeld
            go_wp2_with fail
            refine ⟨⟨k + 1, by omega, ?_, ?_, by first | rfl | go_num, ?_, HHB.out, HBA.out⟩, ?_⟩
            ·rw [HAN.out]; rfl
            ·rw [HGN.out, if_neg (Int.not_lt.2 HMX0.out)]
            ·intro j hj
             by_cases e : j = k
             ·subst e; exact HFE.out
             ·exact HFL.out j (by omega)
            ·simp [intOf]; omega
         ·have hne : ((fe : Int) == 0) = false := by simp; omega
          have HW := hidc (HWH2.out HREF.out k x HXK.out HFL.out (by rw [HFE.out]; exact hfz))
          rw [HFE.out] at HW
          go_wp2_with fail
          go_quiet (fail)
          go_wp2_with fail
          go_ret2
          exact ⟨by rw [HW.out]; rfl, bdr (HB3.out.trans (HB9.out.mono (by omega))) _⟩
        ·obtain rfl : k = l.length := by omega
         have HW := hidc (HWH3.out HREF.out HFL.out)
         rw [List.take_length] at HBKK
         have HSU : Hid (sumsE S s l = if gk ≠ s.m then 15 else if bk == (s.o == 128) then 16 else 0) := by
          show sumsE S s l = if gk ≠ s.m then 15 else if bk == (s.o == 128) then 16 else 0
          unfold sumsE anyRet
          rw [HGK.out, HBKK.out]
         rw [HSU.out] at HW
         by_cases hgm : gk = s.m
         ·rw [if_neg (by simp [hgm])] at HW
          by_cases ho : s.o = 128
          ·have ho2 : (s.o == 128) = true := by simp [ho]
           rw [ho2] at HW
           cases bk with
           | true =>
            go_wp2_with fail
            go_ret2
            exact ⟨by rw [HW.out]; rfl, HBw.out⟩
           | false =>
            go_wp2_with fail
            go_ret2
            exact ⟨by rw [HW.out]; rfl, HBw.out⟩
          ·have ho2 : (s.o == 128) = false := by simp [ho]
           rw [ho2] at HW
           cases bk with
           | true =>
            go_wp2_with fail
            go_ret2
            exact ⟨by rw [HW.out]; rfl, HBw.out⟩
           | false =>
            go_wp2_with fail
            go_ret2
            exact ⟨by rw [HW.out]; rfl, HBw.out⟩
         ·rw [if_pos hgm] at HW
          go_wp2_with fail
          go_ret2
          exact ⟨by rw [HW.out]; rfl, HBw.out⟩
end Go.Proofs.YtdhmandnamajpaaGreatDoor
