/-
  Package check: sums.
-/
import Derived.Test.YtdhmandnamajpaaDoorLookF
namespace Go.Proofs.YtdhmandnamajpaaDoor
open Go.RowKit Go.Joins

set_option maxHeartbeats 1000000

theorem look_sums {w : World} {L H : Nat} {S : List Sec} {s : Sec} {b off cap g cc : Nat} {l : List Ins} {hs : List (Option (Int × Int))} {cs : Array Value} (h : Look w L H S s b off cap g cc l) (hh : HtsAt w H s.code.size l hs cs) (hch : Chained l s.code.size)
    (hl : l.length ≤ 120) (hnm : ∀ x ∈ l, x.op = 20 → x.n < S.length) :
    Calls Tryd.prog 60 #[.pointer (some ⟨L, 0, none⟩)] w fun e w' => e = .returned (.int .i64 (if greatH hs l.length ≠ s.m then (15 : Int) else if anyRet S l == (s.o == 128) then 16 else 0)) ∧ Below w.heap.size w w' := by
  generalize hres : (if greatH hs l.length ≠ s.m then (15 : Int) else if anyRet S l == (s.o == 128) then 16 else 0) = res
  have HRES := hidc hres
  obtain ⟨f0, f1, f2, f3, f4, f5, f6, hL⟩ := h.facts
  have hH := blt hh.blk
  have HL := hidc h
  have HH := hidc hh
  have HCH := hidc hch
  have HNM := hidc hnm
  clear h hh hch hnm hres
  go_enter Tryd.func60, Tryd.ntmps60
  go_wp2_with fail
  clear f0 f1 f2 f3 f4 f5 f6
  go_loopw [3, 4, 12] (fun gvv rv iv wr => ∃ k : Nat, k ≤ l.length ∧ iv = .int .i64 k ∧ gvv = .int .i64 (greatH hs k) ∧ rv = .bool ((l.take k).any (returnsB S)) ∧ Hid (Below w.heap.size w wr)) (fun _ _ iv _ => l.length - (intOf iv).toNat)
  case atStart => exact ⟨0, Nat.zero_le _, rfl, rfl, by simp, Below.refl _ _⟩
  case round =>
    obtain ⟨k, hk, rfl, rfl, rfl, HB⟩ := hrel
    obtain ⟨f0, f1, f2, f3, f4, f5, f6, hLr⟩ := (HL.out.below HB.out).facts
    have hsz := HB.out.size
    have hHr : H < wr.heap.size := by omega
    by_cases hlt : k < l.length
    · obtain ⟨c0, c1, c2, c3, ⟨va, vc, c4, ht⟩, hg⟩ := (HL.out.below HB.out).ins k hlt
      have HX := hidc (show l[k]? = some l[k] from List.getElem?_eq_getElem hlt)
      have HTK := hidc (show (l.take (k + 1)).any (returnsB S) = ((l.take k).any (returnsB S) || returnsB S l[k]) by rw [List.take_succ_eq_append_getElem hlt, List.any_append]; simp)
      have hx20 : l[k].op = 20 → l[k].n < S.length := HNM.out _ (List.getElem_mem _)
      have HG1 : Hid (greatH hs (k + 1) = max (greatH hs k) ((hs.getD k none).getD (0, 0)).2) := rfl
      generalize l[k] = x at *
      have hpl := HCH.out.lt k x HX.out
      have kv : wr.cell? ⟨H, x.pl * 3 + 2, none⟩ = some (.int .i64 ((hs.getD k none).getD (0, 0)).2) := by
        have hw := HH.out.below HB.out
        rw [cell_of_block hw.blk]
        exact (hw.span k x HX.out).2.2
      generalize ((hs.getD k none).getD (0, 0)).2 = gv at *
      generalize greatH hs k = gM at *
      generalize hrb : (l.take k).any (returnsB S) = rb at *
      have HRB := hidc hrb
      clear ht hrb
      go_wp2_with fail
      refine wp_region_held_drew (S := fun w' => w'.cell? ⟨L, 6, none⟩ = some (.slice (some ⟨H, 0, none⟩) s.code.size s.code.size) ∧ w'.cell? ⟨wr.heap.size, 1, none⟩ = some (.int .i64 x.pl) ∧ w'.cell? ⟨H, x.pl * 3 + 2, none⟩ = some (.int .i64 gv)) (by kernel_rfl) ⟨(cell_al _ (by omega)).trans f6, cell_nw rfl rfl, (cell_al _ hHr).trans kv⟩ (fun hHeld => ?_)
      refine wpAnyH_take (i := 0) (v := ?va0) rfl (by kernel_rfl) (by kernel_rfl) (by kernel_rfl) (fun _ _ _ h => h) (Or.inl ⟨by rfl, ?hya0⟩) hHeld ?resta0
      case hya0 => intro w hSw; obtain ⟨s0, s1, s2⟩ := hSw; go_simp; try with_reducible rfl
      simp only [Act.put, List.setIfInBounds_toArray, List.set_cons_zero, List.set_cons_succ, List.getElem_toArray, List.getElem_cons_zero]
      refine wpAnyH_take (i := 1) (v := ?va1) rfl (by kernel_rfl) (by kernel_rfl) (by kernel_rfl) (fun _ _ _ h => h) (Or.inl ⟨by rfl, ?hya1⟩) hHeld ?resta1
      case hya1 => intro w hSw; obtain ⟨s0, s1, s2⟩ := hSw; go_simp; try with_reducible rfl
      simp only [Act.put, List.setIfInBounds_toArray, List.set_cons_zero, List.set_cons_succ, List.getElem_toArray, List.getElem_cons_zero, List.getElem_cons_succ]
      refine wpAnyH_take (i := 2) (v := ?va2) rfl (by kernel_rfl) (by kernel_rfl) (by kernel_rfl) (fun _ _ _ h => h) (Or.inl ⟨by rfl, ?hya2⟩) hHeld ?resta2
      case hya2 => intro w hSw; obtain ⟨s0, s1, s2⟩ := hSw; go_simp; try with_reducible rfl
      simp only [Act.put, List.setIfInBounds_toArray, List.set_cons_zero, List.set_cons_succ, List.getElem_toArray, List.getElem_cons_zero, List.getElem_cons_succ]
      refine wpAnyH_take (i := 3) (v := ?va3) rfl (by kernel_rfl) (by kernel_rfl) (by kernel_rfl) (fun _ _ _ h => h) (Or.inl ⟨by rfl, ?hya3⟩) hHeld ?resta3
      case hya3 => intro w hSw; obtain ⟨s0, s1, s2⟩ := hSw; go_simp; try with_reducible rfl
      simp only [Act.put, List.setIfInBounds_toArray, List.set_cons_zero, List.set_cons_succ, List.getElem_toArray, List.getElem_cons_zero, List.getElem_cons_succ]
      refine wpAnyH_take (i := 4) (v := ?va4) rfl (by kernel_rfl) (by kernel_rfl) (by kernel_rfl) (fun _ _ _ h => h) (Or.inl ⟨by rfl, ?hya4⟩) hHeld ?resta4
      case hya4 => intro w hSw; obtain ⟨s0, s1, s2⟩ := hSw; go_simp; try with_reducible rfl
      simp only [Act.put, List.setIfInBounds_toArray, List.set_cons_zero, List.set_cons_succ, List.getElem_toArray, List.getElem_cons_zero, List.getElem_cons_succ]
      refine wpAnyH_take (i := 5) (v := ?va5) rfl (by kernel_rfl) (by kernel_rfl) (by kernel_rfl) (fun _ _ _ h => h) (Or.inl ⟨by rfl, ?hya5⟩) hHeld ?resta5
      case hya5 => intro w hSw; obtain ⟨s0, s1, s2⟩ := hSw; go_simp; try with_reducible rfl
      simp only [Act.put, List.setIfInBounds_toArray, List.set_cons_zero, List.set_cons_succ, List.getElem_toArray, List.getElem_cons_zero, List.getElem_cons_succ]
      refine wpAnyH_take (i := 6) (v := ?va6) rfl (by kernel_rfl) (by kernel_rfl) (by kernel_rfl) (fun _ _ _ h => h) (Or.inl ⟨by rfl, ?hya6⟩) hHeld ?resta6
      case hya6 => intro w hSw; obtain ⟨s0, s1, s2⟩ := hSw; go_simp; try with_reducible rfl
      simp only [Act.put, List.setIfInBounds_toArray, List.set_cons_zero, List.set_cons_succ, List.getElem_toArray, List.getElem_cons_zero, List.getElem_cons_succ]
      refine wpAnyH_take (i := 7) (v := ?va7) rfl (by kernel_rfl) (by kernel_rfl) (by kernel_rfl) (fun _ _ _ h => h) (Or.inl ⟨by rfl, ?hya7⟩) hHeld ?resta7
      case hya7 => intro w hSw; obtain ⟨s0, s1, s2⟩ := hSw; go_simp; try with_reducible rfl
      simp only [Act.put, List.setIfInBounds_toArray, List.set_cons_zero, List.set_cons_succ, List.getElem_toArray, List.getElem_cons_zero, List.getElem_cons_succ]
      refine wpAnyH_take (i := 8) (v := ?va8) rfl (by kernel_rfl) (by kernel_rfl) (by kernel_rfl) (fun _ _ _ h => h) (Or.inl ⟨by rfl, ?hya8⟩) hHeld ?resta8
      case hya8 => intro w hSw; obtain ⟨s0, s1, s2⟩ := hSw; go_simp; try with_reducible rfl
      simp only [Act.put, List.setIfInBounds_toArray, List.set_cons_zero, List.set_cons_succ, List.getElem_toArray, List.getElem_cons_zero, List.getElem_cons_succ]
      refine wpAnyH_take (i := 9) (v := ?va9) rfl (by kernel_rfl) (by kernel_rfl) (by kernel_rfl) (fun _ _ _ h => h) (Or.inl ⟨by rfl, ?hya9⟩) hHeld ?resta9
      case hya9 => intro w hSw; obtain ⟨s0, s1, s2⟩ := hSw; go_simp; try with_reducible rfl
      simp only [Act.put, List.setIfInBounds_toArray, List.set_cons_zero, List.set_cons_succ, List.getElem_toArray, List.getElem_cons_zero, List.getElem_cons_succ]
      refine wpAnyH_take (i := 10) (v := .int .i64 (max gM gv)) rfl (by kernel_rfl) (by kernel_rfl) (by kernel_rfl) (fun _ _ _ h => h) (Or.inl ⟨by rfl, ?hya10⟩) hHeld ?resta10
      case hya10 => intro w hSw; obtain ⟨s0, s1, s2⟩ := hSw; go_simp; (try split) <;> (try simp) <;> (try omega)
      simp only [Act.put, List.setIfInBounds_toArray, List.set_cons_zero, List.set_cons_succ, List.getElem_toArray, List.getElem_cons_zero, List.getElem_cons_succ]
      refine wpAnyH_take (i := 11) (v := ?va11) rfl (by kernel_rfl) (by kernel_rfl) (by kernel_rfl) (fun _ _ _ h => h) (Or.inl ⟨by rfl, ?hya11⟩) hHeld ?resta11
      case hya11 => intro w hSw; obtain ⟨s0, s1, s2⟩ := hSw; go_simp; try with_reducible rfl
      simp only [Act.put, List.setIfInBounds_toArray, List.set_cons_zero, List.set_cons_succ, List.getElem_toArray, List.getElem_cons_zero, List.getElem_cons_succ]
      refine wpAnyH_done (by kernel_rfl) ?_ _
      clear hHeld
      have HBd := hidc (((HB.out.trans (((Below.refl _ _).alloc (Nat.le_refl _) (.cells #[.int .i64 x.op, .int .i64 x.pl, .int .i64 x.nx, .int .i64 x.n, .slice va x.to.length vc] 116)).mono hsz))).drew)
      have HLd := hidc (HL.out.below HBd.out)
      have y0 : ((wr.alloc (.cells #[.int .i64 x.op, .int .i64 x.pl, .int .i64 x.nx, .int .i64 x.n, .slice va x.to.length vc] 116)).drew).cell? ⟨wr.heap.size, 0, none⟩ = some (.int .i64 x.op) := cell_nw rfl rfl
      have y1 : ((wr.alloc (.cells #[.int .i64 x.op, .int .i64 x.pl, .int .i64 x.nx, .int .i64 x.n, .slice va x.to.length vc] 116)).drew).cell? ⟨wr.heap.size, 1, none⟩ = some (.int .i64 x.pl) := cell_nw rfl rfl
      have y2 : ((wr.alloc (.cells #[.int .i64 x.op, .int .i64 x.pl, .int .i64 x.nx, .int .i64 x.n, .slice va x.to.length vc] 116)).drew).cell? ⟨wr.heap.size, 2, none⟩ = some (.int .i64 x.nx) := cell_nw rfl rfl
      have y3 : ((wr.alloc (.cells #[.int .i64 x.op, .int .i64 x.pl, .int .i64 x.nx, .int .i64 x.n, .slice va x.to.length vc] 116)).drew).cell? ⟨wr.heap.size, 3, none⟩ = some (.int .i64 x.n) := cell_nw rfl rfl
      have y4 : ((wr.alloc (.cells #[.int .i64 x.op, .int .i64 x.pl, .int .i64 x.nx, .int .i64 x.n, .slice va x.to.length vc] 116)).drew).cell? ⟨wr.heap.size, 4, none⟩ = some (.slice va x.to.length vc) := cell_nw rfl rfl
      have hsz2 : w.heap.size ≤ ((wr.alloc (.cells #[.int .i64 x.op, .int .i64 x.pl, .int .i64 x.nx, .int .i64 x.n, .slice va x.to.length vc] 116)).drew).heap.size := HBd.out.size
      generalize ((wr.alloc (.cells #[.int .i64 x.op, .int .i64 x.pl, .int .i64 x.nx, .int .i64 x.n, .slice va x.to.length vc] 116)).drew) = wq at *
      cases rb with
      | true =>
        go_wp2_with fail
        go_roundw
        case rel => exact ⟨k + 1, by omega, by go_num, by rw [HG1.out], by rw [HTK.out]; rfl, HBd.out⟩
        case measure => simp [intOf]; omega
      | false =>
        go_wp2_with (go_at_call 84; refine (look_returns HLd.out x _ hx20).mono ?_; rintro e w5 ⟨rfl, hb5⟩)
        go_roundw
        case rel => exact ⟨k + 1, by omega, by go_num, by rw [HG1.out], by rw [HTK.out]; simp, HBd.out.trans (hb5.mono hsz2)⟩
        case measure => simp [intOf]; omega
    · have hkl : k = l.length := by omega
      subst hkl
      rw [List.take_length]
      have HAR : Hid (anyRet S l = l.any (returnsB S)) := rfl
      by_cases e1 : greatH hs l.length = s.m
      · by_cases e2 : s.o = 128
        · cases hrr : l.any (returnsB S)
          · go_wp2_with fail
            go_ret
            exact ⟨ret_int (by rw [← HRES.out, HAR.out, hrr]; simp [e1, e2]), HB.out⟩
          · go_wp2_with fail
            go_ret
            exact ⟨ret_int (by rw [← HRES.out, HAR.out, hrr]; simp [e1, e2]), HB.out⟩
        · have e3 : (s.o == 128) = false := by simp [e2]
          cases hrr : l.any (returnsB S)
          · go_wp2_with fail
            go_ret
            exact ⟨ret_int (by rw [← HRES.out, HAR.out, hrr, e3]; simp [e1]), HB.out⟩
          · go_wp2_with fail
            go_ret
            exact ⟨ret_int (by rw [← HRES.out, HAR.out, hrr, e3]; simp [e1]), HB.out⟩
      · go_wp2_with fail
        go_ret
        exact ⟨ret_int (by rw [← HRES.out]; simp [e1]), HB.out⟩
end Go.Proofs.YtdhmandnamajpaaDoor
