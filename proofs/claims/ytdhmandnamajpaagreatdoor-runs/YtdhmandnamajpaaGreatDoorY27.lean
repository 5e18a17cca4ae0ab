import Derived.Test.YtdhmandnamajpaaGreatDoorY00
import Derived.Test.YtdhmandnamajpaaGreatDoorY26
import Derived.Laws.MakeOwn
namespace Go.Proofs.YtdhmandnamajpaaGreatDoor
open Go.RowKit Go.Joins
set_option maxHeartbeats 1000000
def NumsAt (w : World) (v : Value) (m : List Nat) : Prop :=
 ∃ a c, v = .slice a m.length c ∧ (m ≠ [] → ∃ g, a = some ⟨g, 0, none⟩ ∧ g < w.heap.size ∧ ∀ j t, m[j]? = some t → w.cell? ⟨g, j, none⟩ = some (.int .i64 (t : Nat)))
theorem NumsAt.below {w w' : World} {v : Value} {m : List Nat} (h : NumsAt w v m) (hb : Below w.heap.size w w') : NumsAt w' v m := by
 obtain ⟨a, c, e, h1⟩ := h
 refine ⟨a, c, e, fun hm => ?_⟩
 obtain ⟨g, e2, h2, h3⟩ := h1 hm
 exact ⟨g, e2, Nat.lt_of_lt_of_le h2 hb.size, fun j t hj => ((bcell hb).1 g j h2).trans (h3 j t hj)⟩
theorem nums_of_row {w : World} {B : Nat} {v : Value} {m : List Nat} (h : w.ownsRow B 3 1 v m.length (nVh m)) : NumsAt w v m := by
 rcases h.2 with ⟨e, h0⟩ | ⟨g, cap, cur, hv, hb, hg, hc, _, hs, ht⟩
 ·exact ⟨none, 0, by rw [e, h0], fun hm => absurd (List.length_eq_zero_iff.1 h0) hm⟩
 ·refine ⟨_, cap, hv, fun _ => ⟨g, rfl, blt hg, fun j t hj => ?_⟩⟩
  rw [cell_of_block hg]
  have hlt : j < m.length := (List.getElem?_eq_some_iff.1 hj).1
  have : (nVh m)[j]? = some (.int .i64 (t : Nat)) := by simp [nVh, hj]
  rw [← ht, List.getElem?_take_of_lt (by omega)] at this
  simpa using this
structure NamesAt (w : World) (N : Nat) (nms : List (List Nat)) : Prop where
 lt : N < w.heap.size
 cell : ∀ k m, nms[k]? = some m → ∃ v, w.cell? ⟨N, k, none⟩ = some v ∧ NumsAt w v m
theorem NamesAt.below {w w' : World} {N : Nat} {nms : List (List Nat)} (h : NamesAt w N nms) (hb : Below w.heap.size w w') : NamesAt w' N nms :=
 ⟨Nat.lt_of_lt_of_le h.lt hb.size, fun k m hk => by
  obtain ⟨v, e, hn⟩ := h.cell k m hk
  exact ⟨v, ((bcell hb).1 N k h.lt).trans e, hn.below hb⟩⟩
def bV (us : List Bool) : Array Value := (us.map (fun b => Value.bool b)).toArray
theorem bV_set (us : List Bool) (t : Nat) (b : Bool) : (bV us).setIfInBounds t (.bool b) = bV (us.set t b) := by
 simp [bV, List.map_set]
theorem bV_get (us : List Bool) (t : Nat) (h : t < us.length) : (bV us)[t]? = some (.bool (us.getD t false)) := by
 simp [bV, List.getD, h]
theorem Tryz.infoBool : (Tryz.prog.info? 4).map (fun i => (i.zero, i.size, i.bytes)) = some (some (.bool false), 1, 1) := by kernel_rfl
theorem bV_made (n : Nat) : madeCells #[Value.bool false] n = bV (List.replicate n false) := by
 apply Array.toList_inj.1
 rw [toList_madeCells_one]
 simp [bV]
structure UM (w wr : World) (us : List Bool) (fs : List Nat) (pv : Value) : Prop where
 used : wr.heap[w.heap.size]? = some (.cells (bV us) 4 (0, 0))
 found : wr.ownsRow (w.heap.size + 1) 3 1 pv fs.length (nVh fs)
 bel : Below w.heap.size w wr
theorem row_cellU {w : World} {B n : Nat} {v : Value} {fs : List Nat} (h : w.ownsRow B 3 1 v n (nVh fs)) (hn : n = fs.length) (i : Nat) (hi : i < fs.length) :
  ∃ g c, v = .slice (some ⟨g, 0, none⟩) n c ∧ g < w.heap.size ∧ w.cell? ⟨g, i, none⟩ = some (.int .i64 (fs[i] : Nat)) := by
 rcases h.2 with ⟨e, h0⟩ | ⟨g, cap, cur, hv, hb, hg, hc, _, hs, ht⟩
 ·omega
 ·refine ⟨g, cap, hv, blt hg, ?_⟩
  rw [cell_of_block hg]
  have : (nVh fs)[i]? = some (.int .i64 (fs[i] : Nat)) := by simp [nVh, hi]
  rw [← ht, List.getElem?_take_of_lt (by omega)] at this
  simpa using this
theorem nums_cell {w : World} {v : Value} {m : List Nat} (h : NumsAt w v m) : ∃ a c, v = .slice a m.length c ∧ ∀ q (hq : q < m.length), ∃ g, a = some ⟨g, 0, none⟩ ∧ g < w.heap.size ∧ w.cell? ⟨g, q, none⟩ = some (.int .i64 (m[q] : Nat)) := by
 obtain ⟨a, c, e, h1⟩ := h
 refine ⟨a, c, e, fun q hq => ?_⟩
 obtain ⟨g, e2, h2, h3⟩ := h1 (by intro e; subst e; simp at hq)
 exact ⟨g, e2, h2, h3 q m[q] (by simp [hq])⟩
theorem check_uses (w : World) (N cap : Nat) (nms : List (List Nat)) (hN : NamesAt w N nms) (hn : 1 ≤ nms.length ∧ nms.length ≤ 6) (hlt : ∀ m ∈ nms, ∀ t ∈ m, t < nms.length) (hm : ∀ m ∈ nms, m.length ≤ 120) :
  Calls Tryz.prog 51 #[.slice (some ⟨N, 0, none⟩) nms.length cap] w fun e w' => ∃ us : List Bool, e = .returned (.slice (some ⟨w.heap.size, 0, none⟩) nms.length nms.length) ∧ w'.heap[w.heap.size]? = some (.cells (bV us) 4 (0, 0)) ∧ us.length = nms.length ∧ (∀ k, us.getD k false = true ↔ Rch nms k) ∧ Below w.heap.size w w' := by
 obtain ⟨iz, hiz, hzz0, hzz1, hzz2⟩ := info_parts Tryz.infoInt
 obtain ⟨ib, hib, hbz0, hbz1, hbz2⟩ := info_parts Tryz.infoBool
 have HN := hidc hN
 have HLT := hidc hlt
 have HM := hidc hm
 have hNs := hN.lt
 clear hN hlt hm
 obtain ⟨M, hM⟩ : ∃ M, M = madeCells (Value.bool false).cells (((nms.length : Nat) : Int).toNat * ib.size) := ⟨_, rfl⟩
 have hMb : M = bV (List.replicate nms.length false) := by
  rw [hM, hbz1, show ((nms.length : Nat) : Int).toNat * 1 = nms.length by simp]
  exact bV_made nms.length
 have hmk : ∀ W : World, (Instr.makeSlice 108 (.int .i64 (nms.length : Int)) (.int .i64 (nms.length : Int))).run Tryz.prog W = .ok (.slice (some ⟨W.heap.size, 0, none⟩) nms.length nms.length) (W.alloc (.cells M 4)) := fun W => by
  have h := run_make (P := Tryz.prog) W 108 4 ib (.bool false) Tryz.underlying108 hib hbz0 .i64 .i64 (nms.length : Int) (nms.length : Int) (by omega) (by omega) (by rw [hbz2]; omega) (by omega)
  rw [← hM] at h
  simpa using h
 have hM0 : M[0]? = some (.bool false) := by rw [hMb, bV_get _ _ (by simp; omega)]; simp [List.getD, show 0 < nms.length by omega]
 have HMB := hidc hMb
 clear hM hMb
 go_enter Tryz.func51, Tryz.ntmps51
 go_wp2_with fail
 have HU0 : Hid (UM w ((w.alloc (.cells (M.setIfInBounds 0 (.bool true)) 4)).alloc (.cells #[.int .i64 0] 3)) ((List.replicate nms.length false).set 0 true) [0] (.slice (some ⟨w.heap.size + 1, 0, none⟩) 1 1)) := by
  refine ⟨?_, ⟨rfl, .inr ⟨w.heap.size + 1, 1, #[.int .i64 0], rfl, Nat.le_refl _, ?_, Nat.le_refl _, by decide, rfl, rfl⟩⟩, below2 _ _ _⟩
  ·rw [HMB.out, bV_set]
   exact (Below.heap_alloc _ _ _ (by simp)).trans (heap_alloc_new w _)
  ·have := heap_alloc_new (w.alloc (.cells (M.setIfInBounds 0 (.bool true)) 4)) (.cells #[.int .i64 0] 3)
   rw [show (w.alloc (.cells (M.setIfInBounds 0 (.bool true)) 4)).heap.size = w.heap.size + 1 by simp] at this
   exact this
 clear hM0 HMB hmk
 go_loopw [4, 5] (fun pv iv wr => ∃ (i : Nat) (us : List Bool) (fs : List Nat), i ≤ fs.length ∧ iv = .int .i64 i ∧ Hid (UM w wr us fs pv) ∧ Hid (Bfs nms nms.length us fs) ∧ Hid (Led nms fs i)) (fun _ iv _ => nms.length - (intOf iv).toNat)
 case atStart => exact ⟨0, _, [0], Nat.zero_le _, rfl, HU0.out, bfs_start nms nms.length (by omega), fun j k t hj => by omega⟩
 case round =>
  obtain ⟨i, us, fs, hi, rfl, HU, HBF, HLD⟩ := hrel
  have hfl := HBF.out.le
  by_cases hlt : i < fs.length
  ·obtain ⟨g, c, rfl, hg, cf⟩ := row_cellU HU.out.found rfl i hlt
   have hkn : fs[i] < nms.length := HBF.out.lt (List.getElem_mem _)
   have HFI := hidc (show fs[i]? = some fs[i] by simp [hlt])
   generalize fs[i] = k at *
   obtain ⟨v, ck0, hnum⟩ := HN.out.cell k nms[k] (by simp [hkn])
   have ck := ((bcell HU.out.bel).1 N k hNs).trans ck0
   obtain ⟨va, vc, rfl, hq⟩ := nums_cell hnum
   have HQ := hidc hnum
   have hml : nms[k].length ≤ 120 := HM.out _ (List.getElem_mem _)
   have HLTk := hidc (HLT.out nms[k] (List.getElem_mem _))
   have HGET := hidc (show nms.getD k [] = nms[k] by simp [List.getD, hkn])
   generalize nms[k] = m at *
   clear hnum hq ck0
   go_wp2_with fail
   go_loopw [4, 28] (fun pv qv w2 => ∃ (q : Nat) (us : List Bool) (fs : List Nat), q ≤ m.length ∧ qv = .int .i64 q ∧ Hid (UM w w2 us fs pv) ∧ Hid (Bfs nms nms.length us fs) ∧ Hid (Led nms fs i) ∧ i < fs.length ∧ Hid (fs[i]? = some k) ∧ Hid (∀ t, t ∈ m.take q → t ∈ fs)) (fun _ qv _ => m.length - (intOf qv).toNat)
   case atStart => exact ⟨0, us, fs, Nat.zero_le _, rfl, HU.out, HBF.out, HLD.out, hlt, HFI.out, fun t ht => by simp at ht⟩
   case round =>
    clear HU HBF HLD HFI cf ck hg hlt hi hfl
    obtain ⟨q, us2, fs2, hq, rfl, HU2, HBF2, HLD2, hi2, HFI2, HTK⟩ := hrel
    have hfl2 := HBF2.out.le
    have hsz2 := HU2.out.bel.size
    have hU2 : w.heap.size < wr.heap.size := blt HU2.out.used
    by_cases hqm : q < m.length
    ·obtain ⟨va', vc', hve, hcell⟩ := nums_cell (HQ.out.below HU2.out.bel)
     injection hve with hv1 hv2 hv3
     subst hv1
     subst hv3
     obtain ⟨gm, hva, hgm, ct⟩ := hcell q hqm
     have htn : m[q] < nms.length := HLTk.out _ (List.getElem_mem _)
     have HTS := hidc (show ∀ t, t ∈ m.take (q + 1) → t ∈ m.take q ∨ t = m[q] from fun t ht => by rw [List.take_succ_eq_append_getElem hqm] at ht; rcases List.mem_append.1 ht with h | h; exact .inl h; exact .inr (List.mem_singleton.1 h))
     have HTM := hidc (List.getElem_mem hqm)
     generalize m[q] = t at *
     have cu : wr.cell? ⟨w.heap.size, t, none⟩ = some (.bool (us2.getD t false)) := by rw [cell_of_block HU2.out.used]; exact bV_get us2 t (by rw [HBF2.out.len]; exact htn)
     have fu : wr.frozen? ⟨w.heap.size, t, none⟩ = false := unfrozen_of_block HU2.out.used t
     have HVA := hidc hva
     subst hva
     clear hcell
     cases hut : us2.getD t false
     ·rw [hut] at cu
      obtain ⟨pa, pc, rfl⟩ := row_form HU2.out.found
      have HRC : Hid (Rch nms t) := (HBF2.out.rch k (List.mem_of_getElem? HFI2.out)).name (by rw [HGET.out]; exact HTM.out)
      have HO2 := hidc (own_set HU2.out.found (show w.heap.size < w.heap.size + 1 by omega) t (.bool true))
      have HUS : Hid ((wr.setCell ⟨w.heap.size, t, none⟩ (.bool true)).heap[w.heap.size]? = some (.cells (bV (us2.set t true)) 4 (0, 0))) := by
       have := block_setCell (i := t) HU2.out.used (.bool true)
       rw [bV_set] at this
       exact this
      go_wp2_with (at_builtin; refine wpList_append_lies _ rfl (.tmp 40) (.tmp 42) 22 rfl (w.heap.size + 1) 3 iz (.int .i64 0) 1 8 Tryz.underlying22 hiz hzz0 hzz1 hzz2 rfl (by decide) _ fs2.length (nVh fs2) rfl (HO2.out.alloc _) ⟨wr.heap.size, 0, none⟩ 1 1 [.int .i64 t] rfl rfl (news1n _ _ _ (by simp)) (one1c _) (by decide) (by unfold maxLen; omega) (by omega) (by simp; omega) _ rfl ?_)
      intro ga ca w5 hown5 hgrow5 hat5 hlt5
      have HU5 : Hid (UM w w5 (us2.set t true) (fs2 ++ [t]) (.slice (some ⟨ga, 0, none⟩) (fs2.length + 1) ca)) := by
       refine ⟨?_, ?_, ?_⟩
       ·rw [hgrow5.block w.heap.size (by simp; omega) (fun e => by have := (HU2.out.found.lt _ e.symm).1; omega), Below.heap_alloc _ _ _ (by simp; omega)]
        exact HUS.out
       ·rw [nV_snoc]
        simpa using hown5
       ·exact (((HU2.out.bel.setCell (Nat.le_refl _) _).alloc (by simp; omega) _).grown hgrow5 (by simp; omega) (fun j hj => by have := (HU2.out.found.lt j hj).1; omega))
      clear hown5 hgrow5 hat5 hlt5
      go_wp2_with fail
      go_roundw
      case rel =>
       refine ⟨q + 1, us2.set t true, fs2 ++ [t], by omega, by go_num, HU5.out, HBF2.out.add htn hut HRC.out, HLD2.out.add (by omega) t, by simp; omega, ?_, fun u hu => (HTS.out u hu).elim (fun h => List.mem_append.2 (.inl (HTK.out u h))) (fun e => by rw [e]; simp)⟩
       show (fs2 ++ [t])[i]? = some k
       rw [List.getElem?_append_left hi2]
       exact HFI2.out
      case measure => simp [intOf]; omega
     ·rw [hut] at cu
      go_wp2_with fail
      go_roundw
      case rel => exact ⟨q + 1, us2, fs2, by omega, by go_num, HU2.out, HBF2.out, HLD2.out, hi2, HFI2.out, fun u hu => (HTS.out u hu).elim (HTK.out u) (fun e => by rw [e]; exact (HBF2.out.mem t).1 hut)⟩
      case measure => simp [intOf]; omega
    ·have hqe : q = m.length := by omega
     subst hqe
     rw [List.take_length] at HTK
     go_wp2_with fail
     go_roundw
     case rel =>
      refine ⟨i + 1, us2, fs2, by omega, by go_num, HU2.out, HBF2.out, ?_⟩
      intro j k' t hj hk' ht
      by_cases e : j = i
      ·subst e
       have := HFI2.out
       rw [hk'] at this
       injection this with this
       subst this
       rw [HGET.out] at ht
       exact HTK.out t ht
      ·exact HLD2.out j k' t (by omega) hk' ht
     case measure => simp [intOf]; omega
  ·have hie : i = fs.length := by omega
   subst hie
   obtain ⟨pa, pc, rfl⟩ := row_form HU.out.found
   go_wp2_with fail
   go_ret
   exact ⟨us, rfl, HU.out.used, HBF.out.len, bfs_done HBF.out HLD.out, HU.out.bel⟩
end Go.Proofs.YtdhmandnamajpaaGreatDoor
namespace Go.Proofs.YtdhmandnamajpaaGreatDoor
open Go.RowKit
theorem all_false {S : List Sec} {k : Nat} (hk : k < S.length) (h : secB S[k] = false) : S.all secB = false := by
 rw [List.all_eq_false]
 exact ⟨S[k], by simp, by simp [h]⟩
set_option maxHeartbeats 400000 in
theorem within_some (S : List Sec) (d : ByteArray) (b off cap : Nat) (w : World) (hn : inB 1 6 (S.length : Int) = true) (hS : SecsAt w b off S) :
  Calls Tryz.prog 48 #[.agg #[.slice (some ⟨b, off, none⟩) S.length cap, .string d]] w fun e w' => e = .returned (.bool (fitB S d)) ∧ Below w.heap.size w w' := by
 have hlen := inB_iff.1 hn
 have hb := hS.1
 have HS : Hid (SecsAt w b off S) := hS
 clear hS
 go_enter Tryz.func48, Tryz.ntmps48
 go_wp2_with (first | (go_at_call 43; refine (count_fits _ _).mono ?_; rintro e w' ⟨rfl, rfl⟩))
 go_loopw [13] (fun i wr => ∃ k : Nat, k ≤ S.length ∧ i = .int .i64 k ∧ (S.take k).all secB = true ∧ Below (w.heap.size + 1) (w.alloc (.cells #[.slice (some ⟨b, off, none⟩) S.length cap, .string d] 40)) wr) (fun i _ => S.length - (intOf i).toNat)
 case atStart => exact ⟨0, Nat.zero_le _, rfl, by simp, Below.refl _ _⟩
 case round =>
  obtain ⟨k, hk, rfl, hall, hbel⟩ := hrel
  by_cases hlt : k < S.length
  ·obtain ⟨c0, c1, c2, c3⟩ := (SecsAt.below (HS.out.alloc _) (Nat.lt_succ_of_lt hb) hbel).at k hlt
   have hsz : w.heap.size + 1 ≤ wr.heap.size := by have := hbel.size; simpa using this
   cases hs : secB S[k]
   ·go_wp2_with (first | (go_at_call 81; refine (section_fits S[k] _).mono ?_; rintro e w' ⟨rfl, hb'⟩))
    go_ret
    refine ⟨ret_bool (by simp [fitB, all_false hlt hs]), ?_⟩
    exact ((((Below.refl _ _).alloc (Nat.le_refl _) _).trans (hbel.mono (by omega))).alloc (by omega) _).trans (hb'.mono (by simp; omega))
   ·go_wp2_with (first | (go_at_call 81; refine (section_fits S[k] _).mono ?_; rintro e w' ⟨rfl, hb'⟩))
    go_roundw
    case rel => exact ⟨k + 1, by omega, by go_num, by rw [all_take_succ _ _ hlt, hall, hs]; rfl, (hbel.alloc (by omega) _).trans (hb'.mono (by simp; omega))⟩
    case measure => simp [intOf]; omega
  ·obtain ⟨hc, hf⟩ := bcell hbel
   go_wp2_with (first | (go_at_call 45; refine (data_fits _ _).mono ?_; rintro e w' ⟨rfl, rfl⟩))
   go_ret
   refine ⟨ret_bool ?_, ?_⟩
   ·rw [List.take_of_length_le (by omega)] at hall
    simp [fitB, hn, hall]
   ·exact ((Below.refl _ _).alloc (Nat.le_refl _) _).trans (hbel.mono (by omega))
end Go.Proofs.YtdhmandnamajpaaGreatDoor
