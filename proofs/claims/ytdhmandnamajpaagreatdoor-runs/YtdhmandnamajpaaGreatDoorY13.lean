import Derived.Test.YtdhmandnamajpaaGreatDoorY00
import Derived.Test.YtdhmandnamajpaaGreatDoorY06
namespace Go.Proofs.YtdhmandnamajpaaGreatDoor
open Go.RowKit Go.Joins
set_option maxHeartbeats 1000000
set_option maxRecDepth 4000
def loadM (m : MS) : MS := if 16 ≤ topN m.st 0 then { m with st := dropN m.st 1, fin := some 5 } else { m with st := dropN m.st 1 ++ [m.mem.getD (topN m.st 0) 0] }
def storeM (m : MS) : MS := if 16 ≤ topN m.st 0 then { m with st := dropN m.st 2, fin := some 5 } else { m with st := dropN m.st 2, mem := m.mem.set (topN m.st 0) (topN m.st 1) }
theorem st_lay_i {w0 w : World} {M B : Nat} {F : Fix} {m : MS} {frV outV : Value} (h : MachY w0 w M B F m frV outV) (a : Int) (v : Nat) (ha : a = ((v : Nat) : Int)) (hB : B ≤ w.heap.size) (hl : m.st.length ≤ 100) :
  Calls Tryz.prog 128 #[.pointer (some ⟨M, 7, none⟩), .int .u16 a] w (DoY w0 w M B F { m with st := m.st ++ [v] } frV outV (.tuple #[])) := by
 subst ha
 exact st_lay h v hB hl
def jumpP (m : MS) (x : Ins) : Nat := if topN m.st 0 = 0 then m.pl else (x.to.getD 0 0).toNat
def tableP (m : MS) (x : Ins) : Nat := if topN m.st 0 < x.to.length then (x.to.getD (topN m.st 0) 0).toNat else m.pl
theorem box3 (w : World) (x : Ins) (tv : Value) : (w.alloc (.cells #[.int .i64 x.op, .int .i64 x.pl, .int .i64 x.nx, .int .i64 x.n, tv] 116)).heap[w.heap.size]? = some (.cells #[.int .i64 x.op, .int .i64 x.pl, .int .i64 x.nx, .int .i64 x.n, tv] 116 (0, 0)) := heap_alloc_new w _
theorem do_load {w0 w : World} {M B : Nat} {F : Fix} {m : MS} (h : MachX w0 w M B F m) (hB : B ≤ w.heap.size) (x : Ins) (ta : Option Addr) (tc : Nat) (hl : m.st.length ≤ 100) (h1 : 1 ≤ m.st.length) :
  Calls Tryz.prog 100 #[.pointer (some ⟨M, 0, none⟩), .agg #[.int .i64 x.op, .int .i64 x.pl, .int .i64 x.nx, .int .i64 x.n, .slice ta x.to.length tc]] w (DoP w0 w M B F (loadM m)) := by
 obtain ⟨frV, outV, hy⟩ := h.y
 have hM : M < w.heap.size := by obtain ⟨_, _, _, q⟩ := h; exact q.size
 have hlt : M < B := by obtain ⟨_, _, _, q⟩ := h; exact q.lt
 have HM := hidc (hy.below (boxB w (.cells #[.int .i64 x.op, .int .i64 x.pl, .int .i64 x.nx, .int .i64 x.n, .slice ta x.to.length tc] 116)) hB)
 have hB1 : B ≤ (w.alloc (.cells #[.int .i64 x.op, .int .i64 x.pl, .int .i64 x.nx, .int .i64 x.n, .slice ta x.to.length tc] 116)).heap.size := by simp; omega
 have HK0 := hidc (KT.below (boxB w (.cells #[.int .i64 x.op, .int .i64 x.pl, .int .i64 x.nx, .int .i64 x.n, .slice ta x.to.length tc] 116)))
 clear h hy
 go_enter Tryz.func100, Tryz.ntmps100
 go_wp2_with fail
 refine (st_take HM.out hB1 (by omega) h1).mono ?_
 rintro e w2 ⟨rfl, hm, hB2, hk, hs⟩
 have HM2 := hidc hm
 have HK2 := hidc hk
 clear hm hk
 by_cases h16 : 16 ≤ topN m.st 0
 ·have HL : Hid (loadM m = { m with st := dropN m.st 1, fin := some 5 }) := if_pos h16
  have h16' : (16 : Int) ≤ (topN m.st 0 : Int) := by omega
  go_wp2_with fail
  refine (m_end HM2.out.x hB2 5).mono ?_
  rintro e w3 ⟨rfl, hm, hB3, hk, hs3⟩
  have HM3 := hidc hm
  have HK3 := hidc hk
  clear hm hk
  go_wp2_with fail
  go_end0
  exact ⟨rfl, by rw [HL.out]; exact HM3.out, hB3, HK0.out.trans (HK2.out.trans HK3.out), by simp at hs; omega⟩
 ·have HL : Hid (loadM m = { m with st := dropN m.st 1 ++ [m.mem.getD (topN m.st 0) 0] }) := if_neg h16
  have h16' : ¬ (16 : Int) ≤ (topN m.st 0 : Int) := by omega
  have ha : topN m.st 0 < 16 := by omega
  obtain ⟨stV, hmach⟩ := HM2.out
  have cm := hmach.cm (topN m.st 0) ha
  have hM2 := hmach.size
  clear hmach
  generalize hag : topN m.st 0 = a at *
  clear hag
  go_wp2_with fail
  refine wp_region_held_drew (S := fun _ => True) (by kernel_rfl) trivial (fun hHeld => ?_)
  refine tk 0 ?va0 rfl ?hya0 hHeld ?resta0
  case hya0 => intro w hSw; (try dsimp only at hSw); go_simp; try with_reducible rfl
  simp only [Act.put, aA, aB, aC, aD, aE]
  refine tk 1 ?va1 rfl ?hya1 hHeld ?resta1
  case hya1 => intro w hSw; (try dsimp only at hSw); go_simp; try with_reducible rfl
  simp only [Act.put, aA, aB, aC, aD, aE, aF]
  refine tk 2 ?va2 rfl ?hya2 hHeld ?resta2
  case hya2 => intro w hSw; (try dsimp only at hSw); go_simp; try with_reducible rfl
  simp only [Act.put, aA, aB, aC, aD, aE, aF]
  refine tk 3 ?va3 rfl ?hya3 hHeld ?resta3
  case hya3 => intro w hSw; (try dsimp only at hSw); go_simp; try with_reducible rfl
  simp only [Act.put, aA, aB, aC, aD, aE, aF]
  refine tk 4 ?va4 rfl ?hya4 hHeld ?resta4
  case hya4 => intro w hSw; (try dsimp only at hSw); go_simp; try with_reducible rfl
  simp only [Act.put, aA, aB, aC, aD, aE, aF]
  refine tk 5 ?va5 rfl ?hya5 hHeld ?resta5
  case hya5 => intro w hSw; (try dsimp only at hSw); go_simp; try with_reducible rfl
  simp only [Act.put, aA, aB, aC, aD, aE, aF]
  refine tk 6 ?va6 rfl ?hya6 hHeld ?resta6
  case hya6 => intro w hSw; (try dsimp only at hSw); go_simp; try with_reducible rfl
  simp only [Act.put, aA, aB, aC, aD, aE, aF]
  refine tk 7 ?va7 rfl ?hya7 hHeld ?resta7
  case hya7 => intro w hSw; (try dsimp only at hSw); go_simp; try with_reducible rfl
  simp only [Act.put, aA, aB, aC, aD, aE, aF]
  refine rd 8 rfl (fun K hK => ?_)
  simp only [aD, aE, aF]
  go_simp
  refine hK.out _ _ trivial (fun hHeld => ?_)
  clear hK
  refine rd 9 rfl (fun K hK => ?_)
  simp only [aD, aE, aF]
  go_simp
  go_at_call 128
  refine (st_lay (m := { m with st := dropN m.st 1 }) (frV := frV) (outV := outV) (HM2.out.below ((Below.refl _ _).drew) hB2) (m.mem.getD a 0) hB2 (by simp only [dropN_len]; omega)).mono ?_
  rintro e w4 ⟨rfl, hm, hB3, hk, hs3⟩
  have HM3 := hidc hm
  have HK3 := hidc hk
  clear hm hk
  go_wp2_with fail
  refine hK.out _ _ trivial (fun hHeld => ?_)
  clear hK
  refine wpAnyH_done (by kernel_rfl) ?_ _
  go_wp2_with fail
  go_end0
  exact ⟨rfl, by rw [HL.out]; exact HM3.out.x, hB3, HK0.out.trans (HK2.out.trans (KT.trans (KT.below ((Below.refl _ _).drew)) HK3.out)), by simp at hs hs3; omega⟩
theorem do_store {w0 w : World} {M B : Nat} {F : Fix} {m : MS} (h : MachX w0 w M B F m) (hB : B ≤ w.heap.size) (x : Ins) (ta : Option Addr) (tc : Nat) (hl : m.st.length ≤ 100) (h2 : 2 ≤ m.st.length) :
  Calls Tryz.prog 101 #[.pointer (some ⟨M, 0, none⟩), .agg #[.int .i64 x.op, .int .i64 x.pl, .int .i64 x.nx, .int .i64 x.n, .slice ta x.to.length tc]] w (DoP w0 w M B F (storeM m)) := by
 obtain ⟨frV, outV, hy⟩ := h.y
 have hM : M < w.heap.size := by obtain ⟨_, _, _, q⟩ := h; exact q.size
 have hlt : M < B := by obtain ⟨_, _, _, q⟩ := h; exact q.lt
 have HM := hidc (hy.below (boxB w (.cells #[.int .i64 x.op, .int .i64 x.pl, .int .i64 x.nx, .int .i64 x.n, .slice ta x.to.length tc] 116)) hB)
 have hB1 : B ≤ (w.alloc (.cells #[.int .i64 x.op, .int .i64 x.pl, .int .i64 x.nx, .int .i64 x.n, .slice ta x.to.length tc] 116)).heap.size := by simp; omega
 have HK0 := hidc (KT.below (boxB w (.cells #[.int .i64 x.op, .int .i64 x.pl, .int .i64 x.nx, .int .i64 x.n, .slice ta x.to.length tc] 116)))
 clear h hy
 go_enter Tryz.func101, Tryz.ntmps101
 go_wp2_with fail
 refine (st_takeTwo HM.out hB1 (by omega) h2).mono ?_
 rintro e w2 ⟨rfl, hm, hB2, hk, hs⟩
 have HM2 := hidc hm
 have HK2 := hidc hk
 clear hm hk
 by_cases h16 : 16 ≤ topN m.st 0
 ·have HL : Hid (storeM m = { m with st := dropN m.st 2, fin := some 5 }) := if_pos h16
  have h16' : (16 : Int) ≤ (topN m.st 0 : Int) := by omega
  go_wp2_with fail
  refine (m_end HM2.out.x hB2 5).mono ?_
  rintro e w3 ⟨rfl, hm, hB3, hk, hs3⟩
  have HM3 := hidc hm
  have HK3 := hidc hk
  clear hm hk
  go_wp2_with fail
  go_end0
  exact ⟨rfl, by rw [HL.out]; exact HM3.out, hB3, HK0.out.trans (HK2.out.trans HK3.out), by simp at hs; omega⟩
 ·have HL : Hid (storeM m = { m with st := dropN m.st 2, mem := m.mem.set (topN m.st 0) (topN m.st 1) }) := if_neg h16
  have h16' : ¬ (16 : Int) ≤ (topN m.st 0 : Int) := by omega
  have ha : topN m.st 0 < 16 := by omega
  obtain ⟨stV, hmach⟩ := HM2.out
  have cm := hmach.cm (topN m.st 0) ha
  have fm := hmach.froz (8 + topN m.st 0)
  have hM2 := hmach.size
  have HS := hidc (hmach.set_mem (topN m.st 0) (topN m.st 1) ha)
  have HKS : Hid (KT w2 (w2.setCell ⟨M, 8 + topN m.st 0, none⟩ (.int .u16 (topN m.st 1 : Nat)))) := by
   obtain ⟨cs, e, _⟩ := hmach.blk
   exact KT.set e _ _
  clear hmach
  generalize hag : topN m.st 0 = a at *
  clear hag
  go_wp2_with fail
  go_end0
  exact ⟨rfl, by rw [HL.out]; exact ⟨_, _, _, HS.out⟩, by simpa [World.setCell] using hB2, HK0.out.trans (HK2.out.trans HKS.out), by simp at hs; simp [World.setCell]; omega⟩
theorem do_data {w0 w : World} {M B : Nat} {F : Fix} {m : MS} (h : MachX w0 w M B F m) (hB : B ≤ w.heap.size) (x : Ins) (ta : Option Addr) (tc : Nat) (hl : m.st.length ≤ 100) (h1 : 1 ≤ m.st.length) (hv : topN m.st 0 < 65536) :
  Calls Tryz.prog 102 #[.pointer (some ⟨M, 0, none⟩), .agg #[.int .i64 x.op, .int .i64 x.pl, .int .i64 x.nx, .int .i64 x.n, .slice ta x.to.length tc]] w (DoP w0 w M B F ({ m with st := dropN m.st 1 ++ [byteN F.d (topN m.st 0)] })) := by
 obtain ⟨frV, outV, hy⟩ := h.y
 have hM : M < w.heap.size := by obtain ⟨_, _, _, q⟩ := h; exact q.size
 have hlt : M < B := by obtain ⟨_, _, _, q⟩ := h; exact q.lt
 have HM := hidc (hy.below (boxB w (.cells #[.int .i64 x.op, .int .i64 x.pl, .int .i64 x.nx, .int .i64 x.n, .slice ta x.to.length tc] 116)) hB)
 have hB1 : B ≤ (w.alloc (.cells #[.int .i64 x.op, .int .i64 x.pl, .int .i64 x.nx, .int .i64 x.n, .slice ta x.to.length tc] 116)).heap.size := by simp; omega
 have HK0 := hidc (KT.below (boxB w (.cells #[.int .i64 x.op, .int .i64 x.pl, .int .i64 x.nx, .int .i64 x.n, .slice ta x.to.length tc] 116)))
 clear h hy
 go_enter Tryz.func102, Tryz.ntmps102
 go_wp2_with fail
 refine (st_take HM.out hB1 (by omega) h1).mono ?_
 rintro e w2 ⟨rfl, hm, hB2, hk, hs⟩
 have HM2 := hidc hm
 have HK2 := hidc hk
 clear hm hk
 obtain ⟨stV, hmach⟩ := HM2.out
 have c1 := hmach.c1
 have hM2 := hmach.size
 clear hmach
 have hw64 : wrap64 (topN m.st 0 : Int) = (topN m.st 0 : Int) := by unfold wrap64; omega
 by_cases ha : topN m.st 0 < F.d.size
 ·have hb := byte_nat F.d _ ha
  have hl8 : F.d[topN m.st 0].toNat < 256 := UInt8.toNat_lt _
  have HBY : Hid (F.d[topN m.st 0].toNat = byteN F.d (topN m.st 0)) := hb
  have hw : IntKind.u16.wrap (F.d[topN m.st 0].toNat : Int) = (F.d[topN m.st 0].toNat : Int) := by rw [w16_wrap]; unfold w16; omega
  clear hb
  generalize hag : topN m.st 0 = a at *
  clear hag
  go_wp2_with fail
  refine (st_lay HM2.out F.d[a].toNat hB2 (by simp only [dropN_len]; omega)).mono ?_
  rintro e w3 ⟨rfl, hm, hB3, hk, hs3⟩
  have HM3 := hidc hm
  have HK3 := hidc hk
  clear hm hk
  go_wp2_with fail
  go_end0
  exact ⟨rfl, by rw [← HBY.out]; exact HM3.out.x, hB3, HK0.out.trans (HK2.out.trans HK3.out), by simp at hs; omega⟩
 ·have HBY : Hid (byteN F.d (topN m.st 0) = 0) := by
   show byteN F.d (topN m.st 0) = 0
   unfold byteN
   have hge : F.d.data.toList.length ≤ topN m.st 0 := by
    have : F.d.data.toList.length = F.d.size := by simp
    omega
   rw [List.getD, List.getElem?_eq_none hge]
   rfl
  have ha' : ¬ (topN m.st 0 : Int) < (F.d.size : Int) := by omega
  generalize hag : topN m.st 0 = a at *
  clear hag
  go_wp2_with fail
  refine (st_lay_i HM2.out 0 0 rfl hB2 (by simp only [dropN_len]; omega)).mono ?_
  rintro e w3 ⟨rfl, hm, hB3, hk, hs3⟩
  have HM3 := hidc hm
  have HK3 := hidc hk
  clear hm hk
  go_wp2_with fail
  go_end0
  exact ⟨rfl, by rw [HBY.out]; exact HM3.out.x, hB3, HK0.out.trans (HK2.out.trans HK3.out), by simp at hs; omega⟩
theorem do_jump {w0 w : World} {M B : Nat} {F : Fix} {m : MS} (h : MachX w0 w M B F m) (hB : B ≤ w.heap.size) (x : Ins) (ta : Option Addr) (tc : Nat) (h1 : x.to.length = 1) (hT : ∀ (j : Nat) (t : Int), x.to[j]? = some t → 0 ≤ t ∧ ∃ q, ta = some ⟨q, 0, none⟩ ∧ q < B ∧ q ≠ M ∧ w0.cell? ⟨q, j, none⟩ = some (.int .i64 t)) :
  Calls Tryz.prog 104 #[.pointer (some ⟨M, 0, none⟩), .agg #[.int .i64 x.op, .int .i64 x.pl, .int .i64 x.nx, .int .i64 x.n, .slice ta x.to.length tc]] w (DoP w0 w M B F ({ m with pl := (x.to.getD 0 0).toNat })) := by
 obtain ⟨frV, stV, outV, hmach⟩ := h
 have hM := hmach.size
 have hlt := hmach.lt
 obtain ⟨t, hx0⟩ : ∃ t, x.to[0]? = some t := ⟨x.to[0], by simp [h1]⟩
 have hgt : x.to.getD 0 0 = t := by simp [List.getD, hx0]
 obtain ⟨ht0, q, rfl, hq1, hq2, hq3⟩ := hT 0 t hx0
 have c4 := hmach.c4
 have f4 := hmach.froz 4
 have ct := (hmach.kp.cell hq1 hq2 0).trans hq3
 have HTN : Hid ((((x.to.getD 0 0).toNat : Nat) : Int) = t) := by
  show (((x.to.getD 0 0).toNat : Nat) : Int) = t
  rw [hgt]
  omega
 have hs0 := hmach.set_pl (x.to.getD 0 0).toNat
 rw [HTN.out] at hs0
 have HS := hidc (hs0.below (boxB _ (.cells #[.int .i64 x.op, .int .i64 x.pl, .int .i64 x.nx, .int .i64 x.n, .slice (some ⟨q, 0, none⟩) x.to.length tc] 116)) (by simpa [World.setCell] using hB))
 have HKS : Hid (KT w (w.setCell ⟨M, 4, none⟩ (.int .i64 t))) := by
  obtain ⟨cs, e, _⟩ := hmach.blk
  exact KT.set e _ _
 have hqs : q < w.heap.size := by omega
 clear hmach hT hx0 hgt hs0
 have hl0 : (0 : Int) < (x.to.length : Int) := by omega
 clear h1
 go_enter Tryz.func104, Tryz.ntmps104
 go_wp2_with fail
 go_end0
 exact ⟨rfl, ⟨_, _, _, HS.out⟩, by simp [World.setCell]; omega, HKS.out.trans (KT.below (boxB _ _)), by simp [World.setCell]⟩
theorem do_jumpIf {w0 w : World} {M B : Nat} {F : Fix} {m : MS} (h : MachX w0 w M B F m) (hB : B ≤ w.heap.size) (x : Ins) (ta : Option Addr) (tc : Nat) (hl : m.st.length ≤ 100) (h1 : 1 ≤ m.st.length) (HX1 : Hid (x.to.length = 1)) (hv : topN m.st 0 < 65536) (hT : ∀ (j : Nat) (t : Int), x.to[j]? = some t → 0 ≤ t ∧ ∃ q, ta = some ⟨q, 0, none⟩ ∧ q < B ∧ q ≠ M ∧ w0.cell? ⟨q, j, none⟩ = some (.int .i64 t)) :
  Calls Tryz.prog 105 #[.pointer (some ⟨M, 0, none⟩), .agg #[.int .i64 x.op, .int .i64 x.pl, .int .i64 x.nx, .int .i64 x.n, .slice ta x.to.length tc]] w (DoP w0 w M B F ({ m with st := dropN m.st 1, pl := jumpP m x })) := by
 obtain ⟨frV, outV, hy⟩ := h.y
 have hM : M < w.heap.size := by obtain ⟨_, _, _, q⟩ := h; exact q.size
 have hlt : M < B := by obtain ⟨_, _, _, q⟩ := h; exact q.lt
 have HM := hidc (hy.below (boxB w (.cells #[.int .i64 x.op, .int .i64 x.pl, .int .i64 x.nx, .int .i64 x.n, .slice ta x.to.length tc] 116)) hB)
 have hB1 : B ≤ (w.alloc (.cells #[.int .i64 x.op, .int .i64 x.pl, .int .i64 x.nx, .int .i64 x.n, .slice ta x.to.length tc] 116)).heap.size := by simp; omega
 have HK0 := hidc (KT.below (boxB w (.cells #[.int .i64 x.op, .int .i64 x.pl, .int .i64 x.nx, .int .i64 x.n, .slice ta x.to.length tc] 116)))
 have hI := box3 w x (.slice ta x.to.length tc)
 have HT := hidc hT
 clear h hy hT
 have hw64 : wrap64 (topN m.st 0 : Int) = (topN m.st 0 : Int) := by unfold wrap64; omega
 go_enter Tryz.func105, Tryz.ntmps105
 go_wp2_with fail
 refine (st_take HM.out hB1 (by omega) h1).mono ?_
 rintro e w2 ⟨rfl, hm, hB2, hk, hs⟩
 have hI2 := hk _ _ _ _ hI (by decide) (by decide) (by decide) (by decide)
 have i4 : w2.cell? ⟨w.heap.size, 4, none⟩ = some (.slice ta x.to.length tc) := by rw [cell_of_block hI2]; rfl
 have hsz2 : w.heap.size < w2.heap.size := blt hI2
 have HM2 := hidc hm
 have HK2 := hidc hk
 clear hm hk hI hI2
 by_cases ha : topN m.st 0 = 0
 ·have HP : Hid (jumpP m x = m.pl) := if_pos ha
  have ha1 : ((topN m.st 0 : Int) == 0) = true := by rw [ha]; rfl
  clear ha
  generalize hag : topN m.st 0 = a at *
  clear hag
  go_wp2_with fail
  go_end0
  exact ⟨rfl, by rw [HP.out]; exact HM2.out.x, hB2, HK0.out.trans HK2.out, by simp at hs; omega⟩
 ·have HP : Hid (jumpP m x = (x.to.getD 0 0).toNat) := if_neg ha
  obtain ⟨t, hx0⟩ : ∃ t, x.to[0]? = some t := ⟨x.to[0]'(by have := HX1.out; omega), by simp [HX1.out]⟩
  have hgt : x.to.getD 0 0 = t := by simp [List.getD, hx0]
  have ha1 : ((topN m.st 0 : Int) != 0) = true := by simp; omega
  have hl0 : (0 : Int) < (x.to.length : Int) := by have := HX1.out; omega
  clear ha
  obtain ⟨ht0, q, rfl, hq1, hq2, hq3⟩ := HT.out 0 t hx0
  obtain ⟨stV, hmach⟩ := HM2.out
  have c4 := hmach.c4
  have f4 := hmach.froz 4
  have hM2 := hmach.size
  have ct := (hmach.kp.cell hq1 hq2 0).trans hq3
  have hqs : q < w2.heap.size := by omega
  have HTN : Hid ((((x.to.getD 0 0).toNat : Nat) : Int) = t) := by
   show (((x.to.getD 0 0).toNat : Nat) : Int) = t
   rw [hgt]
   omega
  have hs0 := hmach.set_pl (x.to.getD 0 0).toNat
  rw [HTN.out] at hs0
  have HS := hidc hs0
  have HKS : Hid (KT w2 (w2.setCell ⟨M, 4, none⟩ (.int .i64 t))) := by
   obtain ⟨cs, e, _⟩ := hmach.blk
   exact KT.set e _ _
  clear hmach hx0 hgt hs0
  generalize hag : topN m.st 0 = a at *
  clear hag
  go_wp2_with fail
  go_end0
  exact ⟨rfl, by rw [HP.out]; exact ⟨_, _, _, HS.out⟩, by simp [World.setCell]; omega, HK0.out.trans (HK2.out.trans HKS.out), by simp at hs; simp [World.setCell]; omega⟩
theorem do_jumpBy {w0 w : World} {M B : Nat} {F : Fix} {m : MS} (h : MachX w0 w M B F m) (hB : B ≤ w.heap.size) (x : Ins) (ta : Option Addr) (tc : Nat) (hl : m.st.length ≤ 100) (h1 : 1 ≤ m.st.length) (hv : topN m.st 0 < 65536) (hT : ∀ (j : Nat) (t : Int), x.to[j]? = some t → 0 ≤ t ∧ ∃ q, ta = some ⟨q, 0, none⟩ ∧ q < B ∧ q ≠ M ∧ w0.cell? ⟨q, j, none⟩ = some (.int .i64 t)) :
  Calls Tryz.prog 106 #[.pointer (some ⟨M, 0, none⟩), .agg #[.int .i64 x.op, .int .i64 x.pl, .int .i64 x.nx, .int .i64 x.n, .slice ta x.to.length tc]] w (DoP w0 w M B F ({ m with st := dropN m.st 1, pl := tableP m x })) := by
 obtain ⟨frV, outV, hy⟩ := h.y
 have hM : M < w.heap.size := by obtain ⟨_, _, _, q⟩ := h; exact q.size
 have hlt : M < B := by obtain ⟨_, _, _, q⟩ := h; exact q.lt
 have HM := hidc (hy.below (boxB w (.cells #[.int .i64 x.op, .int .i64 x.pl, .int .i64 x.nx, .int .i64 x.n, .slice ta x.to.length tc] 116)) hB)
 have hB1 : B ≤ (w.alloc (.cells #[.int .i64 x.op, .int .i64 x.pl, .int .i64 x.nx, .int .i64 x.n, .slice ta x.to.length tc] 116)).heap.size := by simp; omega
 have HK0 := hidc (KT.below (boxB w (.cells #[.int .i64 x.op, .int .i64 x.pl, .int .i64 x.nx, .int .i64 x.n, .slice ta x.to.length tc] 116)))
 have hI := box3 w x (.slice ta x.to.length tc)
 have HT := hidc hT
 clear h hy hT
 have hw64 : wrap64 (topN m.st 0 : Int) = (topN m.st 0 : Int) := by unfold wrap64; omega
 go_enter Tryz.func106, Tryz.ntmps106
 go_wp2_with fail
 refine (st_take HM.out hB1 (by omega) h1).mono ?_
 rintro e w2 ⟨rfl, hm, hB2, hk, hs⟩
 have hI2 := hk _ _ _ _ hI (by decide) (by decide) (by decide) (by decide)
 have i4 : w2.cell? ⟨w.heap.size, 4, none⟩ = some (.slice ta x.to.length tc) := by rw [cell_of_block hI2]; rfl
 have hsz2 : w.heap.size < w2.heap.size := blt hI2
 have HM2 := hidc hm
 have HK2 := hidc hk
 clear hm hk hI hI2
 by_cases ha : topN m.st 0 < x.to.length
 ·have HP : Hid (tableP m x = (x.to.getD (topN m.st 0) 0).toNat) := if_pos ha
  obtain ⟨t, hx0⟩ : ∃ t, x.to[topN m.st 0]? = some t := ⟨x.to[topN m.st 0], by simp [ha]⟩
  have hgt : x.to.getD (topN m.st 0) 0 = t := by simp [List.getD, hx0]
  have ha1 : (topN m.st 0 : Int) < (x.to.length : Int) := by omega
  obtain ⟨ht0, q, rfl, hq1, hq2, hq3⟩ := HT.out (topN m.st 0) t hx0
  obtain ⟨stV, hmach⟩ := HM2.out
  have c4 := hmach.c4
  have f4 := hmach.froz 4
  have hM2 := hmach.size
  have ct := (hmach.kp.cell hq1 hq2 (topN m.st 0)).trans hq3
  have hqs : q < w2.heap.size := by omega
  have HTN : Hid ((((x.to.getD (topN m.st 0) 0).toNat : Nat) : Int) = t) := by
   show (((x.to.getD (topN m.st 0) 0).toNat : Nat) : Int) = t
   rw [hgt]
   omega
  have hs0 := hmach.set_pl (x.to.getD (topN m.st 0) 0).toNat
  rw [HTN.out] at hs0
  have HS := hidc hs0
  have HKS : Hid (KT w2 (w2.setCell ⟨M, 4, none⟩ (.int .i64 t))) := by
   obtain ⟨cs, e, _⟩ := hmach.blk
   exact KT.set e _ _
  clear hmach hx0 hgt hs0
  generalize hag : topN m.st 0 = a at *
  clear hag
  go_wp2_with fail
  go_end0
  exact ⟨rfl, by rw [HP.out]; exact ⟨_, _, _, HS.out⟩, by simp [World.setCell]; omega, HK0.out.trans (HK2.out.trans HKS.out), by simp at hs; simp [World.setCell]; omega⟩
 ·have HP : Hid (tableP m x = m.pl) := if_neg ha
  have ha1 : ¬ (topN m.st 0 : Int) < (x.to.length : Int) := by omega
  generalize hag : topN m.st 0 = a at *
  clear hag
  go_wp2_with fail
  go_end0
  exact ⟨rfl, by rw [HP.out]; exact HM2.out.x, hB2, HK0.out.trans HK2.out, by simp at hs; omega⟩
end Go.Proofs.YtdhmandnamajpaaGreatDoor
namespace Go.Proofs.YtdhmandnamajpaaGreatDoor
open Go.RowKit Go.Joins
set_option maxHeartbeats 1000000
set_option maxRecDepth 4000
theorem newsN (w : World) (x : Value) (g : Nat) (hg : g = w.heap.size) : ∀ j u, [x][j]? = some u → (w.alloc (.cells #[x] 3)).cell? ((⟨g, 0, none⟩ : Addr).add j) = some u := by
 intro j u hj
 subst hg
 have hb : (w.alloc (.cells #[x] 3)).heap[w.heap.size]? = some (.cells #[x] 3 (0, 0)) := heap_alloc_new w _
 exact World.news_of_block hb j u hj
theorem newsF (w : World) (a b c : Value) (g : Nat) (hg : g = w.heap.size) : ∀ j u, [a, b, c][j]? = some u → (w.alloc (.cells #[a, b, c] 81)).cell? ((⟨g, 0, none⟩ : Addr).add j) = some u := by
 intro j u hj
 subst hg
 have hb : (w.alloc (.cells #[a, b, c] 81)).heap[w.heap.size]? = some (.cells #[a, b, c] 81 (0, 0)) := heap_alloc_new w _
 exact World.news_of_block hb j u hj
theorem oneF (a b c : Int) : ∀ u ∈ [Value.int .i64 a, .int .i64 b, .int .i64 c], u.oneCell' = true := by
 intro u hu
 simp at hu
 rcases hu with rfl | rfl | rfl <;> rfl
theorem m_enter {w0 w : World} {M B : Nat} {F : Fix} {m : MS} (h : MachX w0 w M B F m) (hB : B ≤ w.heap.size) (S : List Sec) (b off cap n : Nat) (hF : F.secsV = .slice (some ⟨b, off, none⟩) S.length cap) (hS : SecsAt w0 b off S) (hbB : b < B) (hbM : b ≠ M) (hn : n < S.length) (hal : S.all secB = true) (hl : m.st.length ≤ 100) (hin : inS S n ≤ m.st.length) :
  Calls Tryz.prog 133 #[.pointer (some ⟨M, 0, none⟩), .int .i64 (n : Nat)] w (DoP w0 w M B F (enterM S n m)) := by
 obtain ⟨frV, stV, outV, hmach⟩ := h
 have hM := hmach.size
 have hlt := hmach.lt
 have c0 := hmach.c0
 rw [hF] at c0
 obtain ⟨q0, q1, q2, q3⟩ := hS.at n hn
 have d0 := (hmach.kp.cell hbB hbM (off + n * 4)).trans q0
 have d1 := (hmach.kp.cell hbB hbM (off + n * 4 + 1)).trans q1
 have d2 := (hmach.kp.cell hbB hbM (off + n * 4 + 2)).trans q2
 have d3 := (hmach.kp.cell hbB hbM (off + n * 4 + 3)).trans q3
 have hbs : b < w.heap.size := by omega
 have hsec := (secB_iff _).1 (sec_get hal n hn)
 rw [inS_get S n hn] at hin
 have hEM : enterM S n m = if (64 : Int) < m.st.length + S[n].m - S[n].i then { m with fin := some 4 } else { m with sec := n, pl := 0, base := m.st.length - S[n].i.toNat } := by
  unfold enterM
  rw [inS_get S n hn, maxS_get S n hn]
 have HEM := hidc hEM
 clear hEM q0 q1 q2 q3
 generalize S[n] = s at *
 obtain ⟨sa, sc, rfl⟩ := row_form hmach.st
 have c7 := hmach.c7
 have c3 := hmach.c3
 have c4 := hmach.c4
 have c5 := hmach.c5
 have f3 := hmach.froz 3
 have f4 := hmach.froz 4
 have f5 := hmach.froz 5
 have HMA := hidc hmach
 clear hmach
 go_enter Tryz.func133, Tryz.ntmps133
 go_wp2_with fail
 by_cases h64 : (64 : Int) < m.st.length + s.m - s.i
 ·have h64' : (64 : Int) < (m.st.length : Int) + s.m - s.i := h64
  have HE2 : Hid (enterM S n m = { m with fin := some 4 }) := HEM.out.trans (if_pos h64)
  go_quiet (fail)
  go_wp2_with fail
  refine (m_end (v := 4) (MachX.below ⟨_, _, _, HMA.out⟩ (bdr (boxB _ _) _) hB) (by simp [World.drewN]; omega)).mono ?_
  rintro e w3 ⟨rfl, hm, hB3, hk, hs3⟩
  have HM3 := hidc hm
  have HK3 := hidc hk
  clear hm hk
  go_wp2_with fail
  go_end0
  exact ⟨rfl, by rw [HE2.out]; exact HM3.out, hB3, (KT.below (bdr (boxB _ _) _)).trans HK3.out, by simp [World.drewN] at hs3; omega⟩
 ·have HE2 : Hid (enterM S n m = { m with sec := n, pl := 0, base := m.st.length - s.i.toNat }) := HEM.out.trans (if_neg h64)
  go_quiet (fail)
  go_wp2_with fail
  have HBV : Hid ((m.st.length : Int) - s.i = ((m.st.length - s.i.toNat : Nat) : Int)) := by show (m.st.length : Int) - s.i = ((m.st.length - s.i.toNat : Nat) : Int); omega
  have hmb := HMA.out.below (bdr (boxB w (.cells #[.int .i64 s.i, .int .i64 s.o, .int .i64 s.m, .string s.code] 65)) nq) hB
  have kI : ((w.alloc (.cells #[.int .i64 s.i, .int .i64 s.o, .int .i64 s.m, .string s.code] 65)).drewN nq).heap[w.heap.size]? = some (.cells #[.int .i64 s.i, .int .i64 s.o, .int .i64 s.m, .string s.code] 65 (0, 0)) := heap_alloc_new w _
  have hI0 : ((w.alloc (.cells #[.int .i64 s.i, .int .i64 s.o, .int .i64 s.m, .string s.code] 65)).drewN nq).cell? ⟨w.heap.size, 0, none⟩ = some (.int .i64 s.i) := by rw [cell_of_block kI]; rfl
  have HKA : Hid (KT w ((w.alloc (.cells #[.int .i64 s.i, .int .i64 s.o, .int .i64 s.m, .string s.code] 65)).drewN nq)) := KT.below (bdr (boxB _ _) _)
  have hsW : w.heap.size + 1 = ((w.alloc (.cells #[.int .i64 s.i, .int .i64 s.o, .int .i64 s.m, .string s.code] 65)).drewN nq).heap.size := by simp [World.drewN]
  generalize (w.alloc (.cells #[.int .i64 s.i, .int .i64 s.o, .int .i64 s.m, .string s.code] 65)).drewN nq = wb at *
  have e3 := hmb.c3
  have e4 := hmb.c4
  have e5 := hmb.c5
  have e7 := hmb.c7
  have g3 := hmb.froz 3
  have g4 := hmb.froz 4
  have g5 := hmb.froz 5
  have hs2 := ((hmb.set_sec n).set_pl 0).set_base (m.st.length - s.i.toNat)
  rw [← HBV.out] at hs2
  have HS := hidc hs2
  have HKB : Hid (KT wb (((wb.setCell ⟨M, 3, none⟩ (.int .i64 (n : Nat))).setCell ⟨M, 4, none⟩ (.int .i64 ((0 : Nat) : Int))).setCell ⟨M, 5, none⟩ (.int .i64 ((m.st.length : Int) - s.i)))) := by
   obtain ⟨cs, e, _⟩ := hmb.blk
   exact ((KT.set e _ _).trans (KT.set (block_setCell e _) _ _)).trans (KT.set (block_setCell (block_setCell e _) _) _ _)
  have hMb := hmb.size
  have hne : w.heap.size ≠ M := by omega
  clear hmb hs2 kI
  have hw1 : IntKind.i64.wrap ((m.st.length : Int) - s.i) = (m.st.length : Int) - s.i := by rw [IntKind.wrap_i64]; omega
  refine wp_region_held_drew (S := fun w' => w'.cell? ⟨M, 7, none⟩ = some (.slice sa m.st.length sc) ∧ w'.cell? ⟨w.heap.size, 0, none⟩ = some (.int .i64 s.i)) (by kernel_rfl) ⟨e7, hI0⟩ (fun hHeld => ?_)
  refine tk 0 ?va0 rfl ?hya0 hHeld ?resta0
  case hya0 => rintro w ⟨z0, z1⟩; go_simp; try with_reducible rfl
  simp only [Act.put, aA, aB, aC, aD, aE]
  refine tk 1 ?va1 rfl ?hya1 hHeld ?resta1
  case hya1 => rintro w ⟨z0, z1⟩; go_simp; try with_reducible rfl
  simp only [Act.put, aA, aB, aC, aD, aE, aF]
  refine tk 2 ?va2 rfl ?hya2 hHeld ?resta2
  case hya2 => rintro w ⟨z0, z1⟩; go_simp; try with_reducible rfl
  simp only [Act.put, aA, aB, aC, aD, aE, aF]
  refine tk 3 ?va3 rfl ?hya3 hHeld ?resta3
  case hya3 => rintro w ⟨z0, z1⟩; go_simp; try with_reducible rfl
  simp only [Act.put, aA, aB, aC, aD, aE, aF]
  refine tk 4 ?va4 rfl ?hya4 hHeld ?resta4
  case hya4 => rintro w ⟨z0, z1⟩; go_simp; try with_reducible rfl
  simp only [Act.put, aA, aB, aC, aD, aE, aF]
  refine tk 5 ?va5 rfl ?hya5 hHeld ?resta5
  case hya5 => rintro w ⟨z0, z1⟩; go_simp; try with_reducible rfl
  simp only [Act.put, aA, aB, aC, aD, aE, aF]
  refine tk 6 ?va6 rfl ?hya6 hHeld ?resta6
  case hya6 => rintro w ⟨z0, z1⟩; go_simp; try with_reducible rfl
  simp only [Act.put, aA, aB, aC, aD, aE, aF]
  refine tk 7 ?va7 rfl ?hya7 hHeld ?resta7
  case hya7 => rintro w ⟨z0, z1⟩; go_simp; try with_reducible rfl
  simp only [Act.put, aA, aB, aC, aD, aE, aF]
  refine tk 8 ?va8 rfl ?hya8 hHeld ?resta8
  case hya8 => rintro w ⟨z0, z1⟩; go_simp; try with_reducible rfl
  simp only [Act.put, aA, aB, aC, aD, aE, aF]
  refine tk 9 (.int .i64 ((m.st.length : Int) - s.i)) rfl ?hya9 hHeld ?resta9
  case hya9 => rintro w ⟨z0, z1⟩; go_simp; try with_reducible rfl
  simp only [Act.put, aA, aB, aC, aD, aE, aF]
  refine tk 10 ?va10 rfl ?hya10 hHeld ?resta10
  case hya10 => rintro w ⟨z0, z1⟩; go_simp; try with_reducible rfl
  simp only [Act.put, aA, aB, aC, aD, aE, aF]
  refine tk 11 ?va11 rfl ?hya11 hHeld ?resta11
  case hya11 => rintro w ⟨z0, z1⟩; go_simp; try with_reducible rfl
  simp only [Act.put, aA, aB, aC, aD, aE, aF]
  refine tk 12 ?va12 rfl ?hya12 hHeld ?resta12
  case hya12 => rintro w ⟨z0, z1⟩; go_simp; try with_reducible rfl
  simp only [Act.put, aA, aB, aC, aD, aE, aF]
  refine rd 13 rfl (fun K hK => ?_)
  simp only [aD, aE, aF]
  go_simp
  refine hK.out _ _ ⟨?_, ?_⟩ (fun hHeld => ?_)
  ·exact (mset_other (adne (by omega))).trans ((mset_other (adne (by omega))).trans ((mset_other (adne (by omega))).trans hHeld.1))
  ·exact (set_other _ hne).trans ((set_other _ hne).trans ((set_other _ hne).trans hHeld.2))
  clear hK
  refine wpAnyH_done (by kernel_rfl) ?_ _
  go_wp2_with fail
  go_end0
  exact ⟨rfl, by rw [HE2.out]; exact MachX.below ⟨_, _, _, HS.out⟩ ((Below.refl _ _).drew) (by simp [World.setCell]; omega), by simp [World.setCell]; omega, HKA.out.trans (HKB.out.trans (KT.below ((Below.refl _ _).drew))), by simp [World.setCell]; omega⟩
theorem do_goOver {w0 w : World} {M B : Nat} {F : Fix} {m : MS} (h : MachX w0 w M B F m) (hB : B ≤ w.heap.size) (x : Ins) (ta : Option Addr) (tc : Nat) (S : List Sec) (b off cap : Nat) (hF : F.secsV = .slice (some ⟨b, off, none⟩) S.length cap) (hS : SecsAt w0 b off S) (hbB : b < B) (hbM : b ≠ M) (hn : x.n < S.length) (hal : S.all secB = true) (hl : m.st.length ≤ 100) (hin : inS S x.n ≤ m.st.length) :
  Calls Tryz.prog 109 #[.pointer (some ⟨M, 0, none⟩), .agg #[.int .i64 x.op, .int .i64 x.pl, .int .i64 x.nx, .int .i64 x.n, .slice ta x.to.length tc]] w (DoP w0 w M B F (enterM S x.n m)) := by
 obtain ⟨frV, outV, hy⟩ := h.y
 have hM : M < w.heap.size := by obtain ⟨_, _, _, q⟩ := h; exact q.size
 have hlt : M < B := by obtain ⟨_, _, _, q⟩ := h; exact q.lt
 have HM := hidc (hy.below (boxB w (.cells #[.int .i64 x.op, .int .i64 x.pl, .int .i64 x.nx, .int .i64 x.n, .slice ta x.to.length tc] 116)) hB)
 have hB1 : B ≤ (w.alloc (.cells #[.int .i64 x.op, .int .i64 x.pl, .int .i64 x.nx, .int .i64 x.n, .slice ta x.to.length tc] 116)).heap.size := by simp; omega
 have HK0 := hidc (KT.below (boxB w (.cells #[.int .i64 x.op, .int .i64 x.pl, .int .i64 x.nx, .int .i64 x.n, .slice ta x.to.length tc] 116)))
 clear h hy
 go_enter Tryz.func109, Tryz.ntmps109
 go_wp2_with fail
 refine (m_enter HM.out.x hB1 S b off cap x.n hF hS hbB hbM hn hal hl hin).mono ?_
 rintro e w2 ⟨rfl, hm, hB2, hk, hs⟩
 have HM2 := hidc hm
 have HK2 := hidc hk
 clear hm hk
 go_wp2_with fail
 go_end0
 exact ⟨rfl, HM2.out, hB2, HK0.out.trans HK2.out, by simp at hs; omega⟩
theorem fV_take (a : List (Nat × Nat × Nat)) (k : Nat) : (fV a).take (k * 3) = fV (a.take k) := by
 induction a generalizing k with
 | nil => simp [fV]
 | cons f r ih =>
  cases k with
  | zero => simp [fV]
  | succ k =>
   rw [show (k + 1) * 3 = k * 3 + 3 by omega]
   simp [fV, ih]
theorem do_goBack {w0 w : World} {M B : Nat} {F : Fix} {m : MS} (h : MachX w0 w M B F m) (hB : B ≤ w.heap.size) (x : Ins) (ta : Option Addr) (tc : Nat) (hl : m.fr.length ≤ 8) (h1 : 1 ≤ m.fr.length) :
  Calls Tryz.prog 108 #[.pointer (some ⟨M, 0, none⟩), .agg #[.int .i64 x.op, .int .i64 x.pl, .int .i64 x.nx, .int .i64 x.n, .slice ta x.to.length tc]] w (DoP w0 w M B F ({ m with sec := (m.fr.getLastD (0, 0, 0)).1, pl := (m.fr.getLastD (0, 0, 0)).2.1, base := (m.fr.getLastD (0, 0, 0)).2.2, fr := m.fr.dropLast })) := by
 obtain ⟨frV, stV, outV, hmach⟩ := h
 have hM := hmach.size
 have hlt := hmach.lt
 have hf : m.fr[m.fr.length - 1]? = some (m.fr.getLastD (0, 0, 0)) := by
  rw [List.getLastD_eq_getLast?, List.getLast?_eq_getElem?, List.getElem?_eq_getElem (by omega)]
  rfl
 obtain ⟨v1, v2, v3⟩ := fV_get m.fr _ _ hf
 have hdl : m.fr.dropLast = m.fr.take (m.fr.length - 1) := List.dropLast_eq_take
 generalize m.fr.getLastD (0, 0, 0) = f at *
 obtain ⟨fs, fp, fb⟩ := f
 simp only at v1 v2 v3
 obtain ⟨ga, gc, hfv⟩ := row_form hmach.fr
 subst hfv
 obtain ⟨g, hga, hgB, hgs, w1⟩ := row_cell hmach.fr v1
 subst hga
 have w2 : w.cell? ⟨g, (m.fr.length - 1) * 3 + 1, none⟩ = some (.int .i64 (fp : Nat)) := by
  obtain ⟨g', e, _, _, q⟩ := row_cell hmach.fr v2
  injection e with e
  injection e with e
  rw [e]; exact q
 have w3 : w.cell? ⟨g, (m.fr.length - 1) * 3 + 2, none⟩ = some (.int .i64 (fb : Nat)) := by
  obtain ⟨g', e, _, _, q⟩ := row_cell hmach.fr v3
  injection e with e
  injection e with e
  rw [e]; exact q
 have hcap : m.fr.length ≤ gc := by
  rcases hmach.fr.2 with ⟨e1, _⟩ | ⟨g', cap, cur, hv, _, _, h3, _⟩
  ·cases e1
  ·injection hv with q1 q2 q3; omega
 have c3 := hmach.c3
 have c4 := hmach.c4
 have c5 := hmach.c5
 have c6 := hmach.c6
 have f3 := hmach.froz 3
 have f4 := hmach.froz 4
 have f5 := hmach.froz 5
 have f6 := hmach.froz 6
 have hm3 := ((hmach.set_sec fs).set_pl fp).set_base fb
 have hrow := row_cut hm3.fr (show m.fr.length - 1 ≤ m.fr.length by omega)
 rw [fV_take, ← hdl] at hrow
 have hm4 := hm3.cut_fr (.slice (some ⟨g, 0, none⟩) (m.fr.length - 1) gc) m.fr.dropLast (by rw [List.length_dropLast]; exact hrow)
 have HS := hidc (hm4.below (boxB _ (.cells #[.int .i64 x.op, .int .i64 x.pl, .int .i64 x.nx, .int .i64 x.n, .slice ta x.to.length tc] 116)) (by simpa [World.setCell] using hB))
 have HKS : Hid (∀ a b c d, KT w ((((w.setCell ⟨M, 3, none⟩ a).setCell ⟨M, 4, none⟩ b).setCell ⟨M, 5, none⟩ c).setCell ⟨M, 6, none⟩ d)) := by
  obtain ⟨cs, e, _⟩ := hmach.blk
  exact fun a b c d => (((KT.set e _ _).trans (KT.set (block_setCell e _) _ _)).trans (KT.set (block_setCell (block_setCell e _) _) _ _)).trans (KT.set (block_setCell (block_setCell (block_setCell e _) _) _) _ _)
 have hgM : g ≠ M := by omega
 have hw1 : wrap64 ((m.fr.length : Int) - 1) = ((m.fr.length - 1 : Nat) : Int) := by unfold wrap64; omega
 have hw2 : (m.fr.length : Int) - 1 = ((m.fr.length - 1 : Nat) : Int) := by omega
 have hlt1 : m.fr.length - 1 < m.fr.length := by omega
 clear hmach hm3 hm4 hrow v1 v2 v3 hf hdl
 generalize hn : m.fr.length = n at *
 generalize hn1 : n - 1 = n1 at *
 have HN := hidc hn
 have HN1 := hidc hn1
 clear hn hn1
 go_enter Tryz.func108, Tryz.ntmps108
 go_wp2_with fail
 go_end0
 exact ⟨rfl, ⟨_, _, _, HS.out⟩, by simp [World.setCell]; omega, (HKS.out _ _ _ _).trans (KT.below (boxB _ _)), by simp [World.setCell]⟩
end Go.Proofs.YtdhmandnamajpaaGreatDoor
