import Derived.Test.YtdhmandnamajpaaGreatDoorY00
import Derived.Test.YtdhmandnamajpaaGreatDoorY30
import Derived.Laws.MakeOwn
import Derived.Test.YtdhmandnamajpaaGreatDoorY25
import Derived.Test.YtdhmandnamajpaaGreatDoorY28
namespace Go.Proofs.YtdhmandnamajpaaGreatDoor
open Go.RowKit Go.Joins
theorem Tryz.infoSec : (Tryz.prog.info? 65).map (fun i => (i.zero, i.size, i.bytes)) = some (some (.agg #[.int .i64 0, .int .i64 0, .int .i64 0, .string ⟨#[]⟩]), 4, 40) := by kernel_rfl
set_option maxRecDepth 8000 in
set_option maxHeartbeats 2000000 in
theorem read_any (b : ByteArray) (w : World) :
  Calls Tryz.prog 29 #[.string b] w fun x w' => ∃ sv, x = .returned (.tuple #[.agg #[sv, .string (pD b)], .int .i64 (parseE b)]) ∧ SlAt w.heap.size w' sv (pS b) ∧ Below w.heap.size w w' := by
 have R0 : RdAt ((w.alloc (.cells #[.slice none 0 0, .string ⟨#[]⟩] 40)).alloc (.cells #[.string b, .int .i64 0] 94)) (w.heap.size + 1) b 0 0 := by
  unfold RdAt
  rw [ext_full]
  have := heap_alloc_new (w.alloc (.cells #[.slice none 0 0, .string ⟨#[]⟩] 40)) (.cells #[.string b, .int .i64 0] 94)
  simpa using this
 have HR := hid R0
 clear R0
 go_enter Tryz.func29, Tryz.ntmps29
 go_wp2_with fail
 refine (begin_any b (w.heap.size + 1) _ HR.out).mono ?_
 rintro x w1 ⟨rfl, p1, e1, W1, O1⟩
 have K1 := hid ((((Kept.refl (w.heap.size + 1) (w.heap.size + 1) (w.alloc (.cells #[.slice none 0 0, .string ⟨#[]⟩] 40))).alloc (by simp) (.cells #[.string b, .int .i64 0] 94)).grown (by simp) W1.2.1))
 have HW1 := hid W1
 clear W1
 go_wp2_with fail
 refine (number1 b (w.heap.size + 1) p1 43 (inB 1 6) e1 _ HW1.out.1 HW1.out.2.2.2.2 count_fits cf_count).mono ?_
 rintro x w2 ⟨n, p2, e2, rfl, W2, Z2, O2⟩
 have K2 := hid (K1.out.grown (by have := K1.out.size; simpa using this) W2.2.1)
 have HW2 := hid W2
 clear W2
 have SC := hid (start_chain b e1 e2 p1 (HW1.out.2.2.2.1 rfl) O1 HW2.out.2.2.1 HW2.out.2.2.2.1)
 have HN : Hid (e2 = 0 → n = num1 b 2 ∧ p2 = 3) := fun h => by
  obtain ⟨_, hp1, _, _⟩ := SC.out.2.2 h
  obtain ⟨v, q⟩ := O2 h
  rw [hp1] at v q
  exact ⟨v, q⟩
 have hn6 : n ≤ 6 := by
  by_cases z : e2 = 0
  ·have h1 := (HN.out z).1
   have h2 := inB_iff.1 (SC.out.2.2 z).2.2.2
   omega
  ·have := Z2 z
   omega
 obtain ⟨i0, hi, hz0, hz1, hz2⟩ := info_parts Tryz.infoSec
 obtain ⟨M, hM⟩ : ∃ M, M = madeCells (Value.agg #[.int .i64 0, .int .i64 0, .int .i64 0, .string ⟨#[]⟩]).cells (((n : Nat) : Int).toNat * i0.size) := ⟨_, rfl⟩
 have hMs : M.size = n * 4 := by rw [hM, size_madeCells, hz1]; simp
 have hmk : ∀ W : World, (Instr.makeSlice 38 (.int .i64 (n : Int)) (.int .i64 (n : Int))).run Tryz.prog W = .ok (.slice (some ⟨W.heap.size, 0, none⟩) n n) (W.alloc (.cells M 65)) := fun W => by
  have h := run_make (P := Tryz.prog) W 38 65 i0 (.agg #[.int .i64 0, .int .i64 0, .int .i64 0, .string ⟨#[]⟩]) Tryz.underlying38 hi hz0 .i64 .i64 (n : Int) (n : Int) (by omega) (by omega) (by rw [hz2]; omega) (by omega)
  rw [← hM] at h
  simpa using h
 clear hM
 go_wp2
 have hA2 : w.heap.size + 1 < w2.heap.size := by have := K2.out.size; have := HW1.out.1.facts; have := HW2.out.1.facts; omega
 have M0 : Mem (((w2.alloc (.cells M 65)).alloc (.cells #[.slice (some ⟨w2.heap.size, 0, none⟩) n n, .string ⟨#[]⟩] 40)).alloc (.cells #[.int .i64 0, .int .i64 0, .int .i64 0, .int .i64 0, .int .i64 0, .int .i64 0] 97)) w.heap.size w2.heap.size n M #[.int .i64 0, .int .i64 0, .int .i64 0, .int .i64 0, .int .i64 0, .int .i64 0] ⟨#[]⟩ := by
  refine ⟨?_, ?_, hMs, ?_, ?_, rfl, fun i hi => ?_⟩
  ·have hA : w2.heap[w.heap.size]? = some (.cells #[.slice none 0 0, .string ⟨#[]⟩] 40 (0, 0)) := by
    rw [K2.out.block w.heap.size (by omega) (by omega)]
    exact heap_alloc_new w _
   rw [Below.heap_alloc _ _ _ (by simp; omega), Below.heap_alloc _ _ _ (by simp; omega), Below.heap_alloc _ _ _ (by omega)]
   exact hA
  ·rw [Below.heap_alloc _ _ _ (by simp; omega), Below.heap_alloc _ _ _ (by simp)]
   exact heap_alloc_new w2 _
  ·rw [Below.heap_alloc _ _ _ (by simp)]
   have := heap_alloc_new (w2.alloc (.cells M 65)) (.cells #[.slice (some ⟨w2.heap.size, 0, none⟩) n n, .string ⟨#[]⟩] 40)
   simpa using this
  ·have := heap_alloc_new ((w2.alloc (.cells M 65)).alloc (.cells #[.slice (some ⟨w2.heap.size, 0, none⟩) n n, .string ⟨#[]⟩] 40)) (.cells #[.int .i64 0, .int .i64 0, .int .i64 0, .int .i64 0, .int .i64 0, .int .i64 0] 97)
   simpa using this
  ·rcases (show i = 0 ∨ i = 1 ∨ i = 2 ∨ i = 3 ∨ i = 4 ∨ i = 5 by omega) with rfl | rfl | rfl | rfl | rfl | rfl <;> exact ⟨0, rfl⟩
 go_loopw [19] (fun i wr => ∃ (k p : Nat) (e : Int) (cs ls : Array Value), k ≤ n ∧ i = .int .i64 k ∧ RdAt wr (w.heap.size + 1) b p e ∧ Mem wr w.heap.size w2.heap.size n cs ls ⟨#[]⟩ ∧ Kept (w.heap.size + 1) (w.heap.size + 1) (w.alloc (.cells #[.slice none 0 0, .string ⟨#[]⟩] 40)) wr ∧
   Hid (e2 ≠ 0 → e = e2) ∧ Hid (e2 = 0 → e = headsE b k) ∧ Hid (e = 0 → p = 3 + 5 * k ∧ p ≤ b.size ∧ SecDone b cs k ∧ LenDone b ls k)) (fun i _ => n - (intOf i).toNat)
 case atStart => exact ⟨0, p2, e2, M, _, Nat.zero_le _, rfl, rd_alloc (rd_alloc (rd_alloc HW2.out.1 _) _) _, M0, ((K2.out.alloc (by omega) _).alloc (by simp; omega) _).alloc (by simp; omega) _, fun _ => rfl, fun h => h, fun h => ⟨(HN.out h).2, HW2.out.2.2.2.2 h, fun i hi => absurd hi (by omega), fun i hi => absurd hi (by omega)⟩⟩
 case round =>
  clear M0 hmk hMs
  obtain ⟨k, p, e, cs, ls, hk, rfl, R, Mm, Kk, E1, E2, E3⟩ := hrel
  by_cases hlt : k < n
  ·have HR := hid R
   have HM := hid Mm
   have HK := hid Kk
   have hp : Hid (e = 0 → p ≤ b.size) := fun h => (E3.out h).2.1
   have z0 : (0 : Int) ≤ (k : Int) := by omega
   have z1 : (k : Int) < (n : Int) := by omega
   have z2 : (k : Int) < 6 := by omega
   have cc := cell_of_block Mm.cont 0
   clear R Mm Kk
   go_wp2
   refine wp_region_held_drew (S := fun w' => w'.heap[w2.heap.size + 1]? = some (.cells #[.slice (some ⟨w2.heap.size, 0, none⟩) n n, .string ⟨#[]⟩] 40 (0, 0))) (by kernel_rfl) HM.out.cont (fun hHeld => ?_)
   refine tk 0 ?va0 rfl ?hya0 hHeld ?resta0
   case hya0 => intro w hSw; go_simp; try with_reducible rfl
   simp only [Act.put, aA, aB, aC, aD, aE]
   refine tk 1 ?va1 rfl ?hya1 hHeld ?resta1
   case hya1 => intro w hSw; have cc := cell_of_block hSw 0; go_simp; try with_reducible rfl
   simp only [Act.put, aA, aB, aC, aD, aE, aF]
   refine tk 2 ?va2 rfl ?hya2 hHeld ?resta2
   case hya2 => intro w hSw; go_simp; try with_reducible rfl
   simp only [Act.put, aA, aB, aC, aD, aE, aF]
   refine tk 3 ?va3 rfl ?hya3 hHeld ?resta3
   case hya3 => intro w hSw; go_simp; try with_reducible rfl
   simp only [Act.put, aA, aB, aC, aD, aE, aF]
   refine rd 4 rfl (fun K hK => ?_)
   simp only [aD, aE, aF]
   go_simp
   refine (head_any b (w.heap.size + 1) p e _ (rd_drew1 HR.out) hp.out).mono ?_
   rintro x w3 ⟨n0, n1, n2, m, p', e', rfl, W3, O3⟩
   have HM3 := hid (HM.out.drew.grown W3.2.1 (by omega) (by omega))
   have HK3 := hid (HK.out.drew.grown (by have := HK.out.size; simpa using this) W3.2.1)
   have HW3 := hid W3
   clear W3
   have fz := fun j => unfrozen_of_block HM3.out.secs j
   obtain ⟨o0, c0⟩ := HM3.out.old (k * 4) (by omega)
   obtain ⟨o1, c1⟩ := HM3.out.old (k * 4 + 1) (by omega)
   obtain ⟨o2, c2⟩ := HM3.out.old (k * 4 + 2) (by omega)
   obtain ⟨o3, c3⟩ := HM3.out.old (k * 4 + 3) (by omega)
   obtain ⟨ol, cl⟩ := HM3.out.oldLen k (by omega)
   have fl := fun j => unfrozen_of_block HM3.out.lens j
   go_wp2_with fail
   refine hK.out _ _ HM3.out.cont (fun hHeld => ?_)
   clear hK
   refine tk 5 ?vb5 rfl ?hyb5 hHeld ?restb5
   case hyb5 => intro w hSw; go_simp; try with_reducible rfl
   simp only [Act.put, aA, aB, aC, aD, aE, aF]
   refine tk 6 ?vb6 rfl ?hyb6 hHeld ?restb6
   case hyb6 => intro w hSw; go_simp; try with_reducible rfl
   simp only [Act.put, aA, aB, aC, aD, aE, aF]
   refine tk 7 ?vb7 rfl ?hyb7 hHeld ?restb7
   case hyb7 => intro w hSw; go_simp; try with_reducible rfl
   simp only [Act.put, aA, aB, aC, aD, aE, aF]
   refine tk 8 ?vb8 rfl ?hyb8 hHeld ?restb8
   case hyb8 => intro w hSw; go_simp; try with_reducible rfl
   simp only [Act.put, aA, aB, aC, aD, aE, aF]
   refine rd 9 rfl (fun K hK => ?_)
   simp only [aD, aE, aF]
   go_simp
   have HM4 := hid ((((HM3.out.setSec (by omega) (k * 4) (.int .i64 n0)).setSec (by omega) (k * 4 + 1) (.int .i64 n1)).setSec (by omega) (k * 4 + 2) (.int .i64 n2)).setSec (by omega) (k * 4 + 3) (.string ByteArray.empty))
   have HK4 := hid ((((HK3.out.set (g := w2.heap.size) (by omega) (k * 4) (.int .i64 n0)).set (g := w2.heap.size) (by omega) (k * 4 + 1) (.int .i64 n1)).set (g := w2.heap.size) (by omega) (k * 4 + 2) (.int .i64 n2)).set (g := w2.heap.size) (by omega) (k * 4 + 3) (.string ByteArray.empty))
   have HR4 := hid (rd_setFar (g := w2.heap.size) (i := k * 4 + 3) (rd_setFar (g := w2.heap.size) (i := k * 4 + 2) (rd_setFar (g := w2.heap.size) (i := k * 4 + 1) (rd_setFar (g := w2.heap.size) (i := k * 4) HW3.out.1 (by omega) (.int .i64 n0)) (by omega) (.int .i64 n1)) (by omega) (.int .i64 n2)) (by omega) (.string ByteArray.empty))
   refine hK.out _ _ HM4.out.cont (fun hHeld => ?_)
   clear hK
   clear c0 c1 c2 c3 cl fz fl
   refine tk 10 ?vc10 rfl ?hyc10 hHeld ?restc10
   case hyc10 => intro w hSw; go_simp; try with_reducible rfl
   simp only [Act.put, aA, aB, aC, aD, aE, aF]
   obtain ⟨ol2, cl2⟩ := HM4.out.oldLen k (by omega)
   have fl2 := unfrozen_of_block HM4.out.lens k
   refine rd 11 rfl (fun K hK => ?_)
   simp only [aD, aE, aF]
   go_simp
   refine hK.out _ _ (HM4.out.setLen (by omega) k m).cont (fun hHeld => ?_)
   clear hK
   refine wpAnyH_done (by kernel_rfl) ?_ _
   go_wp2
   go_roundw
   case rel =>
    refine ⟨k + 1, p', e', _, _, by omega, by go_num, rd_setFar HR4.out (by omega) _, HM4.out.setLen (by omega) k m, HK4.out.set (by omega) k _, ?_, ?_, ?_⟩
    ·intro h
     have := E1.out h
     rw [HW3.out.2.2.1 (by rw [this]; exact h), this]
    ·intro h
     have he := E2.out h
     by_cases z : e = 0
     ·have hz := (E3.out z).1
      rw [HW3.out.2.2.2.1 z, hz]
      simp [headsE, ← he, z]
     ·rw [HW3.out.2.2.1 z, he]
      rw [he] at z
      simp [headsE, z]
    ·intro h
     have z : e = 0 := Decidable.byContradiction fun q => q ((HW3.out.2.2.1 q).symm.trans h)
     obtain ⟨q1, q2, q3, q4⟩ := E3.out z
     obtain ⟨v0, v1, v2, v3, v4⟩ := O3 h
     subst q1
     refine ⟨by omega, HW3.out.2.2.2.2 h, ?_, ?_⟩
     ·rw [v0, v1, v2]; exact q3.step HM3.out.ssize hlt _
     ·rw [v3]; exact q4.step HM3.out.lsize (by omega)
   case measure => simp [intOf]; omega
  ·have hkk : k = n := by omega
   subst hkk
   have HR := hid R
   have HM := hid Mm
   have HK := hid Kk
   have hp : Hid (e = 0 → p ≤ b.size) := fun h => (E3.out h).2.1
   clear R Mm Kk hlt
   go_wp2_with fail
   refine (number2 b (w.heap.size + 1) p 45 (inB 0 60) e _ HR.out hp.out data_fits cf_data).mono ?_
   rintro x w4 ⟨dl, p4, e4, rfl, W4, Z4, O4⟩
   have HM4 := hid (HM.out.grown W4.2.1 (by omega) (by omega))
   have HK4 := hid (HK.out.grown (by have := HK.out.size; simpa using this) W4.2.1)
   have HW4 := hid W4
   have cc := cell_of_block HM4.out.cont 0
   clear W4
   go_wp2
   go_loopw [37] (fun i wr => ∃ (j p : Nat) (e : Int) (cs : Array Value), j ≤ k ∧ i = .int .i64 j ∧ RdAt wr (w.heap.size + 1) b p e ∧ Mem wr w.heap.size w2.heap.size k cs ls ⟨#[]⟩ ∧ Kept (w.heap.size + 1) (w.heap.size + 1) (w.alloc (.cells #[.slice none 0 0, .string ⟨#[]⟩] 40)) wr ∧
     Hid (e4 ≠ 0 → e = e4) ∧ Hid (e4 = 0 → e = codE b k j) ∧ Hid (e = 0 → p = cpos b k j ∧ p ≤ b.size ∧ SecDone b cs k ∧ CodeDone b k cs j)) (fun i _ => k - (intOf i).toNat)
   case atStart =>
    refine ⟨0, p4, e4, cs, Nat.zero_le _, rfl, HW4.out.1, HM4.out, HK4.out, fun _ => rfl, ?_, ?_⟩
    ·intro h
     have z : e = 0 := Decidable.byContradiction fun q => q ((HW4.out.2.2.1 q).symm.trans h)
     have h1 := (O4 h).2
     have h2 := HW4.out.2.2.2.2 h
     rw [(E3.out z).1] at h1
     unfold codE
     rw [if_neg (by show ¬ b.size < 5 + 5 * k; omega)]
     exact h
    ·intro h
     have z : e = 0 := Decidable.byContradiction fun q => q ((HW4.out.2.2.1 q).symm.trans h)
     have h1 := (O4 h).2
     obtain ⟨x1, x2, x3, x4⟩ := E3.out z
     exact ⟨by show p4 = 5 + 5 * k; omega, HW4.out.2.2.2.2 h, x3, fun i hi => absurd hi (by omega)⟩
   case round =>
    clear cc
    obtain ⟨j, q, f, cs2, hj, rfl, R, Mm, Kk, F1, F2, F3⟩ := hrel
    by_cases hlt : j < k
    ·have HR2 := hid R
     have HM2 := hid Mm
     have HK2 := hid Kk
     have hq : Hid (f = 0 → q ≤ b.size) := fun h => (F3.out h).2.1
     have z0 : (0 : Int) ≤ (j : Int) := by omega
     have z1 : (j : Int) < (k : Int) := by omega
     have z2 : (j : Int) < 6 := by omega
     obtain ⟨lm, hlm⟩ := Mm.lnat j (by omega)
     have HL : Hid (f = 0 → lm = clen b j) := fun h => by
      have z4 : e4 = 0 := Decidable.byContradiction fun q => q ((F1.out q).symm.trans h)
      have z : e = 0 := Decidable.byContradiction fun q => q ((HW4.out.2.2.1 q).symm.trans z4)
      have := (E3.out z).2.2.2 j hlt
      rw [hlm] at this
      simp at this
      exact_mod_cast this
     have HLL : Hid (f = 0 → lm ≤ 70000) := fun h => by
      rw [HL.out h]
      have h1 := byteN_lt b (3 + 5 * j + 3)
      have h2 := byteN_lt b (3 + 5 * j + 3 + 1)
      unfold clen num2
      omega
     have cc := cell_of_block Mm.cont 0
     clear R Mm Kk
     go_wp2
     refine wp_region_held_drew (S := fun w' => w'.heap[w2.heap.size + 1]? = some (.cells #[.slice (some ⟨w2.heap.size, 0, none⟩) k k, .string ⟨#[]⟩] 40 (0, 0)) ∧ w'.heap[w2.heap.size + 1 + 1]? = some (.cells ls 97 (0, 0))) (by kernel_rfl) ⟨HM2.out.cont, HM2.out.lens⟩ (fun hHeld => ?_)
     refine tk 0 ?vd0 rfl ?hyd0 hHeld ?restd0
     case hyd0 => intro w hSw; go_simp; try with_reducible rfl
     simp only [Act.put, aA, aB, aC, aD, aE]
     refine tk 1 ?vd1 rfl ?hyd1 hHeld ?restd1
     case hyd1 => intro w hSw; have cc := cell_of_block hSw.1 0; go_simp; try with_reducible rfl
     simp only [Act.put, aA, aB, aC, aD, aE, aF]
     refine tk 2 ?vd2 rfl ?hyd2 hHeld ?restd2
     case hyd2 => intro w hSw; go_simp; try with_reducible rfl
     simp only [Act.put, aA, aB, aC, aD, aE, aF]
     refine tk 3 ?vd3 rfl ?hyd3 hHeld ?restd3
     case hyd3 => intro w hSw; go_simp; try with_reducible rfl
     simp only [Act.put, aA, aB, aC, aD, aE, aF]
     refine tk 4 ?vd4 rfl ?hyd4 hHeld ?restd4
     case hyd4 => intro w hSw; go_simp; try with_reducible rfl
     simp only [Act.put, aA, aB, aC, aD, aE, aF]
     refine tk 5 ?vd5 rfl ?hyd5 hHeld ?restd5
     case hyd5 => intro w hSw; have cl := (cell_of_block hSw.2 j).trans hlm; go_simp; try with_reducible rfl
     simp only [Act.put, aA, aB, aC, aD, aE, aF]
     refine rd 6 rfl (fun K hK => ?_)
     simp only [aD, aE, aF]
     go_simp
     refine (text_any b (w.heap.size + 1) q lm f _ (rd_drew1 HR2.out) hq.out HLL.out).mono ?_
     rintro x w5 ⟨t, q', f', rfl, W5, O5⟩
     have HM5 := hid (HM2.out.drew.grown W5.2.1 (by omega) (by omega))
     have HK5 := hid (HK2.out.drew.grown (by have := HK2.out.size; simpa using this) W5.2.1)
     have HW5 := hid W5
     clear W5
     go_wp2_with fail
     refine hK.out _ _ ⟨HM5.out.cont, HM5.out.lens⟩ (fun hHeld => ?_)
     clear hK
     refine tk 7 ?ve7 rfl ?hye7 hHeld ?reste7
     case hye7 => intro w hSw; go_simp; try with_reducible rfl
     simp only [Act.put, aA, aB, aC, aD, aE, aF]
     refine tk 8 ?ve8 rfl ?hye8 hHeld ?reste8
     case hye8 => intro w hSw; go_simp; try with_reducible rfl
     simp only [Act.put, aA, aB, aC, aD, aE, aF]
     obtain ⟨o3, c3⟩ := HM5.out.old (j * 4 + 3) (by omega)
     have f3 := unfrozen_of_block HM5.out.secs (j * 4 + 3)
     refine rd 9 rfl (fun K hK => ?_)
     simp only [aD, aE, aF]
     go_simp
     have HM6 := hid (HM5.out.setSec (by omega) (j * 4 + 3) (.string t))
     refine hK.out _ _ ⟨HM6.out.cont, HM6.out.lens⟩ (fun hHeld => ?_)
     clear hK
     refine wpAnyH_done (by kernel_rfl) ?_ _
     go_wp2
     go_roundw
     case rel =>
      refine ⟨j + 1, q', f', _, by omega, by go_num, rd_setFar HW5.out.1 (by omega) _, HM6.out, HK5.out.set (by omega) (j * 4 + 3) _, ?_, ?_, ?_⟩
      ·intro h
       have := F1.out h
       rw [HW5.out.2.2.1 (by rw [this]; exact h), this]
      ·intro h
       have hf := F2.out h
       by_cases z : f = 0
       ·obtain ⟨q1, _⟩ := F3.out z
        rw [HW5.out.2.2.2.1 z, q1, HL.out z]
        rfl
       ·rw [HW5.out.2.2.1 z, hf]
        rw [hf] at z
        unfold codE at z ⊢
        by_cases y : b.size < cpos b k j
        ·have : b.size < cpos b k (j + 1) := by show b.size < cpos b k j + clen b j; omega
         rw [if_pos y, if_pos this]
        ·rw [if_neg y] at z; exact absurd rfl z
      ·intro h
       have z : f = 0 := Decidable.byContradiction fun q => q ((HW5.out.2.2.1 q).symm.trans h)
       obtain ⟨q1, q2, q3, q4⟩ := F3.out z
       obtain ⟨v0, v1⟩ := O5 h
       have hl := HL.out z
       subst q1
       subst hl
       refine ⟨v1, HW5.out.2.2.2.2 h, q3.code _ _, ?_⟩
       rw [v0]
       exact q4.step (Nat.le_of_eq HM5.out.ssize.symm) hlt
     case measure => simp [intOf]; omega
    ·have hjj : j = k := by omega
     subst hjj
     have HR2 := hid R
     have HM2 := hid Mm
     have HK2 := hid Kk
     have hq : Hid (f = 0 → q ≤ b.size) := fun h => (F3.out h).2.1
     have HD : Hid (f = 0 → dl = dlen b j ∧ e = 0 ∧ e4 = 0) := fun h => by
      have z4 : e4 = 0 := Decidable.byContradiction fun q => q ((F1.out q).symm.trans h)
      have z : e = 0 := Decidable.byContradiction fun q => q ((HW4.out.2.2.1 q).symm.trans z4)
      have := (O4 z4).1
      rw [(E3.out z).1] at this
      exact ⟨this, z, z4⟩
     have HDL : Hid (f = 0 → dl ≤ 70000) := fun h => by
      rw [(HD.out h).1]
      have h1 := byteN_lt b (3 + 5 * j)
      have h2 := byteN_lt b (3 + 5 * j + 1)
      unfold dlen num2
      omega
     clear R Mm Kk hlt
     go_wp2_with fail
     refine (text_any b (w.heap.size + 1) q dl f _ HR2.out hq.out HDL.out).mono ?_
     rintro x w5 ⟨t, q', f', rfl, W5, O5⟩
     have HM5 := hid (HM2.out.grown W5.2.1 (by omega) (by omega))
     have HK5 := hid (HK2.out.grown (by have := HK2.out.size; simpa using this) W5.2.1)
     have HW5 := hid W5
     have cd1 := cell_of_block HM5.out.cont 1
     have fd1 := unfrozen_of_block HM5.out.cont 1
     clear W5
     go_wp2_with fail
     have HM6 := hid (HM5.out.setDat (by omega) t)
     have HK6 := hid (HK5.out.set (g := w2.heap.size + 1) (by omega) 1 (.string t))
     refine (end_any b (w.heap.size + 1) q' f' _ (rd_setFar (g := w2.heap.size + 1) HW5.out.1 (by omega) _) HW5.out.2.2.2.2).mono ?_
     rintro x w7 ⟨rfl, q7, f7, W7⟩
     have HM7 := hid (HM6.out.grown W7.2.1 (by omega) (by omega))
     have HK7 := hid (HK6.out.grown (by have := HK6.out.size; simpa using this) W7.2.1)
     have HW7 := hid W7
     obtain ⟨_, ce, _, _, _⟩ := W7.1.facts
     have ca0 := cell_of_block HM7.out.res 0
     have ca1 := cell_of_block HM7.out.res 1
     have fa0 := unfrozen_of_block HM7.out.res 0
     have fa1 := unfrozen_of_block HM7.out.res 1
     have cb0 := cell_of_block HM7.out.cont 0
     have cb1 := cell_of_block HM7.out.cont 1
     clear W7 cd1 fd1
     have FE : Hid (f7 = parseE b ∧ (f7 = 0 → j = num1 b 2 ∧ t = pdat b j ∧ SecDone b cs2 j ∧ CodeDone b j cs2 j)) := by
      have PC := parse_chain b j dl p q q' e2 e e4 f f' f7 SC.out.1 SC.out.2.1 (fun h => (HN.out h).1) E1.out E2.out (fun h => (E3.out h).1) HW4.out.2.2.1 HW4.out.2.2.2.1 F1.out F2.out (fun h => (F3.out h).1) (fun h => (HD.out h).1) HW5.out.2.2.1 HW5.out.2.2.2.1 (fun h => (O5 h).2) HW7.out.2.2.1 HW7.out.2.2.2.1
      refine ⟨PC.1, fun h => ?_⟩
      obtain ⟨y1, y2, y3, y4, y5⟩ := PC.2 h
      obtain ⟨x1, x2, x3, x4⟩ := F3.out y4
      refine ⟨(HN.out y1).1, ?_, x3, x4⟩
      rw [(O5 y5).1, x1, (HD.out y4).1]
      rfl
     by_cases hz : f7 = 0
     ·have tz : (f7 == 0) = true := by simp [hz]
      have HZ := hid hz
      clear hz
      go_wp2
      have HB : ((w7.setCell ⟨w.heap.size, 0, none⟩ (.slice (some ⟨w2.heap.size, 0, none⟩) j j)).setCell ⟨w.heap.size, 1, none⟩ (.string t)).heap[w.heap.size]? = some (.cells #[.slice (some ⟨w2.heap.size, 0, none⟩) j j, .string t] 40 (0, 0)) := block_setCell (block_setCell HM7.out.res _) _
      have b0 := cell_of_block HB 0
      have b1 := cell_of_block HB 1
      obtain ⟨hf, h0⟩ := FE.out
      obtain ⟨y1, y2, y3, y4⟩ := h0 HZ.out
      have hE : parseE b = 0 := hf.symm.trans HZ.out
      refine bodyPost_ret (v := .tuple #[.agg #[.slice (some ⟨w2.heap.size, 0, none⟩) j j, .string t], .int .i64 0]) (by simp [results, Tryz.results29, go_sem, b0, b1]) rfl ⟨.slice (some ⟨w2.heap.size, 0, none⟩) j j, ?_, ?_, ?_⟩
      ·rw [hE, y2, y1]
       simp [pD, hE]
      ·refine .inr ⟨w2.heap.size, 0, j, ?_, by omega, ?_⟩
       ·simp [pS, hE, psecs_length, ← y1]
       ·have : pS b = psecs b j := by simp [pS, hE, ← y1]
        rw [this]
        refine secs_at ?_ y3 y4
        rw [Below.heap_setCell _ _ _ _ (by show w2.heap.size ≠ w.heap.size; omega), Below.heap_setCell _ _ _ _ (by show w2.heap.size ≠ w.heap.size; omega)]
        exact HM7.out.secs
      ·exact ((((Below.refl _ _).alloc (Nat.le_refl _) _).trans (HK7.out.below (by omega) (by omega))).setCell (Nat.le_refl _) _).setCell (Nat.le_refl _) _
     ·have tz : (f7 == 0) = false := by simp [hz]
      have HZ := hid hz
      clear hz
      go_wp2
      refine wp_region_held_drew (S := fun w' => w'.cell? ⟨w.heap.size + 1, 1, none⟩ = some (.int .i64 f7)) (by kernel_rfl) ce (fun hHeld => ?_)
      refine tk 0 ?vg0 rfl ?hyg0 hHeld ?restg0
      case hyg0 => intro w hSw; go_simp; try with_reducible rfl
      simp only [Act.put, aA, aB, aC, aD, aE]
      refine tk 1 ?vg1 rfl ?hyg1 hHeld ?restg1
      case hyg1 => intro w hSw; go_simp; try with_reducible rfl
      simp only [Act.put, aA, aB, aC, aD, aE, aF]
      refine tk 2 ?vg2 rfl ?hyg2 hHeld ?restg2
      case hyg2 => intro w hSw; (try dsimp only at hSw); go_simp; try with_reducible rfl
      simp only [Act.put, aA, aB, aC, aD, aE, aF]
      refine rd 3 rfl (fun K hK => ?_)
      simp only [aD, aE, aF]
      go_simp
      refine hK.out _ _ (by go_simp) (fun hHeld => ?_)
      clear hK
      refine tk 4 ?vg4 rfl ?hyg4 hHeld ?restg4
      case hyg4 => intro w hSw; go_simp; try with_reducible rfl
      simp only [Act.put, aA, aB, aC, aD, aE, aF]
      refine wpAnyH_done (by kernel_rfl) ?_ _
      go_wp2
      have HB : ((w7.setCell ⟨w.heap.size, 0, none⟩ (.slice none 0 0)).setCell ⟨w.heap.size, 1, none⟩ (.string ⟨#[]⟩)).drew.heap[w.heap.size]? = some (.cells #[.slice none 0 0, .string ⟨#[]⟩] 40 (0, 0)) := block_setCell (block_setCell HM7.out.res _) _
      have b0 := cell_of_block HB 0
      have b1 := cell_of_block HB 1
      obtain ⟨hf, _⟩ := FE.out
      have hE : ¬ parseE b = 0 := hf ▸ HZ.out
      refine bodyPost_ret (v := .tuple #[.agg #[.slice none 0 0, .string ⟨#[]⟩], .int .i64 f7]) (by simp [results, Tryz.results29, go_sem, b0, b1]) rfl ⟨.slice none 0 0, ?_, ?_, ?_⟩
      ·rw [← hf]
       simp [pD, hE]
       rfl
      ·exact .inl ⟨rfl, by simp [pS, hE]⟩
      ·exact (((((Below.refl _ _).alloc (Nat.le_refl _) _).trans (HK7.out.below (by omega) (by omega))).setCell (Nat.le_refl _) _).setCell (Nat.le_refl _) _).drew
end Go.Proofs.YtdhmandnamajpaaGreatDoor
namespace Go.Proofs.YtdhmandnamajpaaGreatDoor
open Go.RowKit Go.Joins
set_option maxHeartbeats 1000000
set_option maxRecDepth 4000
theorem check_fits {S : List Sec} {d : ByteArray} {e k p : Nat} (h : CheckIs S d e k p) (he : e ≠ 3) : fitB S d = true := by
 unfold CheckIs at h
 split at h
 ·exact absurd h.1 he
 ·rename_i h0
  simpa using h0
theorem sound_of_check {S : List Sec} {d : ByteArray} {k p : Nat} (h : CheckIs S d 0 k p) : Sound S := by
 have hf := check_fits h (by omega)
 unfold CheckIs at h
 rw [if_neg (by rw [hf]; simp)] at h
 split at h
 ·exact absurd h.1 (by omega)
 rename_i h1
 unfold fitB at hf
 simp only [Bool.and_eq_true] at hf
 obtain ⟨⟨hn, hall⟩, _⟩ := hf
 have hi := inB_iff.1 hn
 rcases h with ⟨hk, _, hne, he⟩ | ⟨hw, _⟩
 ·exact absurd (congrArg Prod.fst he).symm hne
 ·refine ⟨hall, by omega, by omega, fun j hj => ?_, ?_⟩
  ·have := hw j hj
   rw [show S.getD j ⟨0, 0, 0, ByteArray.empty⟩ = S[j] by simp [List.getD, hj]] at this
   exact secOk this
  ·constructor
   ·exact Classical.byContradiction fun q => h1 (.inl q)
   ·exact Classical.byContradiction fun q => h1 (.inr q)
def NoRun (b : ByteArray) (gas : Int) (e : Int) : Prop :=
 (parseE b ≠ 0 ∧ e = parseE b) ∨ (parseE b = 0 ∧ ∃ f k p : Nat, CheckIs (pS b) (pD b) f k p ∧ ((f ≠ 0 ∧ e = f) ∨ (f = 0 ∧ (gas < 0 ∨ 3000 < gas) ∧ e = 18)))
def HasRun (b : ByteArray) (gas : Int) : Prop := parseE b = 0 ∧ (∃ k p : Nat, CheckIs (pS b) (pD b) 0 k p) ∧ 0 ≤ gas ∧ gas ≤ 3000
theorem NoRun.unique {b : ByteArray} {gas e e' : Int} (h : NoRun b gas e) (h' : NoRun b gas e') : e = e' := by
 rcases h with ⟨h1, rfl⟩ | ⟨h1, f, k, p, hc, h2⟩
 ·rcases h' with ⟨_, rfl⟩ | ⟨q, _⟩
  ·rfl
  ·exact absurd q h1
 ·rcases h' with ⟨q, _⟩ | ⟨_, f', k', p', hc', h2'⟩
  ·exact absurd h1 q
  ·obtain ⟨rfl, rfl, rfl⟩ := hc.unique hc'
   omega
theorem NoRun.ne {b : ByteArray} {gas e : Int} (h : NoRun b gas e) : e ≠ 0 := by
 rcases h with ⟨h1, rfl⟩ | ⟨h1, f, k, p, hc, h2⟩
 ·exact h1
 ·omega
theorem HasRun.not {b : ByteArray} {gas e : Int} (h : HasRun b gas) (h' : NoRun b gas e) : False := by
 obtain ⟨h1, ⟨k, p, hc⟩, h2, h3⟩ := h
 rcases h' with ⟨q, _⟩ | ⟨_, f', k', p', hc', h2'⟩
 ·exact q h1
 ·obtain ⟨rfl, rfl, rfl⟩ := hc.unique hc'
  omega
theorem HasRun.sound {b : ByteArray} {gas : Int} (h : HasRun b gas) : Sound (pS b) := by
 obtain ⟨_, ⟨k, p, hc⟩, _⟩ := h
 exact sound_of_check hc
theorem slAt_some {B : Nat} {w : World} {sv : Value} {b : ByteArray} (h : SlAt B w sv (pS b)) (h0 : parseE b = 0) : ∃ q off cap, sv = .slice (some ⟨q, off, none⟩) (pS b).length cap ∧ B ≤ q ∧ SecsAt w q off (pS b) ∧ inB 1 6 ((pS b).length : Int) = true := by
 have hn : inB 1 6 ((pS b).length : Int) = true := by
  have h1 : (pS b).length = num1 b 2 := by simp [pS, h0, psecs]
  rw [h1]
  unfold parseE at h0
  split at h0
  ·cases h0
  ·split at h0
   ·rename_i q; exact absurd h0 q
   ·rename_i q
    have q' : er b 2 1 (inB 1 6 (num1 b 2 : Int)) = 0 := by simpa using q
    exact (er_zero q').2
 rcases h with ⟨_, e⟩ | ⟨q, off, cap, e1, e2, e3⟩
 ·rw [e] at hn; simp [inB] at hn
 ·exact ⟨q, off, cap, e1, e2, e3, hn⟩
def KReady (w : World) (b : ByteArray) (gas : Int) : Ending → World → Prop := fun x w' => Below w.heap.size w w' ∧
 ((∃ e, NoRun b gas e ∧ x = .returned (.tuple #[.agg #[.slice none 0 0, .string ⟨#[]⟩], .int .i64 e])) ∨
  (HasRun b gas ∧ ∃ q off cap, SecsAt w' q off (pS b) ∧ x = .returned (.tuple #[.agg #[.slice (some ⟨q, off, none⟩) (pS b).length cap, .string (pD b)], .int .i64 0])))
theorem SecsAt.set {w : World} {b off : Nat} {S : List Sec} (h : SecsAt w b off S) {g : Nat} (hg : b ≠ g) (i : Nat) (v : Value) : SecsAt (w.setCell ⟨g, i, none⟩ v) b off S := by
 refine ⟨by simpa [World.setCell] using h.1, fun k s hk => ?_⟩
 obtain ⟨a0, a1, a2, a3⟩ := h.2 k s hk
 exact ⟨(set_other _ hg).trans a0, (set_other _ hg).trans a1, (set_other _ hg).trans a2, (set_other _ hg).trans a3⟩
theorem keel_ready (b : ByteArray) (gas : Int) (w : World) (hR : RowsAt w) :
  Calls Tryz.prog 16 #[.string b, .int .i64 gas] w (KReady w b gas) := by
 have HR := hidc hR
 have h0 := hR.1
 clear hR
 go_enter Tryz.func16, Tryz.ntmps16
 go_wp2_with fail
 refine (read_any b _).mono ?_
 rintro x w1 ⟨sv, rfl, hs1, hb1⟩
 have HB1 := hidc ((boxB w (.cells #[.slice none 0 0, .string ⟨#[]⟩] 40)).trans (hb1.mono (by simp)))
 have HR1 := hidc (HR.out.below h0 HB1.out)
 have hz1 : w.heap.size + 1 ≤ w1.heap.size := by have := hb1.size; simpa using this
 have kC : w1.heap[w.heap.size]? = some (.cells #[.slice none 0 0, .string ⟨#[]⟩] 40 (0, 0)) := (hb1.block _ (by simp)).trans (heap_alloc_new w _)
 have z0 := cell_of_block kC 0
 have z1 := cell_of_block kC 1
 have y0 := unfrozen_of_block kC 0
 have y1 := unfrozen_of_block kC 1
 have hwz : w.heap.size < w1.heap.size := by omega
 have HKC := hidc kC
 clear kC
 by_cases he : parseE b = 0
 ·obtain ⟨q, off, cap, rfl, hq, hS, hn⟩ := slAt_some hs1 he
  have HS := hidc hS
  have HE := hidc he
  have hqs := hS.1
  clear hs1 hS hb1
  rw [he]
  clear he
  go_wp2_with fail
  have hqs2 : w.heap.size + 1 ≤ q := by simpa using hq
  clear hq
  refine (container_some (pS b) (pD b) q off cap _ (HR1.out.alloc _) hn (HS.out.alloc _)).mono ?_
  rintro x w2 ⟨f, k, p, rfl, hc, hb2⟩
  have HC := hidc hc
  have HB2 := hidc ((HB1.out.alloc HB1.out.size _).trans (hb2.mono (by simp; omega)))
  have u0 : w2.cell? ⟨w1.heap.size, 0, none⟩ = some (.slice (some ⟨q, off, none⟩) (pS b).length cap) := by rw [(bcell hb2).1 _ _ (by simp)]; simp
  have u1 : w2.cell? ⟨w1.heap.size, 1, none⟩ = some (.string (pD b)) := by rw [(bcell hb2).1 _ _ (by simp)]; simp
  have hs2 : w1.heap.size < w2.heap.size := by have := hb2.size; simp at this; omega
  have HS2 := hidc ((HS.out.alloc (.cells #[.slice (some ⟨q, off, none⟩) (pS b).length cap, .string (pD b)] 40)).below (by simp; omega) hb2)
  have kC2 : w2.heap[w.heap.size]? = some (.cells #[.slice none 0 0, .string ⟨#[]⟩] 40 (0, 0)) := (hb2.block _ (by simp; omega)).trans ((Below.heap_alloc _ _ _ (by omega)).trans HKC.out)
  have hs02 : w.heap.size < w2.heap.size := by omega
  clear hc hb2 z0 z1 y0 y1 HKC
  have z0 := cell_of_block kC2 0
  have z1 := cell_of_block kC2 1
  have y0 := unfrozen_of_block kC2 0
  have y1 := unfrozen_of_block kC2 1
  have HK2 := hidc kC2
  clear kC2
  by_cases hf : f = 0
  ·subst hf
   by_cases hg : gas < 0
   ·go_wp2_with fail
    have hF : ((w2.setCell ⟨w.heap.size, 0, none⟩ (.slice none 0 0)).setCell ⟨w.heap.size, 1, none⟩ (.string ⟨#[]⟩)).heap[w.heap.size]? = some (.cells #[.slice none 0 0, .string ⟨#[]⟩] 40 (0, 0)) := block_setCell (block_setCell HK2.out _) _
    have r0 := cell_of_block hF 0
    have r1 := cell_of_block hF 1
    refine bodyPost_ret (v := .tuple #[.agg #[.slice none 0 0, .string ⟨#[]⟩], .int .i64 18]) (by simp [results, Tryz.results16, go_sem, r0, r1]) rfl ⟨?_, .inl ⟨18, .inr ⟨HE.out, 0, k, p, HC.out, .inr ⟨rfl, .inl hg, rfl⟩⟩, rfl⟩⟩
    exact (HB2.out.setCell (Nat.le_refl _) _).setCell (Nat.le_refl _) _
   ·by_cases hg3 : 3000 < gas
    ·go_wp2_with fail
     have hF : ((w2.setCell ⟨w.heap.size, 0, none⟩ (.slice none 0 0)).setCell ⟨w.heap.size, 1, none⟩ (.string ⟨#[]⟩)).heap[w.heap.size]? = some (.cells #[.slice none 0 0, .string ⟨#[]⟩] 40 (0, 0)) := block_setCell (block_setCell HK2.out _) _
     have r0 := cell_of_block hF 0
     have r1 := cell_of_block hF 1
     refine bodyPost_ret (v := .tuple #[.agg #[.slice none 0 0, .string ⟨#[]⟩], .int .i64 18]) (by simp [results, Tryz.results16, go_sem, r0, r1]) rfl ⟨?_, .inl ⟨18, .inr ⟨HE.out, 0, k, p, HC.out, .inr ⟨rfl, .inr hg3, rfl⟩⟩, rfl⟩⟩
     exact (HB2.out.setCell (Nat.le_refl _) _).setCell (Nat.le_refl _) _
    ·go_wp2_with fail
     have hF : ((w2.setCell ⟨w.heap.size, 0, none⟩ (.slice (some ⟨q, off, none⟩) (pS b).length cap)).setCell ⟨w.heap.size, 1, none⟩ (.string (pD b))).heap[w.heap.size]? = some (.cells #[.slice (some ⟨q, off, none⟩) (pS b).length cap, .string (pD b)] 40 (0, 0)) := block_setCell (block_setCell HK2.out _) _
     have r0 := cell_of_block hF 0
     have r1 := cell_of_block hF 1
     refine bodyPost_ret (v := .tuple #[.agg #[.slice (some ⟨q, off, none⟩) (pS b).length cap, .string (pD b)], .int .i64 0]) (by simp [results, Tryz.results16, go_sem, r0, r1]) rfl ⟨?_, .inr ⟨⟨HE.out, ⟨k, p, HC.out⟩, by omega, by omega⟩, q, off, cap, (HS2.out.set (by omega) _ _).set (by omega) _ _, rfl⟩⟩
     exact (HB2.out.setCell (Nat.le_refl _) _).setCell (Nat.le_refl _) _
  ·have hf' : ((f : Int) == 0) = false := by rw [beq_eq_false_iff_ne]; omega
   have HF0 := hidc hf
   clear hf
   go_wp2_with fail
   have hF : ((w2.setCell ⟨w.heap.size, 0, none⟩ (.slice none 0 0)).setCell ⟨w.heap.size, 1, none⟩ (.string ⟨#[]⟩)).heap[w.heap.size]? = some (.cells #[.slice none 0 0, .string ⟨#[]⟩] 40 (0, 0)) := block_setCell (block_setCell HK2.out _) _
   have r0 := cell_of_block hF 0
   have r1 := cell_of_block hF 1
   refine bodyPost_ret (v := .tuple #[.agg #[.slice none 0 0, .string ⟨#[]⟩], .int .i64 (f : Nat)]) (by simp [results, Tryz.results16, go_sem, r0, r1]) rfl ⟨?_, .inl ⟨f, .inr ⟨HE.out, f, k, p, HC.out, .inl ⟨HF0.out, rfl⟩⟩, rfl⟩⟩
   exact (HB2.out.setCell (Nat.le_refl _) _).setCell (Nat.le_refl _) _
 ·have HE := hidc he
  have he' : (parseE b == 0) = false := by rw [beq_eq_false_iff_ne]; exact he
  have hv : ∃ a n c, sv = .slice a n c := by rcases hs1 with ⟨rfl, _⟩ | ⟨q, off, cap, rfl, _⟩ <;> exact ⟨_, _, _, rfl⟩
  obtain ⟨a1, n1, c1, rfl⟩ := hv
  clear hs1 hb1 he
  go_wp2_with fail
  have hF : (((w1.setCell ⟨w.heap.size, 0, none⟩ (.slice none 0 0)).setCell ⟨w.heap.size, 1, none⟩ (.string ⟨#[]⟩)).alloc (.cells #[.slice a1 n1 c1, .string (pD b)] 40)).heap[w.heap.size]? = some (.cells #[.slice none 0 0, .string ⟨#[]⟩] 40 (0, 0)) := (Below.heap_alloc _ _ _ (by simp [World.setCell]; omega)).trans (block_setCell (block_setCell HKC.out _) _)
  have r0 := cell_of_block hF 0
  have r1 := cell_of_block hF 1
  refine bodyPost_ret (v := .tuple #[.agg #[.slice none 0 0, .string ⟨#[]⟩], .int .i64 (parseE b)]) (by simp only [results, Tryz.results16]; simp [go_sem, r0, r1]) rfl ⟨?_, .inl ⟨_, .inl ⟨HE.out, rfl⟩, rfl⟩⟩
  exact ((HB1.out.setCell (Nat.le_refl _) _).setCell (Nat.le_refl _) _).alloc (by simp [World.setCell]; omega) _
end Go.Proofs.YtdhmandnamajpaaGreatDoor
namespace Go.Proofs.YtdhmandnamajpaaGreatDoor
open Go.RowKit Go.Joins
set_option maxHeartbeats 1000000
set_option maxRecDepth 4000
def fateB (b : ByteArray) (gas : Int) : MS := fateM (pS b) (pD b) (startM gas.toNat)
def KRun (w : World) (b : ByteArray) (gas : Int) : Ending → World → Prop := fun x w' => Below w.heap.size w w' ∧
 ((∃ e, NoRun b gas e ∧ x = .returned (.tuple #[.agg #[.int .i64 0, .slice none 0 0, .int .i64 0, .int .i64 0], .int .i64 e])) ∨
  (HasRun b gas ∧ ∃ oa oc, x = .returned (.tuple #[.agg #[.int .i64 (endOf (fateB b gas) : Nat), .slice oa (outM (fateB b gas)).length oc, .int .i64 ((fateB b gas).gas : Nat), .int .i64 ((fateB b gas).steps : Nat)], .int .i64 0]) ∧
   w'.ownsRow w.heap.size 3 1 (.slice oa (outM (fateB b gas)).length oc) (outM (fateB b gas)).length (nV (outM (fateB b gas)))))
theorem keel_run (b : ByteArray) (gas : Int) (w : World) (hR : RowsAt w) :
  Calls Tryz.prog 6 #[.string b, .int .i64 gas] w (KRun w b gas) := by
 have HR := hidc hR
 have h0 := hR.1
 clear hR
 go_enter Tryz.func6, Tryz.ntmps6
 go_wp2_with fail
 refine (keel_ready b gas _ (HR.out.alloc _)).mono ?_
 rintro x w1 ⟨hb1, hx⟩
 have HB1 := hidc ((boxB w (.cells #[.int .i64 0, .slice none 0 0, .int .i64 0, .int .i64 0] 24)).trans (hb1.mono (by simp)))
 have HR1 := hidc (HR.out.below h0 HB1.out)
 have hz1 : w.heap.size + 1 ≤ w1.heap.size := by have := hb1.size; simpa using this
 have kC : w1.heap[w.heap.size]? = some (.cells #[.int .i64 0, .slice none 0 0, .int .i64 0, .int .i64 0] 24 (0, 0)) := (hb1.block _ (by simp)).trans (heap_alloc_new w _)
 have z0 := cell_of_block kC 0
 have z1 := cell_of_block kC 1
 have z2 := cell_of_block kC 2
 have z3 := cell_of_block kC 3
 have y0 := unfrozen_of_block kC 0
 have y1 := unfrozen_of_block kC 1
 have y2 := unfrozen_of_block kC 2
 have y3 := unfrozen_of_block kC 3
 have hwz : w.heap.size < w1.heap.size := by omega
 have HKC := hidc kC
 clear kC hb1
 rcases hx with ⟨e, hno, rfl⟩ | ⟨hhas, q, off, cap, hS, rfl⟩
 ·have he' : (e == 0) = false := by rw [beq_eq_false_iff_ne]; exact hno.ne
  have HNO := hidc hno
  clear hno
  go_wp2_with fail
  have hF : (((((w1.setCell ⟨w.heap.size, 0, none⟩ (.int .i64 0)).setCell ⟨w.heap.size, 1, none⟩ (.slice none 0 0)).setCell ⟨w.heap.size, 2, none⟩ (.int .i64 0)).setCell ⟨w.heap.size, 3, none⟩ (.int .i64 0)).alloc (.cells #[.slice none 0 0, .string ⟨#[]⟩] 40)).heap[w.heap.size]? = some (.cells #[.int .i64 0, .slice none 0 0, .int .i64 0, .int .i64 0] 24 (0, 0)) := (Below.heap_alloc _ _ _ (by simp [World.setCell]; omega)).trans (block_setCell (block_setCell (block_setCell (block_setCell HKC.out _) _) _) _)
  have r0 := cell_of_block hF 0
  have r1 := cell_of_block hF 1
  have r2 := cell_of_block hF 2
  have r3 := cell_of_block hF 3
  refine bodyPost_ret (v := .tuple #[.agg #[.int .i64 0, .slice none 0 0, .int .i64 0, .int .i64 0], .int .i64 e]) (by simp only [results, Tryz.results6]; simp [go_sem, r0, r1, r2, r3]) rfl ⟨?_, .inl ⟨_, HNO.out, rfl⟩⟩
  exact ((((HB1.out.setCell (Nat.le_refl _) _).setCell (Nat.le_refl _) _).setCell (Nat.le_refl _) _).setCell (Nat.le_refl _) _).alloc (by simp [World.setCell]; omega) _
 ·have HHAS := hidc hhas
  have HS := hidc hS
  have hq := hS.1
  have hg0 : gas = ((gas.toNat : Nat) : Int) := by have := hhas.2.2.1; omega
  have hg3 : gas.toNat ≤ 3000 := by have := hhas.2.2.2; omega
  clear hhas hS
  generalize hgn : gas.toNat = gn at *
  subst hg0
  go_wp2_with fail
  have HGN := hidc hgn
  clear hgn
  refine (mach_run (pS b) (pD b) q off cap gn _ (HS.out.alloc _) (HR1.out.alloc _) HHAS.out.sound hg3).mono ?_
  rintro x w2 ⟨oa, oc, rfl, hb2, hown⟩
  have HFB : Hid (fateM (pS b) (pD b) (startM gn) = fateB b gn) := by
   show fateM (pS b) (pD b) (startM gn) = fateB b gn
   unfold fateB
   rw [HGN.out]
  rw [HFB.out] at hown ⊢
  have HOW := hidc (own_mono hown (show w.heap.size + 1 ≤ (w1.alloc (.cells #[.slice (some ⟨q, off, none⟩) (pS b).length cap, .string (pD b)] 40)).heap.size by simp; omega))
  have kC2 : w2.heap[w.heap.size]? = some (.cells #[.int .i64 0, .slice none 0 0, .int .i64 0, .int .i64 0] 24 (0, 0)) := (hb2.block _ (by simp; omega)).trans ((Below.heap_alloc _ _ _ (by omega)).trans HKC.out)
  have HB2 := hidc ((HB1.out.alloc HB1.out.size _).trans (hb2.mono (by simp; omega)))
  have hs02 : w.heap.size < w2.heap.size := by have := hb2.size; simp at this; omega
  clear hb2 z0 z1 z2 z3 y0 y1 y2 y3 HKC hown
  obtain ⟨mf, hmf⟩ : ∃ mf, mf = fateB b gn := ⟨_, rfl⟩
  rw [← hmf] at HOW ⊢
  have HMF := hidc hmf
  clear hmf HFB
  have z0 := cell_of_block kC2 0
  have z1 := cell_of_block kC2 1
  have z2 := cell_of_block kC2 2
  have z3 := cell_of_block kC2 3
  have y0 := unfrozen_of_block kC2 0
  have y1 := unfrozen_of_block kC2 1
  have y2 := unfrozen_of_block kC2 2
  have y3 := unfrozen_of_block kC2 3
  have HK2 := hidc kC2
  clear kC2
  generalize hen : endOf mf = en at *
  have HEN := hidc hen
  clear hen
  go_wp2_with fail
  have hF : ((((w2.setCell ⟨w.heap.size, 0, none⟩ (.int .i64 (en : Nat))).setCell ⟨w.heap.size, 1, none⟩ (.slice oa (outM mf).length oc)).setCell ⟨w.heap.size, 2, none⟩ (.int .i64 (mf.gas : Nat))).setCell ⟨w.heap.size, 3, none⟩ (.int .i64 (mf.steps : Nat))).heap[w.heap.size]? = some (.cells #[.int .i64 (en : Nat), .slice oa (outM mf).length oc, .int .i64 (mf.gas : Nat), .int .i64 (mf.steps : Nat)] 24 (0, 0)) := block_setCell (block_setCell (block_setCell (block_setCell HK2.out _) _) _) _
  have r0 := cell_of_block hF 0
  have r1 := cell_of_block hF 1
  have r2 := cell_of_block hF 2
  have r3 := cell_of_block hF 3
  refine bodyPost_ret (v := .tuple #[.agg #[.int .i64 (en : Nat), .slice oa (outM mf).length oc, .int .i64 (mf.gas : Nat), .int .i64 (mf.steps : Nat)], .int .i64 0]) (by simp only [results, Tryz.results6]; simp [go_sem, r0, r1, r2, r3]) rfl ⟨?_, .inr ⟨HHAS.out, oa, oc, by rw [← HMF.out, HEN.out], ?_⟩⟩
  ·exact (((HB2.out.setCell (Nat.le_refl _) _).setCell (Nat.le_refl _) _).setCell (Nat.le_refl _) _).setCell (Nat.le_refl _) _
  ·rw [← HMF.out]
   exact own_mono (own_set (own_set (own_set (own_set HOW.out (by omega) _ _) (by omega) _ _) (by omega) _ _) (by omega) _ _) (by omega)
end Go.Proofs.YtdhmandnamajpaaGreatDoor
