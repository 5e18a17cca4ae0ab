/-
  Read.
-/
import Derived.Test.YtdhmandnamajpaaReadMem
import Derived.Test.YtdhmandnamajpaaPChain
import Derived.Laws.MakeOwn
namespace Go.Proofs.Ytdhmandnamajpaa
open Go.RowKit Go.Joins

theorem Try.infoSec : (Try.prog.info? 36).map (fun i => (i.zero, i.size, i.bytes)) = some (some (.agg #[.int .i64 0, .int .i64 0, .int .i64 0, .string ⟨#[]⟩]), 4, 40) := by kernel_rfl

set_option maxHeartbeats 2000000 in
theorem read_any (b : ByteArray) (w : World) :
    Calls Try.prog 13 #[.string b] w fun x w' => ∃ sv, x = .returned (.tuple #[.agg #[sv, .string (pD b)], .int .i64 (parseE b)]) ∧ SlAt w.heap.size w' sv (pS b) ∧ Below w.heap.size w w' := by
  have R0 : RdAt ((w.alloc (.cells #[.slice none 0 0, .string ⟨#[]⟩] 24)).alloc (.cells #[.string b, .int .i64 0] 46)) (w.heap.size + 1) b 0 0 := by
    unfold RdAt
    rw [ext_full]
    have := heap_alloc_new (w.alloc (.cells #[.slice none 0 0, .string ⟨#[]⟩] 24)) (.cells #[.string b, .int .i64 0] 46)
    simpa using this
  have HR := hid R0
  clear R0
  go_enter Try.func13, Try.ntmps13
  go_wp2_with fail
  refine (begin_any b (w.heap.size + 1) _ HR.out).mono ?_
  rintro x w1 ⟨rfl, p1, e1, W1, O1⟩
  have K1 := hid ((((Kept.refl (w.heap.size + 1) (w.heap.size + 1) (w.alloc (.cells #[.slice none 0 0, .string ⟨#[]⟩] 24))).alloc (by simp) (.cells #[.string b, .int .i64 0] 46)).grown (by simp) W1.2.1))
  have HW1 := hid W1
  clear W1
  go_wp2_with fail
  refine (number1 b (w.heap.size + 1) p1 23 (inB 1 6) e1 _ HW1.out.1 HW1.out.2.2.2.2 count_fits cf_count).mono ?_
  rintro x w2 ⟨n, p2, e2, rfl, W2, Z2, O2⟩
  have K2 := hid (K1.out.grown (by have := K1.out.size; simpa using this) W2.2.1)
  have HW2 := hid W2
  clear W2
  have SC := hid (start_chain b e1 e2 p1 (HW1.out.2.2.2.1 rfl) O1 HW2.out.2.2.1 HW2.out.2.2.2.1)
  have HN : Hid (e2 = 0 → n = num1 b 2 ∧ p2 = 3) := fun h => by
    obtain ⟨_, hp1, _, _⟩ := SC.out.2.2 h
    obtain ⟨v, q⟩ := O2 h
    rw [hp1] at v q
    exact ⟨v, q⟩
  have hn6 : n ≤ 6 := by
    by_cases z : e2 = 0
    · have h1 := (HN.out z).1
      have h2 := inB_iff.1 (SC.out.2.2 z).2.2.2
      omega
    · have := Z2 z
      omega
  obtain ⟨i0, hi, hz0, hz1, hz2⟩ := info_parts Try.infoSec
  obtain ⟨M, hM⟩ : ∃ M, M = madeCells (Value.agg #[.int .i64 0, .int .i64 0, .int .i64 0, .string ⟨#[]⟩]).cells (((n : Nat) : Int).toNat * i0.size) := ⟨_, rfl⟩
  have hMs : M.size = n * 4 := by rw [hM, size_madeCells, hz1]; simp
  have hmk : ∀ W : World, (Instr.makeSlice 22 (.int .i64 (n : Int)) (.int .i64 (n : Int))).run Try.prog W = .ok (.slice (some ⟨W.heap.size, 0, none⟩) n n) (W.alloc (.cells M 36)) := fun W => by
    have h := run_make (P := Try.prog) W 22 36 i0 (.agg #[.int .i64 0, .int .i64 0, .int .i64 0, .string ⟨#[]⟩]) Try.underlying22 hi hz0 .i64 .i64 (n : Int) (n : Int) (by omega) (by omega) (by rw [hz2]; omega) (by omega)
    rw [← hM] at h
    simpa using h
  clear hM
  go_wp2
  have hA2 : w.heap.size + 1 < w2.heap.size := by have := K2.out.size; have := HW1.out.1.facts; have := HW2.out.1.facts; omega
  have M0 : Mem (((w2.alloc (.cells M 36)).alloc (.cells #[.slice (some ⟨w2.heap.size, 0, none⟩) n n, .string ⟨#[]⟩] 24)).alloc (.cells #[.int .i64 0, .int .i64 0, .int .i64 0, .int .i64 0, .int .i64 0, .int .i64 0] 48)) w.heap.size w2.heap.size n M #[.int .i64 0, .int .i64 0, .int .i64 0, .int .i64 0, .int .i64 0, .int .i64 0] ⟨#[]⟩ := by
    refine ⟨?_, ?_, hMs, ?_, ?_, rfl, fun i hi => ?_⟩
    · have hA : w2.heap[w.heap.size]? = some (.cells #[.slice none 0 0, .string ⟨#[]⟩] 24 (0, 0)) := by
        rw [K2.out.block w.heap.size (by omega) (by omega)]
        exact heap_alloc_new w _
      rw [Below.heap_alloc _ _ _ (by simp; omega), Below.heap_alloc _ _ _ (by simp; omega), Below.heap_alloc _ _ _ (by omega)]
      exact hA
    · rw [Below.heap_alloc _ _ _ (by simp; omega), Below.heap_alloc _ _ _ (by simp)]
      exact heap_alloc_new w2 _
    · rw [Below.heap_alloc _ _ _ (by simp)]
      have := heap_alloc_new (w2.alloc (.cells M 36)) (.cells #[.slice (some ⟨w2.heap.size, 0, none⟩) n n, .string ⟨#[]⟩] 24)
      simpa using this
    · have := heap_alloc_new ((w2.alloc (.cells M 36)).alloc (.cells #[.slice (some ⟨w2.heap.size, 0, none⟩) n n, .string ⟨#[]⟩] 24)) (.cells #[.int .i64 0, .int .i64 0, .int .i64 0, .int .i64 0, .int .i64 0, .int .i64 0] 48)
      simpa using this
    · rcases (show i = 0 ∨ i = 1 ∨ i = 2 ∨ i = 3 ∨ i = 4 ∨ i = 5 by omega) with rfl | rfl | rfl | rfl | rfl | rfl <;> exact ⟨0, rfl⟩
  go_loopw [19] (fun i wr => ∃ (k p : Nat) (e : Int) (cs ls : Array Value), k ≤ n ∧ i = .int .i64 k ∧ RdAt wr (w.heap.size + 1) b p e ∧ Mem wr w.heap.size w2.heap.size n cs ls ⟨#[]⟩ ∧ Kept (w.heap.size + 1) (w.heap.size + 1) (w.alloc (.cells #[.slice none 0 0, .string ⟨#[]⟩] 24)) wr ∧
      Hid (e2 ≠ 0 → e = e2) ∧ Hid (e2 = 0 → e = headsE b k) ∧ Hid (e = 0 → p = 3 + 5 * k ∧ p ≤ b.size ∧ SecDone b cs k ∧ LenDone b ls k)) (fun i _ => n - (intOf i).toNat)
  case atStart => exact ⟨0, p2, e2, M, _, Nat.zero_le _, rfl, rd_alloc (rd_alloc (rd_alloc HW2.out.1 _) _) _, M0, ((K2.out.alloc (by omega) _).alloc (by simp; omega) _).alloc (by simp; omega) _, fun _ => rfl, fun h => h, fun h => ⟨(HN.out h).2, HW2.out.2.2.2.2 h, fun i hi => absurd hi (by omega), fun i hi => absurd hi (by omega)⟩⟩
  case round =>
    clear M0 hmk hMs
    obtain ⟨k, p, e, cs, ls, hk, rfl, R, Mm, Kk, E1, E2, E3⟩ := hrel
    by_cases hlt : k < n
    · have HR := hid R
      have HM := hid Mm
      have HK := hid Kk
      have hp : Hid (e = 0 → p ≤ b.size) := fun h => (E3.out h).2.1
      have z0 : (0 : Int) ≤ (k : Int) := by omega
      have z1 : (k : Int) < (n : Int) := by omega
      have z2 : (k : Int) < 6 := by omega
      have cc := cell_of_block Mm.cont 0
      clear R Mm Kk
      go_wp2
      refine wp_region_held_drew (S := fun w' => w'.heap[w2.heap.size + 1]? = some (.cells #[.slice (some ⟨w2.heap.size, 0, none⟩) n n, .string ⟨#[]⟩] 24 (0, 0))) (by kernel_rfl) HM.out.cont (fun hHeld => ?_)
      refine wpAnyH_take (i := 0) (v := ?va0) rfl (by kernel_rfl) (by kernel_rfl) (by kernel_rfl) (fun _ _ _ h => h) (Or.inl ⟨by rfl, ?hya0⟩) hHeld ?resta0
      case hya0 => intro w hSw; go_simp; try with_reducible rfl
      simp only [Act.put, List.setIfInBounds_toArray, List.set_cons_zero, List.set_cons_succ, List.getElem_toArray, List.getElem_cons_zero]
      refine wpAnyH_take (i := 1) (v := ?va1) rfl (by kernel_rfl) (by kernel_rfl) (by kernel_rfl) (fun _ _ _ h => h) (Or.inl ⟨by rfl, ?hya1⟩) hHeld ?resta1
      case hya1 => intro w hSw; have cc := cell_of_block hSw 0; go_simp; try with_reducible rfl
      simp only [Act.put, List.setIfInBounds_toArray, List.set_cons_zero, List.set_cons_succ, List.getElem_toArray, List.getElem_cons_zero, List.getElem_cons_succ]
      refine wpAnyH_take (i := 2) (v := ?va2) rfl (by kernel_rfl) (by kernel_rfl) (by kernel_rfl) (fun _ _ _ h => h) (Or.inl ⟨by rfl, ?hya2⟩) hHeld ?resta2
      case hya2 => intro w hSw; go_simp; try with_reducible rfl
      simp only [Act.put, List.setIfInBounds_toArray, List.set_cons_zero, List.set_cons_succ, List.getElem_toArray, List.getElem_cons_zero, List.getElem_cons_succ]
      refine wpAnyH_take (i := 3) (v := ?va3) rfl (by kernel_rfl) (by kernel_rfl) (by kernel_rfl) (fun _ _ _ h => h) (Or.inl ⟨by rfl, ?hya3⟩) hHeld ?resta3
      case hya3 => intro w hSw; go_simp; try with_reducible rfl
      simp only [Act.put, List.setIfInBounds_toArray, List.set_cons_zero, List.set_cons_succ, List.getElem_toArray, List.getElem_cons_zero, List.getElem_cons_succ]
      refine wpAnyH_ready (rs := [4]) (by kernel_rfl) (by simp) ?_
      refine AllReadyH.cons (i := 4) rfl (fun K hK => ?_) AllReadyH.nil
      simp only [List.getElem_toArray, List.getElem_cons_zero, List.getElem_cons_succ]
      go_simp
      refine (head_any b (w.heap.size + 1) p e _ (rd_drew1 HR.out) hp.out).mono ?_
      rintro x w3 ⟨n0, n1, n2, m, p', e', rfl, W3, O3⟩
      have HM3 := hid (HM.out.drew.grown W3.2.1 (by omega) (by omega))
      have HK3 := hid (HK.out.drew.grown (by have := HK.out.size; simpa using this) W3.2.1)
      have HW3 := hid W3
      clear W3
      have fz := fun j => unfrozen_of_block HM3.out.secs j
      obtain ⟨o0, c0⟩ := HM3.out.old (k * 4) (by omega)
      obtain ⟨o1, c1⟩ := HM3.out.old (k * 4 + 1) (by omega)
      obtain ⟨o2, c2⟩ := HM3.out.old (k * 4 + 2) (by omega)
      obtain ⟨o3, c3⟩ := HM3.out.old (k * 4 + 3) (by omega)
      obtain ⟨ol, cl⟩ := HM3.out.oldLen k (by omega)
      have fl := fun j => unfrozen_of_block HM3.out.lens j
      go_wp2_with fail
      refine hK.out _ _ HM3.out.cont (fun hHeld => ?_)
      clear hK
      refine wpAnyH_take (i := 5) (v := ?vb5) rfl (by kernel_rfl) (by kernel_rfl) (by kernel_rfl) (fun _ _ _ h => h) (Or.inl ⟨by rfl, ?hyb5⟩) hHeld ?restb5
      case hyb5 => intro w hSw; go_simp; try with_reducible rfl
      simp only [Act.put, List.setIfInBounds_toArray, List.set_cons_zero, List.set_cons_succ, List.getElem_toArray, List.getElem_cons_zero, List.getElem_cons_succ]
      refine wpAnyH_take (i := 6) (v := ?vb6) rfl (by kernel_rfl) (by kernel_rfl) (by kernel_rfl) (fun _ _ _ h => h) (Or.inl ⟨by rfl, ?hyb6⟩) hHeld ?restb6
      case hyb6 => intro w hSw; go_simp; try with_reducible rfl
      simp only [Act.put, List.setIfInBounds_toArray, List.set_cons_zero, List.set_cons_succ, List.getElem_toArray, List.getElem_cons_zero, List.getElem_cons_succ]
      refine wpAnyH_take (i := 7) (v := ?vb7) rfl (by kernel_rfl) (by kernel_rfl) (by kernel_rfl) (fun _ _ _ h => h) (Or.inl ⟨by rfl, ?hyb7⟩) hHeld ?restb7
      case hyb7 => intro w hSw; go_simp; try with_reducible rfl
      simp only [Act.put, List.setIfInBounds_toArray, List.set_cons_zero, List.set_cons_succ, List.getElem_toArray, List.getElem_cons_zero, List.getElem_cons_succ]
      refine wpAnyH_take (i := 8) (v := ?vb8) rfl (by kernel_rfl) (by kernel_rfl) (by kernel_rfl) (fun _ _ _ h => h) (Or.inl ⟨by rfl, ?hyb8⟩) hHeld ?restb8
      case hyb8 => intro w hSw; go_simp; try with_reducible rfl
      simp only [Act.put, List.setIfInBounds_toArray, List.set_cons_zero, List.set_cons_succ, List.getElem_toArray, List.getElem_cons_zero, List.getElem_cons_succ]
      refine wpAnyH_ready (rs := [9]) (by kernel_rfl) (by simp) ?_
      refine AllReadyH.cons (i := 9) rfl (fun K hK => ?_) AllReadyH.nil
      simp only [List.getElem_toArray, List.getElem_cons_zero, List.getElem_cons_succ]
      go_simp
      have HM4 := hid ((((HM3.out.setSec (by omega) (k * 4) (.int .i64 n0)).setSec (by omega) (k * 4 + 1) (.int .i64 n1)).setSec (by omega) (k * 4 + 2) (.int .i64 n2)).setSec (by omega) (k * 4 + 3) (.string ByteArray.empty))
      have HK4 := hid ((((HK3.out.set (g := w2.heap.size) (by omega) (k * 4) (.int .i64 n0)).set (g := w2.heap.size) (by omega) (k * 4 + 1) (.int .i64 n1)).set (g := w2.heap.size) (by omega) (k * 4 + 2) (.int .i64 n2)).set (g := w2.heap.size) (by omega) (k * 4 + 3) (.string ByteArray.empty))
      have HR4 := hid (rd_setFar (g := w2.heap.size) (i := k * 4 + 3) (rd_setFar (g := w2.heap.size) (i := k * 4 + 2) (rd_setFar (g := w2.heap.size) (i := k * 4 + 1) (rd_setFar (g := w2.heap.size) (i := k * 4) HW3.out.1 (by omega) (.int .i64 n0)) (by omega) (.int .i64 n1)) (by omega) (.int .i64 n2)) (by omega) (.string ByteArray.empty))
      refine hK.out _ _ HM4.out.cont (fun hHeld => ?_)
      clear hK
      clear c0 c1 c2 c3 cl fz fl
      refine wpAnyH_take (i := 10) (v := ?vc10) rfl (by kernel_rfl) (by kernel_rfl) (by kernel_rfl) (fun _ _ _ h => h) (Or.inl ⟨by rfl, ?hyc10⟩) hHeld ?restc10
      case hyc10 => intro w hSw; go_simp; try with_reducible rfl
      simp only [Act.put, List.setIfInBounds_toArray, List.set_cons_zero, List.set_cons_succ, List.getElem_toArray, List.getElem_cons_zero, List.getElem_cons_succ]
      obtain ⟨ol2, cl2⟩ := HM4.out.oldLen k (by omega)
      have fl2 := unfrozen_of_block HM4.out.lens k
      refine wpAnyH_ready (rs := [11]) (by kernel_rfl) (by simp) ?_
      refine AllReadyH.cons (i := 11) rfl (fun K hK => ?_) AllReadyH.nil
      simp only [List.getElem_toArray, List.getElem_cons_zero, List.getElem_cons_succ]
      go_simp
      refine hK.out _ _ (HM4.out.setLen (by omega) k m).cont (fun hHeld => ?_)
      clear hK
      refine wpAnyH_done (by kernel_rfl) ?_ _
      go_wp2
      go_roundw
      case rel =>
        refine ⟨k + 1, p', e', _, _, by omega, by go_num, rd_setFar HR4.out (by omega) _, HM4.out.setLen (by omega) k m, HK4.out.set (by omega) k _, ?_, ?_, ?_⟩
        · intro h
          have := E1.out h
          rw [HW3.out.2.2.1 (by rw [this]; exact h), this]
        · intro h
          have he := E2.out h
          by_cases z : e = 0
          · have hz := (E3.out z).1
            rw [HW3.out.2.2.2.1 z, hz]
            simp [headsE, ← he, z]
          · rw [HW3.out.2.2.1 z, he]
            rw [he] at z
            simp [headsE, z]
        · intro h
          have z : e = 0 := Decidable.byContradiction fun q => q ((HW3.out.2.2.1 q).symm.trans h)
          obtain ⟨q1, q2, q3, q4⟩ := E3.out z
          obtain ⟨v0, v1, v2, v3, v4⟩ := O3 h
          subst q1
          refine ⟨by omega, HW3.out.2.2.2.2 h, ?_, ?_⟩
          · rw [v0, v1, v2]; exact q3.step HM3.out.ssize hlt _
          · rw [v3]; exact q4.step HM3.out.lsize (by omega)
      case measure => simp [intOf]; omega
    · have hkk : k = n := by omega
      subst hkk
      have HR := hid R
      have HM := hid Mm
      have HK := hid Kk
      have hp : Hid (e = 0 → p ≤ b.size) := fun h => (E3.out h).2.1
      clear R Mm Kk hlt
      go_wp2_with fail
      refine (number2 b (w.heap.size + 1) p 25 (inB 0 60) e _ HR.out hp.out data_fits cf_data).mono ?_
      rintro x w4 ⟨dl, p4, e4, rfl, W4, Z4, O4⟩
      have HM4 := hid (HM.out.grown W4.2.1 (by omega) (by omega))
      have HK4 := hid (HK.out.grown (by have := HK.out.size; simpa using this) W4.2.1)
      have HW4 := hid W4
      have cc := cell_of_block HM4.out.cont 0
      clear W4
      go_wp2
      go_loopw [37] (fun i wr => ∃ (j p : Nat) (e : Int) (cs : Array Value), j ≤ k ∧ i = .int .i64 j ∧ RdAt wr (w.heap.size + 1) b p e ∧ Mem wr w.heap.size w2.heap.size k cs ls ⟨#[]⟩ ∧ Kept (w.heap.size + 1) (w.heap.size + 1) (w.alloc (.cells #[.slice none 0 0, .string ⟨#[]⟩] 24)) wr ∧
          Hid (e4 ≠ 0 → e = e4) ∧ Hid (e4 = 0 → e = codE b k j) ∧ Hid (e = 0 → p = cpos b k j ∧ p ≤ b.size ∧ SecDone b cs k ∧ CodeDone b k cs j)) (fun i _ => k - (intOf i).toNat)
      case atStart =>
        refine ⟨0, p4, e4, cs, Nat.zero_le _, rfl, HW4.out.1, HM4.out, HK4.out, fun _ => rfl, ?_, ?_⟩
        · intro h
          have z : e = 0 := Decidable.byContradiction fun q => q ((HW4.out.2.2.1 q).symm.trans h)
          have h1 := (O4 h).2
          have h2 := HW4.out.2.2.2.2 h
          rw [(E3.out z).1] at h1
          unfold codE
          rw [if_neg (by show ¬ b.size < 5 + 5 * k; omega)]
          exact h
        · intro h
          have z : e = 0 := Decidable.byContradiction fun q => q ((HW4.out.2.2.1 q).symm.trans h)
          have h1 := (O4 h).2
          obtain ⟨x1, x2, x3, x4⟩ := E3.out z
          exact ⟨by show p4 = 5 + 5 * k; omega, HW4.out.2.2.2.2 h, x3, fun i hi => absurd hi (by omega)⟩
      case round =>
        clear cc
        obtain ⟨j, q, f, cs2, hj, rfl, R, Mm, Kk, F1, F2, F3⟩ := hrel
        by_cases hlt : j < k
        · have HR2 := hid R
          have HM2 := hid Mm
          have HK2 := hid Kk
          have hq : Hid (f = 0 → q ≤ b.size) := fun h => (F3.out h).2.1
          have z0 : (0 : Int) ≤ (j : Int) := by omega
          have z1 : (j : Int) < (k : Int) := by omega
          have z2 : (j : Int) < 6 := by omega
          obtain ⟨lm, hlm⟩ := Mm.lnat j (by omega)
          have HL : Hid (f = 0 → lm = clen b j) := fun h => by
            have z4 : e4 = 0 := Decidable.byContradiction fun q => q ((F1.out q).symm.trans h)
            have z : e = 0 := Decidable.byContradiction fun q => q ((HW4.out.2.2.1 q).symm.trans z4)
            have := (E3.out z).2.2.2 j hlt
            rw [hlm] at this
            simp at this
            exact_mod_cast this
          have HLL : Hid (f = 0 → lm ≤ 70000) := fun h => by
            rw [HL.out h]
            have h1 := byteN_lt b (3 + 5 * j + 3)
            have h2 := byteN_lt b (3 + 5 * j + 3 + 1)
            unfold clen num2
            omega
          have cc := cell_of_block Mm.cont 0
          clear R Mm Kk
          go_wp2
          refine wp_region_held_drew (S := fun w' => w'.heap[w2.heap.size + 1]? = some (.cells #[.slice (some ⟨w2.heap.size, 0, none⟩) k k, .string ⟨#[]⟩] 24 (0, 0)) ∧ w'.heap[w2.heap.size + 1 + 1]? = some (.cells ls 48 (0, 0))) (by kernel_rfl) ⟨HM2.out.cont, HM2.out.lens⟩ (fun hHeld => ?_)
          refine wpAnyH_take (i := 0) (v := ?vd0) rfl (by kernel_rfl) (by kernel_rfl) (by kernel_rfl) (fun _ _ _ h => h) (Or.inl ⟨by rfl, ?hyd0⟩) hHeld ?restd0
          case hyd0 => intro w hSw; go_simp; try with_reducible rfl
          simp only [Act.put, List.setIfInBounds_toArray, List.set_cons_zero, List.set_cons_succ, List.getElem_toArray, List.getElem_cons_zero]
          refine wpAnyH_take (i := 1) (v := ?vd1) rfl (by kernel_rfl) (by kernel_rfl) (by kernel_rfl) (fun _ _ _ h => h) (Or.inl ⟨by rfl, ?hyd1⟩) hHeld ?restd1
          case hyd1 => intro w hSw; have cc := cell_of_block hSw.1 0; go_simp; try with_reducible rfl
          simp only [Act.put, List.setIfInBounds_toArray, List.set_cons_zero, List.set_cons_succ, List.getElem_toArray, List.getElem_cons_zero, List.getElem_cons_succ]
          refine wpAnyH_take (i := 2) (v := ?vd2) rfl (by kernel_rfl) (by kernel_rfl) (by kernel_rfl) (fun _ _ _ h => h) (Or.inl ⟨by rfl, ?hyd2⟩) hHeld ?restd2
          case hyd2 => intro w hSw; go_simp; try with_reducible rfl
          simp only [Act.put, List.setIfInBounds_toArray, List.set_cons_zero, List.set_cons_succ, List.getElem_toArray, List.getElem_cons_zero, List.getElem_cons_succ]
          refine wpAnyH_take (i := 3) (v := ?vd3) rfl (by kernel_rfl) (by kernel_rfl) (by kernel_rfl) (fun _ _ _ h => h) (Or.inl ⟨by rfl, ?hyd3⟩) hHeld ?restd3
          case hyd3 => intro w hSw; go_simp; try with_reducible rfl
          simp only [Act.put, List.setIfInBounds_toArray, List.set_cons_zero, List.set_cons_succ, List.getElem_toArray, List.getElem_cons_zero, List.getElem_cons_succ]
          refine wpAnyH_take (i := 4) (v := ?vd4) rfl (by kernel_rfl) (by kernel_rfl) (by kernel_rfl) (fun _ _ _ h => h) (Or.inl ⟨by rfl, ?hyd4⟩) hHeld ?restd4
          case hyd4 => intro w hSw; go_simp; try with_reducible rfl
          simp only [Act.put, List.setIfInBounds_toArray, List.set_cons_zero, List.set_cons_succ, List.getElem_toArray, List.getElem_cons_zero, List.getElem_cons_succ]
          refine wpAnyH_take (i := 5) (v := ?vd5) rfl (by kernel_rfl) (by kernel_rfl) (by kernel_rfl) (fun _ _ _ h => h) (Or.inl ⟨by rfl, ?hyd5⟩) hHeld ?restd5
          case hyd5 => intro w hSw; have cl := (cell_of_block hSw.2 j).trans hlm; go_simp; try with_reducible rfl
          simp only [Act.put, List.setIfInBounds_toArray, List.set_cons_zero, List.set_cons_succ, List.getElem_toArray, List.getElem_cons_zero, List.getElem_cons_succ]
          refine wpAnyH_ready (rs := [6]) (by kernel_rfl) (by simp) ?_
          refine AllReadyH.cons (i := 6) rfl (fun K hK => ?_) AllReadyH.nil
          simp only [List.getElem_toArray, List.getElem_cons_zero, List.getElem_cons_succ]
          go_simp
          refine (text_any b (w.heap.size + 1) q lm f _ (rd_drew1 HR2.out) hq.out HLL.out).mono ?_
          rintro x w5 ⟨t, q', f', rfl, W5, O5⟩
          have HM5 := hid (HM2.out.drew.grown W5.2.1 (by omega) (by omega))
          have HK5 := hid (HK2.out.drew.grown (by have := HK2.out.size; simpa using this) W5.2.1)
          have HW5 := hid W5
          clear W5
          go_wp2_with fail
          refine hK.out _ _ ⟨HM5.out.cont, HM5.out.lens⟩ (fun hHeld => ?_)
          clear hK
          refine wpAnyH_take (i := 7) (v := ?ve7) rfl (by kernel_rfl) (by kernel_rfl) (by kernel_rfl) (fun _ _ _ h => h) (Or.inl ⟨by rfl, ?hye7⟩) hHeld ?reste7
          case hye7 => intro w hSw; go_simp; try with_reducible rfl
          simp only [Act.put, List.setIfInBounds_toArray, List.set_cons_zero, List.set_cons_succ, List.getElem_toArray, List.getElem_cons_zero, List.getElem_cons_succ]
          refine wpAnyH_take (i := 8) (v := ?ve8) rfl (by kernel_rfl) (by kernel_rfl) (by kernel_rfl) (fun _ _ _ h => h) (Or.inl ⟨by rfl, ?hye8⟩) hHeld ?reste8
          case hye8 => intro w hSw; go_simp; try with_reducible rfl
          simp only [Act.put, List.setIfInBounds_toArray, List.set_cons_zero, List.set_cons_succ, List.getElem_toArray, List.getElem_cons_zero, List.getElem_cons_succ]
          obtain ⟨o3, c3⟩ := HM5.out.old (j * 4 + 3) (by omega)
          have f3 := unfrozen_of_block HM5.out.secs (j * 4 + 3)
          refine wpAnyH_ready (rs := [9]) (by kernel_rfl) (by simp) ?_
          refine AllReadyH.cons (i := 9) rfl (fun K hK => ?_) AllReadyH.nil
          simp only [List.getElem_toArray, List.getElem_cons_zero, List.getElem_cons_succ]
          go_simp
          have HM6 := hid (HM5.out.setSec (by omega) (j * 4 + 3) (.string t))
          refine hK.out _ _ ⟨HM6.out.cont, HM6.out.lens⟩ (fun hHeld => ?_)
          clear hK
          refine wpAnyH_done (by kernel_rfl) ?_ _
          go_wp2
          go_roundw
          case rel =>
            refine ⟨j + 1, q', f', _, by omega, by go_num, rd_setFar HW5.out.1 (by omega) _, HM6.out, HK5.out.set (by omega) (j * 4 + 3) _, ?_, ?_, ?_⟩
            · intro h
              have := F1.out h
              rw [HW5.out.2.2.1 (by rw [this]; exact h), this]
            · intro h
              have hf := F2.out h
              by_cases z : f = 0
              · obtain ⟨q1, _⟩ := F3.out z
                rw [HW5.out.2.2.2.1 z, q1, HL.out z]
                rfl
              · rw [HW5.out.2.2.1 z, hf]
                rw [hf] at z
                unfold codE at z ⊢
                by_cases y : b.size < cpos b k j
                · have : b.size < cpos b k (j + 1) := by show b.size < cpos b k j + clen b j; omega
                  rw [if_pos y, if_pos this]
                · rw [if_neg y] at z; exact absurd rfl z
            · intro h
              have z : f = 0 := Decidable.byContradiction fun q => q ((HW5.out.2.2.1 q).symm.trans h)
              obtain ⟨q1, q2, q3, q4⟩ := F3.out z
              obtain ⟨v0, v1⟩ := O5 h
              have hl := HL.out z
              subst q1
              subst hl
              refine ⟨v1, HW5.out.2.2.2.2 h, q3.code _ _, ?_⟩
              rw [v0]
              exact q4.step (Nat.le_of_eq HM5.out.ssize.symm) hlt
          case measure => simp [intOf]; omega
        · have hjj : j = k := by omega
          subst hjj
          have HR2 := hid R
          have HM2 := hid Mm
          have HK2 := hid Kk
          have hq : Hid (f = 0 → q ≤ b.size) := fun h => (F3.out h).2.1
          have HD : Hid (f = 0 → dl = dlen b j ∧ e = 0 ∧ e4 = 0) := fun h => by
            have z4 : e4 = 0 := Decidable.byContradiction fun q => q ((F1.out q).symm.trans h)
            have z : e = 0 := Decidable.byContradiction fun q => q ((HW4.out.2.2.1 q).symm.trans z4)
            have := (O4 z4).1
            rw [(E3.out z).1] at this
            exact ⟨this, z, z4⟩
          have HDL : Hid (f = 0 → dl ≤ 70000) := fun h => by
            rw [(HD.out h).1]
            have h1 := byteN_lt b (3 + 5 * j)
            have h2 := byteN_lt b (3 + 5 * j + 1)
            unfold dlen num2
            omega
          clear R Mm Kk hlt
          go_wp2_with fail
          refine (text_any b (w.heap.size + 1) q dl f _ HR2.out hq.out HDL.out).mono ?_
          rintro x w5 ⟨t, q', f', rfl, W5, O5⟩
          have HM5 := hid (HM2.out.grown W5.2.1 (by omega) (by omega))
          have HK5 := hid (HK2.out.grown (by have := HK2.out.size; simpa using this) W5.2.1)
          have HW5 := hid W5
          have cd1 := cell_of_block HM5.out.cont 1
          have fd1 := unfrozen_of_block HM5.out.cont 1
          clear W5
          go_wp2_with fail
          have HM6 := hid (HM5.out.setDat (by omega) t)
          have HK6 := hid (HK5.out.set (g := w2.heap.size + 1) (by omega) 1 (.string t))
          refine (end_any b (w.heap.size + 1) q' f' _ (rd_setFar (g := w2.heap.size + 1) HW5.out.1 (by omega) _) HW5.out.2.2.2.2).mono ?_
          rintro x w7 ⟨rfl, q7, f7, W7⟩
          have HM7 := hid (HM6.out.grown W7.2.1 (by omega) (by omega))
          have HK7 := hid (HK6.out.grown (by have := HK6.out.size; simpa using this) W7.2.1)
          have HW7 := hid W7
          obtain ⟨_, ce, _, _, _⟩ := W7.1.facts
          have ca0 := cell_of_block HM7.out.res 0
          have ca1 := cell_of_block HM7.out.res 1
          have fa0 := unfrozen_of_block HM7.out.res 0
          have fa1 := unfrozen_of_block HM7.out.res 1
          have cb0 := cell_of_block HM7.out.cont 0
          have cb1 := cell_of_block HM7.out.cont 1
          clear W7 cd1 fd1
          have FE : Hid (f7 = parseE b ∧ (f7 = 0 → j = num1 b 2 ∧ t = pdat b j ∧ SecDone b cs2 j ∧ CodeDone b j cs2 j)) := by
            have PC := parse_chain b j dl p q q' e2 e e4 f f' f7 SC.out.1 SC.out.2.1 (fun h => (HN.out h).1) E1.out E2.out (fun h => (E3.out h).1) HW4.out.2.2.1 HW4.out.2.2.2.1 F1.out F2.out (fun h => (F3.out h).1) (fun h => (HD.out h).1) HW5.out.2.2.1 HW5.out.2.2.2.1 (fun h => (O5 h).2) HW7.out.2.2.1 HW7.out.2.2.2.1
            refine ⟨PC.1, fun h => ?_⟩
            obtain ⟨y1, y2, y3, y4, y5⟩ := PC.2 h
            obtain ⟨x1, x2, x3, x4⟩ := F3.out y4
            refine ⟨(HN.out y1).1, ?_, x3, x4⟩
            rw [(O5 y5).1, x1, (HD.out y4).1]
            rfl
          by_cases hz : f7 = 0
          · have tz : (f7 == 0) = true := by simp [hz]
            have HZ := hid hz
            clear hz
            go_wp2
            have HB : ((w7.setCell ⟨w.heap.size, 0, none⟩ (.slice (some ⟨w2.heap.size, 0, none⟩) j j)).setCell ⟨w.heap.size, 1, none⟩ (.string t)).heap[w.heap.size]? = some (.cells #[.slice (some ⟨w2.heap.size, 0, none⟩) j j, .string t] 24 (0, 0)) := block_setCell (block_setCell HM7.out.res _) _
            have b0 := cell_of_block HB 0
            have b1 := cell_of_block HB 1
            obtain ⟨hf, h0⟩ := FE.out
            obtain ⟨y1, y2, y3, y4⟩ := h0 HZ.out
            have hE : parseE b = 0 := hf.symm.trans HZ.out
            refine bodyPost_ret (v := .tuple #[.agg #[.slice (some ⟨w2.heap.size, 0, none⟩) j j, .string t], .int .i64 0]) (by simp [results, Try.results13, go_sem, b0, b1]) rfl ⟨.slice (some ⟨w2.heap.size, 0, none⟩) j j, ?_, ?_, ?_⟩
            · rw [hE, y2, y1]
              simp [pD, hE]
            · refine .inr ⟨w2.heap.size, 0, j, ?_, by omega, ?_⟩
              · simp [pS, hE, psecs_length, ← y1]
              · have : pS b = psecs b j := by simp [pS, hE, ← y1]
                rw [this]
                refine secs_at ?_ y3 y4
                rw [Below.heap_setCell _ _ _ _ (by show w2.heap.size ≠ w.heap.size; omega), Below.heap_setCell _ _ _ _ (by show w2.heap.size ≠ w.heap.size; omega)]
                exact HM7.out.secs
            · exact ((((Below.refl _ _).alloc (Nat.le_refl _) _).trans (HK7.out.below (by omega) (by omega))).setCell (Nat.le_refl _) _).setCell (Nat.le_refl _) _
          · have tz : (f7 == 0) = false := by simp [hz]
            have HZ := hid hz
            clear hz
            go_wp2
            refine wp_region_held_drew (S := fun w' => w'.cell? ⟨w.heap.size + 1, 1, none⟩ = some (.int .i64 f7)) (by kernel_rfl) ce (fun hHeld => ?_)
            refine wpAnyH_take (i := 0) (v := ?vg0) rfl (by kernel_rfl) (by kernel_rfl) (by kernel_rfl) (fun _ _ _ h => h) (Or.inl ⟨by rfl, ?hyg0⟩) hHeld ?restg0
            case hyg0 => intro w hSw; go_simp; try with_reducible rfl
            simp only [Act.put, List.setIfInBounds_toArray, List.set_cons_zero, List.set_cons_succ, List.getElem_toArray, List.getElem_cons_zero]
            refine wpAnyH_take (i := 1) (v := ?vg1) rfl (by kernel_rfl) (by kernel_rfl) (by kernel_rfl) (fun _ _ _ h => h) (Or.inl ⟨by rfl, ?hyg1⟩) hHeld ?restg1
            case hyg1 => intro w hSw; go_simp; try with_reducible rfl
            simp only [Act.put, List.setIfInBounds_toArray, List.set_cons_zero, List.set_cons_succ, List.getElem_toArray, List.getElem_cons_zero, List.getElem_cons_succ]
            refine wpAnyH_take (i := 2) (v := ?vg2) rfl (by kernel_rfl) (by kernel_rfl) (by kernel_rfl) (fun _ _ _ h => h) (Or.inl ⟨by rfl, ?hyg2⟩) hHeld ?restg2
            case hyg2 => intro w hSw; (try dsimp only at hSw); go_simp; try with_reducible rfl
            simp only [Act.put, List.setIfInBounds_toArray, List.set_cons_zero, List.set_cons_succ, List.getElem_toArray, List.getElem_cons_zero, List.getElem_cons_succ]
            refine wpAnyH_ready (rs := [3]) (by kernel_rfl) (by simp) ?_
            refine AllReadyH.cons (i := 3) rfl (fun K hK => ?_) AllReadyH.nil
            simp only [List.getElem_toArray, List.getElem_cons_zero, List.getElem_cons_succ]
            go_simp
            refine hK.out _ _ (by go_simp) (fun hHeld => ?_)
            clear hK
            refine wpAnyH_take (i := 4) (v := ?vg4) rfl (by kernel_rfl) (by kernel_rfl) (by kernel_rfl) (fun _ _ _ h => h) (Or.inl ⟨by rfl, ?hyg4⟩) hHeld ?restg4
            case hyg4 => intro w hSw; go_simp; try with_reducible rfl
            simp only [Act.put, List.setIfInBounds_toArray, List.set_cons_zero, List.set_cons_succ, List.getElem_toArray, List.getElem_cons_zero, List.getElem_cons_succ]
            refine wpAnyH_done (by kernel_rfl) ?_ _
            go_wp2
            have HB : ((w7.setCell ⟨w.heap.size, 0, none⟩ (.slice none 0 0)).setCell ⟨w.heap.size, 1, none⟩ (.string ⟨#[]⟩)).drew.heap[w.heap.size]? = some (.cells #[.slice none 0 0, .string ⟨#[]⟩] 24 (0, 0)) := block_setCell (block_setCell HM7.out.res _) _
            have b0 := cell_of_block HB 0
            have b1 := cell_of_block HB 1
            obtain ⟨hf, _⟩ := FE.out
            have hE : ¬ parseE b = 0 := hf ▸ HZ.out
            refine bodyPost_ret (v := .tuple #[.agg #[.slice none 0 0, .string ⟨#[]⟩], .int .i64 f7]) (by simp [results, Try.results13, go_sem, b0, b1]) rfl ⟨.slice none 0 0, ?_, ?_, ?_⟩
            · rw [← hf]
              simp [pD, hE]
              rfl
            · exact .inl ⟨rfl, by simp [pS, hE]⟩
            · exact (((((Below.refl _ _).alloc (Nat.le_refl _) _).trans (HK7.out.below (by omega) (by omega))).setCell (Nat.le_refl _) _).setCell (Nat.le_refl _) _).drew
end Go.Proofs.Ytdhmandnamajpaa
