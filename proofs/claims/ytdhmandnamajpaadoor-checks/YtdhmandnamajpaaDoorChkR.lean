/-
  The reference: Check.
-/
import Derived.Test.YtdhmandnamajpaaDoorSecB
import Derived.Test.YtdhmandnamajpaaDoorUnus
import Derived.Test.YtdhmandnamajpaaDoorFits
namespace Go.Proofs.YtdhmandnamajpaaDoor
open Go.RowKit Go.Joins

set_option maxHeartbeats 2000000
set_option maxRecDepth 100000

theorem fits_all (S : List Sec) (d : ByteArray) (b off cap : Nat) (w : World) (hn : inB 1 6 (S.length : Int) = true) (hS : SecsAt w b off S) :
    Calls Tryd.prog 23 #[.agg #[.slice (some ⟨b, off, none⟩) S.length cap, .string d]] w fun e w' => e = .returned (.bool (fitB S d)) ∧ Below w.heap.size w w' := by
  cases hd : inB 0 60 (d.size : Int) with
  | false =>
    have hf : fitB S d = false := by simp [fitB, hd]
    rw [hf]
    exact fits_data _ _ d cap w hn hd
  | true => exact fits_some S d b off cap w hn hd hS
theorem ref_check_count (n : Nat) (v : Option Addr) (d : ByteArray) (cap : Nat) (w : World) (hn : inB 1 6 (n : Int) = false) :
    Calls Tryd.prog 10 #[.agg #[.slice v n cap, .string d]] w fun e w' => e = .returned (.tuple #[.int .i64 3, .int .i64 0, .int .i64 0]) ∧ Below w.heap.size w w' := by
  go_enter Tryd.func10, Tryd.ntmps10
  go_wp2_with (go_at_call 23; refine (fits_count n v d cap _ hn).mono ?_; rintro e w1 ⟨rfl, hb1⟩)
  go_ret3
  exact ⟨rfl, ((Below.refl _ _).alloc (Nat.le_refl _) _).trans (hb1.mono (by simp))⟩
theorem getD_sec (S : List Sec) (k : Nat) (hk : k < S.length) (z : Sec) : S.getD k z = S[k] := by simp [List.getD, hk]

theorem ref_check_some (S : List Sec) (d : ByteArray) (b off cap : Nat) (w : World) (hn : inB 1 6 (S.length : Int) = true) (hS : SecsAt w b off S) :
    Calls Tryd.prog 10 #[.agg #[.slice (some ⟨b, off, none⟩) S.length cap, .string d]] w (ContPost w S d) := by
  have hlen := inB_iff.1 hn
  have hb := hS.1
  have HS := hidc hS
  clear hS
  go_enter Tryd.func10, Tryd.ntmps10
  go_wp2_with fail
  refine (fits_all S d b off cap _ hn (HS.out.alloc _)).mono ?_
  rintro e w1 ⟨rfl, hb1⟩
  have HB1 := hidc (((Below.refl w.heap.size w).alloc (Nat.le_refl _) (.cells #[.slice (some ⟨b, off, none⟩) S.length cap, .string d] 24)).trans (hb1.mono (by simp)))
  have u0 : w1.cell? ⟨w.heap.size, 0, none⟩ = some (.slice (some ⟨b, off, none⟩) S.length cap) := by rw [(bcell hb1).1 _ _ (by simp)]; simp
  have u1 : w1.cell? ⟨w.heap.size, 1, none⟩ = some (.string d) := by rw [(bcell hb1).1 _ _ (by simp)]; simp
  have hs1 : w.heap.size + 1 ≤ w1.heap.size := by have := hb1.size; simpa using this
  clear hb1
  cases hf : fitB S d with
  | false =>
    have HF : Hid (CheckIs S d 3 0 0) := by show CheckIs S d 3 0 0; unfold CheckIs; rw [if_pos hf]; exact ⟨rfl, rfl, rfl⟩
    go_wp2_with fail
    go_ret3
    exact ⟨3, 0, 0, rfl, HF.out, HB1.out⟩
  | true =>
    have hal : S.all secB = true := by simp only [fitB, Bool.and_eq_true] at hf; exact hf.1.2
    have h0 : 0 < S.length := by omega
    obtain ⟨c0, c1, c2, c3⟩ := (HS.out.below hb HB1.out).at 0 h0
    simp only [Nat.zero_mul, Nat.add_zero] at c0 c1 c2 c3
    have HF := hidc hf
    clear hf
    have HI := hidc (inS_get S 0 h0)
    have HO := hidc (outS_get S 0 h0)
    by_cases hfirst : S[0].i = 0 ∧ S[0].o = 128
    case neg =>
      have HC : Hid (CheckIs S d 5 0 0) := by
        show CheckIs S d 5 0 0
        unfold CheckIs
        rw [if_neg (by rw [HF.out]; simp), if_pos (by rw [HI.out, HO.out]; omega)]
        exact ⟨rfl, rfl, rfl⟩
      by_cases hi0 : S[0].i = 0
      · have ho0 : ¬ S[0].o = 128 := fun h => hfirst ⟨hi0, h⟩
        have ho1 : (S[0].o == 128) = false := by simp [ho0]
        clear hfirst
        rw [hi0] at c0
        go_wp2_with fail
        go_ret3
        exact ⟨5, 0, 0, rfl, HC.out, HB1.out⟩
      · have hi1 : (S[0].i == 0) = false := by simp [hi0]
        clear hfirst
        go_wp2_with fail
        go_ret3
        exact ⟨5, 0, 0, rfl, HC.out, HB1.out⟩
    case pos =>
      have HC : Hid (∀ e k p, ((k < S.length ∧ (∀ j, j < k → (wholeE S (S.getD j ⟨0, 0, 0, ByteArray.empty⟩)).1 = 0) ∧ (wholeE S (S.getD k ⟨0, 0, 0, ByteArray.empty⟩)).1 ≠ 0 ∧ (e, p) = wholeE S (S.getD k ⟨0, 0, 0, ByteArray.empty⟩)) ∨
          ((∀ j, j < S.length → (wholeE S (S.getD j ⟨0, 0, 0, ByteArray.empty⟩)).1 = 0) ∧ p = 0 ∧ ((e = 17 ∧ k < S.length ∧ ¬ Used S k ∧ ∀ j, j < k → Used S j) ∨ (e = 0 ∧ k = 0 ∧ ∀ j, j < S.length → Used S j)))) → CheckIs S d e k p) := by
        intro e k p h
        unfold CheckIs
        rw [if_neg (by rw [HF.out]; simp), if_neg (by rw [HI.out, HO.out]; omega)]
        exact h
      rw [hfirst.1] at c0
      rw [hfirst.2] at c1
      clear hfirst
      go_wp2_with fail
      go_loopw [6] (fun iv wk => ∃ k : Nat, k ≤ S.length ∧ iv = .int .i64 k ∧ Hid (∀ j, j < k → (wholeE S (S.getD j ⟨0, 0, 0, ByteArray.empty⟩)).1 = 0) ∧ Hid (Below w1.heap.size w1 wk)) (fun iv _ => S.length - (intOf iv).toNat)
      case atStart => exact ⟨0, Nat.zero_le _, rfl, fun j hj => by omega, Below.refl _ _⟩
      case round =>
        obtain ⟨k, hk, rfl, HJ, HBL⟩ := hrel
        have hsr : w1.heap.size ≤ wr.heap.size := HBL.out.size
        have HBr := hidc (HB1.out.trans (HBL.out.mono (by omega)))
        have ru0 : wr.cell? ⟨w.heap.size, 0, none⟩ = some (.slice (some ⟨b, off, none⟩) S.length cap) := ((bcell HBL.out).1 _ _ (by omega)).trans u0
        have ru1 : wr.cell? ⟨w.heap.size, 1, none⟩ = some (.string d) := ((bcell HBL.out).1 _ _ (by omega)).trans u1
        have hwS : b < wr.heap.size := by omega
        by_cases hkl : k < S.length
        · obtain ⟨d0, d1, d2, d3⟩ := (HS.out.below hb HBr.out).at k hkl
          have HSK := hidc (sec_get hal k hkl)
          have HGD := hidc (getD_sec S k hkl ⟨0, 0, 0, ByteArray.empty⟩)
          generalize hsk : S[k] = s at *
          clear hsk
          have hwle := wholeE_le S s
          generalize hwq : wholeE S s = wq at *
          have HWQ := hidc hwq
          clear hwq
          obtain ⟨we, wp⟩ := wq
          simp only at hwle
          clear c0 c1 c2 c3 u0 u1
          go_wp2_with fail
          refine wp_region_held_drew (S := fun w' => (w'.cell? ⟨w.heap.size, 0, none⟩ = some (.slice (some ⟨b, off, none⟩) S.length cap) ∧ w'.cell? ⟨w.heap.size, 1, none⟩ = some (.string d)) ∧ w'.cell? ⟨b, off + k * 4, none⟩ = some (.int .i64 s.i) ∧ w'.cell? ⟨b, off + k * 4 + 1, none⟩ = some (.int .i64 s.o) ∧ w'.cell? ⟨b, off + k * 4 + 2, none⟩ = some (.int .i64 s.m) ∧ w'.cell? ⟨b, off + k * 4 + 3, none⟩ = some (.string s.code)) (by kernel_rfl) ⟨⟨ru0, ru1⟩, d0, d1, d2, d3⟩ (fun hHeld => ?_)
          refine wpAnyH_take (i := 0) (v := ?va0) rfl (by kernel_rfl) (by kernel_rfl) (by kernel_rfl) (fun _ _ _ h => h) (Or.inl ⟨by rfl, ?hya0⟩) hHeld ?resta0
          case hya0 => intro w hSw; obtain ⟨⟨a0, a1⟩, b0, b1, b2, b3⟩ := hSw; go_simp; try with_reducible rfl
          simp only [Act.put, List.setIfInBounds_toArray, List.set_cons_zero, List.set_cons_succ, List.getElem_toArray, List.getElem_cons_zero]
          refine wpAnyH_take (i := 1) (v := ?va1) rfl (by kernel_rfl) (by kernel_rfl) (by kernel_rfl) (fun _ _ _ h => h) (Or.inl ⟨by rfl, ?hya1⟩) hHeld ?resta1
          case hya1 => intro w hSw; obtain ⟨⟨a0, a1⟩, b0, b1, b2, b3⟩ := hSw; go_simp; try with_reducible rfl
          simp only [Act.put, List.setIfInBounds_toArray, List.set_cons_zero, List.set_cons_succ, List.getElem_toArray, List.getElem_cons_zero, List.getElem_cons_succ]
          refine wpAnyH_take (i := 2) (v := ?va2) rfl (by kernel_rfl) (by kernel_rfl) (by kernel_rfl) (fun _ _ _ h => h) (Or.inl ⟨by rfl, ?hya2⟩) hHeld ?resta2
          case hya2 => intro w hSw; obtain ⟨⟨a0, a1⟩, b0, b1, b2, b3⟩ := hSw; go_simp; try with_reducible rfl
          simp only [Act.put, List.setIfInBounds_toArray, List.set_cons_zero, List.set_cons_succ, List.getElem_toArray, List.getElem_cons_zero, List.getElem_cons_succ]
          refine wpAnyH_take (i := 3) (v := ?va3) rfl (by kernel_rfl) (by kernel_rfl) (by kernel_rfl) (fun _ _ _ h => h) (Or.inl ⟨by rfl, ?hya3⟩) hHeld ?resta3
          case hya3 => intro w hSw; obtain ⟨⟨a0, a1⟩, b0, b1, b2, b3⟩ := hSw; go_simp; try with_reducible rfl
          simp only [Act.put, List.setIfInBounds_toArray, List.set_cons_zero, List.set_cons_succ, List.getElem_toArray, List.getElem_cons_zero, List.getElem_cons_succ]
          refine wpAnyH_take (i := 4) (v := ?va4) rfl (by kernel_rfl) (by kernel_rfl) (by kernel_rfl) (fun _ _ _ h => h) (Or.inl ⟨by rfl, ?hya4⟩) hHeld ?resta4
          case hya4 => intro w hSw; obtain ⟨⟨a0, a1⟩, b0, b1, b2, b3⟩ := hSw; go_simp; try with_reducible rfl
          simp only [Act.put, List.setIfInBounds_toArray, List.set_cons_zero, List.set_cons_succ, List.getElem_toArray, List.getElem_cons_zero, List.getElem_cons_succ]
          refine wpAnyH_take (i := 5) (v := ?va5) rfl (by kernel_rfl) (by kernel_rfl) (by kernel_rfl) (fun _ _ _ h => h) (Or.inl ⟨by rfl, ?hya5⟩) hHeld ?resta5
          case hya5 => intro w hSw; obtain ⟨⟨a0, a1⟩, b0, b1, b2, b3⟩ := hSw; go_simp; try with_reducible rfl
          simp only [Act.put, List.setIfInBounds_toArray, List.set_cons_zero, List.set_cons_succ, List.getElem_toArray, List.getElem_cons_zero, List.getElem_cons_succ]
          refine wpAnyH_ready (rs := [6]) (by kernel_rfl) (by simp) ?_
          refine AllReadyH.cons (i := 6) rfl (fun K hK => ?_) AllReadyH.nil
          simp only [List.getElem_toArray, List.getElem_cons_zero, List.getElem_cons_succ]
          go_simp
          go_at_call 24
          refine (ref_section S s d b off cap _ (HS.out.below hb HBr.out.drew) hal HSK.out).mono ?_
          rintro e w5 ⟨rfl, hb5⟩
          rw [HWQ.out]
          go_wp2_with fail
          have HB5 := hidc ((HBL.out.drew).trans (hb5.mono hsr))
          refine hK.out _ _ ?hS5 (fun hHeld => ?_)
          case hS5 =>
            obtain ⟨⟨a0, a1⟩, b0, b1, b2, b3⟩ := hHeld
            have hc := fun g i (h : g < wr.heap.size) => (bcell hb5).1 g i h
            exact ⟨⟨(hc _ _ (by omega)).trans a0, (hc _ _ (by omega)).trans a1⟩, (hc _ _ (by omega)).trans b0, (hc _ _ (by omega)).trans b1, (hc _ _ (by omega)).trans b2, (hc _ _ (by omega)).trans b3⟩
          clear hK hb5
          refine wpAnyH_take (i := 7) (v := ?vb7) rfl (by kernel_rfl) (by kernel_rfl) (by kernel_rfl) (fun _ _ _ h => h) (Or.inl ⟨by rfl, ?hyb7⟩) hHeld ?restb7
          case hyb7 => intro w hSw; obtain ⟨⟨a0, a1⟩, b0, b1, b2, b3⟩ := hSw; go_simp; try with_reducible rfl
          simp only [Act.put, List.setIfInBounds_toArray, List.set_cons_zero, List.set_cons_succ, List.getElem_toArray, List.getElem_cons_zero, List.getElem_cons_succ]
          refine wpAnyH_take (i := 8) (v := ?vb8) rfl (by kernel_rfl) (by kernel_rfl) (by kernel_rfl) (fun _ _ _ h => h) (Or.inl ⟨by rfl, ?hyb8⟩) hHeld ?restb8
          case hyb8 => intro w hSw; obtain ⟨⟨a0, a1⟩, b0, b1, b2, b3⟩ := hSw; go_simp; try with_reducible rfl
          simp only [Act.put, List.setIfInBounds_toArray, List.set_cons_zero, List.set_cons_succ, List.getElem_toArray, List.getElem_cons_zero, List.getElem_cons_succ]
          refine wpAnyH_take (i := 9) (v := ?vb9) rfl (by kernel_rfl) (by kernel_rfl) (by kernel_rfl) (fun _ _ _ h => h) (Or.inl ⟨by rfl, ?hyb9⟩) hHeld ?restb9
          case hyb9 => intro w hSw; obtain ⟨⟨a0, a1⟩, b0, b1, b2, b3⟩ := hSw; go_simp; try with_reducible rfl
          simp only [Act.put, List.setIfInBounds_toArray, List.set_cons_zero, List.set_cons_succ, List.getElem_toArray, List.getElem_cons_zero, List.getElem_cons_succ]
          refine wpAnyH_take (i := 10) (v := ?vb10) rfl (by kernel_rfl) (by kernel_rfl) (by kernel_rfl) (fun _ _ _ h => h) (Or.inl ⟨by rfl, ?hyb10⟩) hHeld ?restb10
          case hyb10 => intro w hSw; obtain ⟨⟨a0, a1⟩, b0, b1, b2, b3⟩ := hSw; go_simp; try with_reducible rfl
          simp only [Act.put, List.setIfInBounds_toArray, List.set_cons_zero, List.set_cons_succ, List.getElem_toArray, List.getElem_cons_zero, List.getElem_cons_succ]
          refine wpAnyH_take (i := 11) (v := ?vb11) rfl (by kernel_rfl) (by kernel_rfl) (by kernel_rfl) (fun _ _ _ h => h) (Or.inl ⟨by rfl, ?hyb11⟩) hHeld ?restb11
          case hyb11 => intro w hSw; obtain ⟨⟨a0, a1⟩, b0, b1, b2, b3⟩ := hSw; go_simp; try with_reducible rfl
          simp only [Act.put, List.setIfInBounds_toArray, List.set_cons_zero, List.set_cons_succ, List.getElem_toArray, List.getElem_cons_zero, List.getElem_cons_succ]
          refine wpAnyH_done (by kernel_rfl) ?_ _
          clear hHeld ru0 ru1 d0 d1 d2 d3
          by_cases h0 : we = 0
          · subst h0
            go_wp2_with fail
            refine ⟨⟨k + 1, by omega, by first | rfl | go_num, ?_, HB5.out⟩, ?_⟩
            · intro j hj
              by_cases e : j = k
              · subst e; rw [HGD.out, HWQ.out]
              · exact HJ.out j (by omega)
            · simp [intOf]; omega
          · have hne : ((we : Int) == 0) = false := by simp; omega
            have HCC := hidc (HC.out we k wp (.inl ⟨hkl, HJ.out, by rw [HGD.out, HWQ.out]; exact h0, by rw [HGD.out, HWQ.out]⟩))
            go_wp2_with fail
            go_ret3
            exact ⟨we, k, wp, rfl, HCC.out, HB1.out.trans (HB5.out.mono (by omega))⟩
        · obtain rfl : k = S.length := by omega
          clear c0 c1 c2 c3 u0 u1
          have HOK : Hid (∀ j (hj : j < S.length), (wholeE S S[j]).1 = 0) := by
            intro j hj
            have := HJ.out j hj
            rw [getD_sec S j hj] at this
            exact this
          go_wp2_with fail
          refine (ref_unused S d b off cap _ (HS.out.below hb HBr.out) hal ⟨by omega, by omega⟩ HOK.out).mono ?_
          rintro e w5 ⟨r, rfl, hb5, hr⟩
          have HB5 := hidc (HBr.out.trans (hb5.mono (by omega)))
          clear hb5 ru0 ru1
          rcases hr with ⟨rfl, hall⟩ | ⟨k, hk2, rfl, hnu, hju⟩
          · have HCC := hidc (HC.out 0 0 0 (.inr ⟨HJ.out, rfl, .inr ⟨rfl, rfl, hall⟩⟩))
            clear hall
            go_wp2_with fail
            go_ret3
            exact ⟨0, 0, 0, rfl, HCC.out, HB5.out⟩
          · have HCC := hidc (HC.out 17 k 0 (.inr ⟨HJ.out, rfl, .inl ⟨rfl, hk2, hnu, hju⟩⟩))
            clear hnu hju
            go_wp2_with fail
            go_ret3
            exact ⟨17, k, 0, rfl, HCC.out, HB5.out⟩
end Go.Proofs.YtdhmandnamajpaaDoor
