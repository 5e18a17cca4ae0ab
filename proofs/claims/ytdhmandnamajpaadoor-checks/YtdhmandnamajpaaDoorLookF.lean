/-
  Package check: each.
-/
import Derived.Test.YtdhmandnamajpaaDoorLookE
namespace Go.Proofs.YtdhmandnamajpaaDoor
open Go.RowKit Go.Joins

set_option maxHeartbeats 1000000

theorem firstE_stays {E : Nat → Nat} {l : List Ins} {k m : Nat} {e : Nat × Nat} (h : firstE E l k = e) (he : e.1 ≠ 0) (hkm : k ≤ m) : firstE E l m = e := by
  induction m with
  | zero => have : k = 0 := by omega
            subst this; exact h
  | succ m ih =>
    by_cases e1 : k = m + 1
    · subst e1; exact h
    · have := ih (by omega)
      simp only [firstE]
      rw [this, if_pos he]

/-- Each instruction in turn, by look.references. -/
theorem each_refs {w : World} {L H : Nat} {S : List Sec} {s : Sec} {b off cap g cc : Nat} {l : List Ins} (E : Nat → Nat) (R : Nat → World → Prop) (hl : l.length ≤ 120) (hH : H < w.heap.size)
    (hlook : ∀ k w', R k w' → Look w' L H S s b off cap g cc l) (hbel : ∀ k w' w'', R k w' → Below w'.heap.size w' w'' → R k w'') (hE : ∀ k, E k ≤ 20)
    (hstep : ∀ k x ta tc w', l[k]? = some x → R k w' → TosAt0 w' H (.slice ta x.to.length tc) x.to → Calls Tryd.prog 58 #[.pointer (some ⟨L, 0, none⟩), .agg #[.int .i64 x.op, .int .i64 x.pl, .int .i64 x.nx, .int .i64 x.n, .slice ta x.to.length tc]] w' fun e w'' => e = .returned (.int .i64 (E k : Nat)) ∧ Kp w'.heap.size H w' w'' ∧ (E k = 0 → R (k + 1) w''))
    (h0 : R 0 w) :
    Calls Tryd.prog 57 #[.pointer (some ⟨L, 0, none⟩), .func (.func 58) #[.pointer (some ⟨L, 0, none⟩)] #[]] w fun e w' => e = .returned (.tuple #[.int .i64 (firstE E l l.length).1, .int .i64 (firstE E l l.length).2]) ∧ Kp w.heap.size H w w' ∧ ((firstE E l l.length).1 = 0 → R l.length w') := by
  obtain ⟨_, _, _, _, _, f5, _, hL⟩ := (hlook 0 w h0).facts
  have HLK := hidc hlook
  have HBL := hidc hbel
  have HST := hidc hstep
  have HEE := hidc hE
  have H0 := hidc h0
  clear hlook hbel hstep h0 hE
  go_enter Tryd.func57, Tryd.ntmps57
  go_wp2_with fail
  go_loopw [14] (fun iv wr => ∃ k : Nat, k ≤ l.length ∧ iv = .int .i64 k ∧ Hid (firstE E l k = (0, 0)) ∧ Hid (R k wr) ∧ Hid (Kp w.heap.size H w wr)) (fun iv _ => l.length - (intOf iv).toNat)
  case atStart => exact ⟨0, Nat.zero_le _, rfl, rfl, H0.out, Kp.refl _ _ _⟩
  case round =>
    obtain ⟨k, hk, rfl, HF, HR, HK⟩ := hrel
    by_cases hlt : k < l.length
    · obtain ⟨c0, c1, c2, c3, ⟨va, vc, c4, ht⟩, hg⟩ := (HLK.out k wr HR.out).ins k hlt
      have HT := hidc ht
      have HX := hidc (show l[k]? = some l[k] from List.getElem?_eq_getElem hlt)
      have HGD := hidc (show (l.getD k ins0) = l[k] by simp [List.getD, hlt])
      generalize l[k] = x at *
      have hsz := HK.out.size
      have hb1 := (Below.refl wr.heap.size wr).alloc (Nat.le_refl _) (.cells #[.int .i64 x.op, .int .i64 x.pl, .int .i64 x.nx, .int .i64 x.n, .slice va x.to.length vc] 116)
      have HR1 := hidc (HBL.out k _ _ HR.out hb1)
      have HT1 := hidc (HT.out.kp (Kp.of hb1 H))
      have HB1 := hidc hb1
      clear ht hb1
      have hE20 := HEE.out k
      cases hek : E k with
      | zero =>
        go_wp2_with fail
        refine (HST.out k x va vc _ HX.out HR1.out HT1.out).mono ?_
        rw [hek]
        rintro e w3 ⟨rfl, hk3, hr3⟩
        have HK3 := hidc hk3
        have HR3 := hidc (hr3 rfl)
        clear hk3 hr3
        go_wp2_with fail
        go_roundw
        case rel =>
          refine ⟨k + 1, by omega, by go_num, ?_, HR3.out, (HK.out.trans ((Kp.of HB1.out H).mono hsz)).trans (HK3.out.mono (by simp; omega))⟩
          show firstE E l (k + 1) = (0, 0)
          simp [firstE, HF.out, hek]
        case measure => simp [intOf]; omega
      | succ m =>
        have HE1 : Hid (firstE E l l.length = (m + 1, x.pl)) := by
          show firstE E l l.length = (m + 1, x.pl)
          have h1 : firstE E l (k + 1) = (m + 1, x.pl) := by
            show (if (firstE E l k).1 ≠ 0 then firstE E l k else if E k ≠ 0 then (E k, (l.getD k ins0).pl) else (0, 0)) = _
            rw [HF.out, HGD.out, hek, if_neg (by simp), if_pos (by simp)]
          exact firstE_stays h1 (by simp) (by omega)
        have hm : (((m + 1 : Nat) : Int) == 0) = false := by simp; omega
        go_wp2_with fail
        refine (HST.out k x va vc _ HX.out HR1.out HT1.out).mono ?_
        rw [hek]
        rintro e w3 ⟨rfl, hk3, hr3⟩
        have d1 : w3.cell? ⟨wr.heap.size, 1, none⟩ = some (.int .i64 x.pl) := (hk3.cell (by simp) (by omega) 1).trans (cell_nw rfl rfl)
        have HK3 := hidc hk3
        clear hk3 hr3
        go_wp2_with fail
        go_quiet (fail)
        go_wp2_with fail
        go_ret2
        refine ⟨by rw [HE1.out]; rfl, ((HK.out.trans ((Kp.of HB1.out H).mono hsz)).trans (HK3.out.mono (by simp; omega))).drewN _, fun h => ?_⟩
        rw [HE1.out] at h
        cases h
    · have hkl : k = l.length := by omega
      subst hkl
      go_wp2_with fail
      go_ret2
      exact ⟨by rw [HF.out]; rfl, HK.out, fun _ => HR.out⟩

/-- Each instruction in turn, by look.flow. -/
theorem each_flow {w : World} {L H : Nat} {S : List Sec} {s : Sec} {b off cap g cc : Nat} {l : List Ins} (E : Nat → Nat) (R : Nat → World → Prop) (hl : l.length ≤ 120) (hH : H < w.heap.size)
    (hlook : ∀ k w', R k w' → Look w' L H S s b off cap g cc l) (hbel : ∀ k w' w'', R k w' → Below w'.heap.size w' w'' → R k w'') (hE : ∀ k, E k ≤ 20)
    (hstep : ∀ k x ta tc w', l[k]? = some x → R k w' → TosAt0 w' H (.slice ta x.to.length tc) x.to → Calls Tryd.prog 59 #[.pointer (some ⟨L, 0, none⟩), .agg #[.int .i64 x.op, .int .i64 x.pl, .int .i64 x.nx, .int .i64 x.n, .slice ta x.to.length tc]] w' fun e w'' => e = .returned (.int .i64 (E k : Nat)) ∧ Kp w'.heap.size H w' w'' ∧ (E k = 0 → R (k + 1) w''))
    (h0 : R 0 w) :
    Calls Tryd.prog 57 #[.pointer (some ⟨L, 0, none⟩), .func (.func 59) #[.pointer (some ⟨L, 0, none⟩)] #[]] w fun e w' => e = .returned (.tuple #[.int .i64 (firstE E l l.length).1, .int .i64 (firstE E l l.length).2]) ∧ Kp w.heap.size H w w' ∧ ((firstE E l l.length).1 = 0 → R l.length w') := by
  obtain ⟨_, _, _, _, _, f5, _, hL⟩ := (hlook 0 w h0).facts
  have HLK := hidc hlook
  have HBL := hidc hbel
  have HST := hidc hstep
  have HEE := hidc hE
  have H0 := hidc h0
  clear hlook hbel hstep h0 hE
  go_enter Tryd.func57, Tryd.ntmps57
  go_wp2_with fail
  go_loopw [14] (fun iv wr => ∃ k : Nat, k ≤ l.length ∧ iv = .int .i64 k ∧ Hid (firstE E l k = (0, 0)) ∧ Hid (R k wr) ∧ Hid (Kp w.heap.size H w wr)) (fun iv _ => l.length - (intOf iv).toNat)
  case atStart => exact ⟨0, Nat.zero_le _, rfl, rfl, H0.out, Kp.refl _ _ _⟩
  case round =>
    obtain ⟨k, hk, rfl, HF, HR, HK⟩ := hrel
    by_cases hlt : k < l.length
    · obtain ⟨c0, c1, c2, c3, ⟨va, vc, c4, ht⟩, hg⟩ := (HLK.out k wr HR.out).ins k hlt
      have HT := hidc ht
      have HX := hidc (show l[k]? = some l[k] from List.getElem?_eq_getElem hlt)
      have HGD := hidc (show (l.getD k ins0) = l[k] by simp [List.getD, hlt])
      generalize l[k] = x at *
      have hsz := HK.out.size
      have hb1 := (Below.refl wr.heap.size wr).alloc (Nat.le_refl _) (.cells #[.int .i64 x.op, .int .i64 x.pl, .int .i64 x.nx, .int .i64 x.n, .slice va x.to.length vc] 116)
      have HR1 := hidc (HBL.out k _ _ HR.out hb1)
      have HT1 := hidc (HT.out.kp (Kp.of hb1 H))
      have HB1 := hidc hb1
      clear ht hb1
      have hE20 := HEE.out k
      cases hek : E k with
      | zero =>
        go_wp2_with fail
        refine (HST.out k x va vc _ HX.out HR1.out HT1.out).mono ?_
        rw [hek]
        rintro e w3 ⟨rfl, hk3, hr3⟩
        have HK3 := hidc hk3
        have HR3 := hidc (hr3 rfl)
        clear hk3 hr3
        go_wp2_with fail
        go_roundw
        case rel =>
          refine ⟨k + 1, by omega, by go_num, ?_, HR3.out, (HK.out.trans ((Kp.of HB1.out H).mono hsz)).trans (HK3.out.mono (by simp; omega))⟩
          show firstE E l (k + 1) = (0, 0)
          simp [firstE, HF.out, hek]
        case measure => simp [intOf]; omega
      | succ m =>
        have HE1 : Hid (firstE E l l.length = (m + 1, x.pl)) := by
          show firstE E l l.length = (m + 1, x.pl)
          have h1 : firstE E l (k + 1) = (m + 1, x.pl) := by
            show (if (firstE E l k).1 ≠ 0 then firstE E l k else if E k ≠ 0 then (E k, (l.getD k ins0).pl) else (0, 0)) = _
            rw [HF.out, HGD.out, hek, if_neg (by simp), if_pos (by simp)]
          exact firstE_stays h1 (by simp) (by omega)
        have hm : (((m + 1 : Nat) : Int) == 0) = false := by simp; omega
        go_wp2_with fail
        refine (HST.out k x va vc _ HX.out HR1.out HT1.out).mono ?_
        rw [hek]
        rintro e w3 ⟨rfl, hk3, hr3⟩
        have d1 : w3.cell? ⟨wr.heap.size, 1, none⟩ = some (.int .i64 x.pl) := (hk3.cell (by simp) (by omega) 1).trans (cell_nw rfl rfl)
        have HK3 := hidc hk3
        clear hk3 hr3
        go_wp2_with fail
        go_quiet (fail)
        go_wp2_with fail
        go_ret2
        refine ⟨by rw [HE1.out]; rfl, ((HK.out.trans ((Kp.of HB1.out H).mono hsz)).trans (HK3.out.mono (by simp; omega))).drewN _, fun h => ?_⟩
        rw [HE1.out] at h
        cases h
    · have hkl : k = l.length := by omega
      subst hkl
      go_wp2_with fail
      go_ret2
      exact ⟨by rw [HF.out]; rfl, HK.out, fun _ => HR.out⟩
end Go.Proofs.YtdhmandnamajpaaDoor
