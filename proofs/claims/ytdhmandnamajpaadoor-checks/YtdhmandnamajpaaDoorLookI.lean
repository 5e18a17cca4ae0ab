/-
  Package check: whole.
-/
import Derived.Test.YtdhmandnamajpaaDoorLookG
import Derived.Test.YtdhmandnamajpaaDoorLookH
import Derived.Test.YtdhmandnamajpaaDoorCBound
namespace Go.Proofs.YtdhmandnamajpaaDoor
open Go.RowKit Go.Joins

set_option maxHeartbeats 1000000

theorem Kp.below {B B' r : Nat} {w w' : World} (h : Kp B r w w') (h1 : B' ≤ B) (h2 : B' ≤ r) : Below B' w w' := ⟨h.os, h.tape, h.output, h.size, fun k hk => h.block k (by omega) (by omega)⟩

/-- What is made ahead of a look: its block, with no instruction yet; its heights, all none. -/
structure Fresh (w : World) (L H : Nat) (S : List Sec) (s : Sec) (b off cap : Nat) (cs : Array Value) : Prop where
  blk : w.heap[L]? = some (.cells #[(.slice (some ⟨b, off, none⟩) S.length cap), .int .i64 s.i, .int .i64 s.o, .int .i64 s.m, .string s.code, .slice none 0 0, (.slice (some ⟨H, 0, none⟩) s.code.size s.code.size)] 67 (0, 0))
  hts : w.heap[H]? = some (.cells cs 113 (0, 0))
  size : cs.size = s.code.size * 3
  span : ∀ p, p < s.code.size → SpanAt cs p none
  secs : SecsAt w b off S
  rows : RowsAt w
  neL : L ≠ H
  neb : b ≠ H
  nebL : b ≠ L
  ne0 : 0 ≠ H
  ne0L : 0 ≠ L

/-- What whole answers. -/
def WholePost (w : World) (B L H : Nat) (S : List Sec) (s : Sec) (b off cap : Nat) : Ending → World → Prop := fun e w' => e = .returned (.tuple #[.int .i64 (wholeE S s).1, .int .i64 (wholeE S s).2]) ∧ Below B w w' ∧
  ((wholeE S s).1 = 0 → ∃ g cc, Look w' L H S s b off cap g cc (codeI s.code))

theorem look_whole {w : World} {B L H : Nat} {S : List Sec} {s : Sec} {b off cap : Nat} {cs : Array Value} (h : Fresh w L H S s b off cap cs) (hBL : B ≤ L) (hBH : B ≤ H) (hS : S.all secB = true) (hs : secB s = true) :
    Calls Tryd.prog 34 #[.pointer (some ⟨L, 0, none⟩)] w (WholePost w B L H S s b off cap) := by
  obtain ⟨_, _, _, s4⟩ := (secB_iff _).1 hs
  have HFr := hidc h
  have hL := blt h.blk
  have hH := blt h.hts
  have HSS := hidc hS
  have HS1 := hidc hs
  clear h hS hs
  go_enter Tryd.func34, Tryd.ntmps34
  go_wp2_with fail
  refine (look_split w L H _ _ s HFr.out.blk HFr.out.rows HFr.out.ne0L hH s4).mono ?_
  rintro e w1 ⟨rfl, hk1, hc1⟩
  have HK1 := hidc hk1
  have HC1 := hidc hc1
  clear hk1 hc1
  have hne1 : (splitE s.code).1 ≤ 20 := splitE_le s.code
  generalize hse : splitE s.code = se at *
  obtain ⟨e1, p1⟩ := se
  simp only at hne1
  have HSE := hidc hse
  clear hse
  cases e1 with
  | succ m =>
    have hm : (((m + 1 : Nat) : Int) == 0) = false := by simp; omega
    have HW : Hid (wholeE S s = (m + 1, p1)) := by show wholeE S s = (m + 1, p1); unfold wholeE; rw [HSE.out]; rfl
    go_wp2_with fail
    go_ret2
    exact ⟨by rw [HW.out]; rfl, HK1.out.below (by omega) hBL, fun h => by rw [HW.out] at h; cases h⟩
  | zero =>
    obtain ⟨hch, g, cc, hb, hg, hI⟩ := HC1.out rfl
    have HCH := hidc (chained hch)
    have hlen : (codeI s.code).length ≤ 120 := by have := chain_len hch; omega
    have hl0 : 0 < (codeI s.code).length := by
      cases hcc : codeI s.code with
      | nil => rw [hcc] at hch; simp [Chain] at hch; omega
      | cons x l => simp
    have HLK : Hid (Look w1 L H S s b off cap g cc (codeI s.code)) := ⟨hb, HFr.out.secs.kp HK1.out HFr.out.nebL, hI, HFr.out.rows.kp HK1.out HFr.out.ne0L, HFr.out.neL, HFr.out.neb, HFr.out.ne0⟩
    have HHB : Hid (w1.heap[H]? = some (.cells cs 113 (0, 0))) := (HK1.out.block H hH (fun e => HFr.out.neL e.symm)).trans HFr.out.hts
    have HWH : Hid (wholeE S s = if (firstE (fun k => refE S (codeI s.code) ((codeI s.code).getD k ins0)) (codeI s.code) (codeI s.code).length).1 ≠ 0 then firstE (fun k => refE S (codeI s.code) ((codeI s.code).getD k ins0)) (codeI s.code) (codeI s.code).length else if (firstE (flowE S s (codeI s.code)) (codeI s.code) (codeI s.code).length).1 ≠ 0 then firstE (flowE S s (codeI s.code)) (codeI s.code) (codeI s.code).length else (sumsE S s (codeI s.code), 0)) := by
      show wholeE S s = _
      unfold wholeE
      rw [HSE.out, if_neg (by simp)]
    clear hch hb hI HC1
    have hH1 : H < w1.heap.size := Nat.lt_of_lt_of_le hH HK1.out.size
    generalize hcl : codeI s.code = l at *
    have HCL := hidc hcl
    clear hcl
    go_wp2_with fail
    refine (each_refs (fun k => refE S l (l.getD k ins0)) (fun _ w' => Look w' L H S s b off cap g cc l ∧ w'.heap[H]? = some (.cells cs 113 (0, 0))) hlen hH1 (fun _ _ h => h.1) (fun _ _ _ h hb => ⟨h.1.below hb, keepB hb h.2⟩) (fun k => refE_le _ _ _) (fun k x ta tc w' hx hR ht => ?hst) ⟨HLK.out, HHB.out⟩).mono ?_
    case hst =>
      have e : l.getD k ins0 = x := by simp [List.getD, hx]
      simp only [e]
      refine (look_references hR.1 x ta tc ht hlen (by have := (HCH.out.op k x hx).2.2; omega)).mono ?_
      rintro e w'' ⟨rfl, hb⟩
      exact ⟨rfl, Kp.of hb H, fun _ => ⟨hR.1.below hb, keepB hb hR.2⟩⟩
    rintro e w2 ⟨rfl, hk2, hr2⟩
    have HK2 := hidc hk2
    have HR2 := hidc hr2
    have HB2 := hidc (((HK1.out.below (B' := B) (by omega) hBL)).trans (hk2.below (B' := B) (by have := HK1.out.size; omega) hBH))
    clear hk2 hr2
    generalize hfe : firstE (fun k => refE S l (l.getD k ins0)) l l.length = fe at *
    obtain ⟨e2, p2⟩ := fe
    have HFE := hidc hfe
    have he2 : e2 ≤ 20 := by have := firstE_le (E := fun k => refE S l (l.getD k ins0)) (l := l) (n := l.length) (B := 20) (fun k => refE_le _ _ _); rw [hfe] at this; exact this
    clear hfe
    cases e2 with
    | succ m =>
      have hm : (((m + 1 : Nat) : Int) == 0) = false := by simp; omega
      go_wp2_with fail
      go_ret2
      exact ⟨by rw [HWH.out]; rfl, HB2.out, fun h => by rw [HWH.out] at h; cases h⟩
    | zero =>
      have HREF : Hid (∀ k x, l[k]? = some x → refE S l x = 0) := fun k x hx => by
        have hk : k < l.length := (List.getElem?_eq_some_iff.1 hx).1
        have := firstE_zero (E := fun k => refE S l (l.getD k ins0)) (l := l) (n := l.length) (by rw [HFE.out]) k hk
        simpa [List.getD, hx] using this
      obtain ⟨hlk2, hhb2⟩ := HR2.out rfl
      obtain ⟨f0, f1, f2, f3, f4, f5, f6, hL2⟩ := hlk2.facts
      have HLK2 := hidc hlk2
      have hp0 : l[0].pl = 0 := HCH.out.zero l[0] (by simp [hl0])
      have HH0 : Hid (HtsAt w2 H s.code.size l (List.replicate l.length none) cs) := ⟨hhb2, HFr.out.size, by simp, fun k x hx => by
        have hg : (List.replicate l.length (none : Option (Int × Int))).getD k none = none := by
          simp only [List.getD, List.getElem?_replicate]
          split <;> rfl
        rw [hg]
        exact HFr.out.span x.pl (HCH.out.lt k x hx)⟩
      have HSET := hidc (HH0.out.set 0 hl0 (by omega) (HCH.out.distinct hl0) s.i s.i)
      rw [hp0] at HSET
      have k0 : w2.cell? ⟨H, 0, none⟩ = some (.bool false) := by rw [cell_of_block hhb2]; exact (HFr.out.span 0 (by omega)).1
      have k1 : w2.cell? ⟨H, 1, none⟩ = some (.int .i64 0) := by rw [cell_of_block hhb2]; exact (HFr.out.span 0 (by omega)).2.1
      have k2 : w2.cell? ⟨H, 2, none⟩ = some (.int .i64 0) := by rw [cell_of_block hhb2]; exact (HFr.out.span 0 (by omega)).2.2
      have z0 : w2.frozen? ⟨H, 0, none⟩ = false := unfrozen_of_block hhb2 0
      have z1 : w2.frozen? ⟨H, 1, none⟩ = false := unfrozen_of_block hhb2 1
      have z2 : w2.frozen? ⟨H, 2, none⟩ = false := unfrozen_of_block hhb2 2
      have hLH := HFr.out.neL
      have hcs : 0 < s.code.size := by omega
      have hH2 : H < w2.heap.size := blt hhb2
      clear hlk2 hhb2 hp0
      go_wp2_with fail
      refine wp_region_held_drew (S := fun w' => w'.cell? ⟨L, 6, none⟩ = some (.slice (some ⟨H, 0, none⟩) s.code.size s.code.size) ∧ w'.cell? ⟨L, 1, none⟩ = some (.int .i64 s.i)) (by kernel_rfl) ⟨f6, f1⟩ (fun hHeld => ?_)
      refine wpAnyH_take (i := 0) (v := ?va0) rfl (by kernel_rfl) (by kernel_rfl) (by kernel_rfl) (fun _ _ _ h => h) (Or.inl ⟨by rfl, ?hya0⟩) hHeld ?resta0
      case hya0 => intro w hSw; obtain ⟨s0, s1⟩ := hSw; go_simp; try with_reducible rfl
      simp only [Act.put, List.setIfInBounds_toArray, List.set_cons_zero, List.set_cons_succ, List.getElem_toArray, List.getElem_cons_zero]
      refine wpAnyH_take (i := 1) (v := ?va1) rfl (by kernel_rfl) (by kernel_rfl) (by kernel_rfl) (fun _ _ _ h => h) (Or.inl ⟨by rfl, ?hya1⟩) hHeld ?resta1
      case hya1 => intro w hSw; obtain ⟨s0, s1⟩ := hSw; go_simp; try with_reducible rfl
      simp only [Act.put, List.setIfInBounds_toArray, List.set_cons_zero, List.set_cons_succ, List.getElem_toArray, List.getElem_cons_zero, List.getElem_cons_succ]
      refine wpAnyH_take (i := 2) (v := ?va2) rfl (by kernel_rfl) (by kernel_rfl) (by kernel_rfl) (fun _ _ _ h => h) (Or.inl ⟨by rfl, ?hya2⟩) hHeld ?resta2
      case hya2 => intro w hSw; obtain ⟨s0, s1⟩ := hSw; go_simp; try with_reducible rfl
      simp only [Act.put, List.setIfInBounds_toArray, List.set_cons_zero, List.set_cons_succ, List.getElem_toArray, List.getElem_cons_zero, List.getElem_cons_succ]
      refine wpAnyH_take (i := 3) (v := ?va3) rfl (by kernel_rfl) (by kernel_rfl) (by kernel_rfl) (fun _ _ _ h => h) (Or.inl ⟨by rfl, ?hya3⟩) hHeld ?resta3
      case hya3 => intro w hSw; obtain ⟨s0, s1⟩ := hSw; go_simp; try with_reducible rfl
      simp only [Act.put, List.setIfInBounds_toArray, List.set_cons_zero, List.set_cons_succ, List.getElem_toArray, List.getElem_cons_zero, List.getElem_cons_succ]
      refine wpAnyH_take (i := 4) (v := ?va4) rfl (by kernel_rfl) (by kernel_rfl) (by kernel_rfl) (fun _ _ _ h => h) (Or.inl ⟨by rfl, ?hya4⟩) hHeld ?resta4
      case hya4 => intro w hSw; obtain ⟨s0, s1⟩ := hSw; go_simp; try with_reducible rfl
      simp only [Act.put, List.setIfInBounds_toArray, List.set_cons_zero, List.set_cons_succ, List.getElem_toArray, List.getElem_cons_zero, List.getElem_cons_succ]
      refine wpAnyH_take (i := 5) (v := ?va5) rfl (by kernel_rfl) (by kernel_rfl) (by kernel_rfl) (fun _ _ _ h => h) (Or.inl ⟨by rfl, ?hya5⟩) hHeld ?resta5
      case hya5 => intro w hSw; obtain ⟨s0, s1⟩ := hSw; go_simp; try with_reducible rfl
      simp only [Act.put, List.setIfInBounds_toArray, List.set_cons_zero, List.set_cons_succ, List.getElem_toArray, List.getElem_cons_zero, List.getElem_cons_succ]
      refine wpAnyH_take (i := 6) (v := ?va6) rfl (by kernel_rfl) (by kernel_rfl) (by kernel_rfl) (fun _ _ _ h => h) (Or.inl ⟨by rfl, ?hya6⟩) hHeld ?resta6
      case hya6 => intro w hSw; obtain ⟨s0, s1⟩ := hSw; go_simp; try with_reducible rfl
      simp only [Act.put, List.setIfInBounds_toArray, List.set_cons_zero, List.set_cons_succ, List.getElem_toArray, List.getElem_cons_zero, List.getElem_cons_succ]
      refine wpAnyH_take (i := 7) (v := ?va7) rfl (by kernel_rfl) (by kernel_rfl) (by kernel_rfl) (fun _ _ _ h => h) (Or.inl ⟨by rfl, ?hya7⟩) hHeld ?resta7
      case hya7 => intro w hSw; obtain ⟨s0, s1⟩ := hSw; go_simp; try with_reducible rfl
      simp only [Act.put, List.setIfInBounds_toArray, List.set_cons_zero, List.set_cons_succ, List.getElem_toArray, List.getElem_cons_zero, List.getElem_cons_succ]
      refine wpAnyH_take (i := 8) (v := ?va8) rfl (by kernel_rfl) (by kernel_rfl) (by kernel_rfl) (fun _ _ _ h => h) (Or.inl ⟨by rfl, ?hya8⟩) hHeld ?resta8
      case hya8 => intro w hSw; obtain ⟨s0, s1⟩ := hSw; go_simp; try with_reducible rfl
      simp only [Act.put, List.setIfInBounds_toArray, List.set_cons_zero, List.set_cons_succ, List.getElem_toArray, List.getElem_cons_zero, List.getElem_cons_succ]
      refine wpAnyH_take (i := 9) (v := ?va9) rfl (by kernel_rfl) (by kernel_rfl) (by kernel_rfl) (fun _ _ _ h => h) (Or.inl ⟨by rfl, ?hya9⟩) hHeld ?resta9
      case hya9 => intro w hSw; obtain ⟨s0, s1⟩ := hSw; go_simp; try with_reducible rfl
      simp only [Act.put, List.setIfInBounds_toArray, List.set_cons_zero, List.set_cons_succ, List.getElem_toArray, List.getElem_cons_zero, List.getElem_cons_succ]
      refine wpAnyH_take (i := 10) (v := ?va10) rfl (by kernel_rfl) (by kernel_rfl) (by kernel_rfl) (fun _ _ _ h => h) (Or.inl ⟨by rfl, ?hya10⟩) hHeld ?resta10
      case hya10 => intro w hSw; obtain ⟨s0, s1⟩ := hSw; go_simp; try with_reducible rfl
      simp only [Act.put, List.setIfInBounds_toArray, List.set_cons_zero, List.set_cons_succ, List.getElem_toArray, List.getElem_cons_zero, List.getElem_cons_succ]
      refine wpAnyH_take (i := 11) (v := ?va11) rfl (by kernel_rfl) (by kernel_rfl) (by kernel_rfl) (fun _ _ _ h => h) (Or.inl ⟨by rfl, ?hya11⟩) hHeld ?resta11
      case hya11 => intro w hSw; obtain ⟨s0, s1⟩ := hSw; go_simp; try with_reducible rfl
      simp only [Act.put, List.setIfInBounds_toArray, List.set_cons_zero, List.set_cons_succ, List.getElem_toArray, List.getElem_cons_zero, List.getElem_cons_succ]
      refine wpAnyH_take (i := 12) (v := ?va12) rfl (by kernel_rfl) (by kernel_rfl) (by kernel_rfl) (fun _ _ _ h => h) (Or.inl ⟨by rfl, ?hya12⟩) hHeld ?resta12
      case hya12 => intro w hSw; obtain ⟨s0, s1⟩ := hSw; go_simp; try with_reducible rfl
      simp only [Act.put, List.setIfInBounds_toArray, List.set_cons_zero, List.set_cons_succ, List.getElem_toArray, List.getElem_cons_zero, List.getElem_cons_succ]
      refine wpAnyH_take (i := 13) (v := ?va13) rfl (by kernel_rfl) (by kernel_rfl) (by kernel_rfl) (fun _ _ _ h => h) (Or.inl ⟨by rfl, ?hya13⟩) hHeld ?resta13
      case hya13 => intro w hSw; obtain ⟨s0, s1⟩ := hSw; go_simp; try with_reducible rfl
      simp only [Act.put, List.setIfInBounds_toArray, List.set_cons_zero, List.set_cons_succ, List.getElem_toArray, List.getElem_cons_zero, List.getElem_cons_succ]
      refine wpAnyH_take (i := 14) (v := ?va14) rfl (by kernel_rfl) (by kernel_rfl) (by kernel_rfl) (fun _ _ _ h => h) (Or.inl ⟨by rfl, ?hya14⟩) hHeld ?resta14
      case hya14 => intro w hSw; obtain ⟨s0, s1⟩ := hSw; go_simp; try with_reducible rfl
      simp only [Act.put, List.setIfInBounds_toArray, List.set_cons_zero, List.set_cons_succ, List.getElem_toArray, List.getElem_cons_zero, List.getElem_cons_succ]
      refine wpAnyH_take (i := 15) (v := ?va15) rfl (by kernel_rfl) (by kernel_rfl) (by kernel_rfl) (fun _ _ _ h => h) (Or.inl ⟨by rfl, ?hya15⟩) hHeld ?resta15
      case hya15 => intro w hSw; obtain ⟨s0, s1⟩ := hSw; go_simp; try with_reducible rfl
      simp only [Act.put, List.setIfInBounds_toArray, List.set_cons_zero, List.set_cons_succ, List.getElem_toArray, List.getElem_cons_zero, List.getElem_cons_succ]
      refine wpAnyH_ready (rs := [16]) (by kernel_rfl) (by simp) ?_
      refine AllReadyH.cons (i := 16) rfl (fun K hK => ?_) AllReadyH.nil
      simp only [List.getElem_toArray, List.getElem_cons_zero, List.getElem_cons_succ]
      go_simp
      refine hK.out _ _ ⟨((set_other _ hLH).trans ((set_other _ hLH).trans (set_other _ hLH))).trans f6, ((set_other _ hLH).trans ((set_other _ hLH).trans (set_other _ hLH))).trans f1⟩ (fun hHeld => ?_)
      clear hK hHeld
      refine wpAnyH_done (by kernel_rfl) ?_ _
      have HK3 : Hid (Kp w2.heap.size H w2 ((((w2.setCell ⟨H, 0, none⟩ (.bool true)).setCell ⟨H, 1, none⟩ (.int .i64 s.i)).setCell ⟨H, 2, none⟩ (.int .i64 s.i)).drew)) := ((((Kp.refl w2.heap.size H w2).set _ _).set _ _).set _ _).trans (Kp.of ((Below.refl _ _).drew) H)
      have HLK3 : Hid (Look ((((w2.setCell ⟨H, 0, none⟩ (.bool true)).setCell ⟨H, 1, none⟩ (.int .i64 s.i)).setCell ⟨H, 2, none⟩ (.int .i64 s.i)).drew) L H S s b off cap g cc l) := HLK2.out.kp HK3.out
      have HH3 : Hid (∃ cs', HtsAt ((((w2.setCell ⟨H, 0, none⟩ (.bool true)).setCell ⟨H, 1, none⟩ (.int .i64 s.i)).setCell ⟨H, 2, none⟩ (.int .i64 s.i)).drew) H s.code.size l (hsAt S s l 0) cs') := ⟨_, HSET.out.below ((Below.refl _ _).drew)⟩
      clear k0 k1 k2 z0 z1 z2 f0 f1 f2 f3 f4 f5 f6 HSET HH0 HR2
      generalize ((((w2.setCell ⟨H, 0, none⟩ (.bool true)).setCell ⟨H, 1, none⟩ (.int .i64 s.i)).setCell ⟨H, 2, none⟩ (.int .i64 s.i)).drew) = w3 at *
      have hH3 : H < w3.heap.size := Nat.lt_of_lt_of_le hH2 HK3.out.size
      have HXN : Hid (∀ x ∈ l, (x.op = 2 ∨ x.n < 256) ∧ (namesB x = true → x.n < S.length)) := fun x hx => by
        obtain ⟨k, hk, rfl⟩ := List.getElem_of_mem hx
        have hq : l[k]? = some l[k] := by simp [hk]
        refine ⟨(HCH.out.op k _ hq).2.1, fun hn => ?_⟩
        have := HREF.out k _ hq
        unfold refE at this
        split at this
        · cases this
        · split at this
          · cases this
          · rename_i h1 h2
            simp [hn] at h2
            unfold mayNameB at h2
            simp at h2
            exact h2.1
      go_wp2_with fail
      refine (each_flow (flowE S s l) (fun k w' => k ≤ l.length ∧ Look w' L H S s b off cap g cc l ∧ ∃ cs', HtsAt w' H s.code.size l (hsAt S s l k) cs') hlen hH3 (fun _ _ h => h.2.1) (fun _ _ _ h hb => ⟨h.1, h.2.1.below hb, h.2.2.elim fun cs' hh => ⟨cs', hh.below hb⟩⟩) (fun k => passE_le _ _ _ _ _ _) (fun k x ta tc w' hx hR ht => ?hst2) ⟨Nat.zero_le _, HLK3.out, HH3.out⟩).mono ?_
      case hst2 =>
        have hk : k < l.length := (List.getElem?_eq_some_iff.1 hx).1
        have e : l.getD k ins0 = x := by simp [List.getD, hx]
        obtain ⟨_, hlk, cs', hh⟩ := hR
        have hfe : flowE S s l k = passE S s l k x (hsAt S s l k) := by unfold flowE; rw [e]
        rw [hfe]
        refine (look_flow hlk hh HCH.out k x hx ta tc ht (HREF.out k x hx) HSS.out HS1.out ((small_hsAt HSS.out HS1.out HXN.out k (by omega)).mono (by omega))).mono ?_
        rintro e w'' ⟨rfl, hkp, hok⟩
        refine ⟨rfl, hkp, fun h0 => ⟨hk, hlk.kp hkp, ?_⟩⟩
        obtain ⟨hs', cs2, hp, hh2⟩ := hok h0
        refine ⟨cs2, ?_⟩
        have : hsAt S s l (k + 1) = hs' := by
          show (passH S s l k (l.getD k ins0) (hsAt S s l k)).getD (hsAt S s l k) = hs'
          rw [e, hp]
          rfl
        rw [this]
        exact hh2
      rintro e w4 ⟨rfl, hk4, hr4⟩
      have HR4 := hidc hr4
      have HB4 := hidc ((HB2.out.trans (HK3.out.below (B' := B) (by have := HB2.out.size; omega) hBH)).trans (hk4.below (B' := B) (by have := HB2.out.size; have := HK3.out.size; omega) hBH))
      clear hk4 hr4
      generalize hfl : firstE (flowE S s l) l l.length = fl at *
      obtain ⟨e4, p4⟩ := fl
      have he4 : e4 ≤ 20 := by have := firstE_le (E := flowE S s l) (l := l) (n := l.length) (B := 20) (fun k => passE_le _ _ _ _ _ _); rw [hfl] at this; exact this
      clear hfl
      cases e4 with
      | succ m =>
        have hm : (((m + 1 : Nat) : Int) == 0) = false := by simp; omega
        go_wp2_with fail
        go_ret2
        exact ⟨by rw [HWH.out]; rfl, HB4.out, fun h => by rw [HWH.out] at h; cases h⟩
      | zero =>
        obtain ⟨_, hlk4, cs4, hh4⟩ := HR4.out rfl
        have HLK4 := hidc hlk4
        have HH4 := hidc hh4
        have HSU : Hid ((if greatH (hsAt S s l l.length) l.length ≠ s.m then (15 : Int) else if anyRet S l == (s.o == 128) then 16 else 0) = (sumsE S s l : Nat)) := by
          show _ = ((sumsE S s l : Nat) : Int)
          unfold sumsE
          split
          · rfl
          · split <;> rfl
        clear hlk4 hh4 HR4
        go_wp2_with fail
        refine (look_sums HLK4.out HH4.out HCH.out hlen (fun x hx h20 => (HXN.out x hx).2 (by simp [namesB, h20]))).mono ?_
        rw [HSU.out]
        rintro e w5 ⟨rfl, hb5⟩
        have HLK5 := hidc (HLK4.out.below hb5)
        have HB5 := hidc (HB4.out.trans (hb5.mono (Nat.le_trans (by omega) (Nat.le_of_lt (blt HH4.out.blk)))))
        clear hb5
        go_wp2_with fail
        go_ret2
        exact ⟨by rw [HWH.out]; rfl, HB5.out, fun _ => ⟨g, cc, by rw [HCL.out]; exact HLK5.out⟩⟩
end Go.Proofs.YtdhmandnamajpaaDoor
