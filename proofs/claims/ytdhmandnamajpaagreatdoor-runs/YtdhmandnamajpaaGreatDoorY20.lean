import Derived.Test.YtdhmandnamajpaaGreatDoorY00
import Derived.Test.YtdhmandnamajpaaGreatDoorY15
import Derived.Test.YtdhmandnamajpaaGreatDoorY19
namespace Go.Proofs.YtdhmandnamajpaaGreatDoor
open Go.RowKit Go.Joins
set_option maxHeartbeats 2000000
set_option maxRecDepth 8000
set_option linter.unusedVariables false
theorem AllMem.at {w0 w : World} {pv : Value} {l : List Ins} {xs : List Value} (h : AllMem w0 w pv l xs) {k : Nat} {x : Ins} (hk : l[k]? = some x) : ∃ g cap N ta tc, pv = .slice (some ⟨g, 0, none⟩) l.length cap ∧ w0.heap.size ≤ g ∧ g < w.heap.size ∧
  w.cell? ⟨g, k * 5, none⟩ = some (.int .i64 x.pl) ∧ w.cell? ⟨g, k * 5 + 1, none⟩ = some (.int .i64 x.op) ∧ w.cell? ⟨g, k * 5 + 2, none⟩ = some (.int .i64 N) ∧ numsAs x N ∧ w.cell? ⟨g, k * 5 + 3, none⟩ = some (.slice ta x.to.length tc) ∧ w.cell? ⟨g, k * 5 + 4, none⟩ = some (.int .i64 x.nx) ∧
  ∀ j t, x.to[j]? = some t → ∃ q, ta = some ⟨q, 0, none⟩ ∧ w0.heap.size ≤ q ∧ q < w.heap.size ∧ w.cell? ⟨q, j, none⟩ = some (.int .i64 t) := by
 have hlt : k < l.length := (List.getElem?_eq_some_iff.1 hk).1
 rcases h.row.2 with ⟨_, e⟩ | ⟨g, cap, cur, hv', hb, hg, hc, _, hs, ht⟩
 ·omega
 ·obtain ⟨a, b, ⟨N, c, c'⟩, ⟨v, d, f⟩, e⟩ := h.flat k x hk
  have get : ∀ j u, j < l.length * 5 → xs[j]? = some u → w.cell? ⟨g, j, none⟩ = some u := fun j u hj hu => by
   rw [cell_of_block hg]
   rw [← ht, List.getElem?_take_of_lt hj] at hu
   simpa using hu
  obtain ⟨ta, tc, rfl⟩ := row_form f
  exact ⟨g, cap, N, ta, tc, hv', hb, blt hg, get _ _ (by omega) a, get _ _ (by omega) b, get _ _ (by omega) c, c', get _ _ (by omega) d, get _ _ (by omega) e, fun j t hj => rcell f (by simp [iV, hj])⟩
theorem newsT (w : World) (a b c : Value) (g : Nat) (hg : g = w.heap.size) : ∀ j u, [a, b, c][j]? = some u → (w.alloc (.cells #[a, b, c] 63)).cell? ((⟨g, 0, none⟩ : Addr).add j) = some u := by
 intro j u hj
 subst hg
 have hb : (w.alloc (.cells #[a, b, c] 63)).heap[w.heap.size]? = some (.cells #[a, b, c] 63 (0, 0)) := heap_alloc_new w _
 exact World.news_of_block hb j u hj
def toldM (S : List Sec) (m : MS) : List (Nat × Nat × Int) := if m.gas < costT (nowI S m).op then [] else [tellM m]
theorem run_step_12 {w0 w : World} {M B : Nat} {sv : Value} {d : ByteArray} {m : MS} {T : List (Nat × Nat × Int)} {S : List Sec} (h : RumX w0 w M B sv d m T) (hB : B ≤ w.heap.size) (hSo : Sound S) (hg : Good S m) (b off cap : Nat) (hF : sv = .slice (some ⟨b, off, none⟩) S.length cap) (hS : SecsAt w0 b off S) (hbB : b < B) (hbM : b ≠ M) (ho : m.out.length ≤ 4000) (hT : T.length ≤ 4000) (hgas : m.gas ≤ 3000) (hst : m.steps ≤ 4000) (hop : (nowI S m).op = 12) :
  Calls Tryz.prog 36 #[.pointer (some ⟨M, 0, none⟩)] w (RLike w0 w M B sv d (stepM S d m) (T ++ toldM S m)) := by
 subst hF
 obtain ⟨iz, hiz, hzz0, hzz1, hzz2⟩ := info_parts Tryz.infoStep
 obtain ⟨V, hq⟩ := h
 have hM := hq.size
 have hlt := hq.lt
 have hk : m.sec < S.length := hg.here.1
 obtain ⟨q0, q1, q2, q3⟩ := hS.at m.sec hk
 have d3 := (hq.kp.cell hbB hbM (off + m.sec * 4 + 3)).trans q3
 have hbs : b < w.heap.size := by omega
 have hsec := (secB_iff _).1 (hSo.sec hk)
 have hsp : (splitE S[m.sec].code).1 = 0 := by
  rcases (hSo.ok m.sec hk).split with e | e
  ·rw [e]
  ·exact e
 have HR : Hid (∀ x, x = nowI S m → Ready S m x (paidM x m)) := fun x hx => ⟨hSo, hg, hx, rfl, ho⟩
 have HX : Hid (∃ i, (codeI S[m.sec].code)[i]? = some (nowI S m) ∧ idxI (codeI S[m.sec].code) (m.pl : Int) = (i : Nat) ∧ (nowI S m).pl = m.pl) := by
  obtain ⟨_, i0, x0, o0, hx0, hpl0, _⟩ := hg.here
  have hb : beginsB (codeI S[m.sec].code) (m.pl : Int) = true := by
   unfold beginsB
   rw [List.any_eq_true]
   exact ⟨x0, List.mem_of_getElem? hx0, by simp [hpl0]⟩
  obtain ⟨hj, ej⟩ := idxP_spec hb
  have e1 : (codeI S[m.sec].code)[idxP (codeI S[m.sec].code) m.pl].pl = m.pl := by omega
  have e2 := chain_ins (hSo.chain hk) _ _ (List.getElem?_eq_getElem hj)
  rw [e1] at e2
  exact ⟨_, (List.getElem?_eq_getElem hj).trans (congrArg some (e2.trans (by rw [nowI, codeS_get S m.sec hk]))), by unfold idxI; rw [if_pos hb], rfl⟩
 have c0 := hq.c0
 have c2 := hq.c2
 have c3 := hq.c3
 have HQ := hidc hq
 have HSP := hidc hsp
 have HS := hidc hS
 clear hq hsp hS q0 q1 q2 q3 hg hSo
 generalize S[m.sec] = s at *
 go_enter Tryz.func36, Tryz.ntmps36
 go_wp2_with fail
 go_quiet (fail)
 go_wp2_with fail
 have HQa := hidc (HQ.out.below (bdr (Below.refl _ _) nq) hB)
 have HKa : Hid (KR w (w.drewN nq)) := KR.below (bdr (Below.refl _ _) nq)
 replace c3 : (w.drewN nq).cell? ⟨M, 3, none⟩ = some (.int .i64 (m.pl : Nat)) := c3
 have hBa : B ≤ (w.drewN nq).heap.size := hB
 have hMa : M < (w.drewN nq).heap.size := hM
 have hsa : w.heap.size ≤ (w.drewN nq).heap.size := Nat.le_refl _
 clear d3 c0 c2 HQ
 generalize (w.drewN nq) = wa at *
 refine (ref_all s.code _ (by omega)).mono ?_
 rintro e w1 ⟨v, rfl, hb1, hA⟩
 obtain ⟨hch, xs, hA2⟩ := hA HSP.out
 obtain ⟨i, hxi, hidx, hpl⟩ := HX.out
 have hil : i < (codeI s.code).length := (List.getElem?_eq_some_iff.1 hxi).1
 have hll : (codeI s.code).length ≤ 120 := by have := chain_len hch; omega
 obtain ⟨g, cp, N, ta, tc, rfl, hg1, hg2, z0, z1, z2, hN, z3, z4, hto⟩ := hA2.at hxi
 obtain ⟨g', cp', e', hRI, _⟩ := hA2.rins (by omega)
 injection e' with e1 e2 e3
 injection e1 with e1
 injection e1 with e1
 subst e1
 have HPL := hidc hRI.places
 have HN := hidc hN
 have HTO := hidc hto
 have HQ1 := hidc (HQa.out.below hb1 hBa)
 have HK1 := hidc (HKa.out.trans (KR.below hb1))
 have hs1 := hb1.size
 replace c3 := ((bcell hb1).1 M 3 hMa).trans c3
 have hM1 : M < w1.heap.size := by omega
 have HR1 := hidc (HR.out _ rfl)
 have HSM : Hid (stepM S d m = if m.gas < costT (nowI S m).op then { m with fin := some 2 } else doI S d (nowI S m) (paidM (nowI S m) m)) := rfl
 have HTM : Hid (toldM S m = if m.gas < costT (nowI S m).op then [] else [tellM m]) := rfl
 have HID := hidc hidx
 have HIL := hidc hil
 clear hb1 hA2 hA hch HSP hxi hpl HX e2 e3 hRI hN hto HR hidx
 replace z1 : w1.cell? ⟨g, i * 5 + 1, none⟩ = some (.int .i64 12) := by rw [z1, hop]; rfl
 have HCO : Hid (costT (nowI S m).op = 2) := by
  show costT (nowI S m).op = 2
  rw [hop]; rfl
 have HOP := hidc hop
 clear hop
 generalize nowI S m = x at *
 generalize stepM S d m = sm at *
 generalize toldM S m = tm at *
 generalize codeI s.code = l at *
 go_wp2_with fail
 refine (ref_begins g cp l (m.pl : Nat) w1 HPL.out hll).mono ?_
 rintro e w1' ⟨rfl, hw1⟩
 subst hw1
 rw [HID.out]
 have c2 := HQ1.out.c2
 have c4 := HQ1.out.c4
 have c5 := HQ1.out.c5
 have c27 := HQ1.out.c27
 have c28 := HQ1.out.c28
 have c29 := HQ1.out.c29
 obtain ⟨sa, sc, hsv⟩ := row_form HQ1.out.st
 obtain ⟨ea, ec, hev⟩ := row_form HQ1.out.te
 rw [hsv] at c5
 rw [hev] at c29
 have HEV := hidc hev
 have f27 := HQ1.out.froz 27
 have f28 := HQ1.out.froz 28
 clear hsv hev
 have hnil : ∀ k, V.te.ownBlock = some k → k < wa.heap.size := fun k hk => (HQa.out.te.lt k hk).2
 have HNIL := hidc hnil
 clear hnil
 by_cases hgs : m.gas < 2
 ·go_wp2_with fail
  have HQe := hidc (HQ1.out.below (boxB w1' (.cells #[.int .i64 (x.pl : Nat), .int .i64 12, .int .i64 N, .slice ta x.to.length tc, .int .i64 (x.nx : Nat)] 129)) (by omega))
  refine (run_ends ⟨_, HQe.out⟩ (by simp; omega) 2).mono ?_
  rintro e w5 ⟨rfl, hm5, hB5, hk5, hs5⟩
  have HM5 := hidc hm5
  have HK5 := hidc ((HK1.out.trans (KR.below (boxB w1' (.cells #[.int .i64 (x.pl : Nat), .int .i64 12, .int .i64 N, .slice ta x.to.length tc, .int .i64 (x.nx : Nat)] 129)))).trans hk5)
  clear hm5 hk5
  go_wp2_with fail
  go_end0
  have e1 : sm = { m with fin := some 2 } := by rw [HSM.out, HCO.out, if_pos hgs]
  have e2 : tm = [] := by rw [HTM.out, HCO.out, if_pos hgs]
  rw [e1, e2, List.append_nil]
  exact ⟨_, .inl rfl, rfl, HM5.out, hB5, HK5.out, by simp at hs5; omega⟩
 ·go_wp2_with fail
  have hgv : (m.gas : Int) - 2 = ((m.gas - 2 : Nat) : Int) := by omega
  have hstv : (m.steps : Int) + 1 = ((m.steps + 1 : Nat) : Int) := by omega
  rw [hgv, hstv]
  clear hgv hstv
  have hwz : ((w1'.setCell ⟨M, 27, none⟩ (.int .i64 ((m.gas - 2 : Nat) : Int))).setCell ⟨M, 28, none⟩ (.int .i64 ((m.steps + 1 : Nat) : Int))).heap.size = w1'.heap.size := by simp [World.setCell]
  have hB1 : B ≤ w1'.heap.size := by omega
  have HQb := hidc (((HQ1.out.set_gas (m.gas - 2)).set_steps (m.steps + 1)).below (boxB _ (.cells #[.int .i64 (x.pl : Nat), .int .i64 12, .int .i64 N, .slice ta x.to.length tc, .int .i64 (x.nx : Nat)] 129)) (by rw [hwz]; exact hB1))
  have HKb := hidc ((HK1.out.trans ((HQ1.out.kr 27 (.int .i64 ((m.gas - 2 : Nat) : Int))).trans ((HQ1.out.set_gas (m.gas - 2)).kr 28 (.int .i64 ((m.steps + 1 : Nat) : Int))))).trans (KR.below (boxB _ (.cells #[.int .i64 (x.pl : Nat), .int .i64 12, .int .i64 N, .slice ta x.to.length tc, .int .i64 (x.nx : Nat)] 129))))
  have HXb : Hid ((((w1'.setCell ⟨M, 27, none⟩ (.int .i64 ((m.gas - 2 : Nat) : Int))).setCell ⟨M, 28, none⟩ (.int .i64 ((m.steps + 1 : Nat) : Int))).alloc (.cells #[.int .i64 (x.pl : Nat), .int .i64 12, .int .i64 N, .slice ta x.to.length tc, .int .i64 (x.nx : Nat)] 129)).heap[w1'.heap.size]? = some (.cells #[.int .i64 (x.pl : Nat), .int .i64 12, .int .i64 N, .slice ta x.to.length tc, .int .i64 (x.nx : Nat)] 129 (0, 0))) := by
   have := heap_alloc_new ((w1'.setCell ⟨M, 27, none⟩ (.int .i64 ((m.gas - 2 : Nat) : Int))).setCell ⟨M, 28, none⟩ (.int .i64 ((m.steps + 1 : Nat) : Int))) (.cells #[.int .i64 (x.pl : Nat), .int .i64 12, .int .i64 N, .slice ta x.to.length tc, .int .i64 (x.nx : Nat)] 129)
   rw [hwz] at this
   exact this
  have HTb : Hid (∀ j t, x.to[j]? = some t → ∃ q, ta = some ⟨q, 0, none⟩ ∧ wa.heap.size ≤ q ∧ q < w1'.heap.size ∧ (((w1'.setCell ⟨M, 27, none⟩ (.int .i64 ((m.gas - 2 : Nat) : Int))).setCell ⟨M, 28, none⟩ (.int .i64 ((m.steps + 1 : Nat) : Int))).alloc (.cells #[.int .i64 (x.pl : Nat), .int .i64 12, .int .i64 N, .slice ta x.to.length tc, .int .i64 (x.nx : Nat)] 129)).cell? ⟨q, j, none⟩ = some (.int .i64 t)) := by
   intro j t hj
   obtain ⟨q, a1, a2, a3, a4⟩ := HTO.out j t hj
   exact ⟨q, a1, a2, a3, (cell_al _ (by rw [hwz]; exact a3)).trans ((set_other _ (show q ≠ M by omega)).trans ((set_other _ (show q ≠ M by omega)).trans a4))⟩
  have hsb : w1'.heap.size < (((w1'.setCell ⟨M, 27, none⟩ (.int .i64 ((m.gas - 2 : Nat) : Int))).setCell ⟨M, 28, none⟩ (.int .i64 ((m.steps + 1 : Nat) : Int))).alloc (.cells #[.int .i64 (x.pl : Nat), .int .i64 12, .int .i64 N, .slice ta x.to.length tc, .int .i64 (x.nx : Nat)] 129)).heap.size := by simp [World.setCell]
  clear c2 c3 c4 c5 c27 c28 c29 f27 f28 z0 z1 z2 z3 z4 HQ1 HK1 HTO HPL hwz HID HIL
  generalize (((w1'.setCell ⟨M, 27, none⟩ (.int .i64 ((m.gas - 2 : Nat) : Int))).setCell ⟨M, 28, none⟩ (.int .i64 ((m.steps + 1 : Nat) : Int))).alloc (.cells #[.int .i64 (x.pl : Nat), .int .i64 12, .int .i64 N, .slice ta x.to.length tc, .int .i64 (x.nx : Nat)] 129)) = wb at *
  have c2 := HQb.out.c2
  have c3 := HQb.out.c3
  have c4 := HQb.out.c4
  have c5 := HQb.out.c5
  have c29 := HQb.out.c29
  rw [HEV.out] at c29
  obtain ⟨sa', sc', hsv'⟩ := row_form HQb.out.st
  rw [hsv'] at c5
  clear hsv'
  dsimp only at c2 c3 c4 c5
  have hsm := HR1.out.small
  have hsmb : m.st.length ≤ 100 := hsm
  have hbb : m.base ≤ m.st.length := HR1.out.good.base
  clear hsm
  have hw1 : IntKind.i64.wrap ((m.st.length : Int) - m.base) = (m.st.length : Int) - m.base := by rw [IntKind.wrap_i64]; omega
  have hMb : M < wb.heap.size := by omega
  have hBb : B ≤ wb.heap.size := by omega
  refine wp_region_held_drew (S := fun w' => w'.cell? ⟨M, 2, none⟩ = some (.int .i64 (m.sec : Nat)) ∧ w'.cell? ⟨M, 3, none⟩ = some (.int .i64 (m.pl : Nat)) ∧ w'.cell? ⟨M, 4, none⟩ = some (.int .i64 (m.base : Nat)) ∧ w'.cell? ⟨M, 5, none⟩ = some (.slice sa' m.st.length sc')) (by kernel_rfl) ⟨c2, c3, c4, c5⟩ (fun hHeld => ?_)
  have HQd := hidc (HQb.out.below ((Below.refl _ _).drew) hBb)
  have HKd : Hid (KR w wb.drew) := HKb.out.trans (KR.below ((Below.refl _ _).drew))
  have HXd : Hid (wb.drew.heap[w1'.heap.size]? = some (.cells #[.int .i64 (x.pl : Nat), .int .i64 12, .int .i64 N, .slice ta x.to.length tc, .int .i64 (x.nx : Nat)] 129 (0, 0))) := HXb.out
  have HTd : Hid (∀ j t, x.to[j]? = some t → ∃ q, ta = some ⟨q, 0, none⟩ ∧ wa.heap.size ≤ q ∧ q < w1'.heap.size ∧ wb.drew.cell? ⟨q, j, none⟩ = some (.int .i64 t)) := HTb.out
  replace c2 : wb.drew.cell? ⟨M, 2, none⟩ = some (.int .i64 (m.sec : Nat)) := c2
  replace c3 : wb.drew.cell? ⟨M, 3, none⟩ = some (.int .i64 (m.pl : Nat)) := c3
  replace c4 : wb.drew.cell? ⟨M, 4, none⟩ = some (.int .i64 (m.base : Nat)) := c4
  replace c5 : wb.drew.cell? ⟨M, 5, none⟩ = some (.slice sa' m.st.length sc') := c5
  replace c29 : wb.drew.cell? ⟨M, 29, none⟩ = some (.slice ea T.length ec) := c29
  replace hMb : M < wb.drew.heap.size := hMb
  replace hBb : B ≤ wb.drew.heap.size := hBb
  replace hsb : w1'.heap.size < wb.drew.heap.size := hsb
  clear HQb HKb HXb HTb
  generalize wb.drew = wd at *
  have HQa2 := hidc (HQd.out.below (boxB wd (.cells #[.int .i64 (m.sec : Nat), .int .i64 (m.pl : Nat), .int .i64 ((m.st.length : Int) - m.base)] 63)) hBb)
  have HFa : Hid ((wd.alloc (.cells #[.int .i64 (m.sec : Nat), .int .i64 (m.pl : Nat), .int .i64 ((m.st.length : Int) - m.base)] 63)).ownsRow B 63 3 (.slice ea T.length ec) T.length (tV T)) := by
   have := HQa2.out.te
   rw [HEV.out] at this
   exact this
  refine tk 0 ?vc0 rfl ?hyc0 hHeld ?restc0
  case hyc0 => rintro w ⟨q0, q1, q2, q3⟩; go_simp; try with_reducible rfl
  simp only [Act.put, aA, aB, aC, aD, aE]
  refine tk 1 ?vc1 rfl ?hyc1 hHeld ?restc1
  case hyc1 => rintro w ⟨q0, q1, q2, q3⟩; go_simp; try with_reducible rfl
  simp only [Act.put, aA, aB, aC, aD, aE, aF]
  refine tk 2 ?vc2 rfl ?hyc2 hHeld ?restc2
  case hyc2 => rintro w ⟨q0, q1, q2, q3⟩; go_simp; try with_reducible rfl
  simp only [Act.put, aA, aB, aC, aD, aE, aF]
  refine tk 3 ?vc3 rfl ?hyc3 hHeld ?restc3
  case hyc3 => rintro w ⟨q0, q1, q2, q3⟩; go_simp; try with_reducible rfl
  simp only [Act.put, aA, aB, aC, aD, aE, aF]
  refine tk 5 ?vc5 rfl ?hyc5 hHeld ?restc5
  case hyc5 => rintro w ⟨q0, q1, q2, q3⟩; go_simp; try with_reducible rfl
  simp only [Act.put, aA, aB, aC, aD, aE, aF]
  refine tk 6 ?vc6 rfl ?hyc6 hHeld ?restc6
  case hyc6 => rintro w ⟨q0, q1, q2, q3⟩; go_simp; try with_reducible rfl
  simp only [Act.put, aA, aB, aC, aD, aE, aF]
  refine tk 7 ?vc7 rfl ?hyc7 hHeld ?restc7
  case hyc7 => rintro w ⟨q0, q1, q2, q3⟩; go_simp; try with_reducible rfl
  simp only [Act.put, aA, aB, aC, aD, aE, aF]
  refine tk 8 ?vc8 rfl ?hyc8 hHeld ?restc8
  case hyc8 => rintro w ⟨q0, q1, q2, q3⟩; go_simp; try with_reducible rfl
  simp only [Act.put, aA, aB, aC, aD, aE, aF]
  refine tk 9 ?vc9 rfl ?hyc9 hHeld ?restc9
  case hyc9 => rintro w ⟨q0, q1, q2, q3⟩; go_simp; try with_reducible rfl
  simp only [Act.put, aA, aB, aC, aD, aE, aF]
  refine tk 10 ?vc10 rfl ?hyc10 hHeld ?restc10
  case hyc10 => rintro w ⟨q0, q1, q2, q3⟩; go_simp; try with_reducible rfl
  simp only [Act.put, aA, aB, aC, aD, aE, aF]
  refine tk 11 ?vc11 rfl ?hyc11 hHeld ?restc11
  case hyc11 => rintro w ⟨q0, q1, q2, q3⟩; go_simp; try with_reducible rfl
  simp only [Act.put, aA, aB, aC, aD, aE, aF]
  refine tk 12 ?vc12 rfl ?hyc12 hHeld ?restc12
  case hyc12 => rintro w ⟨q0, q1, q2, q3⟩; go_simp; try with_reducible rfl
  simp only [Act.put, aA, aB, aC, aD, aE, aF]
  refine tk 13 ?vc13 rfl ?hyc13 hHeld ?restc13
  case hyc13 => rintro w ⟨q0, q1, q2, q3⟩; go_simp; try with_reducible rfl
  simp only [Act.put, aA, aB, aC, aD, aE, aF]
  refine tk 14 ?vc14 rfl ?hyc14 hHeld ?restc14
  case hyc14 => rintro w ⟨q0, q1, q2, q3⟩; go_simp; try with_reducible rfl
  simp only [Act.put, aA, aB, aC, aD, aE, aF]
  refine tk 15 ?vc15 rfl ?hyc15 hHeld ?restc15
  case hyc15 => rintro w ⟨q0, q1, q2, q3⟩; go_simp; try with_reducible rfl
  simp only [Act.put, aA, aB, aC, aD, aE, aF]
  refine tk 16 ?vc16 rfl ?hyc16 hHeld ?restc16
  case hyc16 => rintro w ⟨q0, q1, q2, q3⟩; go_simp; try with_reducible rfl
  simp only [Act.put, aA, aB, aC, aD, aE, aF]
  refine tk 17 ?vc17 rfl ?hyc17 hHeld ?restc17
  case hyc17 => rintro w ⟨q0, q1, q2, q3⟩; go_simp; try with_reducible rfl
  simp only [Act.put, aA, aB, aC, aD, aE, aF]
  refine tk 18 ?vc18 rfl ?hyc18 hHeld ?restc18
  case hyc18 => rintro w ⟨q0, q1, q2, q3⟩; go_simp; try with_reducible rfl
  simp only [Act.put, aA, aB, aC, aD, aE, aF]
  refine tk 19 ?vc19 rfl ?hyc19 hHeld ?restc19
  case hyc19 => rintro w ⟨q0, q1, q2, q3⟩; go_simp; try with_reducible rfl
  simp only [Act.put, aA, aB, aC, aD, aE, aF]
  refine tk 20 ?vc20 rfl ?hyc20 hHeld ?restc20
  case hyc20 => rintro w ⟨q0, q1, q2, q3⟩; go_simp; try with_reducible rfl
  simp only [Act.put, aA, aB, aC, aD, aE, aF]
  refine tk 21 ?vc21 rfl ?hyc21 hHeld ?restc21
  case hyc21 => rintro w ⟨q0, q1, q2, q3⟩; go_simp; try with_reducible rfl
  simp only [Act.put, aA, aB, aC, aD, aE, aF]
  refine tk 22 (.int .i64 ((m.st.length : Int) - m.base)) rfl ?hyc22 hHeld ?restc22
  case hyc22 => rintro w ⟨q0, q1, q2, q3⟩; go_simp; try with_reducible rfl
  simp only [Act.put, aA, aB, aC, aD, aE, aF]
  refine tk 23 ?vc23 rfl ?hyc23 hHeld ?restc23
  case hyc23 => rintro w ⟨q0, q1, q2, q3⟩; go_simp; try with_reducible rfl
  simp only [Act.put, aA, aB, aC, aD, aE, aF]
  refine wpAnyH_ready (rs := [4, 24]) (by kernel_rfl) (by simp) ?_
  refine AllReadyH.cons (i := 4) rfl (fun K hK => ?ga4) (AllReadyH.cons (i := 24) rfl (fun K hK => ?ga24) AllReadyH.nil)
  case ga4 =>
   simp only [aD, aE, aF]
   go_simp
   refine hK.out _ _ ⟨c2, c3, c4, c5⟩ (fun hHeld => ?_)
   clear hK
   refine rd 24 rfl (fun K hK => ?_)
   simp only [aD, aE, aF]
   go_simp
   refine hK.out _ _ ⟨(cell_al _ hMb).trans c2, (cell_al _ hMb).trans c3, (cell_al _ hMb).trans c4, (cell_al _ hMb).trans c5⟩ (fun hHeld => ?_)
   clear hK
   refine rd 25 rfl (fun K hK => ?_)
   refine step_append_lies _ rfl _ _ 33 rfl B 63 iz (.agg #[.int .i64 0, .int .i64 0, .int .i64 0]) 3 24 Tryz.underlying33 hiz hzz0 hzz1 hzz2 rfl (by decide) (.slice ea T.length ec) T.length (tV T) rfl HFa.out ⟨wd.heap.size, 0, none⟩ 1 1 [.int .i64 (m.sec : Nat), .int .i64 (m.pl : Nat), .int .i64 ((m.st.length : Int) - m.base)] rfl rfl (newsT _ _ _ _ _ rfl) (oneF _ _ _) (by decide) (by unfold maxLen; omega) (by omega) (by simp; omega) _ rfl ?_
   intro ga ca w5 hown5 hgrow5 hat5 hlt5
   have hl5 : (T ++ [tellM m]).length = T.length + 1 := by rw [List.length_append]; rfl
   have hown' : w5.ownsRow B 63 3 (.slice (some ⟨ga, 0, none⟩) (T ++ [tellM m]).length ca) (T ++ [tellM m]).length (tV (T ++ [tellM m])) := by
    rw [hl5, tV_append]
    exact hown5
   rw [← HEV.out] at hgrow5 hat5
   have HG := hidc (HQa2.out.grow_te (by simp; omega) ga ca (T ++ [tellM m]) hgrow5 hown' (by simpa using hat5))
   rw [hl5] at HG
   have hB5 : B ≤ w5.heap.size := by have := hgrow5.size; simp at this; omega
   have hS5 : wd.heap.size < w5.heap.size := by have := hgrow5.size; simp at this; omega
   obtain ⟨hc5, ⟨cs5, e5, _⟩, _⟩ := HQa2.out.grown hgrow5 (by simp; omega) (fun k hk => (HQa2.out.te.lt k hk).1)
   have HKr := hidc ((KR.below (boxB wd (.cells #[.int .i64 (m.sec : Nat), .int .i64 (m.pl : Nat), .int .i64 ((m.st.length : Int) - m.base)] 63))).trans (KR.grown HQa2.out.te hgrow5 (.inr (.inr rfl))))
   have hx5 : w5.heap[w1'.heap.size]? = some (.cells #[.int .i64 (x.pl : Nat), .int .i64 12, .int .i64 N, .slice ta x.to.length tc, .int .i64 (x.nx : Nat)] 129 (0, 0)) := HKr.out _ _ _ _ HXd.out (by decide) (by decide) (by decide) (by decide)
   have HT5 : Hid (∀ j t, x.to[j]? = some t → ∃ q, ta = some ⟨q, 0, none⟩ ∧ q < w5.heap.size ∧ q ≠ M ∧ w5.cell? ⟨q, j, none⟩ = some (.int .i64 t)) := by
    intro j t hj
    obtain ⟨q, a1, a2, a3, a4⟩ := HTd.out j t hj
    have hqd : q < wd.heap.size := by omega
    refine ⟨q, a1, by omega, by omega, ?_⟩
    refine (World.cell?_of_block (w := wd.alloc (.cells #[.int .i64 (m.sec : Nat), .int .i64 (m.pl : Nat), .int .i64 ((m.st.length : Int) - m.base)] 63)) (hgrow5.block q (by simp; omega) (fun e => ?_))).trans ((cell_al _ hqd).trans a4)
    have := HNIL.out q e.symm
    omega
   have xq0 : w5.cell? ⟨w1'.heap.size, 0, none⟩ = some (.int .i64 (x.pl : Nat)) := cell_of_block hx5 0
   have xq1 : w5.cell? ⟨w1'.heap.size, 1, none⟩ = some (.int .i64 12) := cell_of_block hx5 1
   have xq2 : w5.cell? ⟨w1'.heap.size, 2, none⟩ = some (.int .i64 N) := cell_of_block hx5 2
   have xq3 : w5.cell? ⟨w1'.heap.size, 3, none⟩ = some (.slice ta x.to.length tc) := cell_of_block hx5 3
   have xq4 : w5.cell? ⟨w1'.heap.size, 4, none⟩ = some (.int .i64 (x.nx : Nat)) := cell_of_block hx5 4
   have hxM : w1'.heap.size ≠ M := by omega
   have HK5 : Hid (KR wd (w5.setCell ⟨M, 29, none⟩ (.slice (some ⟨ga, 0, none⟩) (T.length + 1) ca))) := HKr.out.trans (KR.setTy e5 (.inl rfl) _ _)
   have c295 : w5.cell? ⟨M, 29, none⟩ = some V.te := (hc5 29).trans HQa2.out.c29
   have f295 : w5.frozen? ⟨M, 29, none⟩ = false := unfrozen_of_block e5 29
   have c25 := (hc5 2).trans HQa2.out.c2
   have c35 := (hc5 3).trans HQa2.out.c3
   have c45 := (hc5 4).trans HQa2.out.c4
   have c55 : w5.cell? ⟨M, 5, none⟩ = some (.slice sa' m.st.length sc') := (hc5 5).trans ((cell_al _ hMb).trans c5)
   dsimp only at c25 c35 c45
   have f35 : w5.frozen? ⟨M, 3, none⟩ = false := unfrozen_of_block e5 3
   have hM5 : M < w5.heap.size := by omega
   have hX5 : w1'.heap.size < w5.heap.size := blt hx5
   clear hown5 hgrow5 hat5 hlt5 hown' hc5 e5 hl5 hx5
   refine hK.out _ _ ⟨c25, c35, c45, c55⟩ (fun hHeld => ?_)
   clear hK
   refine tk 26 ?vu26 rfl ?hyu26 hHeld ?restu26
   case hyu26 => rintro w ⟨q0, q1, q2, q3⟩; go_simp; try with_reducible rfl
   simp only [Act.put, aA, aB, aC, aD, aE, aF]
   refine tk 27 ?vu27 rfl ?hyu27 hHeld ?restu27
   case hyu27 => rintro w ⟨q0, q1, q2, q3⟩; go_simp; try with_reducible rfl
   simp only [Act.put, aA, aB, aC, aD, aE, aF]
   refine rd 28 rfl (fun K hK => ?_)
   simp only [aD, aE, aF]
   go_simp
   refine hK.out _ _ ⟨(mset_other (adne (by omega))).trans c25, (mset_other (adne (by omega))).trans c35, (mset_other (adne (by omega))).trans c45, (mset_other (adne (by omega))).trans c55⟩ (fun hHeld => ?_)
   clear hK hHeld
   refine wpAnyH_done (by kernel_rfl) ?_ _
   have HE1 : Hid (sm = doI S d x (paidM x m)) := by
    show sm = doI S d x (paidM x m)
    rw [HSM.out, HCO.out, if_neg hgs]
   have HE2 : Hid (tm = [tellM m]) := by
    show tm = [tellM m]
    rw [HTM.out, HCO.out, if_neg hgs]
   have HQf : Hid (RumX w0 ((w5.setCell ⟨M, 29, none⟩ (.slice (some ⟨ga, 0, none⟩) (T.length + 1) ca)).setCell ⟨M, 3, none⟩ (.int .i64 (x.nx : Nat))) M B (.slice (some ⟨b, off, none⟩) S.length cap) d (paidM x m) (T ++ [tellM m])) := by
    refine ⟨{ V with te := .slice (some ⟨ga, 0, none⟩) (T.length + 1) ca }, ?_⟩
    have := HG.out.set_pl x.nx
    unfold paidM
    rw [HCO.out]
    exact this
   have HKf : Hid (KR w ((w5.setCell ⟨M, 29, none⟩ (.slice (some ⟨ga, 0, none⟩) (T.length + 1) ca)).setCell ⟨M, 3, none⟩ (.int .i64 (x.nx : Nat)))) := HKd.out.trans (HK5.out.trans (HG.out.kr 3 _))
   have hsf : ((w5.setCell ⟨M, 29, none⟩ (.slice (some ⟨ga, 0, none⟩) (T.length + 1) ca)).setCell ⟨M, 3, none⟩ (.int .i64 (x.nx : Nat))).heap.size = w5.heap.size := by simp [World.setCell]
   have HBf : Hid (B ≤ ((w5.setCell ⟨M, 29, none⟩ (.slice (some ⟨ga, 0, none⟩) (T.length + 1) ca)).setCell ⟨M, 3, none⟩ (.int .i64 (x.nx : Nat))).heap.size) := by
    show B ≤ _
    rw [hsf]; exact hB5
   have HTf : Hid (TosN ((w5.setCell ⟨M, 29, none⟩ (.slice (some ⟨ga, 0, none⟩) (T.length + 1) ca)).setCell ⟨M, 3, none⟩ (.int .i64 (x.nx : Nat))) M ta x.to) := by
    intro j t hj
    obtain ⟨q, a1, a2, a3, a4⟩ := HT5.out j t hj
    exact ⟨q, a1, by rw [hsf]; exact a2, a3, (set_other _ a3).trans ((set_other _ a3).trans a4)⟩
   have HSF : Hid (w.heap.size ≤ ((w5.setCell ⟨M, 29, none⟩ (.slice (some ⟨ga, 0, none⟩) (T.length + 1) ca)).setCell ⟨M, 3, none⟩ (.int .i64 (x.nx : Nat))).heap.size) := by
    show w.heap.size ≤ _
    rw [hsf]; omega
   clear hsf HG HK5 HT5 HKr HFa HQa2 HQd HKd HXd HTd HSM HTM c2 c3 c4 c5 c29 c25 c45 c55
   have HO := HOP
   go_wp2_with fail
   have HC := hidc (run_do_words HR1.out HQf.out HBf.out ta tc N (by rw [HO.out]; decide))
   rw [HO.out] at HC
   refine HC.out.mono ?_
   rintro e w6 ⟨m', hm', rfl, hm6, hB6, hk6, hs6⟩
   have HM6 := hidc hm6
   have HK6 := hidc hk6
   clear hm6 hk6
   go_wp2_with fail
   go_end0
   have hsz := HSF.out
   rw [HE1.out, HE2.out]
   exact ⟨m', hm', rfl, HM6.out, hB6, HKf.out.trans HK6.out, Nat.le_trans hsz hs6⟩
  case ga24 =>
   simp only [aD, aE, aF]
   go_simp
   refine hK.out _ _ ⟨(cell_al _ hMb).trans c2, (cell_al _ hMb).trans c3, (cell_al _ hMb).trans c4, (cell_al _ hMb).trans c5⟩ (fun hHeld => ?_)
   clear hK
   have c29a : (wd.alloc (.cells #[.int .i64 (m.sec : Nat), .int .i64 (m.pl : Nat), .int .i64 ((m.st.length : Int) - m.base)] 63)).cell? ⟨M, 29, none⟩ = some (.slice ea T.length ec) := (cell_al _ hMb).trans c29
   refine rd 4 rfl (fun K hK => ?_)
   simp only [aD, aE, aF]
   go_simp
   refine hK.out _ _ ⟨(cell_al _ hMb).trans c2, (cell_al _ hMb).trans c3, (cell_al _ hMb).trans c4, (cell_al _ hMb).trans c5⟩ (fun hHeld => ?_)
   clear hK
   refine rd 25 rfl (fun K hK => ?_)
   refine step_append_lies _ rfl _ _ 33 rfl B 63 iz (.agg #[.int .i64 0, .int .i64 0, .int .i64 0]) 3 24 Tryz.underlying33 hiz hzz0 hzz1 hzz2 rfl (by decide) (.slice ea T.length ec) T.length (tV T) rfl HFa.out ⟨wd.heap.size, 0, none⟩ 1 1 [.int .i64 (m.sec : Nat), .int .i64 (m.pl : Nat), .int .i64 ((m.st.length : Int) - m.base)] rfl rfl (newsT _ _ _ _ _ rfl) (oneF _ _ _) (by decide) (by unfold maxLen; omega) (by omega) (by simp; omega) _ rfl ?_
   intro ga ca w5 hown5 hgrow5 hat5 hlt5
   have hl5 : (T ++ [tellM m]).length = T.length + 1 := by rw [List.length_append]; rfl
   have hown' : w5.ownsRow B 63 3 (.slice (some ⟨ga, 0, none⟩) (T ++ [tellM m]).length ca) (T ++ [tellM m]).length (tV (T ++ [tellM m])) := by
    rw [hl5, tV_append]
    exact hown5
   rw [← HEV.out] at hgrow5 hat5
   have HG := hidc (HQa2.out.grow_te (by simp; omega) ga ca (T ++ [tellM m]) hgrow5 hown' (by simpa using hat5))
   rw [hl5] at HG
   have hB5 : B ≤ w5.heap.size := by have := hgrow5.size; simp at this; omega
   have hS5 : wd.heap.size < w5.heap.size := by have := hgrow5.size; simp at this; omega
   obtain ⟨hc5, ⟨cs5, e5, _⟩, _⟩ := HQa2.out.grown hgrow5 (by simp; omega) (fun k hk => (HQa2.out.te.lt k hk).1)
   have HKr := hidc ((KR.below (boxB wd (.cells #[.int .i64 (m.sec : Nat), .int .i64 (m.pl : Nat), .int .i64 ((m.st.length : Int) - m.base)] 63))).trans (KR.grown HQa2.out.te hgrow5 (.inr (.inr rfl))))
   have hx5 : w5.heap[w1'.heap.size]? = some (.cells #[.int .i64 (x.pl : Nat), .int .i64 12, .int .i64 N, .slice ta x.to.length tc, .int .i64 (x.nx : Nat)] 129 (0, 0)) := HKr.out _ _ _ _ HXd.out (by decide) (by decide) (by decide) (by decide)
   have HT5 : Hid (∀ j t, x.to[j]? = some t → ∃ q, ta = some ⟨q, 0, none⟩ ∧ q < w5.heap.size ∧ q ≠ M ∧ w5.cell? ⟨q, j, none⟩ = some (.int .i64 t)) := by
    intro j t hj
    obtain ⟨q, a1, a2, a3, a4⟩ := HTd.out j t hj
    have hqd : q < wd.heap.size := by omega
    refine ⟨q, a1, by omega, by omega, ?_⟩
    refine (World.cell?_of_block (w := wd.alloc (.cells #[.int .i64 (m.sec : Nat), .int .i64 (m.pl : Nat), .int .i64 ((m.st.length : Int) - m.base)] 63)) (hgrow5.block q (by simp; omega) (fun e => ?_))).trans ((cell_al _ hqd).trans a4)
    have := HNIL.out q e.symm
    omega
   have xq0 : w5.cell? ⟨w1'.heap.size, 0, none⟩ = some (.int .i64 (x.pl : Nat)) := cell_of_block hx5 0
   have xq1 : w5.cell? ⟨w1'.heap.size, 1, none⟩ = some (.int .i64 12) := cell_of_block hx5 1
   have xq2 : w5.cell? ⟨w1'.heap.size, 2, none⟩ = some (.int .i64 N) := cell_of_block hx5 2
   have xq3 : w5.cell? ⟨w1'.heap.size, 3, none⟩ = some (.slice ta x.to.length tc) := cell_of_block hx5 3
   have xq4 : w5.cell? ⟨w1'.heap.size, 4, none⟩ = some (.int .i64 (x.nx : Nat)) := cell_of_block hx5 4
   have hxM : w1'.heap.size ≠ M := by omega
   have HK5 : Hid (KR wd (w5.setCell ⟨M, 29, none⟩ (.slice (some ⟨ga, 0, none⟩) (T.length + 1) ca))) := HKr.out.trans (KR.setTy e5 (.inl rfl) _ _)
   have c295 : w5.cell? ⟨M, 29, none⟩ = some V.te := (hc5 29).trans HQa2.out.c29
   have f295 : w5.frozen? ⟨M, 29, none⟩ = false := unfrozen_of_block e5 29
   have c25 := (hc5 2).trans HQa2.out.c2
   have c35 := (hc5 3).trans HQa2.out.c3
   have c45 := (hc5 4).trans HQa2.out.c4
   have c55 : w5.cell? ⟨M, 5, none⟩ = some (.slice sa' m.st.length sc') := (hc5 5).trans ((cell_al _ hMb).trans c5)
   dsimp only at c25 c35 c45
   have f35 : w5.frozen? ⟨M, 3, none⟩ = false := unfrozen_of_block e5 3
   have hM5 : M < w5.heap.size := by omega
   have hX5 : w1'.heap.size < w5.heap.size := blt hx5
   clear hown5 hgrow5 hat5 hlt5 hown' hc5 e5 hl5 hx5
   refine hK.out _ _ ⟨c25, c35, c45, c55⟩ (fun hHeld => ?_)
   clear hK
   refine tk 26 ?vv26 rfl ?hyv26 hHeld ?restv26
   case hyv26 => rintro w ⟨q0, q1, q2, q3⟩; go_simp; try with_reducible rfl
   simp only [Act.put, aA, aB, aC, aD, aE, aF]
   refine tk 27 ?vv27 rfl ?hyv27 hHeld ?restv27
   case hyv27 => rintro w ⟨q0, q1, q2, q3⟩; go_simp; try with_reducible rfl
   simp only [Act.put, aA, aB, aC, aD, aE, aF]
   refine rd 28 rfl (fun K hK => ?_)
   simp only [aD, aE, aF]
   go_simp
   refine hK.out _ _ ⟨(mset_other (adne (by omega))).trans c25, (mset_other (adne (by omega))).trans c35, (mset_other (adne (by omega))).trans c45, (mset_other (adne (by omega))).trans c55⟩ (fun hHeld => ?_)
   clear hK hHeld
   refine wpAnyH_done (by kernel_rfl) ?_ _
   have HE1 : Hid (sm = doI S d x (paidM x m)) := by
    show sm = doI S d x (paidM x m)
    rw [HSM.out, HCO.out, if_neg hgs]
   have HE2 : Hid (tm = [tellM m]) := by
    show tm = [tellM m]
    rw [HTM.out, HCO.out, if_neg hgs]
   have HQf : Hid (RumX w0 ((w5.setCell ⟨M, 29, none⟩ (.slice (some ⟨ga, 0, none⟩) (T.length + 1) ca)).setCell ⟨M, 3, none⟩ (.int .i64 (x.nx : Nat))) M B (.slice (some ⟨b, off, none⟩) S.length cap) d (paidM x m) (T ++ [tellM m])) := by
    refine ⟨{ V with te := .slice (some ⟨ga, 0, none⟩) (T.length + 1) ca }, ?_⟩
    have := HG.out.set_pl x.nx
    unfold paidM
    rw [HCO.out]
    exact this
   have HKf : Hid (KR w ((w5.setCell ⟨M, 29, none⟩ (.slice (some ⟨ga, 0, none⟩) (T.length + 1) ca)).setCell ⟨M, 3, none⟩ (.int .i64 (x.nx : Nat)))) := HKd.out.trans (HK5.out.trans (HG.out.kr 3 _))
   have hsf : ((w5.setCell ⟨M, 29, none⟩ (.slice (some ⟨ga, 0, none⟩) (T.length + 1) ca)).setCell ⟨M, 3, none⟩ (.int .i64 (x.nx : Nat))).heap.size = w5.heap.size := by simp [World.setCell]
   have HBf : Hid (B ≤ ((w5.setCell ⟨M, 29, none⟩ (.slice (some ⟨ga, 0, none⟩) (T.length + 1) ca)).setCell ⟨M, 3, none⟩ (.int .i64 (x.nx : Nat))).heap.size) := by
    show B ≤ _
    rw [hsf]; exact hB5
   have HTf : Hid (TosN ((w5.setCell ⟨M, 29, none⟩ (.slice (some ⟨ga, 0, none⟩) (T.length + 1) ca)).setCell ⟨M, 3, none⟩ (.int .i64 (x.nx : Nat))) M ta x.to) := by
    intro j t hj
    obtain ⟨q, a1, a2, a3, a4⟩ := HT5.out j t hj
    exact ⟨q, a1, by rw [hsf]; exact a2, a3, (set_other _ a3).trans ((set_other _ a3).trans a4)⟩
   have HSF : Hid (w.heap.size ≤ ((w5.setCell ⟨M, 29, none⟩ (.slice (some ⟨ga, 0, none⟩) (T.length + 1) ca)).setCell ⟨M, 3, none⟩ (.int .i64 (x.nx : Nat))).heap.size) := by
    show w.heap.size ≤ _
    rw [hsf]; omega
   clear hsf HG HK5 HT5 HKr HFa HQa2 HQd HKd HXd HTd HSM HTM c2 c3 c4 c5 c29 c25 c45 c55
   have HO := HOP
   go_wp2_with fail
   have HC := hidc (run_do_words HR1.out HQf.out HBf.out ta tc N (by rw [HO.out]; decide))
   rw [HO.out] at HC
   refine HC.out.mono ?_
   rintro e w6 ⟨m', hm', rfl, hm6, hB6, hk6, hs6⟩
   have HM6 := hidc hm6
   have HK6 := hidc hk6
   clear hm6 hk6
   go_wp2_with fail
   go_end0
   have hsz := HSF.out
   rw [HE1.out, HE2.out]
   exact ⟨m', hm', rfl, HM6.out, hB6, HKf.out.trans HK6.out, Nat.le_trans hsz hs6⟩
theorem run_step_14 {w0 w : World} {M B : Nat} {sv : Value} {d : ByteArray} {m : MS} {T : List (Nat × Nat × Int)} {S : List Sec} (h : RumX w0 w M B sv d m T) (hB : B ≤ w.heap.size) (hSo : Sound S) (hg : Good S m) (b off cap : Nat) (hF : sv = .slice (some ⟨b, off, none⟩) S.length cap) (hS : SecsAt w0 b off S) (hbB : b < B) (hbM : b ≠ M) (ho : m.out.length ≤ 4000) (hT : T.length ≤ 4000) (hgas : m.gas ≤ 3000) (hst : m.steps ≤ 4000) (hop : (nowI S m).op = 14) :
  Calls Tryz.prog 36 #[.pointer (some ⟨M, 0, none⟩)] w (RLike w0 w M B sv d (stepM S d m) (T ++ toldM S m)) := by
 subst hF
 obtain ⟨iz, hiz, hzz0, hzz1, hzz2⟩ := info_parts Tryz.infoStep
 obtain ⟨V, hq⟩ := h
 have hM := hq.size
 have hlt := hq.lt
 have hk : m.sec < S.length := hg.here.1
 obtain ⟨q0, q1, q2, q3⟩ := hS.at m.sec hk
 have d3 := (hq.kp.cell hbB hbM (off + m.sec * 4 + 3)).trans q3
 have hbs : b < w.heap.size := by omega
 have hsec := (secB_iff _).1 (hSo.sec hk)
 have hsp : (splitE S[m.sec].code).1 = 0 := by
  rcases (hSo.ok m.sec hk).split with e | e
  ·rw [e]
  ·exact e
 have HR : Hid (∀ x, x = nowI S m → Ready S m x (paidM x m)) := fun x hx => ⟨hSo, hg, hx, rfl, ho⟩
 have HX : Hid (∃ i, (codeI S[m.sec].code)[i]? = some (nowI S m) ∧ idxI (codeI S[m.sec].code) (m.pl : Int) = (i : Nat) ∧ (nowI S m).pl = m.pl) := by
  obtain ⟨_, i0, x0, o0, hx0, hpl0, _⟩ := hg.here
  have hb : beginsB (codeI S[m.sec].code) (m.pl : Int) = true := by
   unfold beginsB
   rw [List.any_eq_true]
   exact ⟨x0, List.mem_of_getElem? hx0, by simp [hpl0]⟩
  obtain ⟨hj, ej⟩ := idxP_spec hb
  have e1 : (codeI S[m.sec].code)[idxP (codeI S[m.sec].code) m.pl].pl = m.pl := by omega
  have e2 := chain_ins (hSo.chain hk) _ _ (List.getElem?_eq_getElem hj)
  rw [e1] at e2
  exact ⟨_, (List.getElem?_eq_getElem hj).trans (congrArg some (e2.trans (by rw [nowI, codeS_get S m.sec hk]))), by unfold idxI; rw [if_pos hb], rfl⟩
 have c0 := hq.c0
 have c2 := hq.c2
 have c3 := hq.c3
 have HQ := hidc hq
 have HSP := hidc hsp
 have HS := hidc hS
 clear hq hsp hS q0 q1 q2 q3 hg hSo
 generalize S[m.sec] = s at *
 go_enter Tryz.func36, Tryz.ntmps36
 go_wp2_with fail
 go_quiet (fail)
 go_wp2_with fail
 have HQa := hidc (HQ.out.below (bdr (Below.refl _ _) nq) hB)
 have HKa : Hid (KR w (w.drewN nq)) := KR.below (bdr (Below.refl _ _) nq)
 replace c3 : (w.drewN nq).cell? ⟨M, 3, none⟩ = some (.int .i64 (m.pl : Nat)) := c3
 have hBa : B ≤ (w.drewN nq).heap.size := hB
 have hMa : M < (w.drewN nq).heap.size := hM
 have hsa : w.heap.size ≤ (w.drewN nq).heap.size := Nat.le_refl _
 clear d3 c0 c2 HQ
 generalize (w.drewN nq) = wa at *
 refine (ref_all s.code _ (by omega)).mono ?_
 rintro e w1 ⟨v, rfl, hb1, hA⟩
 obtain ⟨hch, xs, hA2⟩ := hA HSP.out
 obtain ⟨i, hxi, hidx, hpl⟩ := HX.out
 have hil : i < (codeI s.code).length := (List.getElem?_eq_some_iff.1 hxi).1
 have hll : (codeI s.code).length ≤ 120 := by have := chain_len hch; omega
 obtain ⟨g, cp, N, ta, tc, rfl, hg1, hg2, z0, z1, z2, hN, z3, z4, hto⟩ := hA2.at hxi
 obtain ⟨g', cp', e', hRI, _⟩ := hA2.rins (by omega)
 injection e' with e1 e2 e3
 injection e1 with e1
 injection e1 with e1
 subst e1
 have HPL := hidc hRI.places
 have HN := hidc hN
 have HTO := hidc hto
 have HQ1 := hidc (HQa.out.below hb1 hBa)
 have HK1 := hidc (HKa.out.trans (KR.below hb1))
 have hs1 := hb1.size
 replace c3 := ((bcell hb1).1 M 3 hMa).trans c3
 have hM1 : M < w1.heap.size := by omega
 have HR1 := hidc (HR.out _ rfl)
 have HSM : Hid (stepM S d m = if m.gas < costT (nowI S m).op then { m with fin := some 2 } else doI S d (nowI S m) (paidM (nowI S m) m)) := rfl
 have HTM : Hid (toldM S m = if m.gas < costT (nowI S m).op then [] else [tellM m]) := rfl
 have HID := hidc hidx
 have HIL := hidc hil
 clear hb1 hA2 hA hch HSP hxi hpl HX e2 e3 hRI hN hto HR hidx
 replace z1 : w1.cell? ⟨g, i * 5 + 1, none⟩ = some (.int .i64 14) := by rw [z1, hop]; rfl
 have HCO : Hid (costT (nowI S m).op = 2) := by
  show costT (nowI S m).op = 2
  rw [hop]; rfl
 have HOP := hidc hop
 clear hop
 generalize nowI S m = x at *
 generalize stepM S d m = sm at *
 generalize toldM S m = tm at *
 generalize codeI s.code = l at *
 go_wp2_with fail
 refine (ref_begins g cp l (m.pl : Nat) w1 HPL.out hll).mono ?_
 rintro e w1' ⟨rfl, hw1⟩
 subst hw1
 rw [HID.out]
 have c2 := HQ1.out.c2
 have c4 := HQ1.out.c4
 have c5 := HQ1.out.c5
 have c27 := HQ1.out.c27
 have c28 := HQ1.out.c28
 have c29 := HQ1.out.c29
 obtain ⟨sa, sc, hsv⟩ := row_form HQ1.out.st
 obtain ⟨ea, ec, hev⟩ := row_form HQ1.out.te
 rw [hsv] at c5
 rw [hev] at c29
 have HEV := hidc hev
 have f27 := HQ1.out.froz 27
 have f28 := HQ1.out.froz 28
 clear hsv hev
 have hnil : ∀ k, V.te.ownBlock = some k → k < wa.heap.size := fun k hk => (HQa.out.te.lt k hk).2
 have HNIL := hidc hnil
 clear hnil
 by_cases hgs : m.gas < 2
 ·go_wp2_with fail
  have HQe := hidc (HQ1.out.below (boxB w1' (.cells #[.int .i64 (x.pl : Nat), .int .i64 14, .int .i64 N, .slice ta x.to.length tc, .int .i64 (x.nx : Nat)] 129)) (by omega))
  refine (run_ends ⟨_, HQe.out⟩ (by simp; omega) 2).mono ?_
  rintro e w5 ⟨rfl, hm5, hB5, hk5, hs5⟩
  have HM5 := hidc hm5
  have HK5 := hidc ((HK1.out.trans (KR.below (boxB w1' (.cells #[.int .i64 (x.pl : Nat), .int .i64 14, .int .i64 N, .slice ta x.to.length tc, .int .i64 (x.nx : Nat)] 129)))).trans hk5)
  clear hm5 hk5
  go_wp2_with fail
  go_end0
  have e1 : sm = { m with fin := some 2 } := by rw [HSM.out, HCO.out, if_pos hgs]
  have e2 : tm = [] := by rw [HTM.out, HCO.out, if_pos hgs]
  rw [e1, e2, List.append_nil]
  exact ⟨_, .inl rfl, rfl, HM5.out, hB5, HK5.out, by simp at hs5; omega⟩
 ·go_wp2_with fail
  have hgv : (m.gas : Int) - 2 = ((m.gas - 2 : Nat) : Int) := by omega
  have hstv : (m.steps : Int) + 1 = ((m.steps + 1 : Nat) : Int) := by omega
  rw [hgv, hstv]
  clear hgv hstv
  have hwz : ((w1'.setCell ⟨M, 27, none⟩ (.int .i64 ((m.gas - 2 : Nat) : Int))).setCell ⟨M, 28, none⟩ (.int .i64 ((m.steps + 1 : Nat) : Int))).heap.size = w1'.heap.size := by simp [World.setCell]
  have hB1 : B ≤ w1'.heap.size := by omega
  have HQb := hidc (((HQ1.out.set_gas (m.gas - 2)).set_steps (m.steps + 1)).below (boxB _ (.cells #[.int .i64 (x.pl : Nat), .int .i64 14, .int .i64 N, .slice ta x.to.length tc, .int .i64 (x.nx : Nat)] 129)) (by rw [hwz]; exact hB1))
  have HKb := hidc ((HK1.out.trans ((HQ1.out.kr 27 (.int .i64 ((m.gas - 2 : Nat) : Int))).trans ((HQ1.out.set_gas (m.gas - 2)).kr 28 (.int .i64 ((m.steps + 1 : Nat) : Int))))).trans (KR.below (boxB _ (.cells #[.int .i64 (x.pl : Nat), .int .i64 14, .int .i64 N, .slice ta x.to.length tc, .int .i64 (x.nx : Nat)] 129))))
  have HXb : Hid ((((w1'.setCell ⟨M, 27, none⟩ (.int .i64 ((m.gas - 2 : Nat) : Int))).setCell ⟨M, 28, none⟩ (.int .i64 ((m.steps + 1 : Nat) : Int))).alloc (.cells #[.int .i64 (x.pl : Nat), .int .i64 14, .int .i64 N, .slice ta x.to.length tc, .int .i64 (x.nx : Nat)] 129)).heap[w1'.heap.size]? = some (.cells #[.int .i64 (x.pl : Nat), .int .i64 14, .int .i64 N, .slice ta x.to.length tc, .int .i64 (x.nx : Nat)] 129 (0, 0))) := by
   have := heap_alloc_new ((w1'.setCell ⟨M, 27, none⟩ (.int .i64 ((m.gas - 2 : Nat) : Int))).setCell ⟨M, 28, none⟩ (.int .i64 ((m.steps + 1 : Nat) : Int))) (.cells #[.int .i64 (x.pl : Nat), .int .i64 14, .int .i64 N, .slice ta x.to.length tc, .int .i64 (x.nx : Nat)] 129)
   rw [hwz] at this
   exact this
  have HTb : Hid (∀ j t, x.to[j]? = some t → ∃ q, ta = some ⟨q, 0, none⟩ ∧ wa.heap.size ≤ q ∧ q < w1'.heap.size ∧ (((w1'.setCell ⟨M, 27, none⟩ (.int .i64 ((m.gas - 2 : Nat) : Int))).setCell ⟨M, 28, none⟩ (.int .i64 ((m.steps + 1 : Nat) : Int))).alloc (.cells #[.int .i64 (x.pl : Nat), .int .i64 14, .int .i64 N, .slice ta x.to.length tc, .int .i64 (x.nx : Nat)] 129)).cell? ⟨q, j, none⟩ = some (.int .i64 t)) := by
   intro j t hj
   obtain ⟨q, a1, a2, a3, a4⟩ := HTO.out j t hj
   exact ⟨q, a1, a2, a3, (cell_al _ (by rw [hwz]; exact a3)).trans ((set_other _ (show q ≠ M by omega)).trans ((set_other _ (show q ≠ M by omega)).trans a4))⟩
  have hsb : w1'.heap.size < (((w1'.setCell ⟨M, 27, none⟩ (.int .i64 ((m.gas - 2 : Nat) : Int))).setCell ⟨M, 28, none⟩ (.int .i64 ((m.steps + 1 : Nat) : Int))).alloc (.cells #[.int .i64 (x.pl : Nat), .int .i64 14, .int .i64 N, .slice ta x.to.length tc, .int .i64 (x.nx : Nat)] 129)).heap.size := by simp [World.setCell]
  clear c2 c3 c4 c5 c27 c28 c29 f27 f28 z0 z1 z2 z3 z4 HQ1 HK1 HTO HPL hwz HID HIL
  generalize (((w1'.setCell ⟨M, 27, none⟩ (.int .i64 ((m.gas - 2 : Nat) : Int))).setCell ⟨M, 28, none⟩ (.int .i64 ((m.steps + 1 : Nat) : Int))).alloc (.cells #[.int .i64 (x.pl : Nat), .int .i64 14, .int .i64 N, .slice ta x.to.length tc, .int .i64 (x.nx : Nat)] 129)) = wb at *
  have c2 := HQb.out.c2
  have c3 := HQb.out.c3
  have c4 := HQb.out.c4
  have c5 := HQb.out.c5
  have c29 := HQb.out.c29
  rw [HEV.out] at c29
  obtain ⟨sa', sc', hsv'⟩ := row_form HQb.out.st
  rw [hsv'] at c5
  clear hsv'
  dsimp only at c2 c3 c4 c5
  have hsm := HR1.out.small
  have hsmb : m.st.length ≤ 100 := hsm
  have hbb : m.base ≤ m.st.length := HR1.out.good.base
  clear hsm
  have hw1 : IntKind.i64.wrap ((m.st.length : Int) - m.base) = (m.st.length : Int) - m.base := by rw [IntKind.wrap_i64]; omega
  have hMb : M < wb.heap.size := by omega
  have hBb : B ≤ wb.heap.size := by omega
  refine wp_region_held_drew (S := fun w' => w'.cell? ⟨M, 2, none⟩ = some (.int .i64 (m.sec : Nat)) ∧ w'.cell? ⟨M, 3, none⟩ = some (.int .i64 (m.pl : Nat)) ∧ w'.cell? ⟨M, 4, none⟩ = some (.int .i64 (m.base : Nat)) ∧ w'.cell? ⟨M, 5, none⟩ = some (.slice sa' m.st.length sc')) (by kernel_rfl) ⟨c2, c3, c4, c5⟩ (fun hHeld => ?_)
  have HQd := hidc (HQb.out.below ((Below.refl _ _).drew) hBb)
  have HKd : Hid (KR w wb.drew) := HKb.out.trans (KR.below ((Below.refl _ _).drew))
  have HXd : Hid (wb.drew.heap[w1'.heap.size]? = some (.cells #[.int .i64 (x.pl : Nat), .int .i64 14, .int .i64 N, .slice ta x.to.length tc, .int .i64 (x.nx : Nat)] 129 (0, 0))) := HXb.out
  have HTd : Hid (∀ j t, x.to[j]? = some t → ∃ q, ta = some ⟨q, 0, none⟩ ∧ wa.heap.size ≤ q ∧ q < w1'.heap.size ∧ wb.drew.cell? ⟨q, j, none⟩ = some (.int .i64 t)) := HTb.out
  replace c2 : wb.drew.cell? ⟨M, 2, none⟩ = some (.int .i64 (m.sec : Nat)) := c2
  replace c3 : wb.drew.cell? ⟨M, 3, none⟩ = some (.int .i64 (m.pl : Nat)) := c3
  replace c4 : wb.drew.cell? ⟨M, 4, none⟩ = some (.int .i64 (m.base : Nat)) := c4
  replace c5 : wb.drew.cell? ⟨M, 5, none⟩ = some (.slice sa' m.st.length sc') := c5
  replace c29 : wb.drew.cell? ⟨M, 29, none⟩ = some (.slice ea T.length ec) := c29
  replace hMb : M < wb.drew.heap.size := hMb
  replace hBb : B ≤ wb.drew.heap.size := hBb
  replace hsb : w1'.heap.size < wb.drew.heap.size := hsb
  clear HQb HKb HXb HTb
  generalize wb.drew = wd at *
  have HQa2 := hidc (HQd.out.below (boxB wd (.cells #[.int .i64 (m.sec : Nat), .int .i64 (m.pl : Nat), .int .i64 ((m.st.length : Int) - m.base)] 63)) hBb)
  have HFa : Hid ((wd.alloc (.cells #[.int .i64 (m.sec : Nat), .int .i64 (m.pl : Nat), .int .i64 ((m.st.length : Int) - m.base)] 63)).ownsRow B 63 3 (.slice ea T.length ec) T.length (tV T)) := by
   have := HQa2.out.te
   rw [HEV.out] at this
   exact this
  refine tk 0 ?vc0 rfl ?hyc0 hHeld ?restc0
  case hyc0 => rintro w ⟨q0, q1, q2, q3⟩; go_simp; try with_reducible rfl
  simp only [Act.put, aA, aB, aC, aD, aE]
  refine tk 1 ?vc1 rfl ?hyc1 hHeld ?restc1
  case hyc1 => rintro w ⟨q0, q1, q2, q3⟩; go_simp; try with_reducible rfl
  simp only [Act.put, aA, aB, aC, aD, aE, aF]
  refine tk 2 ?vc2 rfl ?hyc2 hHeld ?restc2
  case hyc2 => rintro w ⟨q0, q1, q2, q3⟩; go_simp; try with_reducible rfl
  simp only [Act.put, aA, aB, aC, aD, aE, aF]
  refine tk 3 ?vc3 rfl ?hyc3 hHeld ?restc3
  case hyc3 => rintro w ⟨q0, q1, q2, q3⟩; go_simp; try with_reducible rfl
  simp only [Act.put, aA, aB, aC, aD, aE, aF]
  refine tk 5 ?vc5 rfl ?hyc5 hHeld ?restc5
  case hyc5 => rintro w ⟨q0, q1, q2, q3⟩; go_simp; try with_reducible rfl
  simp only [Act.put, aA, aB, aC, aD, aE, aF]
  refine tk 6 ?vc6 rfl ?hyc6 hHeld ?restc6
  case hyc6 => rintro w ⟨q0, q1, q2, q3⟩; go_simp; try with_reducible rfl
  simp only [Act.put, aA, aB, aC, aD, aE, aF]
  refine tk 7 ?vc7 rfl ?hyc7 hHeld ?restc7
  case hyc7 => rintro w ⟨q0, q1, q2, q3⟩; go_simp; try with_reducible rfl
  simp only [Act.put, aA, aB, aC, aD, aE, aF]
  refine tk 8 ?vc8 rfl ?hyc8 hHeld ?restc8
  case hyc8 => rintro w ⟨q0, q1, q2, q3⟩; go_simp; try with_reducible rfl
  simp only [Act.put, aA, aB, aC, aD, aE, aF]
  refine tk 9 ?vc9 rfl ?hyc9 hHeld ?restc9
  case hyc9 => rintro w ⟨q0, q1, q2, q3⟩; go_simp; try with_reducible rfl
  simp only [Act.put, aA, aB, aC, aD, aE, aF]
  refine tk 10 ?vc10 rfl ?hyc10 hHeld ?restc10
  case hyc10 => rintro w ⟨q0, q1, q2, q3⟩; go_simp; try with_reducible rfl
  simp only [Act.put, aA, aB, aC, aD, aE, aF]
  refine tk 11 ?vc11 rfl ?hyc11 hHeld ?restc11
  case hyc11 => rintro w ⟨q0, q1, q2, q3⟩; go_simp; try with_reducible rfl
  simp only [Act.put, aA, aB, aC, aD, aE, aF]
  refine tk 12 ?vc12 rfl ?hyc12 hHeld ?restc12
  case hyc12 => rintro w ⟨q0, q1, q2, q3⟩; go_simp; try with_reducible rfl
  simp only [Act.put, aA, aB, aC, aD, aE, aF]
  refine tk 13 ?vc13 rfl ?hyc13 hHeld ?restc13
  case hyc13 => rintro w ⟨q0, q1, q2, q3⟩; go_simp; try with_reducible rfl
  simp only [Act.put, aA, aB, aC, aD, aE, aF]
  refine tk 14 ?vc14 rfl ?hyc14 hHeld ?restc14
  case hyc14 => rintro w ⟨q0, q1, q2, q3⟩; go_simp; try with_reducible rfl
  simp only [Act.put, aA, aB, aC, aD, aE, aF]
  refine tk 15 ?vc15 rfl ?hyc15 hHeld ?restc15
  case hyc15 => rintro w ⟨q0, q1, q2, q3⟩; go_simp; try with_reducible rfl
  simp only [Act.put, aA, aB, aC, aD, aE, aF]
  refine tk 16 ?vc16 rfl ?hyc16 hHeld ?restc16
  case hyc16 => rintro w ⟨q0, q1, q2, q3⟩; go_simp; try with_reducible rfl
  simp only [Act.put, aA, aB, aC, aD, aE, aF]
  refine tk 17 ?vc17 rfl ?hyc17 hHeld ?restc17
  case hyc17 => rintro w ⟨q0, q1, q2, q3⟩; go_simp; try with_reducible rfl
  simp only [Act.put, aA, aB, aC, aD, aE, aF]
  refine tk 18 ?vc18 rfl ?hyc18 hHeld ?restc18
  case hyc18 => rintro w ⟨q0, q1, q2, q3⟩; go_simp; try with_reducible rfl
  simp only [Act.put, aA, aB, aC, aD, aE, aF]
  refine tk 19 ?vc19 rfl ?hyc19 hHeld ?restc19
  case hyc19 => rintro w ⟨q0, q1, q2, q3⟩; go_simp; try with_reducible rfl
  simp only [Act.put, aA, aB, aC, aD, aE, aF]
  refine tk 20 ?vc20 rfl ?hyc20 hHeld ?restc20
  case hyc20 => rintro w ⟨q0, q1, q2, q3⟩; go_simp; try with_reducible rfl
  simp only [Act.put, aA, aB, aC, aD, aE, aF]
  refine tk 21 ?vc21 rfl ?hyc21 hHeld ?restc21
  case hyc21 => rintro w ⟨q0, q1, q2, q3⟩; go_simp; try with_reducible rfl
  simp only [Act.put, aA, aB, aC, aD, aE, aF]
  refine tk 22 (.int .i64 ((m.st.length : Int) - m.base)) rfl ?hyc22 hHeld ?restc22
  case hyc22 => rintro w ⟨q0, q1, q2, q3⟩; go_simp; try with_reducible rfl
  simp only [Act.put, aA, aB, aC, aD, aE, aF]
  refine tk 23 ?vc23 rfl ?hyc23 hHeld ?restc23
  case hyc23 => rintro w ⟨q0, q1, q2, q3⟩; go_simp; try with_reducible rfl
  simp only [Act.put, aA, aB, aC, aD, aE, aF]
  refine wpAnyH_ready (rs := [4, 24]) (by kernel_rfl) (by simp) ?_
  refine AllReadyH.cons (i := 4) rfl (fun K hK => ?ga4) (AllReadyH.cons (i := 24) rfl (fun K hK => ?ga24) AllReadyH.nil)
  case ga4 =>
   simp only [aD, aE, aF]
   go_simp
   refine hK.out _ _ ⟨c2, c3, c4, c5⟩ (fun hHeld => ?_)
   clear hK
   refine rd 24 rfl (fun K hK => ?_)
   simp only [aD, aE, aF]
   go_simp
   refine hK.out _ _ ⟨(cell_al _ hMb).trans c2, (cell_al _ hMb).trans c3, (cell_al _ hMb).trans c4, (cell_al _ hMb).trans c5⟩ (fun hHeld => ?_)
   clear hK
   refine rd 25 rfl (fun K hK => ?_)
   refine step_append_lies _ rfl _ _ 33 rfl B 63 iz (.agg #[.int .i64 0, .int .i64 0, .int .i64 0]) 3 24 Tryz.underlying33 hiz hzz0 hzz1 hzz2 rfl (by decide) (.slice ea T.length ec) T.length (tV T) rfl HFa.out ⟨wd.heap.size, 0, none⟩ 1 1 [.int .i64 (m.sec : Nat), .int .i64 (m.pl : Nat), .int .i64 ((m.st.length : Int) - m.base)] rfl rfl (newsT _ _ _ _ _ rfl) (oneF _ _ _) (by decide) (by unfold maxLen; omega) (by omega) (by simp; omega) _ rfl ?_
   intro ga ca w5 hown5 hgrow5 hat5 hlt5
   have hl5 : (T ++ [tellM m]).length = T.length + 1 := by rw [List.length_append]; rfl
   have hown' : w5.ownsRow B 63 3 (.slice (some ⟨ga, 0, none⟩) (T ++ [tellM m]).length ca) (T ++ [tellM m]).length (tV (T ++ [tellM m])) := by
    rw [hl5, tV_append]
    exact hown5
   rw [← HEV.out] at hgrow5 hat5
   have HG := hidc (HQa2.out.grow_te (by simp; omega) ga ca (T ++ [tellM m]) hgrow5 hown' (by simpa using hat5))
   rw [hl5] at HG
   have hB5 : B ≤ w5.heap.size := by have := hgrow5.size; simp at this; omega
   have hS5 : wd.heap.size < w5.heap.size := by have := hgrow5.size; simp at this; omega
   obtain ⟨hc5, ⟨cs5, e5, _⟩, _⟩ := HQa2.out.grown hgrow5 (by simp; omega) (fun k hk => (HQa2.out.te.lt k hk).1)
   have HKr := hidc ((KR.below (boxB wd (.cells #[.int .i64 (m.sec : Nat), .int .i64 (m.pl : Nat), .int .i64 ((m.st.length : Int) - m.base)] 63))).trans (KR.grown HQa2.out.te hgrow5 (.inr (.inr rfl))))
   have hx5 : w5.heap[w1'.heap.size]? = some (.cells #[.int .i64 (x.pl : Nat), .int .i64 14, .int .i64 N, .slice ta x.to.length tc, .int .i64 (x.nx : Nat)] 129 (0, 0)) := HKr.out _ _ _ _ HXd.out (by decide) (by decide) (by decide) (by decide)
   have HT5 : Hid (∀ j t, x.to[j]? = some t → ∃ q, ta = some ⟨q, 0, none⟩ ∧ q < w5.heap.size ∧ q ≠ M ∧ w5.cell? ⟨q, j, none⟩ = some (.int .i64 t)) := by
    intro j t hj
    obtain ⟨q, a1, a2, a3, a4⟩ := HTd.out j t hj
    have hqd : q < wd.heap.size := by omega
    refine ⟨q, a1, by omega, by omega, ?_⟩
    refine (World.cell?_of_block (w := wd.alloc (.cells #[.int .i64 (m.sec : Nat), .int .i64 (m.pl : Nat), .int .i64 ((m.st.length : Int) - m.base)] 63)) (hgrow5.block q (by simp; omega) (fun e => ?_))).trans ((cell_al _ hqd).trans a4)
    have := HNIL.out q e.symm
    omega
   have xq0 : w5.cell? ⟨w1'.heap.size, 0, none⟩ = some (.int .i64 (x.pl : Nat)) := cell_of_block hx5 0
   have xq1 : w5.cell? ⟨w1'.heap.size, 1, none⟩ = some (.int .i64 14) := cell_of_block hx5 1
   have xq2 : w5.cell? ⟨w1'.heap.size, 2, none⟩ = some (.int .i64 N) := cell_of_block hx5 2
   have xq3 : w5.cell? ⟨w1'.heap.size, 3, none⟩ = some (.slice ta x.to.length tc) := cell_of_block hx5 3
   have xq4 : w5.cell? ⟨w1'.heap.size, 4, none⟩ = some (.int .i64 (x.nx : Nat)) := cell_of_block hx5 4
   have hxM : w1'.heap.size ≠ M := by omega
   have HK5 : Hid (KR wd (w5.setCell ⟨M, 29, none⟩ (.slice (some ⟨ga, 0, none⟩) (T.length + 1) ca))) := HKr.out.trans (KR.setTy e5 (.inl rfl) _ _)
   have c295 : w5.cell? ⟨M, 29, none⟩ = some V.te := (hc5 29).trans HQa2.out.c29
   have f295 : w5.frozen? ⟨M, 29, none⟩ = false := unfrozen_of_block e5 29
   have c25 := (hc5 2).trans HQa2.out.c2
   have c35 := (hc5 3).trans HQa2.out.c3
   have c45 := (hc5 4).trans HQa2.out.c4
   have c55 : w5.cell? ⟨M, 5, none⟩ = some (.slice sa' m.st.length sc') := (hc5 5).trans ((cell_al _ hMb).trans c5)
   dsimp only at c25 c35 c45
   have f35 : w5.frozen? ⟨M, 3, none⟩ = false := unfrozen_of_block e5 3
   have hM5 : M < w5.heap.size := by omega
   have hX5 : w1'.heap.size < w5.heap.size := blt hx5
   clear hown5 hgrow5 hat5 hlt5 hown' hc5 e5 hl5 hx5
   refine hK.out _ _ ⟨c25, c35, c45, c55⟩ (fun hHeld => ?_)
   clear hK
   refine tk 26 ?vu26 rfl ?hyu26 hHeld ?restu26
   case hyu26 => rintro w ⟨q0, q1, q2, q3⟩; go_simp; try with_reducible rfl
   simp only [Act.put, aA, aB, aC, aD, aE, aF]
   refine tk 27 ?vu27 rfl ?hyu27 hHeld ?restu27
   case hyu27 => rintro w ⟨q0, q1, q2, q3⟩; go_simp; try with_reducible rfl
   simp only [Act.put, aA, aB, aC, aD, aE, aF]
   refine rd 28 rfl (fun K hK => ?_)
   simp only [aD, aE, aF]
   go_simp
   refine hK.out _ _ ⟨(mset_other (adne (by omega))).trans c25, (mset_other (adne (by omega))).trans c35, (mset_other (adne (by omega))).trans c45, (mset_other (adne (by omega))).trans c55⟩ (fun hHeld => ?_)
   clear hK hHeld
   refine wpAnyH_done (by kernel_rfl) ?_ _
   have HE1 : Hid (sm = doI S d x (paidM x m)) := by
    show sm = doI S d x (paidM x m)
    rw [HSM.out, HCO.out, if_neg hgs]
   have HE2 : Hid (tm = [tellM m]) := by
    show tm = [tellM m]
    rw [HTM.out, HCO.out, if_neg hgs]
   have HQf : Hid (RumX w0 ((w5.setCell ⟨M, 29, none⟩ (.slice (some ⟨ga, 0, none⟩) (T.length + 1) ca)).setCell ⟨M, 3, none⟩ (.int .i64 (x.nx : Nat))) M B (.slice (some ⟨b, off, none⟩) S.length cap) d (paidM x m) (T ++ [tellM m])) := by
    refine ⟨{ V with te := .slice (some ⟨ga, 0, none⟩) (T.length + 1) ca }, ?_⟩
    have := HG.out.set_pl x.nx
    unfold paidM
    rw [HCO.out]
    exact this
   have HKf : Hid (KR w ((w5.setCell ⟨M, 29, none⟩ (.slice (some ⟨ga, 0, none⟩) (T.length + 1) ca)).setCell ⟨M, 3, none⟩ (.int .i64 (x.nx : Nat)))) := HKd.out.trans (HK5.out.trans (HG.out.kr 3 _))
   have hsf : ((w5.setCell ⟨M, 29, none⟩ (.slice (some ⟨ga, 0, none⟩) (T.length + 1) ca)).setCell ⟨M, 3, none⟩ (.int .i64 (x.nx : Nat))).heap.size = w5.heap.size := by simp [World.setCell]
   have HBf : Hid (B ≤ ((w5.setCell ⟨M, 29, none⟩ (.slice (some ⟨ga, 0, none⟩) (T.length + 1) ca)).setCell ⟨M, 3, none⟩ (.int .i64 (x.nx : Nat))).heap.size) := by
    show B ≤ _
    rw [hsf]; exact hB5
   have HTf : Hid (TosN ((w5.setCell ⟨M, 29, none⟩ (.slice (some ⟨ga, 0, none⟩) (T.length + 1) ca)).setCell ⟨M, 3, none⟩ (.int .i64 (x.nx : Nat))) M ta x.to) := by
    intro j t hj
    obtain ⟨q, a1, a2, a3, a4⟩ := HT5.out j t hj
    exact ⟨q, a1, by rw [hsf]; exact a2, a3, (set_other _ a3).trans ((set_other _ a3).trans a4)⟩
   have HSF : Hid (w.heap.size ≤ ((w5.setCell ⟨M, 29, none⟩ (.slice (some ⟨ga, 0, none⟩) (T.length + 1) ca)).setCell ⟨M, 3, none⟩ (.int .i64 (x.nx : Nat))).heap.size) := by
    show w.heap.size ≤ _
    rw [hsf]; omega
   clear hsf HG HK5 HT5 HKr HFa HQa2 HQd HKd HXd HTd HSM HTM c2 c3 c4 c5 c29 c25 c45 c55
   have HO := HOP
   go_wp2_with fail
   have HC := hidc (run_do_words HR1.out HQf.out HBf.out ta tc N (by rw [HO.out]; decide))
   rw [HO.out] at HC
   refine HC.out.mono ?_
   rintro e w6 ⟨m', hm', rfl, hm6, hB6, hk6, hs6⟩
   have HM6 := hidc hm6
   have HK6 := hidc hk6
   clear hm6 hk6
   go_wp2_with fail
   go_end0
   have hsz := HSF.out
   rw [HE1.out, HE2.out]
   exact ⟨m', hm', rfl, HM6.out, hB6, HKf.out.trans HK6.out, Nat.le_trans hsz hs6⟩
  case ga24 =>
   simp only [aD, aE, aF]
   go_simp
   refine hK.out _ _ ⟨(cell_al _ hMb).trans c2, (cell_al _ hMb).trans c3, (cell_al _ hMb).trans c4, (cell_al _ hMb).trans c5⟩ (fun hHeld => ?_)
   clear hK
   have c29a : (wd.alloc (.cells #[.int .i64 (m.sec : Nat), .int .i64 (m.pl : Nat), .int .i64 ((m.st.length : Int) - m.base)] 63)).cell? ⟨M, 29, none⟩ = some (.slice ea T.length ec) := (cell_al _ hMb).trans c29
   refine rd 4 rfl (fun K hK => ?_)
   simp only [aD, aE, aF]
   go_simp
   refine hK.out _ _ ⟨(cell_al _ hMb).trans c2, (cell_al _ hMb).trans c3, (cell_al _ hMb).trans c4, (cell_al _ hMb).trans c5⟩ (fun hHeld => ?_)
   clear hK
   refine rd 25 rfl (fun K hK => ?_)
   refine step_append_lies _ rfl _ _ 33 rfl B 63 iz (.agg #[.int .i64 0, .int .i64 0, .int .i64 0]) 3 24 Tryz.underlying33 hiz hzz0 hzz1 hzz2 rfl (by decide) (.slice ea T.length ec) T.length (tV T) rfl HFa.out ⟨wd.heap.size, 0, none⟩ 1 1 [.int .i64 (m.sec : Nat), .int .i64 (m.pl : Nat), .int .i64 ((m.st.length : Int) - m.base)] rfl rfl (newsT _ _ _ _ _ rfl) (oneF _ _ _) (by decide) (by unfold maxLen; omega) (by omega) (by simp; omega) _ rfl ?_
   intro ga ca w5 hown5 hgrow5 hat5 hlt5
   have hl5 : (T ++ [tellM m]).length = T.length + 1 := by rw [List.length_append]; rfl
   have hown' : w5.ownsRow B 63 3 (.slice (some ⟨ga, 0, none⟩) (T ++ [tellM m]).length ca) (T ++ [tellM m]).length (tV (T ++ [tellM m])) := by
    rw [hl5, tV_append]
    exact hown5
   rw [← HEV.out] at hgrow5 hat5
   have HG := hidc (HQa2.out.grow_te (by simp; omega) ga ca (T ++ [tellM m]) hgrow5 hown' (by simpa using hat5))
   rw [hl5] at HG
   have hB5 : B ≤ w5.heap.size := by have := hgrow5.size; simp at this; omega
   have hS5 : wd.heap.size < w5.heap.size := by have := hgrow5.size; simp at this; omega
   obtain ⟨hc5, ⟨cs5, e5, _⟩, _⟩ := HQa2.out.grown hgrow5 (by simp; omega) (fun k hk => (HQa2.out.te.lt k hk).1)
   have HKr := hidc ((KR.below (boxB wd (.cells #[.int .i64 (m.sec : Nat), .int .i64 (m.pl : Nat), .int .i64 ((m.st.length : Int) - m.base)] 63))).trans (KR.grown HQa2.out.te hgrow5 (.inr (.inr rfl))))
   have hx5 : w5.heap[w1'.heap.size]? = some (.cells #[.int .i64 (x.pl : Nat), .int .i64 14, .int .i64 N, .slice ta x.to.length tc, .int .i64 (x.nx : Nat)] 129 (0, 0)) := HKr.out _ _ _ _ HXd.out (by decide) (by decide) (by decide) (by decide)
   have HT5 : Hid (∀ j t, x.to[j]? = some t → ∃ q, ta = some ⟨q, 0, none⟩ ∧ q < w5.heap.size ∧ q ≠ M ∧ w5.cell? ⟨q, j, none⟩ = some (.int .i64 t)) := by
    intro j t hj
    obtain ⟨q, a1, a2, a3, a4⟩ := HTd.out j t hj
    have hqd : q < wd.heap.size := by omega
    refine ⟨q, a1, by omega, by omega, ?_⟩
    refine (World.cell?_of_block (w := wd.alloc (.cells #[.int .i64 (m.sec : Nat), .int .i64 (m.pl : Nat), .int .i64 ((m.st.length : Int) - m.base)] 63)) (hgrow5.block q (by simp; omega) (fun e => ?_))).trans ((cell_al _ hqd).trans a4)
    have := HNIL.out q e.symm
    omega
   have xq0 : w5.cell? ⟨w1'.heap.size, 0, none⟩ = some (.int .i64 (x.pl : Nat)) := cell_of_block hx5 0
   have xq1 : w5.cell? ⟨w1'.heap.size, 1, none⟩ = some (.int .i64 14) := cell_of_block hx5 1
   have xq2 : w5.cell? ⟨w1'.heap.size, 2, none⟩ = some (.int .i64 N) := cell_of_block hx5 2
   have xq3 : w5.cell? ⟨w1'.heap.size, 3, none⟩ = some (.slice ta x.to.length tc) := cell_of_block hx5 3
   have xq4 : w5.cell? ⟨w1'.heap.size, 4, none⟩ = some (.int .i64 (x.nx : Nat)) := cell_of_block hx5 4
   have hxM : w1'.heap.size ≠ M := by omega
   have HK5 : Hid (KR wd (w5.setCell ⟨M, 29, none⟩ (.slice (some ⟨ga, 0, none⟩) (T.length + 1) ca))) := HKr.out.trans (KR.setTy e5 (.inl rfl) _ _)
   have c295 : w5.cell? ⟨M, 29, none⟩ = some V.te := (hc5 29).trans HQa2.out.c29
   have f295 : w5.frozen? ⟨M, 29, none⟩ = false := unfrozen_of_block e5 29
   have c25 := (hc5 2).trans HQa2.out.c2
   have c35 := (hc5 3).trans HQa2.out.c3
   have c45 := (hc5 4).trans HQa2.out.c4
   have c55 : w5.cell? ⟨M, 5, none⟩ = some (.slice sa' m.st.length sc') := (hc5 5).trans ((cell_al _ hMb).trans c5)
   dsimp only at c25 c35 c45
   have f35 : w5.frozen? ⟨M, 3, none⟩ = false := unfrozen_of_block e5 3
   have hM5 : M < w5.heap.size := by omega
   have hX5 : w1'.heap.size < w5.heap.size := blt hx5
   clear hown5 hgrow5 hat5 hlt5 hown' hc5 e5 hl5 hx5
   refine hK.out _ _ ⟨c25, c35, c45, c55⟩ (fun hHeld => ?_)
   clear hK
   refine tk 26 ?vv26 rfl ?hyv26 hHeld ?restv26
   case hyv26 => rintro w ⟨q0, q1, q2, q3⟩; go_simp; try with_reducible rfl
   simp only [Act.put, aA, aB, aC, aD, aE, aF]
   refine tk 27 ?vv27 rfl ?hyv27 hHeld ?restv27
   case hyv27 => rintro w ⟨q0, q1, q2, q3⟩; go_simp; try with_reducible rfl
   simp only [Act.put, aA, aB, aC, aD, aE, aF]
   refine rd 28 rfl (fun K hK => ?_)
   simp only [aD, aE, aF]
   go_simp
   refine hK.out _ _ ⟨(mset_other (adne (by omega))).trans c25, (mset_other (adne (by omega))).trans c35, (mset_other (adne (by omega))).trans c45, (mset_other (adne (by omega))).trans c55⟩ (fun hHeld => ?_)
   clear hK hHeld
   refine wpAnyH_done (by kernel_rfl) ?_ _
   have HE1 : Hid (sm = doI S d x (paidM x m)) := by
    show sm = doI S d x (paidM x m)
    rw [HSM.out, HCO.out, if_neg hgs]
   have HE2 : Hid (tm = [tellM m]) := by
    show tm = [tellM m]
    rw [HTM.out, HCO.out, if_neg hgs]
   have HQf : Hid (RumX w0 ((w5.setCell ⟨M, 29, none⟩ (.slice (some ⟨ga, 0, none⟩) (T.length + 1) ca)).setCell ⟨M, 3, none⟩ (.int .i64 (x.nx : Nat))) M B (.slice (some ⟨b, off, none⟩) S.length cap) d (paidM x m) (T ++ [tellM m])) := by
    refine ⟨{ V with te := .slice (some ⟨ga, 0, none⟩) (T.length + 1) ca }, ?_⟩
    have := HG.out.set_pl x.nx
    unfold paidM
    rw [HCO.out]
    exact this
   have HKf : Hid (KR w ((w5.setCell ⟨M, 29, none⟩ (.slice (some ⟨ga, 0, none⟩) (T.length + 1) ca)).setCell ⟨M, 3, none⟩ (.int .i64 (x.nx : Nat)))) := HKd.out.trans (HK5.out.trans (HG.out.kr 3 _))
   have hsf : ((w5.setCell ⟨M, 29, none⟩ (.slice (some ⟨ga, 0, none⟩) (T.length + 1) ca)).setCell ⟨M, 3, none⟩ (.int .i64 (x.nx : Nat))).heap.size = w5.heap.size := by simp [World.setCell]
   have HBf : Hid (B ≤ ((w5.setCell ⟨M, 29, none⟩ (.slice (some ⟨ga, 0, none⟩) (T.length + 1) ca)).setCell ⟨M, 3, none⟩ (.int .i64 (x.nx : Nat))).heap.size) := by
    show B ≤ _
    rw [hsf]; exact hB5
   have HTf : Hid (TosN ((w5.setCell ⟨M, 29, none⟩ (.slice (some ⟨ga, 0, none⟩) (T.length + 1) ca)).setCell ⟨M, 3, none⟩ (.int .i64 (x.nx : Nat))) M ta x.to) := by
    intro j t hj
    obtain ⟨q, a1, a2, a3, a4⟩ := HT5.out j t hj
    exact ⟨q, a1, by rw [hsf]; exact a2, a3, (set_other _ a3).trans ((set_other _ a3).trans a4)⟩
   have HSF : Hid (w.heap.size ≤ ((w5.setCell ⟨M, 29, none⟩ (.slice (some ⟨ga, 0, none⟩) (T.length + 1) ca)).setCell ⟨M, 3, none⟩ (.int .i64 (x.nx : Nat))).heap.size) := by
    show w.heap.size ≤ _
    rw [hsf]; omega
   clear hsf HG HK5 HT5 HKr HFa HQa2 HQd HKd HXd HTd HSM HTM c2 c3 c4 c5 c29 c25 c45 c55
   have HO := HOP
   go_wp2_with fail
   have HC := hidc (run_do_words HR1.out HQf.out HBf.out ta tc N (by rw [HO.out]; decide))
   rw [HO.out] at HC
   refine HC.out.mono ?_
   rintro e w6 ⟨m', hm', rfl, hm6, hB6, hk6, hs6⟩
   have HM6 := hidc hm6
   have HK6 := hidc hk6
   clear hm6 hk6
   go_wp2_with fail
   go_end0
   have hsz := HSF.out
   rw [HE1.out, HE2.out]
   exact ⟨m', hm', rfl, HM6.out, hB6, HKf.out.trans HK6.out, Nat.le_trans hsz hs6⟩
theorem run_step_18 {w0 w : World} {M B : Nat} {sv : Value} {d : ByteArray} {m : MS} {T : List (Nat × Nat × Int)} {S : List Sec} (h : RumX w0 w M B sv d m T) (hB : B ≤ w.heap.size) (hSo : Sound S) (hg : Good S m) (b off cap : Nat) (hF : sv = .slice (some ⟨b, off, none⟩) S.length cap) (hS : SecsAt w0 b off S) (hbB : b < B) (hbM : b ≠ M) (ho : m.out.length ≤ 4000) (hT : T.length ≤ 4000) (hgas : m.gas ≤ 3000) (hst : m.steps ≤ 4000) (hop : (nowI S m).op = 18) :
  Calls Tryz.prog 36 #[.pointer (some ⟨M, 0, none⟩)] w (RLike w0 w M B sv d (stepM S d m) (T ++ toldM S m)) := by
 subst hF
 obtain ⟨iz, hiz, hzz0, hzz1, hzz2⟩ := info_parts Tryz.infoStep
 obtain ⟨V, hq⟩ := h
 have hM := hq.size
 have hlt := hq.lt
 have hk : m.sec < S.length := hg.here.1
 obtain ⟨q0, q1, q2, q3⟩ := hS.at m.sec hk
 have d3 := (hq.kp.cell hbB hbM (off + m.sec * 4 + 3)).trans q3
 have hbs : b < w.heap.size := by omega
 have hsec := (secB_iff _).1 (hSo.sec hk)
 have hsp : (splitE S[m.sec].code).1 = 0 := by
  rcases (hSo.ok m.sec hk).split with e | e
  ·rw [e]
  ·exact e
 have HR : Hid (∀ x, x = nowI S m → Ready S m x (paidM x m)) := fun x hx => ⟨hSo, hg, hx, rfl, ho⟩
 have HX : Hid (∃ i, (codeI S[m.sec].code)[i]? = some (nowI S m) ∧ idxI (codeI S[m.sec].code) (m.pl : Int) = (i : Nat) ∧ (nowI S m).pl = m.pl) := by
  obtain ⟨_, i0, x0, o0, hx0, hpl0, _⟩ := hg.here
  have hb : beginsB (codeI S[m.sec].code) (m.pl : Int) = true := by
   unfold beginsB
   rw [List.any_eq_true]
   exact ⟨x0, List.mem_of_getElem? hx0, by simp [hpl0]⟩
  obtain ⟨hj, ej⟩ := idxP_spec hb
  have e1 : (codeI S[m.sec].code)[idxP (codeI S[m.sec].code) m.pl].pl = m.pl := by omega
  have e2 := chain_ins (hSo.chain hk) _ _ (List.getElem?_eq_getElem hj)
  rw [e1] at e2
  exact ⟨_, (List.getElem?_eq_getElem hj).trans (congrArg some (e2.trans (by rw [nowI, codeS_get S m.sec hk]))), by unfold idxI; rw [if_pos hb], rfl⟩
 have c0 := hq.c0
 have c2 := hq.c2
 have c3 := hq.c3
 have HQ := hidc hq
 have HSP := hidc hsp
 have HS := hidc hS
 clear hq hsp hS q0 q1 q2 q3 hg hSo
 generalize S[m.sec] = s at *
 go_enter Tryz.func36, Tryz.ntmps36
 go_wp2_with fail
 go_quiet (fail)
 go_wp2_with fail
 have HQa := hidc (HQ.out.below (bdr (Below.refl _ _) nq) hB)
 have HKa : Hid (KR w (w.drewN nq)) := KR.below (bdr (Below.refl _ _) nq)
 replace c3 : (w.drewN nq).cell? ⟨M, 3, none⟩ = some (.int .i64 (m.pl : Nat)) := c3
 have hBa : B ≤ (w.drewN nq).heap.size := hB
 have hMa : M < (w.drewN nq).heap.size := hM
 have hsa : w.heap.size ≤ (w.drewN nq).heap.size := Nat.le_refl _
 clear d3 c0 c2 HQ
 generalize (w.drewN nq) = wa at *
 refine (ref_all s.code _ (by omega)).mono ?_
 rintro e w1 ⟨v, rfl, hb1, hA⟩
 obtain ⟨hch, xs, hA2⟩ := hA HSP.out
 obtain ⟨i, hxi, hidx, hpl⟩ := HX.out
 have hil : i < (codeI s.code).length := (List.getElem?_eq_some_iff.1 hxi).1
 have hll : (codeI s.code).length ≤ 120 := by have := chain_len hch; omega
 obtain ⟨g, cp, N, ta, tc, rfl, hg1, hg2, z0, z1, z2, hN, z3, z4, hto⟩ := hA2.at hxi
 obtain ⟨g', cp', e', hRI, _⟩ := hA2.rins (by omega)
 injection e' with e1 e2 e3
 injection e1 with e1
 injection e1 with e1
 subst e1
 have HPL := hidc hRI.places
 have HN := hidc hN
 have HTO := hidc hto
 have HQ1 := hidc (HQa.out.below hb1 hBa)
 have HK1 := hidc (HKa.out.trans (KR.below hb1))
 have hs1 := hb1.size
 replace c3 := ((bcell hb1).1 M 3 hMa).trans c3
 have hM1 : M < w1.heap.size := by omega
 have HR1 := hidc (HR.out _ rfl)
 have HSM : Hid (stepM S d m = if m.gas < costT (nowI S m).op then { m with fin := some 2 } else doI S d (nowI S m) (paidM (nowI S m) m)) := rfl
 have HTM : Hid (toldM S m = if m.gas < costT (nowI S m).op then [] else [tellM m]) := rfl
 have HID := hidc hidx
 have HIL := hidc hil
 clear hb1 hA2 hA hch HSP hxi hpl HX e2 e3 hRI hN hto HR hidx
 replace z1 : w1.cell? ⟨g, i * 5 + 1, none⟩ = some (.int .i64 18) := by rw [z1, hop]; rfl
 have HCO : Hid (costT (nowI S m).op = 3) := by
  show costT (nowI S m).op = 3
  rw [hop]; rfl
 have HOP := hidc hop
 clear hop
 generalize nowI S m = x at *
 generalize stepM S d m = sm at *
 generalize toldM S m = tm at *
 generalize codeI s.code = l at *
 go_wp2_with fail
 refine (ref_begins g cp l (m.pl : Nat) w1 HPL.out hll).mono ?_
 rintro e w1' ⟨rfl, hw1⟩
 subst hw1
 rw [HID.out]
 have c2 := HQ1.out.c2
 have c4 := HQ1.out.c4
 have c5 := HQ1.out.c5
 have c27 := HQ1.out.c27
 have c28 := HQ1.out.c28
 have c29 := HQ1.out.c29
 obtain ⟨sa, sc, hsv⟩ := row_form HQ1.out.st
 obtain ⟨ea, ec, hev⟩ := row_form HQ1.out.te
 rw [hsv] at c5
 rw [hev] at c29
 have HEV := hidc hev
 have f27 := HQ1.out.froz 27
 have f28 := HQ1.out.froz 28
 clear hsv hev
 have hnil : ∀ k, V.te.ownBlock = some k → k < wa.heap.size := fun k hk => (HQa.out.te.lt k hk).2
 have HNIL := hidc hnil
 clear hnil
 by_cases hgs : m.gas < 3
 ·go_wp2_with fail
  have HQe := hidc (HQ1.out.below (boxB w1' (.cells #[.int .i64 (x.pl : Nat), .int .i64 18, .int .i64 N, .slice ta x.to.length tc, .int .i64 (x.nx : Nat)] 129)) (by omega))
  refine (run_ends ⟨_, HQe.out⟩ (by simp; omega) 2).mono ?_
  rintro e w5 ⟨rfl, hm5, hB5, hk5, hs5⟩
  have HM5 := hidc hm5
  have HK5 := hidc ((HK1.out.trans (KR.below (boxB w1' (.cells #[.int .i64 (x.pl : Nat), .int .i64 18, .int .i64 N, .slice ta x.to.length tc, .int .i64 (x.nx : Nat)] 129)))).trans hk5)
  clear hm5 hk5
  go_wp2_with fail
  go_end0
  have e1 : sm = { m with fin := some 2 } := by rw [HSM.out, HCO.out, if_pos hgs]
  have e2 : tm = [] := by rw [HTM.out, HCO.out, if_pos hgs]
  rw [e1, e2, List.append_nil]
  exact ⟨_, .inl rfl, rfl, HM5.out, hB5, HK5.out, by simp at hs5; omega⟩
 ·go_wp2_with fail
  have hgv : (m.gas : Int) - 3 = ((m.gas - 3 : Nat) : Int) := by omega
  have hstv : (m.steps : Int) + 1 = ((m.steps + 1 : Nat) : Int) := by omega
  rw [hgv, hstv]
  clear hgv hstv
  have hwz : ((w1'.setCell ⟨M, 27, none⟩ (.int .i64 ((m.gas - 3 : Nat) : Int))).setCell ⟨M, 28, none⟩ (.int .i64 ((m.steps + 1 : Nat) : Int))).heap.size = w1'.heap.size := by simp [World.setCell]
  have hB1 : B ≤ w1'.heap.size := by omega
  have HQb := hidc (((HQ1.out.set_gas (m.gas - 3)).set_steps (m.steps + 1)).below (boxB _ (.cells #[.int .i64 (x.pl : Nat), .int .i64 18, .int .i64 N, .slice ta x.to.length tc, .int .i64 (x.nx : Nat)] 129)) (by rw [hwz]; exact hB1))
  have HKb := hidc ((HK1.out.trans ((HQ1.out.kr 27 (.int .i64 ((m.gas - 3 : Nat) : Int))).trans ((HQ1.out.set_gas (m.gas - 3)).kr 28 (.int .i64 ((m.steps + 1 : Nat) : Int))))).trans (KR.below (boxB _ (.cells #[.int .i64 (x.pl : Nat), .int .i64 18, .int .i64 N, .slice ta x.to.length tc, .int .i64 (x.nx : Nat)] 129))))
  have HXb : Hid ((((w1'.setCell ⟨M, 27, none⟩ (.int .i64 ((m.gas - 3 : Nat) : Int))).setCell ⟨M, 28, none⟩ (.int .i64 ((m.steps + 1 : Nat) : Int))).alloc (.cells #[.int .i64 (x.pl : Nat), .int .i64 18, .int .i64 N, .slice ta x.to.length tc, .int .i64 (x.nx : Nat)] 129)).heap[w1'.heap.size]? = some (.cells #[.int .i64 (x.pl : Nat), .int .i64 18, .int .i64 N, .slice ta x.to.length tc, .int .i64 (x.nx : Nat)] 129 (0, 0))) := by
   have := heap_alloc_new ((w1'.setCell ⟨M, 27, none⟩ (.int .i64 ((m.gas - 3 : Nat) : Int))).setCell ⟨M, 28, none⟩ (.int .i64 ((m.steps + 1 : Nat) : Int))) (.cells #[.int .i64 (x.pl : Nat), .int .i64 18, .int .i64 N, .slice ta x.to.length tc, .int .i64 (x.nx : Nat)] 129)
   rw [hwz] at this
   exact this
  have HTb : Hid (∀ j t, x.to[j]? = some t → ∃ q, ta = some ⟨q, 0, none⟩ ∧ wa.heap.size ≤ q ∧ q < w1'.heap.size ∧ (((w1'.setCell ⟨M, 27, none⟩ (.int .i64 ((m.gas - 3 : Nat) : Int))).setCell ⟨M, 28, none⟩ (.int .i64 ((m.steps + 1 : Nat) : Int))).alloc (.cells #[.int .i64 (x.pl : Nat), .int .i64 18, .int .i64 N, .slice ta x.to.length tc, .int .i64 (x.nx : Nat)] 129)).cell? ⟨q, j, none⟩ = some (.int .i64 t)) := by
   intro j t hj
   obtain ⟨q, a1, a2, a3, a4⟩ := HTO.out j t hj
   exact ⟨q, a1, a2, a3, (cell_al _ (by rw [hwz]; exact a3)).trans ((set_other _ (show q ≠ M by omega)).trans ((set_other _ (show q ≠ M by omega)).trans a4))⟩
  have hsb : w1'.heap.size < (((w1'.setCell ⟨M, 27, none⟩ (.int .i64 ((m.gas - 3 : Nat) : Int))).setCell ⟨M, 28, none⟩ (.int .i64 ((m.steps + 1 : Nat) : Int))).alloc (.cells #[.int .i64 (x.pl : Nat), .int .i64 18, .int .i64 N, .slice ta x.to.length tc, .int .i64 (x.nx : Nat)] 129)).heap.size := by simp [World.setCell]
  clear c2 c3 c4 c5 c27 c28 c29 f27 f28 z0 z1 z2 z3 z4 HQ1 HK1 HTO HPL hwz HID HIL
  generalize (((w1'.setCell ⟨M, 27, none⟩ (.int .i64 ((m.gas - 3 : Nat) : Int))).setCell ⟨M, 28, none⟩ (.int .i64 ((m.steps + 1 : Nat) : Int))).alloc (.cells #[.int .i64 (x.pl : Nat), .int .i64 18, .int .i64 N, .slice ta x.to.length tc, .int .i64 (x.nx : Nat)] 129)) = wb at *
  have c2 := HQb.out.c2
  have c3 := HQb.out.c3
  have c4 := HQb.out.c4
  have c5 := HQb.out.c5
  have c29 := HQb.out.c29
  rw [HEV.out] at c29
  obtain ⟨sa', sc', hsv'⟩ := row_form HQb.out.st
  rw [hsv'] at c5
  clear hsv'
  dsimp only at c2 c3 c4 c5
  have hsm := HR1.out.small
  have hsmb : m.st.length ≤ 100 := hsm
  have hbb : m.base ≤ m.st.length := HR1.out.good.base
  clear hsm
  have hw1 : IntKind.i64.wrap ((m.st.length : Int) - m.base) = (m.st.length : Int) - m.base := by rw [IntKind.wrap_i64]; omega
  have hMb : M < wb.heap.size := by omega
  have hBb : B ≤ wb.heap.size := by omega
  refine wp_region_held_drew (S := fun w' => w'.cell? ⟨M, 2, none⟩ = some (.int .i64 (m.sec : Nat)) ∧ w'.cell? ⟨M, 3, none⟩ = some (.int .i64 (m.pl : Nat)) ∧ w'.cell? ⟨M, 4, none⟩ = some (.int .i64 (m.base : Nat)) ∧ w'.cell? ⟨M, 5, none⟩ = some (.slice sa' m.st.length sc')) (by kernel_rfl) ⟨c2, c3, c4, c5⟩ (fun hHeld => ?_)
  have HQd := hidc (HQb.out.below ((Below.refl _ _).drew) hBb)
  have HKd : Hid (KR w wb.drew) := HKb.out.trans (KR.below ((Below.refl _ _).drew))
  have HXd : Hid (wb.drew.heap[w1'.heap.size]? = some (.cells #[.int .i64 (x.pl : Nat), .int .i64 18, .int .i64 N, .slice ta x.to.length tc, .int .i64 (x.nx : Nat)] 129 (0, 0))) := HXb.out
  have HTd : Hid (∀ j t, x.to[j]? = some t → ∃ q, ta = some ⟨q, 0, none⟩ ∧ wa.heap.size ≤ q ∧ q < w1'.heap.size ∧ wb.drew.cell? ⟨q, j, none⟩ = some (.int .i64 t)) := HTb.out
  replace c2 : wb.drew.cell? ⟨M, 2, none⟩ = some (.int .i64 (m.sec : Nat)) := c2
  replace c3 : wb.drew.cell? ⟨M, 3, none⟩ = some (.int .i64 (m.pl : Nat)) := c3
  replace c4 : wb.drew.cell? ⟨M, 4, none⟩ = some (.int .i64 (m.base : Nat)) := c4
  replace c5 : wb.drew.cell? ⟨M, 5, none⟩ = some (.slice sa' m.st.length sc') := c5
  replace c29 : wb.drew.cell? ⟨M, 29, none⟩ = some (.slice ea T.length ec) := c29
  replace hMb : M < wb.drew.heap.size := hMb
  replace hBb : B ≤ wb.drew.heap.size := hBb
  replace hsb : w1'.heap.size < wb.drew.heap.size := hsb
  clear HQb HKb HXb HTb
  generalize wb.drew = wd at *
  have HQa2 := hidc (HQd.out.below (boxB wd (.cells #[.int .i64 (m.sec : Nat), .int .i64 (m.pl : Nat), .int .i64 ((m.st.length : Int) - m.base)] 63)) hBb)
  have HFa : Hid ((wd.alloc (.cells #[.int .i64 (m.sec : Nat), .int .i64 (m.pl : Nat), .int .i64 ((m.st.length : Int) - m.base)] 63)).ownsRow B 63 3 (.slice ea T.length ec) T.length (tV T)) := by
   have := HQa2.out.te
   rw [HEV.out] at this
   exact this
  refine tk 0 ?vc0 rfl ?hyc0 hHeld ?restc0
  case hyc0 => rintro w ⟨q0, q1, q2, q3⟩; go_simp; try with_reducible rfl
  simp only [Act.put, aA, aB, aC, aD, aE]
  refine tk 1 ?vc1 rfl ?hyc1 hHeld ?restc1
  case hyc1 => rintro w ⟨q0, q1, q2, q3⟩; go_simp; try with_reducible rfl
  simp only [Act.put, aA, aB, aC, aD, aE, aF]
  refine tk 2 ?vc2 rfl ?hyc2 hHeld ?restc2
  case hyc2 => rintro w ⟨q0, q1, q2, q3⟩; go_simp; try with_reducible rfl
  simp only [Act.put, aA, aB, aC, aD, aE, aF]
  refine tk 3 ?vc3 rfl ?hyc3 hHeld ?restc3
  case hyc3 => rintro w ⟨q0, q1, q2, q3⟩; go_simp; try with_reducible rfl
  simp only [Act.put, aA, aB, aC, aD, aE, aF]
  refine tk 5 ?vc5 rfl ?hyc5 hHeld ?restc5
  case hyc5 => rintro w ⟨q0, q1, q2, q3⟩; go_simp; try with_reducible rfl
  simp only [Act.put, aA, aB, aC, aD, aE, aF]
  refine tk 6 ?vc6 rfl ?hyc6 hHeld ?restc6
  case hyc6 => rintro w ⟨q0, q1, q2, q3⟩; go_simp; try with_reducible rfl
  simp only [Act.put, aA, aB, aC, aD, aE, aF]
  refine tk 7 ?vc7 rfl ?hyc7 hHeld ?restc7
  case hyc7 => rintro w ⟨q0, q1, q2, q3⟩; go_simp; try with_reducible rfl
  simp only [Act.put, aA, aB, aC, aD, aE, aF]
  refine tk 8 ?vc8 rfl ?hyc8 hHeld ?restc8
  case hyc8 => rintro w ⟨q0, q1, q2, q3⟩; go_simp; try with_reducible rfl
  simp only [Act.put, aA, aB, aC, aD, aE, aF]
  refine tk 9 ?vc9 rfl ?hyc9 hHeld ?restc9
  case hyc9 => rintro w ⟨q0, q1, q2, q3⟩; go_simp; try with_reducible rfl
  simp only [Act.put, aA, aB, aC, aD, aE, aF]
  refine tk 10 ?vc10 rfl ?hyc10 hHeld ?restc10
  case hyc10 => rintro w ⟨q0, q1, q2, q3⟩; go_simp; try with_reducible rfl
  simp only [Act.put, aA, aB, aC, aD, aE, aF]
  refine tk 11 ?vc11 rfl ?hyc11 hHeld ?restc11
  case hyc11 => rintro w ⟨q0, q1, q2, q3⟩; go_simp; try with_reducible rfl
  simp only [Act.put, aA, aB, aC, aD, aE, aF]
  refine tk 12 ?vc12 rfl ?hyc12 hHeld ?restc12
  case hyc12 => rintro w ⟨q0, q1, q2, q3⟩; go_simp; try with_reducible rfl
  simp only [Act.put, aA, aB, aC, aD, aE, aF]
  refine tk 13 ?vc13 rfl ?hyc13 hHeld ?restc13
  case hyc13 => rintro w ⟨q0, q1, q2, q3⟩; go_simp; try with_reducible rfl
  simp only [Act.put, aA, aB, aC, aD, aE, aF]
  refine tk 14 ?vc14 rfl ?hyc14 hHeld ?restc14
  case hyc14 => rintro w ⟨q0, q1, q2, q3⟩; go_simp; try with_reducible rfl
  simp only [Act.put, aA, aB, aC, aD, aE, aF]
  refine tk 15 ?vc15 rfl ?hyc15 hHeld ?restc15
  case hyc15 => rintro w ⟨q0, q1, q2, q3⟩; go_simp; try with_reducible rfl
  simp only [Act.put, aA, aB, aC, aD, aE, aF]
  refine tk 16 ?vc16 rfl ?hyc16 hHeld ?restc16
  case hyc16 => rintro w ⟨q0, q1, q2, q3⟩; go_simp; try with_reducible rfl
  simp only [Act.put, aA, aB, aC, aD, aE, aF]
  refine tk 17 ?vc17 rfl ?hyc17 hHeld ?restc17
  case hyc17 => rintro w ⟨q0, q1, q2, q3⟩; go_simp; try with_reducible rfl
  simp only [Act.put, aA, aB, aC, aD, aE, aF]
  refine tk 18 ?vc18 rfl ?hyc18 hHeld ?restc18
  case hyc18 => rintro w ⟨q0, q1, q2, q3⟩; go_simp; try with_reducible rfl
  simp only [Act.put, aA, aB, aC, aD, aE, aF]
  refine tk 19 ?vc19 rfl ?hyc19 hHeld ?restc19
  case hyc19 => rintro w ⟨q0, q1, q2, q3⟩; go_simp; try with_reducible rfl
  simp only [Act.put, aA, aB, aC, aD, aE, aF]
  refine tk 20 ?vc20 rfl ?hyc20 hHeld ?restc20
  case hyc20 => rintro w ⟨q0, q1, q2, q3⟩; go_simp; try with_reducible rfl
  simp only [Act.put, aA, aB, aC, aD, aE, aF]
  refine tk 21 ?vc21 rfl ?hyc21 hHeld ?restc21
  case hyc21 => rintro w ⟨q0, q1, q2, q3⟩; go_simp; try with_reducible rfl
  simp only [Act.put, aA, aB, aC, aD, aE, aF]
  refine tk 22 (.int .i64 ((m.st.length : Int) - m.base)) rfl ?hyc22 hHeld ?restc22
  case hyc22 => rintro w ⟨q0, q1, q2, q3⟩; go_simp; try with_reducible rfl
  simp only [Act.put, aA, aB, aC, aD, aE, aF]
  refine tk 23 ?vc23 rfl ?hyc23 hHeld ?restc23
  case hyc23 => rintro w ⟨q0, q1, q2, q3⟩; go_simp; try with_reducible rfl
  simp only [Act.put, aA, aB, aC, aD, aE, aF]
  refine wpAnyH_ready (rs := [4, 24]) (by kernel_rfl) (by simp) ?_
  refine AllReadyH.cons (i := 4) rfl (fun K hK => ?ga4) (AllReadyH.cons (i := 24) rfl (fun K hK => ?ga24) AllReadyH.nil)
  case ga4 =>
   simp only [aD, aE, aF]
   go_simp
   refine hK.out _ _ ⟨c2, c3, c4, c5⟩ (fun hHeld => ?_)
   clear hK
   refine rd 24 rfl (fun K hK => ?_)
   simp only [aD, aE, aF]
   go_simp
   refine hK.out _ _ ⟨(cell_al _ hMb).trans c2, (cell_al _ hMb).trans c3, (cell_al _ hMb).trans c4, (cell_al _ hMb).trans c5⟩ (fun hHeld => ?_)
   clear hK
   refine rd 25 rfl (fun K hK => ?_)
   refine step_append_lies _ rfl _ _ 33 rfl B 63 iz (.agg #[.int .i64 0, .int .i64 0, .int .i64 0]) 3 24 Tryz.underlying33 hiz hzz0 hzz1 hzz2 rfl (by decide) (.slice ea T.length ec) T.length (tV T) rfl HFa.out ⟨wd.heap.size, 0, none⟩ 1 1 [.int .i64 (m.sec : Nat), .int .i64 (m.pl : Nat), .int .i64 ((m.st.length : Int) - m.base)] rfl rfl (newsT _ _ _ _ _ rfl) (oneF _ _ _) (by decide) (by unfold maxLen; omega) (by omega) (by simp; omega) _ rfl ?_
   intro ga ca w5 hown5 hgrow5 hat5 hlt5
   have hl5 : (T ++ [tellM m]).length = T.length + 1 := by rw [List.length_append]; rfl
   have hown' : w5.ownsRow B 63 3 (.slice (some ⟨ga, 0, none⟩) (T ++ [tellM m]).length ca) (T ++ [tellM m]).length (tV (T ++ [tellM m])) := by
    rw [hl5, tV_append]
    exact hown5
   rw [← HEV.out] at hgrow5 hat5
   have HG := hidc (HQa2.out.grow_te (by simp; omega) ga ca (T ++ [tellM m]) hgrow5 hown' (by simpa using hat5))
   rw [hl5] at HG
   have hB5 : B ≤ w5.heap.size := by have := hgrow5.size; simp at this; omega
   have hS5 : wd.heap.size < w5.heap.size := by have := hgrow5.size; simp at this; omega
   obtain ⟨hc5, ⟨cs5, e5, _⟩, _⟩ := HQa2.out.grown hgrow5 (by simp; omega) (fun k hk => (HQa2.out.te.lt k hk).1)
   have HKr := hidc ((KR.below (boxB wd (.cells #[.int .i64 (m.sec : Nat), .int .i64 (m.pl : Nat), .int .i64 ((m.st.length : Int) - m.base)] 63))).trans (KR.grown HQa2.out.te hgrow5 (.inr (.inr rfl))))
   have hx5 : w5.heap[w1'.heap.size]? = some (.cells #[.int .i64 (x.pl : Nat), .int .i64 18, .int .i64 N, .slice ta x.to.length tc, .int .i64 (x.nx : Nat)] 129 (0, 0)) := HKr.out _ _ _ _ HXd.out (by decide) (by decide) (by decide) (by decide)
   have HT5 : Hid (∀ j t, x.to[j]? = some t → ∃ q, ta = some ⟨q, 0, none⟩ ∧ q < w5.heap.size ∧ q ≠ M ∧ w5.cell? ⟨q, j, none⟩ = some (.int .i64 t)) := by
    intro j t hj
    obtain ⟨q, a1, a2, a3, a4⟩ := HTd.out j t hj
    have hqd : q < wd.heap.size := by omega
    refine ⟨q, a1, by omega, by omega, ?_⟩
    refine (World.cell?_of_block (w := wd.alloc (.cells #[.int .i64 (m.sec : Nat), .int .i64 (m.pl : Nat), .int .i64 ((m.st.length : Int) - m.base)] 63)) (hgrow5.block q (by simp; omega) (fun e => ?_))).trans ((cell_al _ hqd).trans a4)
    have := HNIL.out q e.symm
    omega
   have xq0 : w5.cell? ⟨w1'.heap.size, 0, none⟩ = some (.int .i64 (x.pl : Nat)) := cell_of_block hx5 0
   have xq1 : w5.cell? ⟨w1'.heap.size, 1, none⟩ = some (.int .i64 18) := cell_of_block hx5 1
   have xq2 : w5.cell? ⟨w1'.heap.size, 2, none⟩ = some (.int .i64 N) := cell_of_block hx5 2
   have xq3 : w5.cell? ⟨w1'.heap.size, 3, none⟩ = some (.slice ta x.to.length tc) := cell_of_block hx5 3
   have xq4 : w5.cell? ⟨w1'.heap.size, 4, none⟩ = some (.int .i64 (x.nx : Nat)) := cell_of_block hx5 4
   have hxM : w1'.heap.size ≠ M := by omega
   have HK5 : Hid (KR wd (w5.setCell ⟨M, 29, none⟩ (.slice (some ⟨ga, 0, none⟩) (T.length + 1) ca))) := HKr.out.trans (KR.setTy e5 (.inl rfl) _ _)
   have c295 : w5.cell? ⟨M, 29, none⟩ = some V.te := (hc5 29).trans HQa2.out.c29
   have f295 : w5.frozen? ⟨M, 29, none⟩ = false := unfrozen_of_block e5 29
   have c25 := (hc5 2).trans HQa2.out.c2
   have c35 := (hc5 3).trans HQa2.out.c3
   have c45 := (hc5 4).trans HQa2.out.c4
   have c55 : w5.cell? ⟨M, 5, none⟩ = some (.slice sa' m.st.length sc') := (hc5 5).trans ((cell_al _ hMb).trans c5)
   dsimp only at c25 c35 c45
   have f35 : w5.frozen? ⟨M, 3, none⟩ = false := unfrozen_of_block e5 3
   have hM5 : M < w5.heap.size := by omega
   have hX5 : w1'.heap.size < w5.heap.size := blt hx5
   clear hown5 hgrow5 hat5 hlt5 hown' hc5 e5 hl5 hx5
   refine hK.out _ _ ⟨c25, c35, c45, c55⟩ (fun hHeld => ?_)
   clear hK
   refine tk 26 ?vu26 rfl ?hyu26 hHeld ?restu26
   case hyu26 => rintro w ⟨q0, q1, q2, q3⟩; go_simp; try with_reducible rfl
   simp only [Act.put, aA, aB, aC, aD, aE, aF]
   refine tk 27 ?vu27 rfl ?hyu27 hHeld ?restu27
   case hyu27 => rintro w ⟨q0, q1, q2, q3⟩; go_simp; try with_reducible rfl
   simp only [Act.put, aA, aB, aC, aD, aE, aF]
   refine rd 28 rfl (fun K hK => ?_)
   simp only [aD, aE, aF]
   go_simp
   refine hK.out _ _ ⟨(mset_other (adne (by omega))).trans c25, (mset_other (adne (by omega))).trans c35, (mset_other (adne (by omega))).trans c45, (mset_other (adne (by omega))).trans c55⟩ (fun hHeld => ?_)
   clear hK hHeld
   refine wpAnyH_done (by kernel_rfl) ?_ _
   have HE1 : Hid (sm = doI S d x (paidM x m)) := by
    show sm = doI S d x (paidM x m)
    rw [HSM.out, HCO.out, if_neg hgs]
   have HE2 : Hid (tm = [tellM m]) := by
    show tm = [tellM m]
    rw [HTM.out, HCO.out, if_neg hgs]
   have HQf : Hid (RumX w0 ((w5.setCell ⟨M, 29, none⟩ (.slice (some ⟨ga, 0, none⟩) (T.length + 1) ca)).setCell ⟨M, 3, none⟩ (.int .i64 (x.nx : Nat))) M B (.slice (some ⟨b, off, none⟩) S.length cap) d (paidM x m) (T ++ [tellM m])) := by
    refine ⟨{ V with te := .slice (some ⟨ga, 0, none⟩) (T.length + 1) ca }, ?_⟩
    have := HG.out.set_pl x.nx
    unfold paidM
    rw [HCO.out]
    exact this
   have HKf : Hid (KR w ((w5.setCell ⟨M, 29, none⟩ (.slice (some ⟨ga, 0, none⟩) (T.length + 1) ca)).setCell ⟨M, 3, none⟩ (.int .i64 (x.nx : Nat)))) := HKd.out.trans (HK5.out.trans (HG.out.kr 3 _))
   have hsf : ((w5.setCell ⟨M, 29, none⟩ (.slice (some ⟨ga, 0, none⟩) (T.length + 1) ca)).setCell ⟨M, 3, none⟩ (.int .i64 (x.nx : Nat))).heap.size = w5.heap.size := by simp [World.setCell]
   have HBf : Hid (B ≤ ((w5.setCell ⟨M, 29, none⟩ (.slice (some ⟨ga, 0, none⟩) (T.length + 1) ca)).setCell ⟨M, 3, none⟩ (.int .i64 (x.nx : Nat))).heap.size) := by
    show B ≤ _
    rw [hsf]; exact hB5
   have HTf : Hid (TosN ((w5.setCell ⟨M, 29, none⟩ (.slice (some ⟨ga, 0, none⟩) (T.length + 1) ca)).setCell ⟨M, 3, none⟩ (.int .i64 (x.nx : Nat))) M ta x.to) := by
    intro j t hj
    obtain ⟨q, a1, a2, a3, a4⟩ := HT5.out j t hj
    exact ⟨q, a1, by rw [hsf]; exact a2, a3, (set_other _ a3).trans ((set_other _ a3).trans a4)⟩
   have HSF : Hid (w.heap.size ≤ ((w5.setCell ⟨M, 29, none⟩ (.slice (some ⟨ga, 0, none⟩) (T.length + 1) ca)).setCell ⟨M, 3, none⟩ (.int .i64 (x.nx : Nat))).heap.size) := by
    show w.heap.size ≤ _
    rw [hsf]; omega
   clear hsf HG HK5 HT5 HKr HFa HQa2 HQd HKd HXd HTd HSM HTM c2 c3 c4 c5 c29 c25 c45 c55
   have HO := HOP
   go_wp2_with fail
   have HC := hidc (run_do_sections HR1.out HQf.out HBf.out ta tc N HN.out b off cap rfl HS.out hbB hbM (by rw [HO.out]; decide))
   rw [HO.out] at HC
   refine HC.out.mono ?_
   rintro e w6 ⟨m', hm', rfl, hm6, hB6, hk6, hs6⟩
   have HM6 := hidc hm6
   have HK6 := hidc hk6
   clear hm6 hk6
   go_wp2_with fail
   go_end0
   have hsz := HSF.out
   rw [HE1.out, HE2.out]
   exact ⟨m', hm', rfl, HM6.out, hB6, HKf.out.trans HK6.out, Nat.le_trans hsz hs6⟩
  case ga24 =>
   simp only [aD, aE, aF]
   go_simp
   refine hK.out _ _ ⟨(cell_al _ hMb).trans c2, (cell_al _ hMb).trans c3, (cell_al _ hMb).trans c4, (cell_al _ hMb).trans c5⟩ (fun hHeld => ?_)
   clear hK
   have c29a : (wd.alloc (.cells #[.int .i64 (m.sec : Nat), .int .i64 (m.pl : Nat), .int .i64 ((m.st.length : Int) - m.base)] 63)).cell? ⟨M, 29, none⟩ = some (.slice ea T.length ec) := (cell_al _ hMb).trans c29
   refine rd 4 rfl (fun K hK => ?_)
   simp only [aD, aE, aF]
   go_simp
   refine hK.out _ _ ⟨(cell_al _ hMb).trans c2, (cell_al _ hMb).trans c3, (cell_al _ hMb).trans c4, (cell_al _ hMb).trans c5⟩ (fun hHeld => ?_)
   clear hK
   refine rd 25 rfl (fun K hK => ?_)
   refine step_append_lies _ rfl _ _ 33 rfl B 63 iz (.agg #[.int .i64 0, .int .i64 0, .int .i64 0]) 3 24 Tryz.underlying33 hiz hzz0 hzz1 hzz2 rfl (by decide) (.slice ea T.length ec) T.length (tV T) rfl HFa.out ⟨wd.heap.size, 0, none⟩ 1 1 [.int .i64 (m.sec : Nat), .int .i64 (m.pl : Nat), .int .i64 ((m.st.length : Int) - m.base)] rfl rfl (newsT _ _ _ _ _ rfl) (oneF _ _ _) (by decide) (by unfold maxLen; omega) (by omega) (by simp; omega) _ rfl ?_
   intro ga ca w5 hown5 hgrow5 hat5 hlt5
   have hl5 : (T ++ [tellM m]).length = T.length + 1 := by rw [List.length_append]; rfl
   have hown' : w5.ownsRow B 63 3 (.slice (some ⟨ga, 0, none⟩) (T ++ [tellM m]).length ca) (T ++ [tellM m]).length (tV (T ++ [tellM m])) := by
    rw [hl5, tV_append]
    exact hown5
   rw [← HEV.out] at hgrow5 hat5
   have HG := hidc (HQa2.out.grow_te (by simp; omega) ga ca (T ++ [tellM m]) hgrow5 hown' (by simpa using hat5))
   rw [hl5] at HG
   have hB5 : B ≤ w5.heap.size := by have := hgrow5.size; simp at this; omega
   have hS5 : wd.heap.size < w5.heap.size := by have := hgrow5.size; simp at this; omega
   obtain ⟨hc5, ⟨cs5, e5, _⟩, _⟩ := HQa2.out.grown hgrow5 (by simp; omega) (fun k hk => (HQa2.out.te.lt k hk).1)
   have HKr := hidc ((KR.below (boxB wd (.cells #[.int .i64 (m.sec : Nat), .int .i64 (m.pl : Nat), .int .i64 ((m.st.length : Int) - m.base)] 63))).trans (KR.grown HQa2.out.te hgrow5 (.inr (.inr rfl))))
   have hx5 : w5.heap[w1'.heap.size]? = some (.cells #[.int .i64 (x.pl : Nat), .int .i64 18, .int .i64 N, .slice ta x.to.length tc, .int .i64 (x.nx : Nat)] 129 (0, 0)) := HKr.out _ _ _ _ HXd.out (by decide) (by decide) (by decide) (by decide)
   have HT5 : Hid (∀ j t, x.to[j]? = some t → ∃ q, ta = some ⟨q, 0, none⟩ ∧ q < w5.heap.size ∧ q ≠ M ∧ w5.cell? ⟨q, j, none⟩ = some (.int .i64 t)) := by
    intro j t hj
    obtain ⟨q, a1, a2, a3, a4⟩ := HTd.out j t hj
    have hqd : q < wd.heap.size := by omega
    refine ⟨q, a1, by omega, by omega, ?_⟩
    refine (World.cell?_of_block (w := wd.alloc (.cells #[.int .i64 (m.sec : Nat), .int .i64 (m.pl : Nat), .int .i64 ((m.st.length : Int) - m.base)] 63)) (hgrow5.block q (by simp; omega) (fun e => ?_))).trans ((cell_al _ hqd).trans a4)
    have := HNIL.out q e.symm
    omega
   have xq0 : w5.cell? ⟨w1'.heap.size, 0, none⟩ = some (.int .i64 (x.pl : Nat)) := cell_of_block hx5 0
   have xq1 : w5.cell? ⟨w1'.heap.size, 1, none⟩ = some (.int .i64 18) := cell_of_block hx5 1
   have xq2 : w5.cell? ⟨w1'.heap.size, 2, none⟩ = some (.int .i64 N) := cell_of_block hx5 2
   have xq3 : w5.cell? ⟨w1'.heap.size, 3, none⟩ = some (.slice ta x.to.length tc) := cell_of_block hx5 3
   have xq4 : w5.cell? ⟨w1'.heap.size, 4, none⟩ = some (.int .i64 (x.nx : Nat)) := cell_of_block hx5 4
   have hxM : w1'.heap.size ≠ M := by omega
   have HK5 : Hid (KR wd (w5.setCell ⟨M, 29, none⟩ (.slice (some ⟨ga, 0, none⟩) (T.length + 1) ca))) := HKr.out.trans (KR.setTy e5 (.inl rfl) _ _)
   have c295 : w5.cell? ⟨M, 29, none⟩ = some V.te := (hc5 29).trans HQa2.out.c29
   have f295 : w5.frozen? ⟨M, 29, none⟩ = false := unfrozen_of_block e5 29
   have c25 := (hc5 2).trans HQa2.out.c2
   have c35 := (hc5 3).trans HQa2.out.c3
   have c45 := (hc5 4).trans HQa2.out.c4
   have c55 : w5.cell? ⟨M, 5, none⟩ = some (.slice sa' m.st.length sc') := (hc5 5).trans ((cell_al _ hMb).trans c5)
   dsimp only at c25 c35 c45
   have f35 : w5.frozen? ⟨M, 3, none⟩ = false := unfrozen_of_block e5 3
   have hM5 : M < w5.heap.size := by omega
   have hX5 : w1'.heap.size < w5.heap.size := blt hx5
   clear hown5 hgrow5 hat5 hlt5 hown' hc5 e5 hl5 hx5
   refine hK.out _ _ ⟨c25, c35, c45, c55⟩ (fun hHeld => ?_)
   clear hK
   refine tk 26 ?vv26 rfl ?hyv26 hHeld ?restv26
   case hyv26 => rintro w ⟨q0, q1, q2, q3⟩; go_simp; try with_reducible rfl
   simp only [Act.put, aA, aB, aC, aD, aE, aF]
   refine tk 27 ?vv27 rfl ?hyv27 hHeld ?restv27
   case hyv27 => rintro w ⟨q0, q1, q2, q3⟩; go_simp; try with_reducible rfl
   simp only [Act.put, aA, aB, aC, aD, aE, aF]
   refine rd 28 rfl (fun K hK => ?_)
   simp only [aD, aE, aF]
   go_simp
   refine hK.out _ _ ⟨(mset_other (adne (by omega))).trans c25, (mset_other (adne (by omega))).trans c35, (mset_other (adne (by omega))).trans c45, (mset_other (adne (by omega))).trans c55⟩ (fun hHeld => ?_)
   clear hK hHeld
   refine wpAnyH_done (by kernel_rfl) ?_ _
   have HE1 : Hid (sm = doI S d x (paidM x m)) := by
    show sm = doI S d x (paidM x m)
    rw [HSM.out, HCO.out, if_neg hgs]
   have HE2 : Hid (tm = [tellM m]) := by
    show tm = [tellM m]
    rw [HTM.out, HCO.out, if_neg hgs]
   have HQf : Hid (RumX w0 ((w5.setCell ⟨M, 29, none⟩ (.slice (some ⟨ga, 0, none⟩) (T.length + 1) ca)).setCell ⟨M, 3, none⟩ (.int .i64 (x.nx : Nat))) M B (.slice (some ⟨b, off, none⟩) S.length cap) d (paidM x m) (T ++ [tellM m])) := by
    refine ⟨{ V with te := .slice (some ⟨ga, 0, none⟩) (T.length + 1) ca }, ?_⟩
    have := HG.out.set_pl x.nx
    unfold paidM
    rw [HCO.out]
    exact this
   have HKf : Hid (KR w ((w5.setCell ⟨M, 29, none⟩ (.slice (some ⟨ga, 0, none⟩) (T.length + 1) ca)).setCell ⟨M, 3, none⟩ (.int .i64 (x.nx : Nat)))) := HKd.out.trans (HK5.out.trans (HG.out.kr 3 _))
   have hsf : ((w5.setCell ⟨M, 29, none⟩ (.slice (some ⟨ga, 0, none⟩) (T.length + 1) ca)).setCell ⟨M, 3, none⟩ (.int .i64 (x.nx : Nat))).heap.size = w5.heap.size := by simp [World.setCell]
   have HBf : Hid (B ≤ ((w5.setCell ⟨M, 29, none⟩ (.slice (some ⟨ga, 0, none⟩) (T.length + 1) ca)).setCell ⟨M, 3, none⟩ (.int .i64 (x.nx : Nat))).heap.size) := by
    show B ≤ _
    rw [hsf]; exact hB5
   have HTf : Hid (TosN ((w5.setCell ⟨M, 29, none⟩ (.slice (some ⟨ga, 0, none⟩) (T.length + 1) ca)).setCell ⟨M, 3, none⟩ (.int .i64 (x.nx : Nat))) M ta x.to) := by
    intro j t hj
    obtain ⟨q, a1, a2, a3, a4⟩ := HT5.out j t hj
    exact ⟨q, a1, by rw [hsf]; exact a2, a3, (set_other _ a3).trans ((set_other _ a3).trans a4)⟩
   have HSF : Hid (w.heap.size ≤ ((w5.setCell ⟨M, 29, none⟩ (.slice (some ⟨ga, 0, none⟩) (T.length + 1) ca)).setCell ⟨M, 3, none⟩ (.int .i64 (x.nx : Nat))).heap.size) := by
    show w.heap.size ≤ _
    rw [hsf]; omega
   clear hsf HG HK5 HT5 HKr HFa HQa2 HQd HKd HXd HTd HSM HTM c2 c3 c4 c5 c29 c25 c45 c55
   have HO := HOP
   go_wp2_with fail
   have HC := hidc (run_do_sections HR1.out HQf.out HBf.out ta tc N HN.out b off cap rfl HS.out hbB hbM (by rw [HO.out]; decide))
   rw [HO.out] at HC
   refine HC.out.mono ?_
   rintro e w6 ⟨m', hm', rfl, hm6, hB6, hk6, hs6⟩
   have HM6 := hidc hm6
   have HK6 := hidc hk6
   clear hm6 hk6
   go_wp2_with fail
   go_end0
   have hsz := HSF.out
   rw [HE1.out, HE2.out]
   exact ⟨m', hm', rfl, HM6.out, hB6, HKf.out.trans HK6.out, Nat.le_trans hsz hs6⟩
end Go.Proofs.YtdhmandnamajpaaGreatDoor
