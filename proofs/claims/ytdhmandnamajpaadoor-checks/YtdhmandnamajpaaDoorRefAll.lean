/-
  The reference: all.
-/
import Derived.Test.YtdhmandnamajpaaDoorCutP
import Derived.Test.YtdhmandnamajpaaDoorLookD
namespace Go.Proofs.YtdhmandnamajpaaDoor
open Go.RowKit Go.Joins

set_option maxHeartbeats 2000000
set_option maxRecDepth 4000

theorem Tryd.infoIns : (Tryd.prog.info? 79).map (fun i => (i.zero, i.size, i.bytes)) = some (some (.agg #[.int .i64 0, .int .i64 0, .int .i64 0, .slice none 0 0, .int .i64 0]), 5, 56) := by kernel_rfl

/-- all's memory: the instructions so far. -/
structure AllMem (w0 w : World) (pv : Value) (l : List Ins) (xs : List Value) : Prop where
  row : w.ownsRow w0.heap.size 79 5 pv l.length xs
  flat : ∀ k x, l[k]? = some x → xs[k * 5]? = some (.int .i64 x.pl) ∧ xs[k * 5 + 1]? = some (.int .i64 x.op) ∧ (∃ N, xs[k * 5 + 2]? = some (.int .i64 N) ∧ numsAs x N) ∧
    (∃ v, xs[k * 5 + 3]? = some v ∧ w.ownsRow w0.heap.size 3 1 v x.to.length (iV x.to)) ∧ xs[k * 5 + 4]? = some (.int .i64 x.nx)
  bel : Below w0.heap.size w0 w
theorem AllMem.below {w0 w w' : World} {pv : Value} {l : List Ins} {xs : List Value} (h : AllMem w0 w pv l xs) (hb : Below w.heap.size w w') : AllMem w0 w' pv l xs where
  row := own_below h.row hb
  flat := fun k x hk => by
    obtain ⟨a, b, c, ⟨v, e, f⟩, g⟩ := h.flat k x hk
    exact ⟨a, b, c, ⟨v, e, own_below f hb⟩, g⟩
  bel := h.bel.trans (hb.mono h.bel.size)
theorem AllMem.step {w0 w w' : World} {pv : Value} {l : List Ins} {xs : List Value} (h : AllMem w0 w pv l xs) (hg : w.grownBy w' pv.ownBlock) (pv' v : Value) (x : Ins) (N : Int) (hN : numsAs x N)
    (hrow : w'.ownsRow w0.heap.size 79 5 pv' (l.length + 1) (xs ++ [.int .i64 x.pl, .int .i64 x.op, .int .i64 N, v, .int .i64 x.nx])) (hvr : w.ownsRow w0.heap.size 3 1 v x.to.length (iV x.to)) :
    AllMem w0 w' pv' (l ++ [x]) (xs ++ [.int .i64 x.pl, .int .i64 x.op, .int .i64 N, v, .int .i64 x.nx]) where
  row := by rw [List.length_append]; exact hrow
  flat := fun k y hk => by
    have hxl : xs.length = l.length * 5 := h.row.1
    have stay : ∀ {u : Value} {to : List Int}, w.ownsRow w0.heap.size 3 1 u to.length (iV to) → w'.ownsRow w0.heap.size 3 1 u to.length (iV to) := fun hu => hu.kept hg (own_ne hu h.row (by decide))
    by_cases e : k < l.length
    · rw [List.getElem?_append_left e] at hk
      obtain ⟨a, b, ⟨M, c1, c2⟩, ⟨u, e1, f⟩, g⟩ := h.flat k y hk
      refine ⟨?_, ?_, ⟨M, ?_, c2⟩, ⟨u, ?_, stay f⟩, ?_⟩ <;> rw [List.getElem?_append_left (by omega)] <;> assumption
    · have hkl : k = l.length := by
        have := (List.getElem?_eq_some_iff.1 hk).1
        simp at this
        omega
      subst hkl
      rw [List.getElem?_append_right (Nat.le_refl _), Nat.sub_self] at hk
      have hxy : x = y := by simpa using hk
      subst hxy
      refine ⟨?_, ?_, ⟨N, ?_, hN⟩, ⟨v, ?_, stay hvr⟩, ?_⟩ <;> rw [List.getElem?_append_right (by omega), hxl]
      · rw [Nat.sub_self]; rfl
      · rw [show l.length * 5 + 1 - l.length * 5 = 1 by omega]; rfl
      · rw [show l.length * 5 + 2 - l.length * 5 = 2 by omega]; rfl
      · rw [show l.length * 5 + 3 - l.length * 5 = 3 by omega]; rfl
      · rw [show l.length * 5 + 4 - l.length * 5 = 4 by omega]; rfl
  bel := h.bel.grown hg h.bel.size (fun k hk => (h.row.lt k hk).1)

theorem newsR (w : World) (x0 x1 x2 x3 x4 : Value) (g : Nat) (hg : g = w.heap.size) : ∀ j u, [x0, x1, x2, x3, x4][j]? = some u → (w.alloc (.cells #[x0, x1, x2, x3, x4] 79)).cell? ((⟨g, 0, none⟩ : Addr).add j) = some u := by
  intro j u hj
  subst hg
  have hb : (w.alloc (.cells #[x0, x1, x2, x3, x4] 79)).heap[w.heap.size]? = some (.cells #[x0, x1, x2, x3, x4] 79 (0, 0)) := heap_alloc_new w _
  exact World.news_of_block hb j u hj
theorem oneR (x y z u : Int) (a : Option Addr) (n c : Nat) : ∀ v ∈ [Value.int .i64 x, .int .i64 y, .int .i64 z, .slice a n c, .int .i64 u], v.oneCell' = true := by
  intro v hv
  simp at hv
  rcases hv with rfl | rfl | rfl | rfl | rfl <;> rfl

/-- What all answers. -/
def AllPost (w : World) (c : ByteArray) : Ending → World → Prop := fun e w' => ∃ v, e = .returned (.tuple #[v, .int .i64 (splitE c).1, .int .i64 (splitE c).2]) ∧ Below w.heap.size w w' ∧
  ((splitE c).1 = 0 → Chain c 0 (codeI c) c.size ∧ ∃ xs, AllMem w w' v (codeI c) xs)

theorem ref_all (c : ByteArray) (w : World) (hs : c.size ≤ 120) : Calls Tryd.prog 39 #[.string c] w (AllPost w c) := by
  obtain ⟨iz, hiz, hzz0, hzz1, hzz2⟩ := info_parts Tryd.infoIns
  go_enter Tryd.func39, Tryd.ntmps39
  go_wp2_with fail
  go_loopw [5, 6] (fun pv iv wr => ∃ (p : Nat) (l : List Ins) (xs : List Value), iv = .int .i64 p ∧ Hid (Chain c 0 l p) ∧ Hid (AllMem w wr pv l xs)) (fun _ iv _ => c.size - (intOf iv).toNat)
  case atStart => exact ⟨0, [], [], rfl, rfl, ⟨⟨rfl, .inl ⟨rfl, rfl⟩⟩, fun k x hk => by simp at hk, Below.refl _ _⟩⟩
  case round =>
    obtain ⟨p, l, xs, rfl, HC, HM⟩ := hrel
    have hsz := HM.out.bel.size
    have hple : p ≤ c.size := chain_le HC.out (Nat.zero_le _)
    have hll : l.length ≤ p := by have := chain_len HC.out; omega
    obtain ⟨pa, pc, rfl⟩ := row_form HM.out.row
    by_cases hp : p < c.size
    · have hb := byte_nat c p hp
      by_cases h21 : 21 ≤ byteN c p
      · have e1 := hidc (split_stop HC.out hp (by simp [opE, h21]))
        have e2 : Hid (opE c p = 6) := by show opE c p = 6; simp [opE, h21]
        have h21' : 21 ≤ c[p].toNat := by rw [hb]; exact h21
        clear hb h21
        go_wp2_with fail
        go_ret3
        refine ⟨_, by rw [e1.out, e2.out]; rfl, HM.out.bel, fun h => ?_⟩
        rw [e1.out, e2.out] at h
        cases h
      · have h21' : ¬ 21 ≤ c[p].toNat := by rw [hb]; exact h21
        have H21 := hidc h21
        clear hb h21
        by_cases hcut : c.size < p + sizeI c p
        · have e2 : Hid (opE c p = 7) := by show opE c p = 7; have := H21.out; simp [opE, this, hcut]
          have e1 := hidc (split_stop HC.out hp (by rw [e2.out]; simp))
          have HCUT := hidc hcut
          clear hcut
          go_wp2_with fail
          refine (ref_cut_bad c p wr hp hs HCUT.out).mono ?_
          rintro e w1 ⟨v0, v1, v2, v3, v4, rfl, ⟨a3, n3, c3, rfl⟩, hb1⟩
          have HB1 := hidc (HM.out.bel.trans (hb1.mono hsz))
          have hsz1 : w.heap.size ≤ w1.heap.size := HB1.out.size
          clear hb1
          go_wp2_with fail
          go_ret3
          refine ⟨_, by rw [e1.out, e2.out]; rfl, HB1.out.alloc hsz1 _, fun h => ?_⟩
          rw [e1.out, e2.out] at h
          cases h
        · have HOP : Hid (opE c p = 0) := by show opE c p = 0; have := H21.out; simp [opE, this]; omega
          have HC2 := hidc (chain_snoc HC.out hp HOP.out)
          have HNX := hidc (show (insI c p).nx = p + sizeI c p from rfl)
          have hzp := sizeI_pos c p
          clear hcut
          go_wp2_with fail
          refine (ref_cut_ok c p wr hp hs HOP.out).mono ?_
          rintro e w1 ⟨N, va, vc, rfl, hN, hown, hb1⟩
          generalize insI c p = x at *
          have HN := hidc hN
          have HOW := hidc (own_mono hown hsz)
          have HM1 := hidc (HM.out.below hb1)
          have hsz1 : w.heap.size ≤ w1.heap.size := HM1.out.bel.size
          clear hN hown hb1
          have HMI := hidc (HM1.out.below (below2 w1 (.cells #[.int .i64 x.pl, .int .i64 x.op, .int .i64 N, .slice va x.to.length vc, .int .i64 x.nx] 79) (.cells #[.int .i64 x.pl, .int .i64 x.op, .int .i64 N, .slice va x.to.length vc, .int .i64 x.nx] 79)))
          have HOWI := hidc (own_below HOW.out (below2 w1 (.cells #[.int .i64 x.pl, .int .i64 x.op, .int .i64 N, .slice va x.to.length vc, .int .i64 x.nx] 79) (.cells #[.int .i64 x.pl, .int .i64 x.op, .int .i64 N, .slice va x.to.length vc, .int .i64 x.nx] 79)))
          go_wp2_with (at_builtin; refine wpList_append_lies _ rfl (.tmp 27) (.tmp 29) 74 rfl w.heap.size 79 iz (.agg #[.int .i64 0, .int .i64 0, .int .i64 0, .slice none 0 0, .int .i64 0]) 5 56 Tryd.underlying74 hiz hzz0 hzz1 hzz2 rfl (by decide) _ l.length xs rfl HMI.out.row ⟨w1.heap.size + 1, 0, none⟩ 1 1 [.int .i64 x.pl, .int .i64 x.op, .int .i64 N, .slice va x.to.length vc, .int .i64 x.nx] rfl rfl (newsR _ _ _ _ _ _ _ (by simp)) (oneR _ _ _ _ _ _ _) (by decide) (by unfold maxLen; omega) (by omega) (by simp; omega) _ rfl ?_)
          intro ga ca w5 hown5 hgrow5 hat5 hlt5
          have HSTEP := hidc (HMI.out.step hgrow5 _ _ x N HN.out hown5 HOWI.out)
          have hI5 : w5.heap[w1.heap.size]? = some (.cells #[.int .i64 x.pl, .int .i64 x.op, .int .i64 N, .slice va x.to.length vc, .int .i64 x.nx] 79 (0, 0)) := by
            rw [hgrow5.block w1.heap.size (by simp; omega) (fun e => by have := (HM1.out.row.lt _ e.symm).2; omega)]
            exact (Below.heap_alloc _ _ _ (by simp)).trans (heap_alloc_new w1 _)
          have d4 : w5.cell? ⟨w1.heap.size, 4, none⟩ = some (.int .i64 x.nx) := by rw [cell_of_block hI5]; rfl
          clear hown5 hgrow5 hat5 hlt5 hI5
          go_wp2_with fail
          go_roundw
          case rel => exact ⟨x.nx, l ++ [x], _, rfl, by rw [HNX.out]; exact HC2.out, HSTEP.out⟩
          case measure =>
            have := HNX.out
            simp [intOf]
            omega
    · obtain ⟨e1, e2⟩ := split_done HC.out (by omega)
      have hps : p = c.size := by omega
      go_wp2_with fail
      go_ret3
      refine ⟨_, by rw [e2]; rfl, HM.out.bel, fun _ => ?_⟩
      rw [e1]
      exact ⟨by rw [← hps]; exact HC.out, xs, HM.out⟩
end Go.Proofs.YtdhmandnamajpaaDoor
