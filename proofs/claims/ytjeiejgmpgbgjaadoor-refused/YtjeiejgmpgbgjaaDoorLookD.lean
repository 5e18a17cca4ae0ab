/-
  Package check: split.
-/
import Derived.Test.YtjeiejgmpgbgjaaDoorOpsD
import Derived.Test.YtjeiejgmpgbgjaaDoorLookC
namespace Go.Proofs.YtjeiejgmpgbgjaaDoor
open Go.RowKit Go.Joins

set_option maxHeartbeats 1000000

theorem Tryd.infoInstr : (Tryd.prog.info? 70).map (fun i => (i.zero, i.size, i.bytes)) = some (some (.agg #[.int .i64 0, .int .i64 0, .int .i64 0, .int .i64 0, .slice none 0 0]), 5, 56) := by kernel_rfl

theorem own_below {w w' : World} {B e s n : Nat} {v : Value} {xs : List Value} (h : w.ownsRow B e s v n xs) (hb : Below w.heap.size w w') : w'.ownsRow B e s v n xs :=
  ⟨h.1, h.2.imp id (fun ⟨g', cap, cur, hv, hB, hc, r⟩ => ⟨g', cap, cur, hv, hB, (hb.block g' (blt hc)).trans hc, r⟩)⟩
theorem own_ne {w : World} {B B' e e' s s' n n' : Nat} {v v' : Value} {xs xs' : List Value} (h : w.ownsRow B e s v n xs) (h' : w.ownsRow B' e' s' v' n' xs') (hne : e ≠ e') : v.ownBlock = none ∨ v.ownBlock ≠ v'.ownBlock := by
  rcases h.2 with ⟨rfl, _⟩ | ⟨g, cap, cur, rfl, _, hg, _⟩
  · exact .inl rfl
  · right
    rcases h'.2 with ⟨rfl, _⟩ | ⟨g', cap', cur', rfl, _, hg', _⟩
    · simp [Value.ownBlock]
    · intro e2
      simp [Value.ownBlock] at e2
      subst e2
      rw [hg] at hg'
      simp at hg'
      exact hne hg'.2

/-- Split's memory: the instructions so far. -/
structure SplitMem (w0 w : World) (L : Nat) (sv : Value) (s : Sec) (pv hv : Value) (l : List Ins) (xs : List Value) : Prop where
  blk : w.heap[L]? = some (.cells #[sv, .int .i64 s.i, .int .i64 s.o, .int .i64 s.m, .string s.code, pv, hv] 43 (0, 0))
  row : w.ownsRow w0.heap.size 70 5 pv l.length xs
  flat : ∀ k x, l[k]? = some x → xs[k * 5]? = some (.int .i64 x.op) ∧ xs[k * 5 + 1]? = some (.int .i64 x.pl) ∧ xs[k * 5 + 2]? = some (.int .i64 x.nx) ∧ xs[k * 5 + 3]? = some (.int .i64 x.n) ∧
    ∃ v, xs[k * 5 + 4]? = some v ∧ w.ownsRow w0.heap.size 3 1 v x.to.length (iV x.to)
  kp : Kp w0.heap.size L w0 w
theorem SplitMem.below {w0 w w' : World} {L : Nat} {sv pv hv : Value} {s : Sec} {l : List Ins} {xs : List Value} (h : SplitMem w0 w L sv s pv hv l xs) (hb : Below w.heap.size w w') : SplitMem w0 w' L sv s pv hv l xs where
  blk := keepB hb h.blk
  row := own_below h.row hb
  flat := fun k x hk => by
    obtain ⟨a, b, c, d, v, e, f⟩ := h.flat k x hk
    exact ⟨a, b, c, d, v, e, own_below f hb⟩
  kp := h.kp.trans ((Kp.of hb L).mono h.kp.size)
/-- One more. -/
theorem SplitMem.step {w0 w w' : World} {L : Nat} {sv pv hv : Value} {s : Sec} {l : List Ins} {xs : List Value} (h : SplitMem w0 w L sv s pv hv l xs) (hL : L < w0.heap.size) (hg : w.grownBy w' pv.ownBlock) (pv' v : Value) (x : Ins)
    (hrow : w'.ownsRow w0.heap.size 70 5 pv' (l.length + 1) (xs ++ [.int .i64 x.op, .int .i64 x.pl, .int .i64 x.nx, .int .i64 x.n, v])) (hvr : w.ownsRow w0.heap.size 3 1 v x.to.length (iV x.to)) :
    SplitMem w0 (w'.setCell ⟨L, 5, none⟩ pv') L sv s pv' hv (l ++ [x]) (xs ++ [.int .i64 x.op, .int .i64 x.pl, .int .i64 x.nx, .int .i64 x.n, v]) where
  blk := by
    have : w'.heap[L]? = some (.cells #[sv, .int .i64 s.i, .int .i64 s.o, .int .i64 s.m, .string s.code, pv, hv] 43 (0, 0)) := by
      rw [hg.block L (blt h.blk) ?_]
      · exact h.blk
      · intro e
        have := (h.row.lt L (by rw [e])).1
        omega
    exact block_setCell this _
  row := by rw [List.length_append]; exact own_set hrow hL _ _
  flat := fun k y hk => by
    have hxl : xs.length = l.length * 5 := h.row.1
    have stay : ∀ {u : Value} {to : List Int}, w.ownsRow w0.heap.size 3 1 u to.length (iV to) → (w'.setCell ⟨L, 5, none⟩ pv').ownsRow w0.heap.size 3 1 u to.length (iV to) := fun hu => own_set (hu.kept hg (own_ne hu h.row (by decide))) hL _ _
    by_cases e : k < l.length
    · rw [List.getElem?_append_left e] at hk
      obtain ⟨a, b, c, d, u, e1, f⟩ := h.flat k y hk
      refine ⟨?_, ?_, ?_, ?_, u, ?_, stay f⟩ <;> rw [List.getElem?_append_left (by omega)] <;> assumption
    · have hkl : k = l.length := by
        have := (List.getElem?_eq_some_iff.1 hk).1
        simp at this
        omega
      subst hkl
      rw [List.getElem?_append_right (Nat.le_refl _), Nat.sub_self] at hk
      have hxy : x = y := by simpa using hk
      subst hxy
      refine ⟨?_, ?_, ?_, ?_, v, ?_, stay hvr⟩ <;> rw [List.getElem?_append_right (by omega), hxl]
      · rw [Nat.sub_self]; rfl
      · rw [show l.length * 5 + 1 - l.length * 5 = 1 by omega]; rfl
      · rw [show l.length * 5 + 2 - l.length * 5 = 2 by omega]; rfl
      · rw [show l.length * 5 + 3 - l.length * 5 = 3 by omega]; rfl
      · rw [show l.length * 5 + 4 - l.length * 5 = 4 by omega]; rfl
  kp := (h.kp.trans (by
    refine ⟨hg.os, hg.tape, hg.output, hg.size, fun k hk hne => hg.block k (Nat.lt_of_lt_of_le hk h.kp.size) ?_⟩
    intro e
    have := (h.row.lt k (by rw [e])).1
    omega)).set _ _
/-- All instructions lie there. -/
theorem SplitMem.insAt {w0 w : World} {L H : Nat} {sv pv hv : Value} {s : Sec} {l : List Ins} {xs : List Value} (h : SplitMem w0 w L sv s pv hv l xs) (hH : H < w0.heap.size) (hl : 0 < l.length) :
    ∃ g cap, pv = .slice (some ⟨g, 0, none⟩) l.length cap ∧ w0.heap.size ≤ g ∧ InsAt w H g l := by
  rcases h.row.2 with ⟨_, e⟩ | ⟨g, cap, cur, hv', hb, hg, hc, _, hs, ht⟩
  · omega
  · refine ⟨g, cap, hv', hb, blt hg, by omega, fun k x hk => ?_⟩
    obtain ⟨a, b, c, d, v, e, f⟩ := h.flat k x hk
    have hlt : k < l.length := (List.getElem?_eq_some_iff.1 hk).1
    have get : ∀ j u, j < l.length * 5 → xs[j]? = some u → w.cell? ⟨g, j, none⟩ = some u := fun j u hj hu => by
      rw [cell_of_block hg]
      rw [← ht, List.getElem?_take_of_lt hj] at hu
      simpa using hu
    exact ⟨get _ _ (by omega) a, get _ _ (by omega) b, get _ _ (by omega) c, get _ _ (by omega) d, v, get _ _ (by omega) e, tos_of_row f hH⟩

theorem news5d (w : World) (x0 x1 x2 x3 x4 : Value) (g : Nat) (hg : g = w.heap.size) : ∀ j u, [x0, x1, x2, x3, x4][j]? = some u → (w.alloc (.cells #[x0, x1, x2, x3, x4] 70)).drew.cell? ((⟨g, 0, none⟩ : Addr).add j) = some u := by
  intro j u hj
  subst hg
  have hb : (w.alloc (.cells #[x0, x1, x2, x3, x4] 70)).drew.heap[w.heap.size]? = some (.cells #[x0, x1, x2, x3, x4] 70 (0, 0)) := heap_alloc_new w _
  exact World.news_of_block hb j u hj
theorem one5 (x y z u : Int) (a : Option Addr) (n c : Nat) : ∀ v ∈ [Value.int .i64 x, .int .i64 y, .int .i64 z, .int .i64 u, .slice a n c], v.oneCell' = true := by
  intro v hv
  simp at hv
  rcases hv with rfl | rfl | rfl | rfl | rfl <;> rfl

/-- What split answers. -/
def SplitPost (w : World) (L H : Nat) (sv : Value) (s : Sec) (hv : Value) : Ending → World → Prop := fun e w' => e = .returned (.tuple #[.int .i64 (splitE s.code).1, .int .i64 (splitE s.code).2]) ∧ Kp w.heap.size L w w' ∧
  ((splitE s.code).1 = 0 → Chain s.code 0 (codeI s.code) s.code.size ∧ ∃ g cap, w'.heap[L]? = some (.cells #[sv, .int .i64 s.i, .int .i64 s.o, .int .i64 s.m, .string s.code, .slice (some ⟨g, 0, none⟩) (codeI s.code).length cap, hv] 43 (0, 0)) ∧ w.heap.size ≤ g ∧ InsAt w' H g (codeI s.code))

theorem look_split (w : World) (L H : Nat) (sv hv : Value) (s : Sec) (hL : w.heap[L]? = some (.cells #[sv, .int .i64 s.i, .int .i64 s.o, .int .i64 s.m, .string s.code, .slice none 0 0, hv] 43 (0, 0)))
    (hR : RowsAt w) (h0 : 0 ≠ L) (hH : H < w.heap.size) (hs : 1 ≤ s.code.size ∧ s.code.size ≤ 120) :
    Calls Tryd.prog 28 #[.pointer (some ⟨L, 0, none⟩)] w (SplitPost w L H sv s hv) := by
  obtain ⟨iz, hiz, hzz0, hzz1, hzz2⟩ := info_parts Tryd.infoInstr
  have hLs := blt hL
  have HM0 : Hid (SplitMem w w L sv s (.slice none 0 0) hv [] []) := ⟨hL, ⟨rfl, .inl ⟨rfl, rfl⟩⟩, fun k x hk => by simp at hk, Kp.refl _ _ _⟩
  have HR := hidc hR
  clear hL hR
  go_enter Tryd.func28, Tryd.ntmps28
  go_wp2_with fail
  go_loopw [4] (fun i wr => ∃ (p : Nat) (l : List Ins) (pv : Value) (xs : List Value), i = .int .i64 p ∧ Hid (Chain s.code 0 l p) ∧ Hid (SplitMem w wr L sv s pv hv l xs)) (fun i _ => s.code.size - (intOf i).toNat)
  case atStart => exact ⟨0, [], _, _, rfl, rfl, HM0.out⟩
  case round =>
    obtain ⟨p, l, pv, xs, rfl, HC, HM⟩ := hrel
    have cL4 : wr.cell? ⟨L, 4, none⟩ = some (.string s.code) := by rw [cell_of_block HM.out.blk]; rfl
    have cL5 : wr.cell? ⟨L, 5, none⟩ = some pv := by rw [cell_of_block HM.out.blk]; rfl
    have hsz : w.heap.size ≤ wr.heap.size := HM.out.kp.size
    have hple : p ≤ s.code.size := chain_le HC.out (Nat.zero_le _)
    have hll : l.length ≤ p := by have := chain_len HC.out; omega
    by_cases hp : p < s.code.size
    · have HRw : Hid (RowsAt wr) := HR.out.kp HM.out.kp h0
      by_cases he : opE s.code p = 0
      · go_wp2_with fail
        refine (ops_read s.code p wr HRw.out hp hs.2 he).mono ?_
        rintro e w1 ⟨va, vc, rfl, hown, hb1⟩
        have HC2 := hidc (chain_snoc HC.out hp he)
        have HNX := hidc (show (insI s.code p).nx = p + sizeI s.code p from rfl)
        have hzp := sizeI_pos s.code p
        have hzl := sizeI_le s.code p
        generalize insI s.code p = x at *
        have HOW := hidc (own_mono hown hsz)
        have HM1 := hidc (HM.out.below hb1)
        have HB1 := hidc hb1
        have hsz1 : wr.heap.size ≤ w1.heap.size := hb1.size
        have hL1 : L < w1.heap.size := by omega
        have d5 : w1.cell? ⟨L, 5, none⟩ = some pv := by rw [cell_of_block HM1.out.blk]; rfl
        have u5 : w1.frozen? ⟨L, 5, none⟩ = false := unfrozen_of_block HM1.out.blk 5
        obtain ⟨pa, pc, rfl⟩ := row_form HM.out.row
        clear hown hb1
        go_wp2_with fail
        refine wp_region_held_drew (S := fun w' => w'.cell? ⟨w1.heap.size, 0, none⟩ = some (.int .i64 x.op) ∧ w'.cell? ⟨w1.heap.size, 1, none⟩ = some (.int .i64 x.pl) ∧ w'.cell? ⟨w1.heap.size, 2, none⟩ = some (.int .i64 x.nx) ∧ w'.cell? ⟨w1.heap.size, 3, none⟩ = some (.int .i64 x.n) ∧ w'.cell? ⟨w1.heap.size, 4, none⟩ = some (.slice va x.to.length vc)) (by kernel_rfl) ?hS0 (fun hHeld => ?_)
        case hS0 => go_simp
        refine wpAnyH_take (i := 0) (v := ?va0) rfl (by kernel_rfl) (by kernel_rfl) (by kernel_rfl) (fun _ _ _ h => h) (Or.inl ⟨by rfl, ?hya0⟩) hHeld ?resta0
        case hya0 => intro w hSw; obtain ⟨s1, s2, s3, s4, s5⟩ := hSw; go_simp; try with_reducible rfl
        simp only [Act.put, List.setIfInBounds_toArray, List.set_cons_zero, List.set_cons_succ, List.getElem_toArray, List.getElem_cons_zero]
        refine wpAnyH_take (i := 1) (v := ?va1) rfl (by kernel_rfl) (by kernel_rfl) (by kernel_rfl) (fun _ _ _ h => h) (Or.inl ⟨by rfl, ?hya1⟩) hHeld ?resta1
        case hya1 => intro w hSw; obtain ⟨s1, s2, s3, s4, s5⟩ := hSw; go_simp; try with_reducible rfl
        simp only [Act.put, List.setIfInBounds_toArray, List.set_cons_zero, List.set_cons_succ, List.getElem_toArray, List.getElem_cons_zero, List.getElem_cons_succ]
        refine wpAnyH_take (i := 2) (v := ?va2) rfl (by kernel_rfl) (by kernel_rfl) (by kernel_rfl) (fun _ _ _ h => h) (Or.inl ⟨by rfl, ?hya2⟩) hHeld ?resta2
        case hya2 => intro w hSw; obtain ⟨s1, s2, s3, s4, s5⟩ := hSw; go_simp; try with_reducible rfl
        simp only [Act.put, List.setIfInBounds_toArray, List.set_cons_zero, List.set_cons_succ, List.getElem_toArray, List.getElem_cons_zero, List.getElem_cons_succ]
        refine wpAnyH_take (i := 3) (v := ?va3) rfl (by kernel_rfl) (by kernel_rfl) (by kernel_rfl) (fun _ _ _ h => h) (Or.inl ⟨by rfl, ?hya3⟩) hHeld ?resta3
        case hya3 => intro w hSw; obtain ⟨s1, s2, s3, s4, s5⟩ := hSw; go_simp; try with_reducible rfl
        simp only [Act.put, List.setIfInBounds_toArray, List.set_cons_zero, List.set_cons_succ, List.getElem_toArray, List.getElem_cons_zero, List.getElem_cons_succ]
        refine wpAnyH_take (i := 5) (v := ?va5) rfl (by kernel_rfl) (by kernel_rfl) (by kernel_rfl) (fun _ _ _ h => h) (Or.inl ⟨by rfl, ?hya5⟩) hHeld ?resta5
        case hya5 => intro w hSw; obtain ⟨s1, s2, s3, s4, s5⟩ := hSw; go_simp; try with_reducible rfl
        simp only [Act.put, List.setIfInBounds_toArray, List.set_cons_zero, List.set_cons_succ, List.getElem_toArray, List.getElem_cons_zero, List.getElem_cons_succ]
        refine wpAnyH_ready (rs := [4, 6]) (by kernel_rfl) (by simp) ?_
        refine AllReadyH.cons (i := 4) rfl (fun K hK => ?gfour) (AllReadyH.cons (i := 6) rfl (fun K hK => ?gsix) AllReadyH.nil)
        case gfour =>
          simp only [List.getElem_toArray, List.getElem_cons_zero, List.getElem_cons_succ]
          go_simp
          refine hK.out _ _ hHeld (fun hHeld => ?_)
          clear hK
          refine wpAnyH_ready (rs := [6]) (by kernel_rfl) (by simp) ?_
          refine AllReadyH.cons (i := 6) rfl (fun K hK => ?_) AllReadyH.nil
          simp only [List.getElem_toArray, List.getElem_cons_zero, List.getElem_cons_succ]
          go_simp
          refine hK.out _ _ (by obtain ⟨s1, s2, s3, s4, s5⟩ := hHeld; exact ⟨(cell_al _ (by simp)).trans s1, (cell_al _ (by simp)).trans s2, (cell_al _ (by simp)).trans s3, (cell_al _ (by simp)).trans s4, (cell_al _ (by simp)).trans s5⟩) (fun hHeld => ?_)
          clear hK
          refine wpAnyH_ready (rs := [7]) (by kernel_rfl) (by simp) ?_
          refine AllReadyH.cons (i := 7) rfl (fun K hK => ?_) AllReadyH.nil
          refine step_append_lies _ rfl _ _ 41 rfl w.heap.size 70 iz (.agg #[.int .i64 0, .int .i64 0, .int .i64 0, .int .i64 0, .slice none 0 0]) 5 56 Tryd.underlying41 hiz hzz0 hzz1 hzz2 rfl (by decide) _ l.length xs rfl (own_dr ((HM1.out.row.alloc _).alloc _)) ⟨w1.heap.size + 1, 0, none⟩ 1 1 [.int .i64 x.op, .int .i64 x.pl, .int .i64 x.nx, .int .i64 x.n, .slice va x.to.length vc] rfl rfl (news5d _ _ _ _ _ _ _ (by simp)) (one5 _ _ _ _ _ _ _) (by decide) (by unfold maxLen; omega) (by omega) (by simp; omega) _ rfl ?_
          intro ga ca w5 hown5 hgrow5 hat5 hlt5
          have HMI := hidc ((HM1.out.below (below2 _ (.cells #[.int .i64 x.op, .int .i64 x.pl, .int .i64 x.nx, .int .i64 x.n, .slice va x.to.length vc] 70) (.cells #[.int .i64 x.op, .int .i64 x.pl, .int .i64 x.nx, .int .i64 x.n, .slice va x.to.length vc] 70))).below ((Below.refl _ _).drew))
          have HSTEP := hidc (HMI.out.step (by omega) hgrow5 _ _ x hown5 (own_below (own_below HOW.out (below2 _ _ _)) ((Below.refl _ _).drew)))
          have hfar : ∀ g i, g < w1.heap.size + 2 → (Value.slice pa l.length pc).ownBlock ≠ some g → w5.cell? ⟨g, i, none⟩ = (((w1.alloc (.cells #[.int .i64 x.op, .int .i64 x.pl, .int .i64 x.nx, .int .i64 x.n, .slice va x.to.length vc] 70)).alloc (.cells #[.int .i64 x.op, .int .i64 x.pl, .int .i64 x.nx, .int .i64 x.n, .slice va x.to.length vc] 70)).drew).cell? ⟨g, i, none⟩ := fun g i hg hne => World.cell?_of_block (w := ((w1.alloc (.cells #[.int .i64 x.op, .int .i64 x.pl, .int .i64 x.nx, .int .i64 x.n, .slice va x.to.length vc] 70)).alloc (.cells #[.int .i64 x.op, .int .i64 x.pl, .int .i64 x.nx, .int .i64 x.n, .slice va x.to.length vc] 70)).drew) (hgrow5.block g (by simpa using hg) hne.symm)
          have hneL : (Value.slice pa l.length pc).ownBlock ≠ some L := fun e => by have := (HM1.out.row.lt L e).1; omega
          have hneJ : (Value.slice pa l.length pc).ownBlock ≠ some w1.heap.size := fun e => by have := (HM1.out.row.lt _ e).2; omega
          have v5 : w5.frozen? ⟨L, 5, none⟩ = false := (World.frozen?_of_block (w := ((w1.alloc (.cells #[.int .i64 x.op, .int .i64 x.pl, .int .i64 x.nx, .int .i64 x.n, .slice va x.to.length vc] 70)).alloc (.cells #[.int .i64 x.op, .int .i64 x.pl, .int .i64 x.nx, .int .i64 x.n, .slice va x.to.length vc] 70)).drew) (hgrow5.block L (by simp; omega) hneL.symm)).trans (unfrozen_of_block HMI.out.blk 5)
          have HG5 : Hid (w1.heap.size ≤ w5.heap.size) := by have := hgrow5.size; simp at this; show w1.heap.size ≤ w5.heap.size; omega
          refine hK.out _ _ ?hS7b (fun hHeld => ?_)
          case hS7b => obtain ⟨s1, s2, s3, s4, s5⟩ := hHeld; exact ⟨(hfar _ _ (by omega) hneJ).trans s1, (hfar _ _ (by omega) hneJ).trans s2, (hfar _ _ (by omega) hneJ).trans s3, (hfar _ _ (by omega) hneJ).trans s4, (hfar _ _ (by omega) hneJ).trans s5⟩
          have w5L : w5.cell? ⟨L, 5, none⟩ = some (.slice pa l.length pc) := (hfar L 5 (by omega) hneL).trans (by rw [cell_of_block HMI.out.blk]; rfl)
          clear hown5 hgrow5 hat5 hlt5 hfar
          clear hK
          simp only [Act.put, List.setIfInBounds_toArray, List.set_cons_zero, List.set_cons_succ, List.getElem_toArray, List.getElem_cons_zero, List.getElem_cons_succ]
          refine wpAnyH_take (i := 8) (v := ?vb8) rfl (by kernel_rfl) (by kernel_rfl) (by kernel_rfl) (fun _ _ _ h => h) (Or.inl ⟨by rfl, ?hyb8⟩) hHeld ?restb8
          case hyb8 => intro w hSw; obtain ⟨s1, s2, s3, s4, s5⟩ := hSw; go_simp; try with_reducible rfl
          simp only [Act.put, List.setIfInBounds_toArray, List.set_cons_zero, List.set_cons_succ, List.getElem_toArray, List.getElem_cons_zero, List.getElem_cons_succ]
          refine wpAnyH_take (i := 9) (v := ?vb9) rfl (by kernel_rfl) (by kernel_rfl) (by kernel_rfl) (fun _ _ _ h => h) (Or.inl ⟨by rfl, ?hyb9⟩) hHeld ?restb9
          case hyb9 => intro w hSw; obtain ⟨s1, s2, s3, s4, s5⟩ := hSw; go_simp; try with_reducible rfl
          simp only [Act.put, List.setIfInBounds_toArray, List.set_cons_zero, List.set_cons_succ, List.getElem_toArray, List.getElem_cons_zero, List.getElem_cons_succ]
          refine wpAnyH_ready (rs := [10]) (by kernel_rfl) (by simp) ?_
          refine AllReadyH.cons (i := 10) rfl (fun K hK => ?_) AllReadyH.nil
          simp only [List.getElem_toArray, List.getElem_cons_zero, List.getElem_cons_succ]
          go_simp
          refine hK.out _ _ ?hS10b (fun hHeld => ?_)
          case hS10b => obtain ⟨s1, s2, s3, s4, s5⟩ := hHeld; exact ⟨(set_other _ (by omega)).trans s1, (set_other _ (by omega)).trans s2, (set_other _ (by omega)).trans s3, (set_other _ (by omega)).trans s4, (set_other _ (by omega)).trans s5⟩
          clear hK
          refine wpAnyH_done (by kernel_rfl) ?_ _
          obtain ⟨s1, s2, s3, s4, s5⟩ := hHeld
          go_wp2_with fail
          refine ⟨⟨x.nx, l ++ [x], _, _, rfl, by rw [HNX.out]; exact HC2.out, HSTEP.out⟩, ?_⟩
          have := HNX.out
          simp [intOf]
          omega
        case gsix =>
          simp only [List.getElem_toArray, List.getElem_cons_zero, List.getElem_cons_succ]
          go_simp
          refine hK.out _ _ (by obtain ⟨s1, s2, s3, s4, s5⟩ := hHeld; exact ⟨(cell_al _ (by simp)).trans s1, (cell_al _ (by simp)).trans s2, (cell_al _ (by simp)).trans s3, (cell_al _ (by simp)).trans s4, (cell_al _ (by simp)).trans s5⟩) (fun hHeld => ?_)
          clear hK
          refine wpAnyH_ready (rs := [4]) (by kernel_rfl) (by simp) ?_
          refine AllReadyH.cons (i := 4) rfl (fun K hK => ?_) AllReadyH.nil
          simp only [List.getElem_toArray, List.getElem_cons_zero, List.getElem_cons_succ]
          go_simp
          refine hK.out _ _ hHeld (fun hHeld => ?_)
          clear hK
          refine wpAnyH_ready (rs := [7]) (by kernel_rfl) (by simp) ?_
          refine AllReadyH.cons (i := 7) rfl (fun K hK => ?_) AllReadyH.nil
          refine step_append_lies _ rfl _ _ 41 rfl w.heap.size 70 iz (.agg #[.int .i64 0, .int .i64 0, .int .i64 0, .int .i64 0, .slice none 0 0]) 5 56 Tryd.underlying41 hiz hzz0 hzz1 hzz2 rfl (by decide) _ l.length xs rfl (own_dr ((HM1.out.row.alloc _).alloc _)) ⟨w1.heap.size + 1, 0, none⟩ 1 1 [.int .i64 x.op, .int .i64 x.pl, .int .i64 x.nx, .int .i64 x.n, .slice va x.to.length vc] rfl rfl (news5d _ _ _ _ _ _ _ (by simp)) (one5 _ _ _ _ _ _ _) (by decide) (by unfold maxLen; omega) (by omega) (by simp; omega) _ rfl ?_
          intro ga ca w5 hown5 hgrow5 hat5 hlt5
          have HMI := hidc ((HM1.out.below (below2 _ (.cells #[.int .i64 x.op, .int .i64 x.pl, .int .i64 x.nx, .int .i64 x.n, .slice va x.to.length vc] 70) (.cells #[.int .i64 x.op, .int .i64 x.pl, .int .i64 x.nx, .int .i64 x.n, .slice va x.to.length vc] 70))).below ((Below.refl _ _).drew))
          have HSTEP := hidc (HMI.out.step (by omega) hgrow5 _ _ x hown5 (own_below (own_below HOW.out (below2 _ _ _)) ((Below.refl _ _).drew)))
          have hfar : ∀ g i, g < w1.heap.size + 2 → (Value.slice pa l.length pc).ownBlock ≠ some g → w5.cell? ⟨g, i, none⟩ = (((w1.alloc (.cells #[.int .i64 x.op, .int .i64 x.pl, .int .i64 x.nx, .int .i64 x.n, .slice va x.to.length vc] 70)).alloc (.cells #[.int .i64 x.op, .int .i64 x.pl, .int .i64 x.nx, .int .i64 x.n, .slice va x.to.length vc] 70)).drew).cell? ⟨g, i, none⟩ := fun g i hg hne => World.cell?_of_block (w := ((w1.alloc (.cells #[.int .i64 x.op, .int .i64 x.pl, .int .i64 x.nx, .int .i64 x.n, .slice va x.to.length vc] 70)).alloc (.cells #[.int .i64 x.op, .int .i64 x.pl, .int .i64 x.nx, .int .i64 x.n, .slice va x.to.length vc] 70)).drew) (hgrow5.block g (by simpa using hg) hne.symm)
          have hneL : (Value.slice pa l.length pc).ownBlock ≠ some L := fun e => by have := (HM1.out.row.lt L e).1; omega
          have hneJ : (Value.slice pa l.length pc).ownBlock ≠ some w1.heap.size := fun e => by have := (HM1.out.row.lt _ e).2; omega
          have v5 : w5.frozen? ⟨L, 5, none⟩ = false := (World.frozen?_of_block (w := ((w1.alloc (.cells #[.int .i64 x.op, .int .i64 x.pl, .int .i64 x.nx, .int .i64 x.n, .slice va x.to.length vc] 70)).alloc (.cells #[.int .i64 x.op, .int .i64 x.pl, .int .i64 x.nx, .int .i64 x.n, .slice va x.to.length vc] 70)).drew) (hgrow5.block L (by simp; omega) hneL.symm)).trans (unfrozen_of_block HMI.out.blk 5)
          have HG5 : Hid (w1.heap.size ≤ w5.heap.size) := by have := hgrow5.size; simp at this; show w1.heap.size ≤ w5.heap.size; omega
          refine hK.out _ _ ?hS7c (fun hHeld => ?_)
          case hS7c => obtain ⟨s1, s2, s3, s4, s5⟩ := hHeld; exact ⟨(hfar _ _ (by omega) hneJ).trans s1, (hfar _ _ (by omega) hneJ).trans s2, (hfar _ _ (by omega) hneJ).trans s3, (hfar _ _ (by omega) hneJ).trans s4, (hfar _ _ (by omega) hneJ).trans s5⟩
          have w5L : w5.cell? ⟨L, 5, none⟩ = some (.slice pa l.length pc) := (hfar L 5 (by omega) hneL).trans (by rw [cell_of_block HMI.out.blk]; rfl)
          clear hown5 hgrow5 hat5 hlt5 hfar
          clear hK
          simp only [Act.put, List.setIfInBounds_toArray, List.set_cons_zero, List.set_cons_succ, List.getElem_toArray, List.getElem_cons_zero, List.getElem_cons_succ]
          refine wpAnyH_take (i := 8) (v := ?vc8) rfl (by kernel_rfl) (by kernel_rfl) (by kernel_rfl) (fun _ _ _ h => h) (Or.inl ⟨by rfl, ?hyc8⟩) hHeld ?restc8
          case hyc8 => intro w hSw; obtain ⟨s1, s2, s3, s4, s5⟩ := hSw; go_simp; try with_reducible rfl
          simp only [Act.put, List.setIfInBounds_toArray, List.set_cons_zero, List.set_cons_succ, List.getElem_toArray, List.getElem_cons_zero, List.getElem_cons_succ]
          refine wpAnyH_take (i := 9) (v := ?vc9) rfl (by kernel_rfl) (by kernel_rfl) (by kernel_rfl) (fun _ _ _ h => h) (Or.inl ⟨by rfl, ?hyc9⟩) hHeld ?restc9
          case hyc9 => intro w hSw; obtain ⟨s1, s2, s3, s4, s5⟩ := hSw; go_simp; try with_reducible rfl
          simp only [Act.put, List.setIfInBounds_toArray, List.set_cons_zero, List.set_cons_succ, List.getElem_toArray, List.getElem_cons_zero, List.getElem_cons_succ]
          refine wpAnyH_ready (rs := [10]) (by kernel_rfl) (by simp) ?_
          refine AllReadyH.cons (i := 10) rfl (fun K hK => ?_) AllReadyH.nil
          simp only [List.getElem_toArray, List.getElem_cons_zero, List.getElem_cons_succ]
          go_simp
          refine hK.out _ _ ?hS10c (fun hHeld => ?_)
          case hS10c => obtain ⟨s1, s2, s3, s4, s5⟩ := hHeld; exact ⟨(set_other _ (by omega)).trans s1, (set_other _ (by omega)).trans s2, (set_other _ (by omega)).trans s3, (set_other _ (by omega)).trans s4, (set_other _ (by omega)).trans s5⟩
          clear hK
          refine wpAnyH_done (by kernel_rfl) ?_ _
          obtain ⟨s1, s2, s3, s4, s5⟩ := hHeld
          go_wp2_with fail
          refine ⟨⟨x.nx, l ++ [x], _, _, rfl, by rw [HNX.out]; exact HC2.out, HSTEP.out⟩, ?_⟩
          have := HNX.out
          simp [intOf]
          omega
      · have e1 := hidc (split_stop HC.out hp he)
        have hE : opE s.code p = 6 ∨ opE s.code p = 7 := by
          unfold opE at he ⊢
          by_cases h1 : 21 ≤ byteN s.code p
          · left; rw [if_pos h1]
          · by_cases h2 : s.code.size < p + sizeI s.code p
            · right; rw [if_neg h1, if_pos h2]
            · rw [if_neg h1, if_neg h2] at he; exact absurd rfl he
        generalize hg : opE s.code p = eo at *
        have hne : ((eo : Int) == 0) = false := by simp; omega
        have HG := hidc hg
        clear hg he hE
        go_wp2_with fail
        refine (ops_read_bad s.code p wr HRw.out hp hs.2 (by rw [HG.out]; simp at hne; omega)).mono ?_
        rw [HG.out]
        rintro e w1 ⟨rfl, hb1⟩
        go_wp2_with fail
        go_ret2
        refine ⟨by rw [e1.out]; rfl, (HM.out.kp.trans ((Kp.of hb1 L).mono hsz)).alloc (Nat.le_trans hsz hb1.size) _, fun h => ?_⟩
        rw [e1.out] at h
        simp at hne
        simp at h
        omega
    · go_wp2_with fail
      go_ret2
      obtain ⟨e1, e2⟩ := split_done HC.out (by omega)
      have hps : p = s.code.size := by omega
      refine ⟨by rw [e2]; rfl, HM.out.kp, fun _ => ?_⟩
      rw [e1]
      have hl0 : 0 < l.length := by
        cases l with
        | nil => have := HC.out; simp [Chain] at this; omega
        | cons x l => simp
      obtain ⟨g, cap, rfl, hg, hI⟩ := HM.out.insAt hH hl0
      exact ⟨by rw [← hps]; exact HC.out, g, cap, HM.out.blk, hg, hI⟩
end Go.Proofs.YtjeiejgmpgbgjaaDoor
