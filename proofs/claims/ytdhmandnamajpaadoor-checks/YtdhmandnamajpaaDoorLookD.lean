/-
  Package check: split.
-/
import Derived.Test.YtdhmandnamajpaaDoorOpsD
import Derived.Test.YtdhmandnamajpaaDoorLookC
namespace Go.Proofs.YtdhmandnamajpaaDoor
open Go.RowKit Go.Joins

set_option maxHeartbeats 1000000
set_option maxRecDepth 4000

theorem Tryd.infoInstr : (Tryd.prog.info? 116).map (fun i => (i.zero, i.size, i.bytes)) = some (some (.agg #[.int .i64 0, .int .i64 0, .int .i64 0, .int .i64 0, .slice none 0 0]), 5, 56) := by kernel_rfl

theorem own_below {w w' : World} {B e s n : Nat} {v : Value} {xs : List Value} (h : w.ownsRow B e s v n xs) (hb : Below w.heap.size w w') : w'.ownsRow B e s v n xs :=
  ⟨h.1, h.2.imp id (fun ⟨g', cap, cur, hv, hB, hc, r⟩ => ⟨g', cap, cur, hv, hB, (hb.block g' (blt hc)).trans hc, r⟩)⟩
theorem own_ne {w : World} {B B' e e' s s' n n' : Nat} {v v' : Value} {xs xs' : List Value} (h : w.ownsRow B e s v n xs) (h' : w.ownsRow B' e' s' v' n' xs') (hne : e ≠ e') : v.ownBlock = none ∨ v.ownBlock ≠ v'.ownBlock := by
  rcases h.2 with ⟨rfl, _⟩ | ⟨g, cap, cur, rfl, _, hg, _⟩
  · exact .inl rfl
  · right
    rcases h'.2 with ⟨rfl, _⟩ | ⟨g', cap', cur', rfl, _, hg', _⟩
    · simp [Value.ownBlock]
    · intro e2
      simp [Value.ownBlock] at e2
      subst e2
      rw [hg] at hg'
      simp at hg'
      exact hne hg'.2

/-- Split's memory: the instructions so far. -/
structure SplitMem (w0 w : World) (pv : Value) (l : List Ins) (xs : List Value) : Prop where
  row : w.ownsRow w0.heap.size 116 5 pv l.length xs
  flat : ∀ k x, l[k]? = some x → xs[k * 5]? = some (.int .i64 x.op) ∧ xs[k * 5 + 1]? = some (.int .i64 x.pl) ∧ xs[k * 5 + 2]? = some (.int .i64 x.nx) ∧ xs[k * 5 + 3]? = some (.int .i64 x.n) ∧
    ∃ v, xs[k * 5 + 4]? = some v ∧ w.ownsRow w0.heap.size 3 1 v x.to.length (iV x.to)
  bel : Below w0.heap.size w0 w
theorem SplitMem.below {w0 w w' : World} {pv : Value} {l : List Ins} {xs : List Value} (h : SplitMem w0 w pv l xs) (hb : Below w.heap.size w w') : SplitMem w0 w' pv l xs where
  row := own_below h.row hb
  flat := fun k x hk => by
    obtain ⟨a, b, c, d, v, e, f⟩ := h.flat k x hk
    exact ⟨a, b, c, d, v, e, own_below f hb⟩
  bel := h.bel.trans (hb.mono h.bel.size)
/-- One more. -/
theorem SplitMem.step {w0 w w' : World} {pv : Value} {l : List Ins} {xs : List Value} (h : SplitMem w0 w pv l xs) (hg : w.grownBy w' pv.ownBlock) (pv' v : Value) (x : Ins)
    (hrow : w'.ownsRow w0.heap.size 116 5 pv' (l.length + 1) (xs ++ [.int .i64 x.op, .int .i64 x.pl, .int .i64 x.nx, .int .i64 x.n, v])) (hvr : w.ownsRow w0.heap.size 3 1 v x.to.length (iV x.to)) :
    SplitMem w0 w' pv' (l ++ [x]) (xs ++ [.int .i64 x.op, .int .i64 x.pl, .int .i64 x.nx, .int .i64 x.n, v]) where
  row := by rw [List.length_append]; exact hrow
  flat := fun k y hk => by
    have hxl : xs.length = l.length * 5 := h.row.1
    have stay : ∀ {u : Value} {to : List Int}, w.ownsRow w0.heap.size 3 1 u to.length (iV to) → w'.ownsRow w0.heap.size 3 1 u to.length (iV to) := fun hu => hu.kept hg (own_ne hu h.row (by decide))
    by_cases e : k < l.length
    · rw [List.getElem?_append_left e] at hk
      obtain ⟨a, b, c, d, u, e1, f⟩ := h.flat k y hk
      refine ⟨?_, ?_, ?_, ?_, u, ?_, stay f⟩ <;> rw [List.getElem?_append_left (by omega)] <;> assumption
    · have hkl : k = l.length := by
        have := (List.getElem?_eq_some_iff.1 hk).1
        simp at this
        omega
      subst hkl
      rw [List.getElem?_append_right (Nat.le_refl _), Nat.sub_self] at hk
      have hxy : x = y := by simpa using hk
      subst hxy
      refine ⟨?_, ?_, ?_, ?_, v, ?_, stay hvr⟩ <;> rw [List.getElem?_append_right (by omega), hxl]
      · rw [Nat.sub_self]; rfl
      · rw [show l.length * 5 + 1 - l.length * 5 = 1 by omega]; rfl
      · rw [show l.length * 5 + 2 - l.length * 5 = 2 by omega]; rfl
      · rw [show l.length * 5 + 3 - l.length * 5 = 3 by omega]; rfl
      · rw [show l.length * 5 + 4 - l.length * 5 = 4 by omega]; rfl
  bel := h.bel.grown hg h.bel.size (fun k hk => (h.row.lt k hk).1)
/-- All instructions lie there. -/
theorem SplitMem.insAt {w0 w : World} {H : Nat} {pv : Value} {l : List Ins} {xs : List Value} (h : SplitMem w0 w pv l xs) (hH : H < w0.heap.size) (hl : 0 < l.length) :
    ∃ g cap, pv = .slice (some ⟨g, 0, none⟩) l.length cap ∧ w0.heap.size ≤ g ∧ InsAt w H g l := by
  rcases h.row.2 with ⟨_, e⟩ | ⟨g, cap, cur, hv', hb, hg, hc, _, hs, ht⟩
  · omega
  · refine ⟨g, cap, hv', hb, blt hg, by omega, fun k x hk => ?_⟩
    obtain ⟨a, b, c, d, v, e, f⟩ := h.flat k x hk
    have hlt : k < l.length := (List.getElem?_eq_some_iff.1 hk).1
    have get : ∀ j u, j < l.length * 5 → xs[j]? = some u → w.cell? ⟨g, j, none⟩ = some u := fun j u hj hu => by
      rw [cell_of_block hg]
      rw [← ht, List.getElem?_take_of_lt hj] at hu
      simpa using hu
    exact ⟨get _ _ (by omega) a, get _ _ (by omega) b, get _ _ (by omega) c, get _ _ (by omega) d, v, get _ _ (by omega) e, tos_of_row f hH⟩

theorem SplitMem.insAt_set {w0 w : World} {L H : Nat} {pv : Value} {l : List Ins} {xs : List Value} (h : SplitMem w0 w pv l xs) (hL : L < w0.heap.size) (hH : H < w0.heap.size) (hl : 0 < l.length) (i : Nat) (u : Value) :
    ∃ g cap, pv = .slice (some ⟨g, 0, none⟩) l.length cap ∧ w0.heap.size ≤ g ∧ InsAt (w.setCell ⟨L, i, none⟩ u) H g l := by
  rcases (own_set h.row hL i u).2 with ⟨_, e⟩ | ⟨g, cap, cur, hv', hb, hg, hc, _, hs, ht⟩
  · omega
  · refine ⟨g, cap, hv', hb, blt hg, by omega, fun k x hk => ?_⟩
    obtain ⟨a, b, c, d, v, e, f⟩ := h.flat k x hk
    have hlt : k < l.length := (List.getElem?_eq_some_iff.1 hk).1
    have get : ∀ j v', j < l.length * 5 → xs[j]? = some v' → (w.setCell ⟨L, i, none⟩ u).cell? ⟨g, j, none⟩ = some v' := fun j v' hj hu => by
      rw [cell_of_block hg]
      rw [← ht, List.getElem?_take_of_lt hj] at hu
      simpa using hu
    exact ⟨get _ _ (by omega) a, get _ _ (by omega) b, get _ _ (by omega) c, get _ _ (by omega) d, v, get _ _ (by omega) e, tos_of_row (own_set f hL i u) hH⟩

theorem news5d (w : World) (x0 x1 x2 x3 x4 : Value) (g : Nat) (hg : g = w.heap.size) : ∀ j u, [x0, x1, x2, x3, x4][j]? = some u → (w.alloc (.cells #[x0, x1, x2, x3, x4] 116)).drew.cell? ((⟨g, 0, none⟩ : Addr).add j) = some u := by
  intro j u hj
  subst hg
  have hb : (w.alloc (.cells #[x0, x1, x2, x3, x4] 116)).drew.heap[w.heap.size]? = some (.cells #[x0, x1, x2, x3, x4] 116 (0, 0)) := heap_alloc_new w _
  exact World.news_of_block hb j u hj
theorem one5 (x y z u : Int) (a : Option Addr) (n c : Nat) : ∀ v ∈ [Value.int .i64 x, .int .i64 y, .int .i64 z, .int .i64 u, .slice a n c], v.oneCell' = true := by
  intro v hv
  simp at hv
  rcases hv with rfl | rfl | rfl | rfl | rfl <;> rfl

theorem newsI (w : World) (x0 x1 x2 x3 x4 : Value) (g : Nat) (hg : g = w.heap.size) : ∀ j u, [x0, x1, x2, x3, x4][j]? = some u → (w.alloc (.cells #[x0, x1, x2, x3, x4] 116)).cell? ((⟨g, 0, none⟩ : Addr).add j) = some u := by
  intro j u hj
  subst hg
  have hb : (w.alloc (.cells #[x0, x1, x2, x3, x4] 116)).heap[w.heap.size]? = some (.cells #[x0, x1, x2, x3, x4] 116 (0, 0)) := heap_alloc_new w _
  exact World.news_of_block hb j u hj

/-- What Split answers. -/
def SplitsPost (w : World) (c : ByteArray) : Ending → World → Prop := fun e w' => ∃ a n cp, e = .returned (.tuple #[.slice a n cp, .int .i64 (splitE c).1, .int .i64 (splitE c).2]) ∧ Below w.heap.size w w' ∧
  ((splitE c).1 = 0 → Chain c 0 (codeI c) c.size ∧ ∃ xs, SplitMem w w' (.slice a n cp) (codeI c) xs)

theorem ops_split (c : ByteArray) (w : World) (hR : RowsAt w) (hs : c.size ≤ 120) : Calls Tryd.prog 80 #[.string c] w (SplitsPost w c) := by
  obtain ⟨iz, hiz, hzz0, hzz1, hzz2⟩ := info_parts Tryd.infoInstr
  have HR := hidc hR
  have h0 := hR.1
  clear hR
  go_enter Tryd.func80, Tryd.ntmps80
  go_wp2_with fail
  go_loopw [5, 6] (fun pv iv wr => ∃ (p : Nat) (l : List Ins) (xs : List Value), iv = .int .i64 p ∧ Hid (Chain c 0 l p) ∧ Hid (SplitMem w wr pv l xs)) (fun _ iv _ => c.size - (intOf iv).toNat)
  case atStart => exact ⟨0, [], [], rfl, rfl, ⟨⟨rfl, .inl ⟨rfl, rfl⟩⟩, fun k x hk => by simp at hk, Below.refl _ _⟩⟩
  case round =>
    obtain ⟨p, l, xs, rfl, HC, HM⟩ := hrel
    have hsz := HM.out.bel.size
    have hple : p ≤ c.size := chain_le HC.out (Nat.zero_le _)
    have hll : l.length ≤ p := by have := chain_len HC.out; omega
    obtain ⟨pa, pc, rfl⟩ := row_form HM.out.row
    have HRw := hidc (HR.out.below h0 HM.out.bel)
    by_cases hp : p < c.size
    · by_cases he : opE c p = 0
      · have HOP := hidc he
        have HC2 := hidc (chain_snoc HC.out hp he)
        have HNX := hidc (show (insI c p).nx = p + sizeI c p from rfl)
        have hzp := sizeI_pos c p
        clear he
        go_wp2_with fail
        refine (ops_read c p wr HRw.out hp hs HOP.out).mono ?_
        rintro e w1 ⟨va, vc, rfl, hown, hb1⟩
        generalize insI c p = x at *
        have HOW := hidc (own_mono hown hsz)
        have HM1 := hidc (HM.out.below hb1)
        have hsz1 : w.heap.size ≤ w1.heap.size := HM1.out.bel.size
        clear hown hb1
        have HMI := hidc (HM1.out.below (below2 w1 (.cells #[.int .i64 x.op, .int .i64 x.pl, .int .i64 x.nx, .int .i64 x.n, .slice va x.to.length vc] 116) (.cells #[.int .i64 x.op, .int .i64 x.pl, .int .i64 x.nx, .int .i64 x.n, .slice va x.to.length vc] 116)))
        have HOWI := hidc (own_below HOW.out (below2 w1 (.cells #[.int .i64 x.op, .int .i64 x.pl, .int .i64 x.nx, .int .i64 x.n, .slice va x.to.length vc] 116) (.cells #[.int .i64 x.op, .int .i64 x.pl, .int .i64 x.nx, .int .i64 x.n, .slice va x.to.length vc] 116)))
        go_wp2_with (at_builtin; refine wpList_append_lies _ rfl (.tmp 23) (.tmp 25) 65 rfl w.heap.size 116 iz (.agg #[.int .i64 0, .int .i64 0, .int .i64 0, .int .i64 0, .slice none 0 0]) 5 56 Tryd.underlying65 hiz hzz0 hzz1 hzz2 rfl (by decide) _ l.length xs rfl HMI.out.row ⟨w1.heap.size + 1, 0, none⟩ 1 1 [.int .i64 x.op, .int .i64 x.pl, .int .i64 x.nx, .int .i64 x.n, .slice va x.to.length vc] rfl rfl (newsI _ _ _ _ _ _ _ (by simp)) (one5 _ _ _ _ _ _ _) (by decide) (by unfold maxLen; omega) (by omega) (by simp; omega) _ rfl ?_)
        intro ga ca w5 hown5 hgrow5 hat5 hlt5
        have HSTEP := hidc (HMI.out.step hgrow5 _ _ x hown5 HOWI.out)
        have hI5 : w5.heap[w1.heap.size]? = some (.cells #[.int .i64 x.op, .int .i64 x.pl, .int .i64 x.nx, .int .i64 x.n, .slice va x.to.length vc] 116 (0, 0)) := by
          rw [hgrow5.block w1.heap.size (by simp; omega) (fun e => by have := (HM1.out.row.lt _ e.symm).2; omega)]
          exact (Below.heap_alloc _ _ _ (by simp)).trans (heap_alloc_new w1 _)
        have d2 : w5.cell? ⟨w1.heap.size, 2, none⟩ = some (.int .i64 x.nx) := by rw [cell_of_block hI5]; rfl
        clear hown5 hgrow5 hat5 hlt5 hI5
        go_wp2_with fail
        go_roundw
        case rel => exact ⟨x.nx, l ++ [x], _, rfl, by rw [HNX.out]; exact HC2.out, HSTEP.out⟩
        case measure =>
          have := HNX.out
          simp [intOf]
          omega
      · have e1 := hidc (split_stop HC.out hp he)
        have hE : opE c p = 6 ∨ opE c p = 7 := by
          unfold opE at he ⊢
          by_cases h1 : 21 ≤ byteN c p
          · left; rw [if_pos h1]
          · by_cases h2 : c.size < p + sizeI c p
            · right; rw [if_neg h1, if_pos h2]
            · rw [if_neg h1, if_neg h2] at he; exact absurd rfl he
        generalize hg : opE c p = eo at *
        have hne : ((eo : Int) == 0) = false := by simp; omega
        have HG := hidc hg
        clear hg he hE
        go_wp2_with fail
        refine (ops_read_bad c p wr HRw.out hp hs (by rw [HG.out]; simp at hne; omega)).mono ?_
        rw [HG.out]
        rintro e w1 ⟨rfl, hb1⟩
        go_wp2_with fail
        go_ret3
        refine ⟨_, _, _, by rw [e1.out]; rfl, (HM.out.bel.trans (hb1.mono hsz)).alloc (Nat.le_trans hsz hb1.size) _, fun h => ?_⟩
        rw [e1.out] at h
        simp at hne
        simp at h
        omega
    · obtain ⟨e1, e2⟩ := split_done HC.out (by omega)
      have hps : p = c.size := by omega
      go_wp2_with fail
      go_ret3
      refine ⟨_, _, _, by rw [e2]; rfl, HM.out.bel, fun _ => ?_⟩
      rw [e1]
      exact ⟨by rw [← hps]; exact HC.out, xs, HM.out⟩

/-- What split answers. -/
def SplitPost (w : World) (L H : Nat) (sv : Value) (s : Sec) (hv : Value) : Ending → World → Prop := fun e w' => e = .returned (.tuple #[.int .i64 (splitE s.code).1, .int .i64 (splitE s.code).2]) ∧ Kp w.heap.size L w w' ∧
  ((splitE s.code).1 = 0 → Chain s.code 0 (codeI s.code) s.code.size ∧ ∃ g cap, w'.heap[L]? = some (.cells #[sv, .int .i64 s.i, .int .i64 s.o, .int .i64 s.m, .string s.code, .slice (some ⟨g, 0, none⟩) (codeI s.code).length cap, hv] 67 (0, 0)) ∧ w.heap.size ≤ g ∧ InsAt w' H g (codeI s.code))

theorem look_split (w : World) (L H : Nat) (sv hv : Value) (s : Sec) (hL : w.heap[L]? = some (.cells #[sv, .int .i64 s.i, .int .i64 s.o, .int .i64 s.m, .string s.code, .slice none 0 0, hv] 67 (0, 0)))
    (hR : RowsAt w) (_h0 : 0 ≠ L) (hH : H < w.heap.size) (hs : 1 ≤ s.code.size ∧ s.code.size ≤ 120) :
    Calls Tryd.prog 56 #[.pointer (some ⟨L, 0, none⟩)] w (SplitPost w L H sv s hv) := by
  have hLs := blt hL
  have HL := hidc hL
  have HR := hidc hR
  have cL4 : w.cell? ⟨L, 4, none⟩ = some (.string s.code) := by rw [cell_of_block hL]; rfl
  clear hL hR
  go_enter Tryd.func56, Tryd.ntmps56
  go_wp2_with (go_at_call 80; refine (ops_split s.code w HR.out hs.2).mono ?_; rintro e w1 ⟨sa, sn, sc, rfl, hb1, hC1⟩; have hL1 := keepB hb1 HL.out; have c5 := cell_of_block hL1 5; have f5 := unfrozen_of_block hL1 5; have hLs1 : L < w1.heap.size := blt hL1; have HL1 := hidc hL1; have HB1 := hidc hb1; have HC1 := hidc hC1; clear hL1 hb1 hC1)
  go_ret2
  refine ⟨rfl, ((Kp.of HB1.out L).set _ _), fun h => ?_⟩
  obtain ⟨q1, xs, q2⟩ := HC1.out h
  have hl0 : 0 < (codeI s.code).length := by
    cases hcl : codeI s.code with
    | nil => rw [hcl] at q1; have : (0 : Nat) = s.code.size := q1; omega
    | cons x l => simp
  obtain ⟨g, cap, e1, hg, hI⟩ := q2.insAt_set hLs hH hl0 5 (.slice sa sn sc)
  refine ⟨q1, g, cap, ?_, hg, hI⟩
  rw [← e1]
  exact block_setCell HL1.out _
end Go.Proofs.YtdhmandnamajpaaDoor
