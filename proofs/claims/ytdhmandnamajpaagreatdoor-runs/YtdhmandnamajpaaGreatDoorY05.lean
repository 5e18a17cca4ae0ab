import Derived.Test.YtdhmandnamajpaaGreatDoorY00
import Derived.Test.YtdhmandnamajpaaGreatDoorY04
import Derived.Test.YtdhmandnamajpaaGreatDoorY02
import Derived.BigQuiet
namespace Go.Proofs.YtdhmandnamajpaaGreatDoor
open Go.RowKit Go.Joins
set_option maxHeartbeats 1000000
set_option maxRecDepth 4000
theorem Tryz.infoInstr : (Tryz.prog.info? 116).map (fun i => (i.zero, i.size, i.bytes)) = some (some (.agg #[.int .i64 0, .int .i64 0, .int .i64 0, .int .i64 0, .slice none 0 0]), 5, 56) := by kernel_rfl
theorem own_below {w w' : World} {B e s n : Nat} {v : Value} {xs : List Value} (h : w.ownsRow B e s v n xs) (hb : Below w.heap.size w w') : w'.ownsRow B e s v n xs :=
 ⟨h.1, h.2.imp id (fun ⟨g', cap, cur, hv, hB, hc, r⟩ => ⟨g', cap, cur, hv, hB, (hb.block g' (blt hc)).trans hc, r⟩)⟩
theorem own_ne {w : World} {B B' e e' s s' n n' : Nat} {v v' : Value} {xs xs' : List Value} (h : w.ownsRow B e s v n xs) (h' : w.ownsRow B' e' s' v' n' xs') (hne : e ≠ e') : v.ownBlock = none ∨ v.ownBlock ≠ v'.ownBlock := by
 rcases h.2 with ⟨rfl, _⟩ | ⟨g, cap, cur, rfl, _, hg, _⟩
 ·exact .inl rfl
 ·right
  rcases h'.2 with ⟨rfl, _⟩ | ⟨g', cap', cur', rfl, _, hg', _⟩
  ·simp [Value.ownBlock]
  ·intro e2
   simp [Value.ownBlock] at e2
   subst e2
   rw [hg] at hg'
   simp at hg'
   exact hne hg'.2
structure SplitMem (w0 w : World) (pv : Value) (l : List Ins) (xs : List Value) : Prop where
 row : w.ownsRow w0.heap.size 116 5 pv l.length xs
 flat : ∀ k x, l[k]? = some x → xs[k * 5]? = some (.int .i64 x.op) ∧ xs[k * 5 + 1]? = some (.int .i64 x.pl) ∧ xs[k * 5 + 2]? = some (.int .i64 x.nx) ∧ xs[k * 5 + 3]? = some (.int .i64 x.n) ∧
  ∃ v, xs[k * 5 + 4]? = some v ∧ w.ownsRow w0.heap.size 3 1 v x.to.length (iV x.to)
 bel : Below w0.heap.size w0 w
theorem SplitMem.below {w0 w w' : World} {pv : Value} {l : List Ins} {xs : List Value} (h : SplitMem w0 w pv l xs) (hb : Below w.heap.size w w') : SplitMem w0 w' pv l xs where
 row := own_below h.row hb
 flat := fun k x hk => by
  obtain ⟨a, b, c, d, v, e, f⟩ := h.flat k x hk
  exact ⟨a, b, c, d, v, e, own_below f hb⟩
 bel := h.bel.trans (hb.mono h.bel.size)
theorem SplitMem.step {w0 w w' : World} {pv : Value} {l : List Ins} {xs : List Value} (h : SplitMem w0 w pv l xs) (hg : w.grownBy w' pv.ownBlock) (pv' v : Value) (x : Ins)
  (hrow : w'.ownsRow w0.heap.size 116 5 pv' (l.length + 1) (xs ++ [.int .i64 x.op, .int .i64 x.pl, .int .i64 x.nx, .int .i64 x.n, v])) (hvr : w.ownsRow w0.heap.size 3 1 v x.to.length (iV x.to)) :
  SplitMem w0 w' pv' (l ++ [x]) (xs ++ [.int .i64 x.op, .int .i64 x.pl, .int .i64 x.nx, .int .i64 x.n, v]) where
 row := by rw [List.length_append]; exact hrow
 flat := fun k y hk => by
  have hxl : xs.length = l.length * 5 := h.row.1
  have stay : ∀ {u : Value} {to : List Int}, w.ownsRow w0.heap.size 3 1 u to.length (iV to) → w'.ownsRow w0.heap.size 3 1 u to.length (iV to) := fun hu => hu.kept hg (own_ne hu h.row (by decide))
  by_cases e : k < l.length
  ·rw [List.getElem?_append_left e] at hk
   obtain ⟨a, b, c, d, u, e1, f⟩ := h.flat k y hk
   refine ⟨?_, ?_, ?_, ?_, u, ?_, stay f⟩ <;> rw [List.getElem?_append_left (by omega)] <;> assumption
  ·have hkl : k = l.length := by
    have := (List.getElem?_eq_some_iff.1 hk).1
    simp at this
    omega
   subst hkl
   rw [List.getElem?_append_right (Nat.le_refl _), Nat.sub_self] at hk
   have hxy : x = y := by simpa using hk
   subst hxy
   refine ⟨?_, ?_, ?_, ?_, v, ?_, stay hvr⟩ <;> rw [List.getElem?_append_right (by omega), hxl]
   ·rw [Nat.sub_self]; rfl
   ·rw [show l.length * 5 + 1 - l.length * 5 = 1 by omega]; rfl
   ·rw [show l.length * 5 + 2 - l.length * 5 = 2 by omega]; rfl
   ·rw [show l.length * 5 + 3 - l.length * 5 = 3 by omega]; rfl
   ·rw [show l.length * 5 + 4 - l.length * 5 = 4 by omega]; rfl
 bel := h.bel.grown hg h.bel.size (fun k hk => (h.row.lt k hk).1)
theorem SplitMem.insAt_set {w0 w : World} {L H : Nat} {pv : Value} {l : List Ins} {xs : List Value} (h : SplitMem w0 w pv l xs) (hL : L < w0.heap.size) (hH : H < w0.heap.size) (hl : 0 < l.length) (i : Nat) (u : Value) :
  ∃ g cap, pv = .slice (some ⟨g, 0, none⟩) l.length cap ∧ w0.heap.size ≤ g ∧ InsAt (w.setCell ⟨L, i, none⟩ u) H g l := by
 rcases (own_set h.row hL i u).2 with ⟨_, e⟩ | ⟨g, cap, cur, hv', hb, hg, hc, _, hs, ht⟩
 ·omega
 ·refine ⟨g, cap, hv', hb, blt hg, by omega, fun k x hk => ?_⟩
  obtain ⟨a, b, c, d, v, e, f⟩ := h.flat k x hk
  have hlt : k < l.length := (List.getElem?_eq_some_iff.1 hk).1
  have get : ∀ j v', j < l.length * 5 → xs[j]? = some v' → (w.setCell ⟨L, i, none⟩ u).cell? ⟨g, j, none⟩ = some v' := fun j v' hj hu => by
   rw [cell_of_block hg]
   rw [← ht, List.getElem?_take_of_lt hj] at hu
   simpa using hu
  exact ⟨get _ _ (by omega) a, get _ _ (by omega) b, get _ _ (by omega) c, get _ _ (by omega) d, v, get _ _ (by omega) e, tos_of_row (own_set f hL i u) hH⟩
theorem one5 (x y z u : Int) (a : Option Addr) (n c : Nat) : ∀ v ∈ [Value.int .i64 x, .int .i64 y, .int .i64 z, .int .i64 u, .slice a n c], v.oneCell' = true := by
 intro v hv
 simp at hv
 rcases hv with rfl | rfl | rfl | rfl | rfl <;> rfl
theorem newsI (w : World) (x0 x1 x2 x3 x4 : Value) (g : Nat) (hg : g = w.heap.size) : ∀ j u, [x0, x1, x2, x3, x4][j]? = some u → (w.alloc (.cells #[x0, x1, x2, x3, x4] 116)).cell? ((⟨g, 0, none⟩ : Addr).add j) = some u := by
 intro j u hj
 subst hg
 have hb : (w.alloc (.cells #[x0, x1, x2, x3, x4] 116)).heap[w.heap.size]? = some (.cells #[x0, x1, x2, x3, x4] 116 (0, 0)) := heap_alloc_new w _
 exact World.news_of_block hb j u hj
def SplitsPost (w : World) (c : ByteArray) : Ending → World → Prop := fun e w' => ∃ a n cp, e = .returned (.tuple #[.slice a n cp, .int .i64 (splitE c).1, .int .i64 (splitE c).2]) ∧ Below w.heap.size w w' ∧
 ((splitE c).1 = 0 → Chain c 0 (codeI c) c.size ∧ ∃ xs, SplitMem w w' (.slice a n cp) (codeI c) xs)
theorem ops_split (c : ByteArray) (w : World) (hR : RowsAt w) (hs : c.size ≤ 120) : Calls Tryz.prog 88 #[.string c] w (SplitsPost w c) := by
 obtain ⟨iz, hiz, hzz0, hzz1, hzz2⟩ := info_parts Tryz.infoInstr
 have HR := hidc hR
 have h0 := hR.1
 clear hR
 go_enter Tryz.func88, Tryz.ntmps88
 go_wp2_with fail
 go_loopw [5, 6] (fun pv iv wr => ∃ (p : Nat) (l : List Ins) (xs : List Value), iv = .int .i64 p ∧ Hid (Chain c 0 l p) ∧ Hid (SplitMem w wr pv l xs)) (fun _ iv _ => c.size - (intOf iv).toNat)
 case atStart => exact ⟨0, [], [], rfl, rfl, ⟨⟨rfl, .inl ⟨rfl, rfl⟩⟩, fun k x hk => by simp at hk, Below.refl _ _⟩⟩
 case round =>
  obtain ⟨p, l, xs, rfl, HC, HM⟩ := hrel
  have hsz := HM.out.bel.size
  have hple : p ≤ c.size := chain_le HC.out (Nat.zero_le _)
  have hll : l.length ≤ p := by have := chain_len HC.out; omega
  obtain ⟨pa, pc, rfl⟩ := row_form HM.out.row
  have HRw := hidc (HR.out.below h0 HM.out.bel)
  by_cases hp : p < c.size
  ·by_cases he : opE c p = 0
   ·have HOP := hidc he
    have HC2 := hidc (chain_snoc HC.out hp he)
    have HNX := hidc (show (insI c p).nx = p + sizeI c p from rfl)
    have hzp := sizeI_pos c p
    clear he
    go_wp2_with fail
    refine (ops_read c p wr HRw.out hp hs HOP.out).mono ?_
    rintro e w1 ⟨va, vc, rfl, hown, hb1⟩
    generalize insI c p = x at *
    have HOW := hidc (own_mono hown hsz)
    have HM1 := hidc (HM.out.below hb1)
    have hsz1 : w.heap.size ≤ w1.heap.size := HM1.out.bel.size
    clear hown hb1
    have HMI := hidc (HM1.out.below (below2 w1 (.cells #[.int .i64 x.op, .int .i64 x.pl, .int .i64 x.nx, .int .i64 x.n, .slice va x.to.length vc] 116) (.cells #[.int .i64 x.op, .int .i64 x.pl, .int .i64 x.nx, .int .i64 x.n, .slice va x.to.length vc] 116)))
    have HOWI := hidc (own_below HOW.out (below2 w1 (.cells #[.int .i64 x.op, .int .i64 x.pl, .int .i64 x.nx, .int .i64 x.n, .slice va x.to.length vc] 116) (.cells #[.int .i64 x.op, .int .i64 x.pl, .int .i64 x.nx, .int .i64 x.n, .slice va x.to.length vc] 116)))
    go_wp2_with (at_builtin; refine wpList_append_lies _ rfl (.tmp 23) (.tmp 25) 102 rfl w.heap.size 116 iz (.agg #[.int .i64 0, .int .i64 0, .int .i64 0, .int .i64 0, .slice none 0 0]) 5 56 Tryz.underlying102 hiz hzz0 hzz1 hzz2 rfl (by decide) _ l.length xs rfl HMI.out.row ⟨w1.heap.size + 1, 0, none⟩ 1 1 [.int .i64 x.op, .int .i64 x.pl, .int .i64 x.nx, .int .i64 x.n, .slice va x.to.length vc] rfl rfl (newsI _ _ _ _ _ _ _ (by simp)) (one5 _ _ _ _ _ _ _) (by decide) (by unfold maxLen; omega) (by omega) (by simp; omega) _ rfl ?_)
    intro ga ca w5 hown5 hgrow5 hat5 hlt5
    have HSTEP := hidc (HMI.out.step hgrow5 _ _ x hown5 HOWI.out)
    have hI5 : w5.heap[w1.heap.size]? = some (.cells #[.int .i64 x.op, .int .i64 x.pl, .int .i64 x.nx, .int .i64 x.n, .slice va x.to.length vc] 116 (0, 0)) := by
     rw [hgrow5.block w1.heap.size (by simp; omega) (fun e => by have := (HM1.out.row.lt _ e.symm).2; omega)]
     exact (Below.heap_alloc _ _ _ (by simp)).trans (heap_alloc_new w1 _)
    have d2 : w5.cell? ⟨w1.heap.size, 2, none⟩ = some (.int .i64 x.nx) := by rw [cell_of_block hI5]; rfl
    clear hown5 hgrow5 hat5 hlt5 hI5
    go_wp2_with fail
    go_roundw
    case rel => exact ⟨x.nx, l ++ [x], _, rfl, by rw [HNX.out]; exact HC2.out, HSTEP.out⟩
    case measure =>
     have := HNX.out
     simp [intOf]
     omega
   ·have e1 := hidc (split_stop HC.out hp he)
    have hE : opE c p = 6 ∨ opE c p = 7 := by
     unfold opE at he ⊢
     by_cases h1 : 21 ≤ byteN c p
     ·left; rw [if_pos h1]
     ·by_cases h2 : c.size < p + sizeI c p
      ·right; rw [if_neg h1, if_pos h2]
      ·rw [if_neg h1, if_neg h2] at he; exact absurd rfl he
    generalize hg : opE c p = eo at *
    have hne : ((eo : Int) == 0) = false := by simp; omega
    have HG := hidc hg
    clear hg he hE
    go_wp2_with fail
    refine (ops_read_bad c p wr HRw.out hp hs (by rw [HG.out]; simp at hne; omega)).mono ?_
    rw [HG.out]
    rintro e w1 ⟨rfl, hb1⟩
    go_wp2_with fail
    go_ret3
    refine ⟨_, _, _, by rw [e1.out]; rfl, (HM.out.bel.trans (hb1.mono hsz)).alloc (Nat.le_trans hsz hb1.size) _, fun h => ?_⟩
    rw [e1.out] at h
    simp at hne
    simp at h
    omega
  ·obtain ⟨e1, e2⟩ := split_done HC.out (by omega)
   have hps : p = c.size := by omega
   go_wp2_with fail
   go_ret3
   refine ⟨_, _, _, by rw [e2]; rfl, HM.out.bel, fun _ => ?_⟩
   rw [e1]
   exact ⟨by rw [← hps]; exact HC.out, xs, HM.out⟩
def SplitPost (w : World) (L H : Nat) (sv : Value) (s : Sec) (hv : Value) : Ending → World → Prop := fun e w' => e = .returned (.tuple #[.int .i64 (splitE s.code).1, .int .i64 (splitE s.code).2]) ∧ Kp w.heap.size L w w' ∧
 ((splitE s.code).1 = 0 → Chain s.code 0 (codeI s.code) s.code.size ∧ ∃ g cap, w'.heap[L]? = some (.cells #[sv, .int .i64 s.i, .int .i64 s.o, .int .i64 s.m, .string s.code, .slice (some ⟨g, 0, none⟩) (codeI s.code).length cap, hv] 104 (0, 0)) ∧ w.heap.size ≤ g ∧ InsAt w' H g (codeI s.code))
theorem look_split (w : World) (L H : Nat) (sv hv : Value) (s : Sec) (hL : w.heap[L]? = some (.cells #[sv, .int .i64 s.i, .int .i64 s.o, .int .i64 s.m, .string s.code, .slice none 0 0, hv] 104 (0, 0)))
  (hR : RowsAt w) (_h0 : 0 ≠ L) (hH : H < w.heap.size) (hs : 1 ≤ s.code.size ∧ s.code.size ≤ 120) :
  Calls Tryz.prog 82 #[.pointer (some ⟨L, 0, none⟩)] w (SplitPost w L H sv s hv) := by
 have hLs := blt hL
 have HL := hidc hL
 have HR := hidc hR
 have cL4 : w.cell? ⟨L, 4, none⟩ = some (.string s.code) := by rw [cell_of_block hL]; rfl
 clear hL hR
 go_enter Tryz.func82, Tryz.ntmps82
 go_wp2_with (go_at_call 88; refine (ops_split s.code w HR.out hs.2).mono ?_; rintro e w1 ⟨sa, sn, sc, rfl, hb1, hC1⟩; have hL1 := keepB hb1 HL.out; have c5 := cell_of_block hL1 5; have f5 := unfrozen_of_block hL1 5; have hLs1 : L < w1.heap.size := blt hL1; have HL1 := hidc hL1; have HB1 := hidc hb1; have HC1 := hidc hC1; clear hL1 hb1 hC1)
 go_ret2
 refine ⟨rfl, ((Kp.of HB1.out L).set _ _), fun h => ?_⟩
 obtain ⟨q1, xs, q2⟩ := HC1.out h
 have hl0 : 0 < (codeI s.code).length := by
  cases hcl : codeI s.code with
  | nil => rw [hcl] at q1; have : (0 : Nat) = s.code.size := q1; omega
  | cons x l => simp
 obtain ⟨g, cap, e1, hg, hI⟩ := q2.insAt_set hLs hH hl0 5 (.slice sa sn sc)
 refine ⟨q1, g, cap, ?_, hg, hI⟩
 rw [← e1]
 exact block_setCell HL1.out _
end Go.Proofs.YtdhmandnamajpaaGreatDoor
namespace Go.Proofs.YtdhmandnamajpaaGreatDoor
open Go.RowKit Go.Joins
set_option maxHeartbeats 1000000
theorem Tryz.info16 : (Tryz.prog.info? 85).map (fun i => (i.zero, i.size, i.bytes)) = some (some (.int .u16 0), 1, 2) := by kernel_rfl
theorem Tryz.infoFrame : (Tryz.prog.info? 81).map (fun i => (i.zero, i.size, i.bytes)) = some (some (.agg #[.int .i64 0, .int .i64 0, .int .i64 0]), 3, 24) := by kernel_rfl
def uV (l : List Nat) : List Value := l.map (fun v => .int .u16 (v : Nat))
def nV (l : List Nat) : List Value := l.map (fun v => .int .i64 (v : Nat))
def fV : List (Nat × Nat × Nat) → List Value
 | [] => []
 | f :: r => .int .i64 (f.1 : Nat) :: .int .i64 (f.2.1 : Nat) :: .int .i64 (f.2.2 : Nat) :: fV r
theorem fV_append (a b : List (Nat × Nat × Nat)) : fV (a ++ b) = fV a ++ fV b := by
 induction a with
 | nil => rfl
 | cons f r ih => simp [fV, ih]
theorem fV_get (a : List (Nat × Nat × Nat)) (k : Nat) (f : Nat × Nat × Nat) (h : a[k]? = some f) : (fV a)[k * 3]? = some (.int .i64 (f.1 : Nat)) ∧ (fV a)[k * 3 + 1]? = some (.int .i64 (f.2.1 : Nat)) ∧ (fV a)[k * 3 + 2]? = some (.int .i64 (f.2.2 : Nat)) := by
 induction a generalizing k with
 | nil => simp at h
 | cons g r ih =>
  cases k with
  | zero => simp at h; subst h; exact ⟨rfl, rfl, rfl⟩
  | succ k =>
   simp at h
   obtain ⟨a1, a2, a3⟩ := ih k h
   rw [show (k + 1) * 3 = k * 3 + 3 by omega]
   exact ⟨a1, a2, a3⟩
theorem row_cut {w : World} {B e s n k : Nat} {a : Option Addr} {c : Nat} {xs : List Value} (h : w.ownsRow B e s (.slice a n c) n xs) (hk : k ≤ n) : w.ownsRow B e s (.slice a k c) k (xs.take (k * s)) := by
 have hks : k * s ≤ n * s := Nat.mul_le_mul_right s hk
 refine ⟨by rw [List.length_take, h.1]; omega, ?_⟩
 rcases h.2 with ⟨e1, e2⟩ | ⟨g, cap, cur, hv, hb, hg, h1, h2, h3, h4⟩
 ·injection e1 with q1 q2 q3
  have : k = 0 := by omega
  subst this q1 q3
  exact .inl ⟨rfl, rfl⟩
 ·injection hv with q1 q2 q3
  subst q1 q3
  refine .inr ⟨g, c, cur, rfl, hb, hg, by omega, h2, h3, ?_⟩
  rw [← h4, List.take_take, Nat.min_eq_left hks]
theorem row_cell {w : World} {B e s n : Nat} {a : Option Addr} {c : Nat} {xs : List Value} (h : w.ownsRow B e s (.slice a n c) n xs) {j : Nat} {u : Value} (hu : xs[j]? = some u) : ∃ g, a = some ⟨g, 0, none⟩ ∧ B ≤ g ∧ g < w.heap.size ∧ w.cell? ⟨g, j, none⟩ = some u := by
 have hj : j < xs.length := (List.getElem?_eq_some_iff.1 hu).1
 rcases h.2 with ⟨e1, e2⟩ | ⟨g, cap, cur, hv, hb, hg, h1, h2, h3, h4⟩
 ·rw [h.1, e2] at hj; omega
 ·injection hv with q1 q2 q3
  refine ⟨g, q1, hb, blt hg, ?_⟩
  rw [cell_of_block hg]
  rw [← h4, List.getElem?_take_of_lt (by rw [← h.1]; exact hj)] at hu
  simpa using hu
theorem row_set {w : World} {B e s n : Nat} {g c : Nat} {xs : List Value} (h : w.ownsRow B e s (.slice (some ⟨g, 0, none⟩) n c) n xs) (j : Nat) (u : Value) : (w.setCell ⟨g, j, none⟩ u).ownsRow B e s (.slice (some ⟨g, 0, none⟩) n c) n (xs.set j u) := by
 refine ⟨by rw [List.length_set, h.1], ?_⟩
 rcases h.2 with ⟨e1, e2⟩ | ⟨g', cap, cur, hv, hb, hg, h1, h2, h3, h4⟩
 ·cases e1
 ·injection hv with q1 q2 q3
  injection q1 with q1
  injection q1 with q1
  subst q1 q3
  refine .inr ⟨g, c, cur.setIfInBounds j u, rfl, hb, block_setCell hg _, h1, h2, by simp [h3], ?_⟩
  rw [← h4]
  simp [List.take_set]
structure Fix where
 secsV : Value
 d : ByteArray
 codesV : Value
structure Mach (w0 w : World) (M B : Nat) (F : Fix) (m : MS) (frV stV outV : Value) : Prop where
 blk : ∃ cs, w.heap[M]? = some (.cells cs 88 (0, 0)) ∧ cs.size = 29
 c0 : w.cell? ⟨M, 0, none⟩ = some F.secsV
 c1 : w.cell? ⟨M, 1, none⟩ = some (.string F.d)
 c2 : w.cell? ⟨M, 2, none⟩ = some F.codesV
 c3 : w.cell? ⟨M, 3, none⟩ = some (.int .i64 (m.sec : Nat))
 c4 : w.cell? ⟨M, 4, none⟩ = some (.int .i64 (m.pl : Nat))
 c5 : w.cell? ⟨M, 5, none⟩ = some (.int .i64 (m.base : Nat))
 c6 : w.cell? ⟨M, 6, none⟩ = some frV
 c7 : w.cell? ⟨M, 7, none⟩ = some stV
 cm : ∀ a, a < 16 → w.cell? ⟨M, 8 + a, none⟩ = some (.int .u16 (m.mem.getD a 0 : Nat))
 c24 : w.cell? ⟨M, 24, none⟩ = some (.int .i64 (endOf m : Nat))
 c25 : w.cell? ⟨M, 25, none⟩ = some outV
 c26 : w.cell? ⟨M, 26, none⟩ = some (.int .i64 (m.gas : Nat))
 c27 : w.cell? ⟨M, 27, none⟩ = some (.int .i64 (m.steps : Nat))
 c28 : w.cell? ⟨M, 28, none⟩ = some (.bool m.fin.isSome)
 st : w.ownsRow B 85 1 stV m.st.length (uV m.st)
 fr : w.ownsRow B 81 3 frV m.fr.length (fV m.fr)
 out : w.ownsRow B 3 1 outV m.out.length (nV m.out)
 kp : Kp B M w0 w
 lt : M < B
 mlen : m.mem.length = 16
theorem Mach.size {w0 w : World} {M B : Nat} {F : Fix} {m : MS} {frV stV outV : Value} (h : Mach w0 w M B F m frV stV outV) : M < w.heap.size := by obtain ⟨cs, e, _⟩ := h.blk; exact blt e
theorem Mach.froz {w0 w : World} {M B : Nat} {F : Fix} {m : MS} {frV stV outV : Value} (h : Mach w0 w M B F m frV stV outV) (i : Nat) : w.frozen? ⟨M, i, none⟩ = false := by obtain ⟨cs, e, _⟩ := h.blk; exact unfrozen_of_block e i
theorem Mach.below {w0 w w' : World} {M B : Nat} {F : Fix} {m : MS} {frV stV outV : Value} (h : Mach w0 w M B F m frV stV outV) (hb : Below w.heap.size w w') (hB : B ≤ w.heap.size) : Mach w0 w' M B F m frV stV outV := by
 obtain ⟨hc, _⟩ := bcell hb
 have hM := h.size
 obtain ⟨cs, e, e'⟩ := h.blk
 exact ⟨⟨cs, keepB hb e, e'⟩, (hc _ _ hM).trans h.c0, (hc _ _ hM).trans h.c1, (hc _ _ hM).trans h.c2, (hc _ _ hM).trans h.c3, (hc _ _ hM).trans h.c4, (hc _ _ hM).trans h.c5, (hc _ _ hM).trans h.c6, (hc _ _ hM).trans h.c7, fun a ha => (hc _ _ hM).trans (h.cm a ha), (hc _ _ hM).trans h.c24, (hc _ _ hM).trans h.c25, (hc _ _ hM).trans h.c26, (hc _ _ hM).trans h.c27, (hc _ _ hM).trans h.c28,
  own_below h.st hb, own_below h.fr hb, own_below h.out hb, h.kp.trans ((Kp.of hb M).mono hB), h.lt, h.mlen⟩
theorem adne {M i j : Nat} (h : i ≠ j) : (⟨M, i, none⟩ : Addr) ≠ ⟨M, j, none⟩ := fun e => h (by injection e)
theorem mset_same {w : World} {a : Addr} {v u : Value} (h : w.cell? a = some u) : (w.setCell a v).cell? a = some v := World.cell?_setCell_same _ _ _ h
theorem mset_other {w : World} {a b : Addr} {v : Value} (h : a ≠ b) : (w.setCell a v).cell? b = w.cell? b := World.cell?_setCell_other _ _ _ _ h
theorem Mach.set_sec {w0 w : World} {M B : Nat} {F : Fix} {m : MS} {frV stV outV : Value} (h : Mach w0 w M B F m frV stV outV) (v : Nat) : Mach w0 (w.setCell ⟨M, 3, none⟩ (.int .i64 (v : Nat))) M B F { m with sec := v } frV stV outV := by
 obtain ⟨cs, e, e'⟩ := h.blk
 refine ⟨⟨_, block_setCell e _, by simp [e']⟩, (mset_other (adne (by omega))).trans h.c0, (mset_other (adne (by omega))).trans h.c1, (mset_other (adne (by omega))).trans h.c2, mset_same h.c3, (mset_other (adne (by omega))).trans h.c4, (mset_other (adne (by omega))).trans h.c5, (mset_other (adne (by omega))).trans h.c6, (mset_other (adne (by omega))).trans h.c7, fun a ha => (mset_other (adne (by omega))).trans (h.cm a ha), (mset_other (adne (by omega))).trans h.c24, (mset_other (adne (by omega))).trans h.c25, (mset_other (adne (by omega))).trans h.c26, (mset_other (adne (by omega))).trans h.c27, (mset_other (adne (by omega))).trans h.c28, own_set h.st h.lt _ _, own_set h.fr h.lt _ _, own_set h.out h.lt _ _, h.kp.set _ _, h.lt, h.mlen⟩
theorem Mach.set_pl {w0 w : World} {M B : Nat} {F : Fix} {m : MS} {frV stV outV : Value} (h : Mach w0 w M B F m frV stV outV) (v : Nat) : Mach w0 (w.setCell ⟨M, 4, none⟩ (.int .i64 (v : Nat))) M B F { m with pl := v } frV stV outV := by
 obtain ⟨cs, e, e'⟩ := h.blk
 refine ⟨⟨_, block_setCell e _, by simp [e']⟩, (mset_other (adne (by omega))).trans h.c0, (mset_other (adne (by omega))).trans h.c1, (mset_other (adne (by omega))).trans h.c2, (mset_other (adne (by omega))).trans h.c3, mset_same h.c4, (mset_other (adne (by omega))).trans h.c5, (mset_other (adne (by omega))).trans h.c6, (mset_other (adne (by omega))).trans h.c7, fun a ha => (mset_other (adne (by omega))).trans (h.cm a ha), (mset_other (adne (by omega))).trans h.c24, (mset_other (adne (by omega))).trans h.c25, (mset_other (adne (by omega))).trans h.c26, (mset_other (adne (by omega))).trans h.c27, (mset_other (adne (by omega))).trans h.c28, own_set h.st h.lt _ _, own_set h.fr h.lt _ _, own_set h.out h.lt _ _, h.kp.set _ _, h.lt, h.mlen⟩
theorem Mach.set_base {w0 w : World} {M B : Nat} {F : Fix} {m : MS} {frV stV outV : Value} (h : Mach w0 w M B F m frV stV outV) (v : Nat) : Mach w0 (w.setCell ⟨M, 5, none⟩ (.int .i64 (v : Nat))) M B F { m with base := v } frV stV outV := by
 obtain ⟨cs, e, e'⟩ := h.blk
 refine ⟨⟨_, block_setCell e _, by simp [e']⟩, (mset_other (adne (by omega))).trans h.c0, (mset_other (adne (by omega))).trans h.c1, (mset_other (adne (by omega))).trans h.c2, (mset_other (adne (by omega))).trans h.c3, (mset_other (adne (by omega))).trans h.c4, mset_same h.c5, (mset_other (adne (by omega))).trans h.c6, (mset_other (adne (by omega))).trans h.c7, fun a ha => (mset_other (adne (by omega))).trans (h.cm a ha), (mset_other (adne (by omega))).trans h.c24, (mset_other (adne (by omega))).trans h.c25, (mset_other (adne (by omega))).trans h.c26, (mset_other (adne (by omega))).trans h.c27, (mset_other (adne (by omega))).trans h.c28, own_set h.st h.lt _ _, own_set h.fr h.lt _ _, own_set h.out h.lt _ _, h.kp.set _ _, h.lt, h.mlen⟩
theorem Mach.set_gas {w0 w : World} {M B : Nat} {F : Fix} {m : MS} {frV stV outV : Value} (h : Mach w0 w M B F m frV stV outV) (v : Nat) : Mach w0 (w.setCell ⟨M, 26, none⟩ (.int .i64 (v : Nat))) M B F { m with gas := v } frV stV outV := by
 obtain ⟨cs, e, e'⟩ := h.blk
 refine ⟨⟨_, block_setCell e _, by simp [e']⟩, (mset_other (adne (by omega))).trans h.c0, (mset_other (adne (by omega))).trans h.c1, (mset_other (adne (by omega))).trans h.c2, (mset_other (adne (by omega))).trans h.c3, (mset_other (adne (by omega))).trans h.c4, (mset_other (adne (by omega))).trans h.c5, (mset_other (adne (by omega))).trans h.c6, (mset_other (adne (by omega))).trans h.c7, fun a ha => (mset_other (adne (by omega))).trans (h.cm a ha), (mset_other (adne (by omega))).trans h.c24, (mset_other (adne (by omega))).trans h.c25, mset_same h.c26, (mset_other (adne (by omega))).trans h.c27, (mset_other (adne (by omega))).trans h.c28, own_set h.st h.lt _ _, own_set h.fr h.lt _ _, own_set h.out h.lt _ _, h.kp.set _ _, h.lt, h.mlen⟩
theorem Mach.set_steps {w0 w : World} {M B : Nat} {F : Fix} {m : MS} {frV stV outV : Value} (h : Mach w0 w M B F m frV stV outV) (v : Nat) : Mach w0 (w.setCell ⟨M, 27, none⟩ (.int .i64 (v : Nat))) M B F { m with steps := v } frV stV outV := by
 obtain ⟨cs, e, e'⟩ := h.blk
 refine ⟨⟨_, block_setCell e _, by simp [e']⟩, (mset_other (adne (by omega))).trans h.c0, (mset_other (adne (by omega))).trans h.c1, (mset_other (adne (by omega))).trans h.c2, (mset_other (adne (by omega))).trans h.c3, (mset_other (adne (by omega))).trans h.c4, (mset_other (adne (by omega))).trans h.c5, (mset_other (adne (by omega))).trans h.c6, (mset_other (adne (by omega))).trans h.c7, fun a ha => (mset_other (adne (by omega))).trans (h.cm a ha), (mset_other (adne (by omega))).trans h.c24, (mset_other (adne (by omega))).trans h.c25, (mset_other (adne (by omega))).trans h.c26, mset_same h.c27, (mset_other (adne (by omega))).trans h.c28, own_set h.st h.lt _ _, own_set h.fr h.lt _ _, own_set h.out h.lt _ _, h.kp.set _ _, h.lt, h.mlen⟩
theorem Mach.set_end {w0 w : World} {M B : Nat} {F : Fix} {m : MS} {frV stV outV : Value} (h : Mach w0 w M B F m frV stV outV) (v : Nat) : Mach w0 ((w.setCell ⟨M, 24, none⟩ (.int .i64 (v : Nat))).setCell ⟨M, 28, none⟩ (.bool true)) M B F { m with fin := some v } frV stV outV := by
 obtain ⟨cs, e, e'⟩ := h.blk
 refine ⟨⟨_, block_setCell (block_setCell e _) _, by simp [e']⟩, (mset_other (adne (by omega))).trans ((mset_other (adne (by omega))).trans h.c0), (mset_other (adne (by omega))).trans ((mset_other (adne (by omega))).trans h.c1), (mset_other (adne (by omega))).trans ((mset_other (adne (by omega))).trans h.c2), (mset_other (adne (by omega))).trans ((mset_other (adne (by omega))).trans h.c3), (mset_other (adne (by omega))).trans ((mset_other (adne (by omega))).trans h.c4), (mset_other (adne (by omega))).trans ((mset_other (adne (by omega))).trans h.c5), (mset_other (adne (by omega))).trans ((mset_other (adne (by omega))).trans h.c6), (mset_other (adne (by omega))).trans ((mset_other (adne (by omega))).trans h.c7), fun a ha => (mset_other (adne (by omega))).trans ((mset_other (adne (by omega))).trans (h.cm a ha)), (mset_other (adne (by omega))).trans (mset_same h.c24), (mset_other (adne (by omega))).trans ((mset_other (adne (by omega))).trans h.c25), (mset_other (adne (by omega))).trans ((mset_other (adne (by omega))).trans h.c26), (mset_other (adne (by omega))).trans ((mset_other (adne (by omega))).trans h.c27), mset_same ((mset_other (adne (by omega))).trans h.c28), own_set (own_set h.st h.lt _ _) h.lt _ _, own_set (own_set h.fr h.lt _ _) h.lt _ _, own_set (own_set h.out h.lt _ _) h.lt _ _, (h.kp.set _ _).set _ _, h.lt, h.mlen⟩
theorem Mach.set_mem {w0 w : World} {M B : Nat} {F : Fix} {m : MS} {frV stV outV : Value} (h : Mach w0 w M B F m frV stV outV) (a v : Nat) (ha : a < 16) : Mach w0 (w.setCell ⟨M, 8 + a, none⟩ (.int .u16 (v : Nat))) M B F { m with mem := m.mem.set a v } frV stV outV := by
 obtain ⟨cs, e, e'⟩ := h.blk
 refine ⟨⟨_, block_setCell e _, by simp [e']⟩, (mset_other (adne (by omega))).trans h.c0, (mset_other (adne (by omega))).trans h.c1, (mset_other (adne (by omega))).trans h.c2, (mset_other (adne (by omega))).trans h.c3, (mset_other (adne (by omega))).trans h.c4, (mset_other (adne (by omega))).trans h.c5, (mset_other (adne (by omega))).trans h.c6, (mset_other (adne (by omega))).trans h.c7, fun b hb => ?_, (mset_other (adne (by omega))).trans h.c24, (mset_other (adne (by omega))).trans h.c25, (mset_other (adne (by omega))).trans h.c26, (mset_other (adne (by omega))).trans h.c27, (mset_other (adne (by omega))).trans h.c28, own_set h.st h.lt _ _, own_set h.fr h.lt _ _, own_set h.out h.lt _ _, h.kp.set _ _, h.lt, by simp [h.mlen]⟩
 by_cases hab : a = b
 ·subst hab
  rw [mset_same (h.cm a ha)]
  simp [List.getD, h.mlen, ha]
 ·rw [mset_other (adne (by omega)), h.cm b hb]
  simp [List.getD, List.getElem?_set_ne hab]
theorem Mach.grown {w0 w w' : World} {M B : Nat} {F : Fix} {m : MS} {frV stV outV : Value} (h : Mach w0 w M B F m frV stV outV) {v : Value} (hg : w.grownBy w' v.ownBlock) (hB : B ≤ w.heap.size) (hv : ∀ k, v.ownBlock = some k → B ≤ k) :
  (∀ i, w'.cell? ⟨M, i, none⟩ = w.cell? ⟨M, i, none⟩) ∧ (∃ cs, w'.heap[M]? = some (.cells cs 88 (0, 0)) ∧ cs.size = 29) ∧ Kp B M w0 w' := by
 have hM := h.size
 have hne : v.ownBlock ≠ some M := fun e => by have := hv M e; have := h.lt; omega
 obtain ⟨cs, e, e'⟩ := h.blk
 refine ⟨fun i => World.cell?_of_block (w := w) (hg.block M hM hne.symm), ⟨cs, (hg.block M hM hne.symm).trans e, e'⟩, h.kp.trans ?_⟩
 refine ⟨hg.os, hg.tape, hg.output, hg.size, fun k hk hne2 => hg.block k (by omega) ?_⟩
 intro e2
 have := hv k e2.symm
 omega
theorem Mach.grow_st {w0 w w' : World} {M B : Nat} {F : Fix} {m : MS} {frV stV outV : Value} (h : Mach w0 w M B F m frV stV outV) (hB : B ≤ w.heap.size) (stV' : Value) (l : List Nat) (hg : w.grownBy w' stV.ownBlock) (hr : w'.ownsRow B 85 1 stV' l.length (uV l)) : Mach w0 (w'.setCell ⟨M, 7, none⟩ stV') M B F { m with st := l } frV stV' outV := by
 obtain ⟨hc, ⟨cs, e, e'⟩, hk⟩ := h.grown hg hB (fun k hk => (h.st.lt k hk).1)
 refine ⟨⟨_, block_setCell e _, by simp [e']⟩, (mset_other (adne (by omega))).trans ((hc _).trans h.c0), (mset_other (adne (by omega))).trans ((hc _).trans h.c1), (mset_other (adne (by omega))).trans ((hc _).trans h.c2), (mset_other (adne (by omega))).trans ((hc _).trans h.c3), (mset_other (adne (by omega))).trans ((hc _).trans h.c4), (mset_other (adne (by omega))).trans ((hc _).trans h.c5), (mset_other (adne (by omega))).trans ((hc _).trans h.c6), mset_same ((hc _).trans h.c7), fun a ha => (mset_other (adne (by omega))).trans ((hc _).trans (h.cm a ha)), (mset_other (adne (by omega))).trans ((hc _).trans h.c24), (mset_other (adne (by omega))).trans ((hc _).trans h.c25), (mset_other (adne (by omega))).trans ((hc _).trans h.c26), (mset_other (adne (by omega))).trans ((hc _).trans h.c27), (mset_other (adne (by omega))).trans ((hc _).trans h.c28), own_set hr h.lt _ _, own_set (h.fr.kept hg (own_ne h.fr h.st (by decide))) h.lt _ _, own_set (h.out.kept hg (own_ne h.out h.st (by decide))) h.lt _ _, hk.set _ _, h.lt, h.mlen⟩
theorem Mach.grow_fr {w0 w w' : World} {M B : Nat} {F : Fix} {m : MS} {frV stV outV : Value} (h : Mach w0 w M B F m frV stV outV) (hB : B ≤ w.heap.size) (frV' : Value) (l : List (Nat × Nat × Nat)) (hg : w.grownBy w' frV.ownBlock) (hr : w'.ownsRow B 81 3 frV' l.length (fV l)) : Mach w0 (w'.setCell ⟨M, 6, none⟩ frV') M B F { m with fr := l } frV' stV outV := by
 obtain ⟨hc, ⟨cs, e, e'⟩, hk⟩ := h.grown hg hB (fun k hk => (h.fr.lt k hk).1)
 refine ⟨⟨_, block_setCell e _, by simp [e']⟩, (mset_other (adne (by omega))).trans ((hc _).trans h.c0), (mset_other (adne (by omega))).trans ((hc _).trans h.c1), (mset_other (adne (by omega))).trans ((hc _).trans h.c2), (mset_other (adne (by omega))).trans ((hc _).trans h.c3), (mset_other (adne (by omega))).trans ((hc _).trans h.c4), (mset_other (adne (by omega))).trans ((hc _).trans h.c5), mset_same ((hc _).trans h.c6), (mset_other (adne (by omega))).trans ((hc _).trans h.c7), fun a ha => (mset_other (adne (by omega))).trans ((hc _).trans (h.cm a ha)), (mset_other (adne (by omega))).trans ((hc _).trans h.c24), (mset_other (adne (by omega))).trans ((hc _).trans h.c25), (mset_other (adne (by omega))).trans ((hc _).trans h.c26), (mset_other (adne (by omega))).trans ((hc _).trans h.c27), (mset_other (adne (by omega))).trans ((hc _).trans h.c28), own_set (h.st.kept hg (own_ne h.st h.fr (by decide))) h.lt _ _, own_set hr h.lt _ _, own_set (h.out.kept hg (own_ne h.out h.fr (by decide))) h.lt _ _, hk.set _ _, h.lt, h.mlen⟩
theorem Mach.grow_out {w0 w w' : World} {M B : Nat} {F : Fix} {m : MS} {frV stV outV : Value} (h : Mach w0 w M B F m frV stV outV) (hB : B ≤ w.heap.size) (outV' : Value) (l : List Nat) (hg : w.grownBy w' outV.ownBlock) (hr : w'.ownsRow B 3 1 outV' l.length (nV l)) : Mach w0 (w'.setCell ⟨M, 25, none⟩ outV') M B F { m with out := l } frV stV outV' := by
 obtain ⟨hc, ⟨cs, e, e'⟩, hk⟩ := h.grown hg hB (fun k hk => (h.out.lt k hk).1)
 refine ⟨⟨_, block_setCell e _, by simp [e']⟩, (mset_other (adne (by omega))).trans ((hc _).trans h.c0), (mset_other (adne (by omega))).trans ((hc _).trans h.c1), (mset_other (adne (by omega))).trans ((hc _).trans h.c2), (mset_other (adne (by omega))).trans ((hc _).trans h.c3), (mset_other (adne (by omega))).trans ((hc _).trans h.c4), (mset_other (adne (by omega))).trans ((hc _).trans h.c5), (mset_other (adne (by omega))).trans ((hc _).trans h.c6), (mset_other (adne (by omega))).trans ((hc _).trans h.c7), fun a ha => (mset_other (adne (by omega))).trans ((hc _).trans (h.cm a ha)), (mset_other (adne (by omega))).trans ((hc _).trans h.c24), mset_same ((hc _).trans h.c25), (mset_other (adne (by omega))).trans ((hc _).trans h.c26), (mset_other (adne (by omega))).trans ((hc _).trans h.c27), (mset_other (adne (by omega))).trans ((hc _).trans h.c28), own_set (h.st.kept hg (own_ne h.st h.out (by decide))) h.lt _ _, own_set (h.fr.kept hg (own_ne h.fr h.out (by decide))) h.lt _ _, own_set hr h.lt _ _, hk.set _ _, h.lt, h.mlen⟩
theorem Mach.cut_st {w0 w : World} {M B : Nat} {F : Fix} {m : MS} {frV stV outV : Value} (h : Mach w0 w M B F m frV stV outV) (stV' : Value) (l : List Nat) (hr : w.ownsRow B 85 1 stV' l.length (uV l)) : Mach w0 (w.setCell ⟨M, 7, none⟩ stV') M B F { m with st := l } frV stV' outV := by
 obtain ⟨cs, e, e'⟩ := h.blk
 refine ⟨⟨_, block_setCell e _, by simp [e']⟩, (mset_other (adne (by omega))).trans h.c0, (mset_other (adne (by omega))).trans h.c1, (mset_other (adne (by omega))).trans h.c2, (mset_other (adne (by omega))).trans h.c3, (mset_other (adne (by omega))).trans h.c4, (mset_other (adne (by omega))).trans h.c5, (mset_other (adne (by omega))).trans h.c6, mset_same h.c7, fun a ha => (mset_other (adne (by omega))).trans (h.cm a ha), (mset_other (adne (by omega))).trans h.c24, (mset_other (adne (by omega))).trans h.c25, (mset_other (adne (by omega))).trans h.c26, (mset_other (adne (by omega))).trans h.c27, (mset_other (adne (by omega))).trans h.c28, own_set hr h.lt _ _, own_set h.fr h.lt _ _, own_set h.out h.lt _ _, h.kp.set _ _, h.lt, h.mlen⟩
theorem Mach.cut_fr {w0 w : World} {M B : Nat} {F : Fix} {m : MS} {frV stV outV : Value} (h : Mach w0 w M B F m frV stV outV) (frV' : Value) (l : List (Nat × Nat × Nat)) (hr : w.ownsRow B 81 3 frV' l.length (fV l)) : Mach w0 (w.setCell ⟨M, 6, none⟩ frV') M B F { m with fr := l } frV' stV outV := by
 obtain ⟨cs, e, e'⟩ := h.blk
 refine ⟨⟨_, block_setCell e _, by simp [e']⟩, (mset_other (adne (by omega))).trans h.c0, (mset_other (adne (by omega))).trans h.c1, (mset_other (adne (by omega))).trans h.c2, (mset_other (adne (by omega))).trans h.c3, (mset_other (adne (by omega))).trans h.c4, (mset_other (adne (by omega))).trans h.c5, mset_same h.c6, (mset_other (adne (by omega))).trans h.c7, fun a ha => (mset_other (adne (by omega))).trans (h.cm a ha), (mset_other (adne (by omega))).trans h.c24, (mset_other (adne (by omega))).trans h.c25, (mset_other (adne (by omega))).trans h.c26, (mset_other (adne (by omega))).trans h.c27, (mset_other (adne (by omega))).trans h.c28, own_set h.st h.lt _ _, own_set hr h.lt _ _, own_set h.out h.lt _ _, h.kp.set _ _, h.lt, h.mlen⟩
theorem Mach.cut_out {w0 w : World} {M B : Nat} {F : Fix} {m : MS} {frV stV outV : Value} (h : Mach w0 w M B F m frV stV outV) (outV' : Value) (l : List Nat) (hr : w.ownsRow B 3 1 outV' l.length (nV l)) : Mach w0 (w.setCell ⟨M, 25, none⟩ outV') M B F { m with out := l } frV stV outV' := by
 obtain ⟨cs, e, e'⟩ := h.blk
 refine ⟨⟨_, block_setCell e _, by simp [e']⟩, (mset_other (adne (by omega))).trans h.c0, (mset_other (adne (by omega))).trans h.c1, (mset_other (adne (by omega))).trans h.c2, (mset_other (adne (by omega))).trans h.c3, (mset_other (adne (by omega))).trans h.c4, (mset_other (adne (by omega))).trans h.c5, (mset_other (adne (by omega))).trans h.c6, (mset_other (adne (by omega))).trans h.c7, fun a ha => (mset_other (adne (by omega))).trans (h.cm a ha), (mset_other (adne (by omega))).trans h.c24, mset_same h.c25, (mset_other (adne (by omega))).trans h.c26, (mset_other (adne (by omega))).trans h.c27, (mset_other (adne (by omega))).trans h.c28, own_set h.st h.lt _ _, own_set h.fr h.lt _ _, own_set hr h.lt _ _, h.kp.set _ _, h.lt, h.mlen⟩
end Go.Proofs.YtdhmandnamajpaaGreatDoor
