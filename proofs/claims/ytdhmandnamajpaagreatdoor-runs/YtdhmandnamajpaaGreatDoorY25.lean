import Derived.Test.YtdhmandnamajpaaGreatDoorY00
import Derived.Test.YtdhmandnamajpaaGreatDoorY24
import Derived.Test.YtdhmandnamajpaaGreatDoorY15
namespace Go.Proofs.YtdhmandnamajpaaGreatDoor
open Go.RowKit Go.Joins
set_option maxHeartbeats 2000000
set_option maxRecDepth 8000
def insM (n : Nat) : Array Value := madeCells #[.int .i64 0, .int .i64 0, .int .i64 0, .int .i64 0, .slice none 0 0] (n * 5)
theorem insM_size (n : Nat) : (insM n).size = n * 5 := size_madeCells _ _
theorem make_instrs (n : Nat) (hn : n ≤ 120) (W : World) : (Instr.makeSlice 102 (.int .i64 (n : Int)) (.int .i64 (n : Int))).run Tryz.prog W = .ok (.slice (some ⟨W.heap.size, 0, none⟩) n n) (W.alloc (.cells (insM n) 116)) := by
 obtain ⟨i0, hi, hz0, hz1, hz2⟩ := info_parts Tryz.infoInstr
 have h := run_make (P := Tryz.prog) W 102 116 i0 (.agg #[.int .i64 0, .int .i64 0, .int .i64 0, .int .i64 0, .slice none 0 0]) Tryz.underlying102 hi hz0 .i64 .i64 (n : Int) (n : Int) (by omega) (by omega) (by rw [hz2]; omega) (by omega)
 have e : madeCells (Value.agg #[.int .i64 0, .int .i64 0, .int .i64 0, .int .i64 0, .slice none 0 0]).cells (((n : Nat) : Int).toNat * i0.size) = insM n := by rw [hz1]; rfl
 rw [e] at h
 simpa using h
def set5 (cs : Array Value) (p : Nat) (a b c d e : Value) : Array Value := ((((cs.setIfInBounds (p * 5) a).setIfInBounds (p * 5 + 1) b).setIfInBounds (p * 5 + 2) c).setIfInBounds (p * 5 + 3) d).setIfInBounds (p * 5 + 4) e
theorem set5_size (cs : Array Value) (p : Nat) (a b c d e : Value) : (set5 cs p a b c d e).size = cs.size := by simp [set5]
theorem set5_other {cs : Array Value} {p q i : Nat} {a b c d e : Value} (h : q ≠ p) (hi : i < 5) : (set5 cs p a b c d e)[q * 5 + i]? = cs[q * 5 + i]? := by
 unfold set5
 rw [Array.getElem?_setIfInBounds_ne (by omega), Array.getElem?_setIfInBounds_ne (by omega), Array.getElem?_setIfInBounds_ne (by omega), Array.getElem?_setIfInBounds_ne (by omega), Array.getElem?_setIfInBounds_ne (by omega)]
theorem set5_same {cs : Array Value} {p : Nat} {a b c d e : Value} (h : p * 5 + 4 < cs.size) : (set5 cs p a b c d e)[p * 5]? = some a ∧ (set5 cs p a b c d e)[p * 5 + 1]? = some b ∧ (set5 cs p a b c d e)[p * 5 + 2]? = some c ∧ (set5 cs p a b c d e)[p * 5 + 3]? = some d ∧ (set5 cs p a b c d e)[p * 5 + 4]? = some e := by
 unfold set5
 refine ⟨?_, ?_, ?_, ?_, ?_⟩
 ·rw [Array.getElem?_setIfInBounds_ne (by omega), Array.getElem?_setIfInBounds_ne (by omega), Array.getElem?_setIfInBounds_ne (by omega), Array.getElem?_setIfInBounds_ne (by omega), Array.getElem?_setIfInBounds_self_of_lt (by omega)]
 ·rw [Array.getElem?_setIfInBounds_ne (by omega), Array.getElem?_setIfInBounds_ne (by omega), Array.getElem?_setIfInBounds_ne (by omega), Array.getElem?_setIfInBounds_self_of_lt (by simp; omega)]
 ·rw [Array.getElem?_setIfInBounds_ne (by omega), Array.getElem?_setIfInBounds_ne (by omega), Array.getElem?_setIfInBounds_self_of_lt (by simp; omega)]
 ·rw [Array.getElem?_setIfInBounds_ne (by omega), Array.getElem?_setIfInBounds_self_of_lt (by simp; omega)]
 ·rw [Array.getElem?_setIfInBounds_self_of_lt (by simp; omega)]
structure PlacesAt (w : World) (g n : Nat) (l : List Ins) (cs : Array Value) (k : Nat) : Prop where
 blk : w.heap[g]? = some (.cells cs 116 (0, 0))
 size : cs.size = n * 5
 cells : ∀ (i : Nat) (x : Ins), i < k → l[i]? = some x → cs[x.pl * 5]? = some (.int .i64 x.op) ∧ cs[x.pl * 5 + 1]? = some (.int .i64 x.pl) ∧ cs[x.pl * 5 + 2]? = some (.int .i64 x.nx) ∧ cs[x.pl * 5 + 3]? = some (.int .i64 x.n) ∧ ∃ v, cs[x.pl * 5 + 4]? = some v ∧ w.ownsRow (g + 1) 3 1 v x.to.length (iV x.to)
theorem PlacesAt.kept {w w' : World} {g n k : Nat} {l : List Ins} {cs : Array Value} (h : PlacesAt w g n l cs k) (hb : Below w.heap.size w w') : PlacesAt w' g n l cs k where
 blk := keepB hb h.blk
 size := h.size
 cells := fun i x hi hx => by
  obtain ⟨a, b, c, d, v, e, f⟩ := h.cells i x hi hx
  exact ⟨a, b, c, d, v, e, own_below f hb⟩
theorem own_kp {w w' : World} {B H e s n : Nat} {v : Value} {xs : List Value} (h : w.ownsRow B e s v n xs) (hk : Kp w.heap.size H w w') (hH : H < B) : w'.ownsRow B e s v n xs :=
 ⟨h.1, h.2.imp id (fun ⟨g', cap, cur, hv, hb, hc, r⟩ => ⟨g', cap, cur, hv, hb, (hk.block g' (blt hc) (by omega)).trans hc, r⟩)⟩
theorem SplitMem.rows {w0 w : World} {pv : Value} {l : List Ins} {xs : List Value} (h : SplitMem w0 w pv l xs) (hl : 0 < l.length) : ∃ g cap, pv = .slice (some ⟨g, 0, none⟩) l.length cap ∧ w0.heap.size ≤ g ∧ g < w.heap.size ∧
  ∀ (k : Nat) (x : Ins), l[k]? = some x → w.cell? ⟨g, k * 5, none⟩ = some (.int .i64 x.op) ∧ w.cell? ⟨g, k * 5 + 1, none⟩ = some (.int .i64 x.pl) ∧ w.cell? ⟨g, k * 5 + 2, none⟩ = some (.int .i64 x.nx) ∧ w.cell? ⟨g, k * 5 + 3, none⟩ = some (.int .i64 x.n) ∧ ∃ v, w.cell? ⟨g, k * 5 + 4, none⟩ = some v ∧ w.ownsRow w0.heap.size 3 1 v x.to.length (iV x.to) := by
 rcases h.row.2 with ⟨_, e⟩ | ⟨g, cap, cur, hv', hb, hg, hc, _, hs, ht⟩
 ·omega
 ·refine ⟨g, cap, hv', hb, blt hg, fun k x hk => ?_⟩
  obtain ⟨a, b, c, d, v, e, f⟩ := h.flat k x hk
  have hlt : k < l.length := (List.getElem?_eq_some_iff.1 hk).1
  have get : ∀ j u, j < l.length * 5 → xs[j]? = some u → w.cell? ⟨g, j, none⟩ = some u := fun j u hj hu => by
   rw [cell_of_block hg]
   rw [← ht, List.getElem?_take_of_lt hj] at hu
   simpa using hu
  exact ⟨get _ _ (by omega) a, get _ _ (by omega) b, get _ _ (by omega) c, get _ _ (by omega) d, v, get _ _ (by omega) e, f⟩
def ByPost (w : World) (c : ByteArray) : Ending → World → Prop := fun e w' => e = .returned (.slice (some ⟨w.heap.size, 0, none⟩) c.size c.size) ∧ Below w.heap.size w w' ∧ ∃ cs, PlacesAt w' w.heap.size c.size (codeI c) cs (codeI c).length
theorem by_places (c : ByteArray) (w : World) (hR : RowsAt w) (hs : 1 ≤ c.size ∧ c.size ≤ 120) (hok : (splitE c).1 = 0) : Calls Tryz.prog 52 #[.string c] w (ByPost w c) := by
 have hmk := make_instrs c.size hs.2
 have HR := hidc hR
 have HOK := hidc hok
 clear hR hok
 go_enter Tryz.func52, Tryz.ntmps52
 go_wp2_with fail
 refine (ops_split c _ (HR.out.alloc _) hs.2).mono ?_
 rintro e w2 ⟨sa, sn, sc, rfl, hb2, hC2⟩
 obtain ⟨hch, xs, hmem⟩ := hC2 HOK.out
 have HCH := hidc (chained hch)
 have hl0 : 0 < (codeI c).length := by
  cases hcl : codeI c with
  | nil => rw [hcl] at hch; have : (0 : Nat) = c.size := hch; omega
  | cons _ _ => simp
 have hlen : (codeI c).length ≤ 120 := by have := chain_len hch; omega
 obtain ⟨g, cap, hpv, hgB, hg2, hI⟩ := hmem.rows hl0
 rw [show (w.alloc (.cells (insM c.size) 116)).heap.size = w.heap.size + 1 by simp] at hgB hI
 injection hpv with e1 e2 e3
 subst e1 e2 e3
 have HB2 := hidc hb2
 have hsz2 : w.heap.size + 1 ≤ w2.heap.size := by have := hb2.size; simpa using this
 have hk2 : w2.heap[w.heap.size]? = some (.cells (insM c.size) 116 (0, 0)) := keepB hb2 (heap_alloc_new w _)
 have HP0 : Hid (PlacesAt w2 w.heap.size c.size (codeI c) (insM c.size) 0) := ⟨hk2, insM_size _, fun i x hi => by omega⟩
 have HI := hidc hI
 have HBW : Hid (Below w.heap.size w w2) := ((boxB w (.cells (insM c.size) 116)).trans (hb2.mono (by simp)))
 rw [HOK.out]
 clear hC2 hch hmem hb2 hI hk2 HOK
 generalize (splitE c).2 = sp2
 generalize hlq : codeI c = l at *
 have HLQ := hidc hlq
 clear hlq
 go_wp2_with fail
 go_loopw [20] (fun iv wk => ∃ (k : Nat) (cs : Array Value), k ≤ l.length ∧ iv = .int .i64 k ∧ Hid (PlacesAt wk w.heap.size c.size l cs k) ∧ Hid (Kp w2.heap.size w.heap.size w2 wk) ∧ Hid (Below w.heap.size w wk)) (fun iv _ => l.length - (intOf iv).toNat)
 case atStart => exact ⟨0, _, Nat.zero_le _, rfl, HP0.out, Kp.refl _ _ _, HBW.out⟩
 case round =>
  obtain ⟨k, cs, hk, rfl, HPk, HKk, HBk⟩ := hrel
  by_cases hkl : k < l.length
  ·have hxk : l[k]? = some l[k] := by simp [hkl]
   have hpl := HCH.out.lt k _ hxk
   obtain ⟨d0, d1, d2, d3, v, d4, hv2⟩ := HI.out k _ hxk
   have c0 := (HKk.out.cell hg2 (by omega) _).trans d0
   have c1 := (HKk.out.cell hg2 (by omega) _).trans d1
   have c2 := (HKk.out.cell hg2 (by omega) _).trans d2
   have c3 := (HKk.out.cell hg2 (by omega) _).trans d3
   have c4 := (HKk.out.cell hg2 (by omega) _).trans d4
   have hv := own_kp hv2 HKk.out (by omega)
   have hgr : g < wr.heap.size := Nat.lt_of_lt_of_le hg2 HKk.out.size
   clear d0 d1 d2 d3 d4 hv2
   have HDI := hidc (HCH.out.distinct hkl)
   generalize l[k] = x at *
   obtain ⟨va, vc, rfl⟩ := row_form hv
   have hH : w.heap.size < wr.heap.size := blt HPk.out.blk
   have hsz5 : x.pl * 5 + 4 < cs.size := by rw [HPk.out.size]; omega
   have z : ∀ i, i < 5 → ∃ u, wr.cell? ⟨w.heap.size, x.pl * 5 + i, none⟩ = some u := fun i hi => ⟨cs[x.pl * 5 + i]'(by omega), by rw [cell_of_block HPk.out.blk]; simp⟩
   obtain ⟨z0, hz0⟩ := z 0 (by omega)
   obtain ⟨z1, hz1⟩ := z 1 (by omega)
   obtain ⟨z2, hz2⟩ := z 2 (by omega)
   obtain ⟨z3, hz3⟩ := z 3 (by omega)
   obtain ⟨z4, hz4⟩ := z 4 (by omega)
   have y : ∀ i, wr.frozen? ⟨w.heap.size, i, none⟩ = false := fun i => unfrozen_of_block HPk.out.blk i
   have y0 := y (x.pl * 5)
   have y1 := y (x.pl * 5 + 1)
   have y2 := y (x.pl * 5 + 2)
   have y3 := y (x.pl * 5 + 3)
   have y4 := y (x.pl * 5 + 4)
   simp only [Nat.add_zero] at hz0
   have HV := hidc hv
   have HXK := hidc hxk
   have hkp : Kp wr.heap.size w.heap.size wr (((((wr.setCell ⟨w.heap.size, x.pl * 5, none⟩ (.int .i64 x.op)).setCell ⟨w.heap.size, x.pl * 5 + 1, none⟩ (.int .i64 x.pl)).setCell ⟨w.heap.size, x.pl * 5 + 2, none⟩ (.int .i64 x.nx)).setCell ⟨w.heap.size, x.pl * 5 + 3, none⟩ (.int .i64 x.n)).setCell ⟨w.heap.size, x.pl * 5 + 4, none⟩ (.slice va x.to.length vc)) := (((((Kp.refl _ _ _).set _ _).set _ _).set _ _).set _ _).set _ _
   have HP5 : Hid (PlacesAt (((((wr.setCell ⟨w.heap.size, x.pl * 5, none⟩ (.int .i64 x.op)).setCell ⟨w.heap.size, x.pl * 5 + 1, none⟩ (.int .i64 x.pl)).setCell ⟨w.heap.size, x.pl * 5 + 2, none⟩ (.int .i64 x.nx)).setCell ⟨w.heap.size, x.pl * 5 + 3, none⟩ (.int .i64 x.n)).setCell ⟨w.heap.size, x.pl * 5 + 4, none⟩ (.slice va x.to.length vc)) w.heap.size c.size l (set5 cs x.pl (.int .i64 x.op) (.int .i64 x.pl) (.int .i64 x.nx) (.int .i64 x.n) (.slice va x.to.length vc)) (k + 1)) := by
    refine ⟨block_setCell (block_setCell (block_setCell (block_setCell (block_setCell HPk.out.blk _) _) _) _) _, by rw [set5_size]; exact HPk.out.size, fun i y hi hy => ?_⟩
    by_cases e : i = k
    ·subst e
     have hyx : x = y := by
      have := HXK.out.symm.trans hy
      injection this
     subst hyx
     obtain ⟨q0, q1, q2, q3, q4⟩ := set5_same (a := .int .i64 x.op) (b := .int .i64 x.pl) (c := .int .i64 x.nx) (d := .int .i64 x.n) (e := .slice va x.to.length vc) hsz5
     exact ⟨q0, q1, q2, q3, _, q4, own_kp HV.out hkp (by omega)⟩
    ·have hne := HDI.out i y hy e
     obtain ⟨q0, q1, q2, q3, u, q4, q5⟩ := HPk.out.cells i y (by omega) hy
     exact ⟨(set5_other (i := 0) hne (by omega)).trans q0, (set5_other hne (by omega)).trans q1, (set5_other hne (by omega)).trans q2, (set5_other hne (by omega)).trans q3, u, (set5_other hne (by omega)).trans q4, own_kp q5 hkp (by omega)⟩
   have HK5 := hidc (HKk.out.trans (hkp.mono HKk.out.size))
   clear hv hxk z y hkp
   go_wp2_with fail
   go_roundw
   case rel =>
    refine ⟨k + 1, _, by omega, by go_num, HP5.out.kept (boxB _ _), HK5.out.trans ((Kp.of (boxB _ _) _).mono HK5.out.size), ?_⟩
    exact (((((HBk.out.setCell (Nat.le_refl _) _).setCell (Nat.le_refl _) _).setCell (Nat.le_refl _) _).setCell (Nat.le_refl _) _).setCell (Nat.le_refl _) _).alloc (by simp [World.setCell]; omega) _
   case measure => simp [intOf]; omega
  ·obtain rfl : k = l.length := by omega
   go_wp2_with fail
   go_ret
   exact ⟨rfl, HBk.out, cs, by rw [HLQ.out]; exact HPk.out⟩
end Go.Proofs.YtdhmandnamajpaaGreatDoor
namespace Go.Proofs.YtdhmandnamajpaaGreatDoor
open Go.RowKit Go.Joins
set_option maxHeartbeats 2000000
set_option maxRecDepth 8000
theorem Tryz.infoInstrs : (Tryz.prog.info? 102).map (fun i => (i.zero, i.size, i.bytes)) = some (some (.slice none 0 0), 1, 24) := by kernel_rfl
def machA (sv : Value) (d : ByteArray) (cv : Value) (gas : Int) : Array Value := #[sv, .string d, cv, .int .i64 0, .int .i64 0, .int .i64 0, .slice none 0 0, .slice none 0 0, .int .u16 0, .int .u16 0, .int .u16 0, .int .u16 0, .int .u16 0, .int .u16 0, .int .u16 0, .int .u16 0, .int .u16 0, .int .u16 0, .int .u16 0, .int .u16 0, .int .u16 0, .int .u16 0, .int .u16 0, .int .u16 0, .int .i64 0, .slice none 0 0, .int .i64 gas, .int .i64 0, .bool false]
structure BegS (w0 w : World) (S : List Sec) (b off cap : Nat) (d : ByteArray) (gas : Int) (cv : Value) (vs : List Value) (k : Nat) : Prop where
 blk : w.heap[w0.heap.size + 1]? = some (.cells (machA (.slice (some ⟨b, off, none⟩) S.length cap) d cv gas) 88 (0, 0))
 row : w.ownsRow (w0.heap.size + 2) 102 1 cv k vs
 each : ∀ j (hj : j < S.length), j < k → ∃ g cs, vs[j]? = some (.slice (some ⟨g, 0, none⟩) S[j].code.size S[j].code.size) ∧ w0.heap.size + 2 ≤ g ∧ PlacesAt w g S[j].code.size (codeI S[j].code) cs (codeI S[j].code).length
 bel : Below w0.heap.size w0 w
theorem BegS.below {w0 w w' : World} {S : List Sec} {b off cap : Nat} {d : ByteArray} {gas : Int} {cv : Value} {vs : List Value} {k : Nat} (h : BegS w0 w S b off cap d gas cv vs k) (hb : Below w.heap.size w w') : BegS w0 w' S b off cap d gas cv vs k where
 blk := keepB hb h.blk
 row := own_below h.row hb
 each := fun j hj hk => by
  obtain ⟨g, cs, e1, e2, e3⟩ := h.each j hj hk
  exact ⟨g, cs, e1, e2, e3.kept hb⟩
 bel := h.bel.trans (hb.mono h.bel.size)
theorem PlacesAt.grown {w w' : World} {g n k B : Nat} {l : List Ins} {cs : Array Value} {cv : Value} {kn : Nat} {vs : List Value} (h : PlacesAt w g n l cs k) (hr : w.ownsRow B 102 1 cv kn vs) (hg : w.grownBy w' cv.ownBlock) : PlacesAt w' g n l cs k where
 blk := by
  refine (hg.block g (blt h.blk) ?_).trans h.blk
  intro e
  rcases hr.2 with ⟨rfl, _⟩ | ⟨g', cap, cur, rfl, _, hg', _⟩
  ·simp [Value.ownBlock] at e
  ·simp [Value.ownBlock] at e
   subst e
   have := h.blk
   rw [hg'] at this
   simp at this
 size := h.size
 cells := fun i x hi hx => by
  obtain ⟨a, b, c, d, v, e, f⟩ := h.cells i x hi hx
  exact ⟨a, b, c, d, v, e, f.kept hg (own_ne f hr (by decide))⟩
theorem PlacesAt.set {w : World} {g n k M i : Nat} {l : List Ins} {cs : Array Value} (h : PlacesAt w g n l cs k) (hM : M < g) (u : Value) : PlacesAt (w.setCell ⟨M, i, none⟩ u) g n l cs k where
 blk := (Below.heap_setCell _ _ _ _ (by show g ≠ M; omega)).trans h.blk
 size := h.size
 cells := fun j x hi hx => by
  obtain ⟨a, b, c, d, v, e, f⟩ := h.cells j x hi hx
  exact ⟨a, b, c, d, v, e, own_set f (by omega) _ _⟩
theorem own_block_ne {w : World} {B e s n k : Nat} {v : Value} {xs : List Value} {cs : Array Value} {ty : TypeId} {fz : Nat × Nat} (h : w.ownsRow B e s v n xs) (hk : w.heap[k]? = some (.cells cs ty fz)) (hne : e ≠ ty) : v.ownBlock ≠ some k := by
 intro q
 rcases h.2 with ⟨rfl, _⟩ | ⟨g, cap, cur, rfl, _, hg, _⟩
 ·simp [Value.ownBlock] at q
 ·simp [Value.ownBlock] at q
  subst q
  rw [hg] at hk
  injection hk with hk
  injection hk with h1 h2 h3
  exact hne h2
theorem newsC (w : World) (x : Value) (g : Nat) (hg : g = w.heap.size) : ∀ j u, [x][j]? = some u → (w.alloc (.cells #[x] 102)).cell? ((⟨g, 0, none⟩ : Addr).add j) = some u := by
 intro j u hj
 subst hg
 have hb : (w.alloc (.cells #[x] 102)).heap[w.heap.size]? = some (.cells #[x] 102 (0, 0)) := heap_alloc_new w _
 exact World.news_of_block hb j u hj
theorem oneC (a : Option Addr) (n c : Nat) : ∀ u ∈ [Value.slice a n c], u.oneCell' = true := by
 intro u hu
 simp at hu
 subst hu
 rfl
def BeginPost (w : World) (S : List Sec) (b off cap : Nat) (d : ByteArray) (gas : Int) : Ending → World → Prop := fun e w' => e = .returned (.pointer (some ⟨w.heap.size + 1, 0, none⟩)) ∧ ∃ cv vs, BegS w w' S b off cap d gas cv vs S.length
theorem m_begin (S : List Sec) (d : ByteArray) (b off cap : Nat) (gas : Int) (w : World) (hS : SecsAt w b off S) (hR : RowsAt w) (hal : S.all secB = true) (hn : 1 ≤ S.length ∧ S.length ≤ 6) (hok : ∀ k (hk : k < S.length), (splitE S[k].code).1 = 0) :
  Calls Tryz.prog 31 #[.agg #[.slice (some ⟨b, off, none⟩) S.length cap, .string d], .int .i64 gas] w (BeginPost w S b off cap d gas) := by
 obtain ⟨iz, hiz, hzz0, hzz1, hzz2⟩ := info_parts Tryz.infoInstrs
 have hb := hS.1
 have HS := hidc hS
 have HR := hidc hR
 have HOK := hidc hok
 have h0w := hR.1
 clear hS hR hok
 have HB0 : Hid (BegS w ((w.alloc (.cells #[.slice (some ⟨b, off, none⟩) S.length cap, .string d] 40)).alloc (.cells (machA (.slice (some ⟨b, off, none⟩) S.length cap) d (.slice none 0 0) gas) 88)) S b off cap d gas (.slice none 0 0) [] 0) := by
  refine ⟨?_, ⟨rfl, .inl ⟨rfl, rfl⟩⟩, fun j hj hk => by omega, below2 _ _ _⟩
  have := heap_alloc_new (w.alloc (.cells #[.slice (some ⟨b, off, none⟩) S.length cap, .string d] 40)) (.cells (machA (.slice (some ⟨b, off, none⟩) S.length cap) d (.slice none 0 0) gas) 88)
  simpa using this
 go_enter Tryz.func31, Tryz.ntmps31
 go_wp2_with fail
 go_loopw [16] (fun iv wk => ∃ (k : Nat) (cv : Value) (vs : List Value), k ≤ S.length ∧ iv = .int .i64 k ∧ Hid (BegS w wk S b off cap d gas cv vs k)) (fun iv _ => S.length - (intOf iv).toNat)
 case atStart => exact ⟨0, _, _, Nat.zero_le _, rfl, HB0.out⟩
 case round =>
  clear HB0
  obtain ⟨k, cv, vs, hk, rfl, HBS⟩ := hrel
  by_cases hkl : k < S.length
  ·obtain ⟨c0, c1, c2, c3⟩ := (HS.out.below hb HBS.out.bel).at k hkl
   have hq := (secB_iff _).1 (sec_get hal k hkl)
   have HOKk := hidc (HOK.out k hkl)
   have hMs : w.heap.size + 1 < wr.heap.size := blt HBS.out.blk
   have hbr : b < wr.heap.size := by omega
   obtain ⟨ca, cc, rfl⟩ := row_form HBS.out.row
   have HEQ : Hid (∀ s, S[k] = s → S[k].code = s.code) := fun s h => by rw [h]
   generalize hsk : S[k] = s at *
   have HSK := hidc hsk
   clear hsk HEQ
   go_wp2_with fail
   have hba := HBS.out.below ((boxB wr (.cells #[.int .i64 s.i, .int .i64 s.o, .int .i64 s.m, .string s.code] 65)).drew)
   have kI : (wr.alloc (.cells #[.int .i64 s.i, .int .i64 s.o, .int .i64 s.m, .string s.code] 65)).drew.heap[wr.heap.size]? = some (.cells #[.int .i64 s.i, .int .i64 s.o, .int .i64 s.m, .string s.code] 65 (0, 0)) := heap_alloc_new wr _
   have i3 : (wr.alloc (.cells #[.int .i64 s.i, .int .i64 s.o, .int .i64 s.m, .string s.code] 65)).drew.cell? ⟨wr.heap.size, 3, none⟩ = some (.string s.code) := by rw [cell_of_block kI]; rfl
   have hsa : wr.heap.size + 1 = (wr.alloc (.cells #[.int .i64 s.i, .int .i64 s.o, .int .i64 s.m, .string s.code] 65)).drew.heap.size := by simp
   refine wp_region_held_drew (S := fun w' => w'.cell? ⟨wr.heap.size, 3, none⟩ = some (.string s.code)) (by kernel_rfl) i3 (fun hHeld => ?_)
   generalize (wr.alloc (.cells #[.int .i64 s.i, .int .i64 s.o, .int .i64 s.m, .string s.code] 65)).drew = wa at *
   have cMa : wa.cell? ⟨w.heap.size + 1, 2, none⟩ = some (.slice ca k cc) := by rw [cell_of_block hba.blk]; rfl
   have HBa := hidc hba
   have HKI := hidc kI
   have HRa := hidc (HR.out.below h0w HBa.out.bel)
   clear hba kI c0 c1 c2 c3
   refine tk 0 ?va0 rfl ?hya0 hHeld ?resta0
   case hya0 => intro w hSw; (try dsimp only at hSw); go_simp; try with_reducible rfl
   simp only [Act.put, aA, aB, aC, aD, aE]
   refine tk 1 ?va1 rfl ?hya1 hHeld ?resta1
   case hya1 => intro w hSw; (try dsimp only at hSw); go_simp; try with_reducible rfl
   simp only [Act.put, aA, aB, aC, aD, aE, aF]
   refine tk 2 ?va2 rfl ?hya2 hHeld ?resta2
   case hya2 => intro w hSw; (try dsimp only at hSw); go_simp; try with_reducible rfl
   simp only [Act.put, aA, aB, aC, aD, aE, aF]
   refine tk 3 ?va3 rfl ?hya3 hHeld ?resta3
   case hya3 => intro w hSw; (try dsimp only at hSw); go_simp; try with_reducible rfl
   simp only [Act.put, aA, aB, aC, aD, aE, aF]
   refine tk 5 ?va5 rfl ?hya5 hHeld ?resta5
   case hya5 => intro w hSw; (try dsimp only at hSw); go_simp; try with_reducible rfl
   simp only [Act.put, aA, aB, aC, aD, aE, aF]
   refine tk 6 ?va6 rfl ?hya6 hHeld ?resta6
   case hya6 => intro w hSw; (try dsimp only at hSw); go_simp; try with_reducible rfl
   simp only [Act.put, aA, aB, aC, aD, aE, aF]
   refine wpAnyH_ready (rs := [4, 7]) (by kernel_rfl) (by simp) ?_
   refine AllReadyH.cons (i := 4) rfl (fun K hK => ?gfour) (AllReadyH.cons (i := 7) rfl (fun K hK => ?gseven) AllReadyH.nil)
   case gfour =>
    simp only [aD, aE, aF]
    go_simp
    refine hK.out _ _ hHeld (fun hHeld => ?_)
    clear hK
    refine rd 7 rfl (fun K hK => ?_)
    simp only [aD, aE, aF]
    go_simp
    go_at_call 52
    refine (by_places s.code wa HRa.out hq.2.2.2 HOKk.out).mono ?_
    rintro e w2 ⟨rfl, hb2, csn, hpl2⟩
    have hB2 := HBa.out.below hb2
    have cM2 : w2.cell? ⟨w.heap.size + 1, 2, none⟩ = some (.slice ca k cc) := by rw [cell_of_block hB2.blk]; rfl
    have hI2 := keepB hb2 HKI.out
    have hs2 := hb2.size
    have HB2 := hidc (hB2.below (boxB w2 (.cells #[.slice (some ⟨wa.heap.size, 0, none⟩) s.code.size s.code.size] 102)))
    have HP2 := hidc (hpl2.kept (boxB w2 (.cells #[.slice (some ⟨wa.heap.size, 0, none⟩) s.code.size s.code.size] 102)))
    have j3 : w2.cell? ⟨wr.heap.size, 3, none⟩ = some (.string s.code) := by rw [cell_of_block hI2]; rfl
    have hgm : wa.heap.size < w2.heap.size := blt hpl2.blk
    clear hb2 hpl2 hB2
    go_wp2_with fail
    refine hK.out _ _ j3 (fun hHeld => ?_)
    clear hK
    refine rd 8 rfl (fun K hK => ?_)
    simp only [aD, aE, aF]
    go_simp
    refine hK.out _ _ ((cell_al _ (by omega)).trans j3) (fun hHeld => ?_)
    clear hK
    refine rd 9 rfl (fun K hK => ?_)
    refine step_append_lies _ rfl _ _ 79 rfl (w.heap.size + 2) 102 iz (.slice none 0 0) 1 24 Tryz.underlying79 hiz hzz0 hzz1 hzz2 rfl (by decide) _ k vs rfl HB2.out.row ⟨w2.heap.size, 0, none⟩ 1 1 [.slice (some ⟨wa.heap.size, 0, none⟩) s.code.size s.code.size] rfl rfl (newsC _ _ _ rfl) (oneC _ _ _) (by decide) (by unfold maxLen; omega) (by omega) (by simp; omega) _ rfl ?_
    intro ga ca2 w5 hown5 hgrow5 hat5 hlt5
    have hM5 : w5.heap[w.heap.size + 1]? = some (.cells (machA (.slice (some ⟨b, off, none⟩) S.length cap) d (.slice ca k cc) gas) 88 (0, 0)) := by
     refine (hgrow5.block _ (blt HB2.out.blk) ?_).trans HB2.out.blk
     intro e
     have := (HB2.out.row.lt _ e.symm).1
     omega
    have hI5 : w5.heap[wr.heap.size]? = some (.cells #[.int .i64 s.i, .int .i64 s.o, .int .i64 s.m, .string s.code] 65 (0, 0)) := by
     have hIa : (w2.alloc (.cells #[.slice (some ⟨wa.heap.size, 0, none⟩) s.code.size s.code.size] 102)).heap[wr.heap.size]? = some (.cells #[.int .i64 s.i, .int .i64 s.o, .int .i64 s.m, .string s.code] 65 (0, 0)) := (Below.heap_alloc _ _ _ (by omega)).trans hI2
     exact (hgrow5.block _ (blt hIa) (own_block_ne HB2.out.row hIa (by decide)).symm).trans hIa
    have HN : Hid (BegS w (w5.setCell ⟨w.heap.size + 1, 2, none⟩ (.slice (some ⟨ga, 0, none⟩) (k + 1) ca2)) S b off cap d gas (.slice (some ⟨ga, 0, none⟩) (k + 1) ca2) (vs ++ [.slice (some ⟨wa.heap.size, 0, none⟩) s.code.size s.code.size]) (k + 1)) := by
     have hvl : vs.length = k := by have := HBS.out.row.1; omega
     refine ⟨block_setCell hM5 _, own_set hown5 (by omega) _ _, fun j hj hjk => ?_, ((HB2.out.bel.grown hgrow5 HB2.out.bel.size (fun q hq => by have := (HB2.out.row.lt q hq).1; omega)).setCell (by show w.heap.size ≤ w.heap.size + 1; omega) _)⟩
     by_cases e : j = k
     ·subst e
      refine ⟨wa.heap.size, csn, ?_, by omega, ?_⟩
      ·rw [HSK.out, List.getElem?_append_right (by omega), hvl, Nat.sub_self]; rfl
      ·rw [HSK.out]; exact (HP2.out.grown HB2.out.row hgrow5).set (by omega) _
     ·obtain ⟨g, cs, e1, e2, e3⟩ := HB2.out.each j hj (by omega)
      refine ⟨g, cs, ?_, e2, (e3.grown HB2.out.row hgrow5).set (by omega) _⟩
      rw [List.getElem?_append_left (by omega)]
      exact e1
    have cM5 : w5.cell? ⟨w.heap.size + 1, 2, none⟩ = some (.slice ca k cc) := by rw [cell_of_block hM5]; rfl
    have fM5 := unfrozen_of_block hM5 2
    have hMl : w.heap.size + 1 < w5.heap.size := blt hM5
    have hne5 : wr.heap.size ≠ w.heap.size + 1 := by omega
    refine hK.out _ _ (by show w5.cell? ⟨wr.heap.size, 3, none⟩ = some (.string s.code); rw [cell_of_block hI5]; rfl) (fun hHeld => ?_)
    clear hK hown5 hgrow5 hat5 hlt5 hM5 hI5
    simp only [Act.put, aA, aB, aC, aD, aE, aF]
    refine tk 10 ?vpt10 rfl ?hypt10 hHeld ?restpt10
    case hypt10 => intro w hSw; (try dsimp only at hSw); go_simp; try with_reducible rfl
    simp only [Act.put, aA, aB, aC, aD, aE, aF]
    refine tk 11 ?vpt11 rfl ?hypt11 hHeld ?restpt11
    case hypt11 => intro w hSw; (try dsimp only at hSw); go_simp; try with_reducible rfl
    simp only [Act.put, aA, aB, aC, aD, aE, aF]
    refine rd 12 rfl (fun K hK => ?_)
    simp only [aD, aE, aF]
    go_simp
    refine hK.out _ _ ((set_other _ hne5).trans hHeld) (fun hHeld => ?_)
    clear hK
    refine wpAnyH_done (by kernel_rfl) ?_ _
    clear hHeld
    go_wp2_with fail
    refine ⟨⟨k + 1, _, _, by omega, by first | rfl | go_num, HN.out⟩, ?_⟩
    simp [intOf]; omega
   case gseven =>
    simp only [aD, aE, aF]
    go_simp
    go_at_call 52
    refine (by_places s.code wa HRa.out hq.2.2.2 HOKk.out).mono ?_
    rintro e w2 ⟨rfl, hb2, csn, hpl2⟩
    have hB2 := HBa.out.below hb2
    have cM2 : w2.cell? ⟨w.heap.size + 1, 2, none⟩ = some (.slice ca k cc) := by rw [cell_of_block hB2.blk]; rfl
    have hI2 := keepB hb2 HKI.out
    have hs2 := hb2.size
    have HB2 := hidc (hB2.below (boxB w2 (.cells #[.slice (some ⟨wa.heap.size, 0, none⟩) s.code.size s.code.size] 102)))
    have HP2 := hidc (hpl2.kept (boxB w2 (.cells #[.slice (some ⟨wa.heap.size, 0, none⟩) s.code.size s.code.size] 102)))
    have j3 : w2.cell? ⟨wr.heap.size, 3, none⟩ = some (.string s.code) := by rw [cell_of_block hI2]; rfl
    have hgm : wa.heap.size < w2.heap.size := blt hpl2.blk
    clear hb2 hpl2 hB2
    go_wp2_with fail
    refine hK.out _ _ j3 (fun hHeld => ?_)
    clear hK
    refine wpAnyH_ready (rs := [4, 8]) (by kernel_rfl) (by simp) ?_
    refine AllReadyH.cons (i := 4) rfl (fun K hK => ?gf2) (AllReadyH.cons (i := 8) rfl (fun K hK => ?ge2) AllReadyH.nil)
    case gf2 =>
     simp only [aD, aE, aF]
     go_simp
     refine hK.out _ _ hHeld (fun hHeld => ?_)
     clear hK
     refine rd 8 rfl (fun K hK => ?_)
     simp only [aD, aE, aF]
     go_simp
     refine hK.out _ _ ((cell_al _ (by omega)).trans j3) (fun hHeld => ?_)
     clear hK
     refine rd 9 rfl (fun K hK => ?_)
     refine step_append_lies _ rfl _ _ 79 rfl (w.heap.size + 2) 102 iz (.slice none 0 0) 1 24 Tryz.underlying79 hiz hzz0 hzz1 hzz2 rfl (by decide) _ k vs rfl HB2.out.row ⟨w2.heap.size, 0, none⟩ 1 1 [.slice (some ⟨wa.heap.size, 0, none⟩) s.code.size s.code.size] rfl rfl (newsC _ _ _ rfl) (oneC _ _ _) (by decide) (by unfold maxLen; omega) (by omega) (by simp; omega) _ rfl ?_
     intro ga ca2 w5 hown5 hgrow5 hat5 hlt5
     have hM5 : w5.heap[w.heap.size + 1]? = some (.cells (machA (.slice (some ⟨b, off, none⟩) S.length cap) d (.slice ca k cc) gas) 88 (0, 0)) := by
      refine (hgrow5.block _ (blt HB2.out.blk) ?_).trans HB2.out.blk
      intro e
      have := (HB2.out.row.lt _ e.symm).1
      omega
     have hI5 : w5.heap[wr.heap.size]? = some (.cells #[.int .i64 s.i, .int .i64 s.o, .int .i64 s.m, .string s.code] 65 (0, 0)) := by
      have hIa : (w2.alloc (.cells #[.slice (some ⟨wa.heap.size, 0, none⟩) s.code.size s.code.size] 102)).heap[wr.heap.size]? = some (.cells #[.int .i64 s.i, .int .i64 s.o, .int .i64 s.m, .string s.code] 65 (0, 0)) := (Below.heap_alloc _ _ _ (by omega)).trans hI2
      exact (hgrow5.block _ (blt hIa) (own_block_ne HB2.out.row hIa (by decide)).symm).trans hIa
     have HN : Hid (BegS w (w5.setCell ⟨w.heap.size + 1, 2, none⟩ (.slice (some ⟨ga, 0, none⟩) (k + 1) ca2)) S b off cap d gas (.slice (some ⟨ga, 0, none⟩) (k + 1) ca2) (vs ++ [.slice (some ⟨wa.heap.size, 0, none⟩) s.code.size s.code.size]) (k + 1)) := by
      have hvl : vs.length = k := by have := HBS.out.row.1; omega
      refine ⟨block_setCell hM5 _, own_set hown5 (by omega) _ _, fun j hj hjk => ?_, ((HB2.out.bel.grown hgrow5 HB2.out.bel.size (fun q hq => by have := (HB2.out.row.lt q hq).1; omega)).setCell (by show w.heap.size ≤ w.heap.size + 1; omega) _)⟩
      by_cases e : j = k
      ·subst e
       refine ⟨wa.heap.size, csn, ?_, by omega, ?_⟩
       ·rw [HSK.out, List.getElem?_append_right (by omega), hvl, Nat.sub_self]; rfl
       ·rw [HSK.out]; exact (HP2.out.grown HB2.out.row hgrow5).set (by omega) _
      ·obtain ⟨g, cs, e1, e2, e3⟩ := HB2.out.each j hj (by omega)
       refine ⟨g, cs, ?_, e2, (e3.grown HB2.out.row hgrow5).set (by omega) _⟩
       rw [List.getElem?_append_left (by omega)]
       exact e1
     have cM5 : w5.cell? ⟨w.heap.size + 1, 2, none⟩ = some (.slice ca k cc) := by rw [cell_of_block hM5]; rfl
     have fM5 := unfrozen_of_block hM5 2
     have hMl : w.heap.size + 1 < w5.heap.size := blt hM5
     have hne5 : wr.heap.size ≠ w.heap.size + 1 := by omega
     refine hK.out _ _ (by show w5.cell? ⟨wr.heap.size, 3, none⟩ = some (.string s.code); rw [cell_of_block hI5]; rfl) (fun hHeld => ?_)
     clear hK hown5 hgrow5 hat5 hlt5 hM5 hI5
     simp only [Act.put, aA, aB, aC, aD, aE, aF]
     refine tk 10 ?vqt10 rfl ?hyqt10 hHeld ?restqt10
     case hyqt10 => intro w hSw; (try dsimp only at hSw); go_simp; try with_reducible rfl
     simp only [Act.put, aA, aB, aC, aD, aE, aF]
     refine tk 11 ?vqt11 rfl ?hyqt11 hHeld ?restqt11
     case hyqt11 => intro w hSw; (try dsimp only at hSw); go_simp; try with_reducible rfl
     simp only [Act.put, aA, aB, aC, aD, aE, aF]
     refine rd 12 rfl (fun K hK => ?_)
     simp only [aD, aE, aF]
     go_simp
     refine hK.out _ _ ((set_other _ hne5).trans hHeld) (fun hHeld => ?_)
     clear hK
     refine wpAnyH_done (by kernel_rfl) ?_ _
     clear hHeld
     go_wp2_with fail
     refine ⟨⟨k + 1, _, _, by omega, by first | rfl | go_num, HN.out⟩, ?_⟩
     simp [intOf]; omega
    case ge2 =>
     simp only [aD, aE, aF]
     go_simp
     refine hK.out _ _ ((cell_al _ (by omega)).trans j3) (fun hHeld => ?_)
     clear hK
     have cM3 : (w2.alloc (.cells #[.slice (some ⟨wa.heap.size, 0, none⟩) s.code.size s.code.size] 102)).cell? ⟨w.heap.size + 1, 2, none⟩ = some (.slice ca k cc) := (cell_al _ (by omega)).trans cM2
     refine rd 4 rfl (fun K hK => ?_)
     simp only [aD, aE, aF]
     go_simp
     refine hK.out _ _ hHeld (fun hHeld => ?_)
     clear hK cM3
     refine rd 9 rfl (fun K hK => ?_)
     refine step_append_lies _ rfl _ _ 79 rfl (w.heap.size + 2) 102 iz (.slice none 0 0) 1 24 Tryz.underlying79 hiz hzz0 hzz1 hzz2 rfl (by decide) _ k vs rfl HB2.out.row ⟨w2.heap.size, 0, none⟩ 1 1 [.slice (some ⟨wa.heap.size, 0, none⟩) s.code.size s.code.size] rfl rfl (newsC _ _ _ rfl) (oneC _ _ _) (by decide) (by unfold maxLen; omega) (by omega) (by simp; omega) _ rfl ?_
     intro ga ca2 w5 hown5 hgrow5 hat5 hlt5
     have hM5 : w5.heap[w.heap.size + 1]? = some (.cells (machA (.slice (some ⟨b, off, none⟩) S.length cap) d (.slice ca k cc) gas) 88 (0, 0)) := by
      refine (hgrow5.block _ (blt HB2.out.blk) ?_).trans HB2.out.blk
      intro e
      have := (HB2.out.row.lt _ e.symm).1
      omega
     have hI5 : w5.heap[wr.heap.size]? = some (.cells #[.int .i64 s.i, .int .i64 s.o, .int .i64 s.m, .string s.code] 65 (0, 0)) := by
      have hIa : (w2.alloc (.cells #[.slice (some ⟨wa.heap.size, 0, none⟩) s.code.size s.code.size] 102)).heap[wr.heap.size]? = some (.cells #[.int .i64 s.i, .int .i64 s.o, .int .i64 s.m, .string s.code] 65 (0, 0)) := (Below.heap_alloc _ _ _ (by omega)).trans hI2
      exact (hgrow5.block _ (blt hIa) (own_block_ne HB2.out.row hIa (by decide)).symm).trans hIa
     have HN : Hid (BegS w (w5.setCell ⟨w.heap.size + 1, 2, none⟩ (.slice (some ⟨ga, 0, none⟩) (k + 1) ca2)) S b off cap d gas (.slice (some ⟨ga, 0, none⟩) (k + 1) ca2) (vs ++ [.slice (some ⟨wa.heap.size, 0, none⟩) s.code.size s.code.size]) (k + 1)) := by
      have hvl : vs.length = k := by have := HBS.out.row.1; omega
      refine ⟨block_setCell hM5 _, own_set hown5 (by omega) _ _, fun j hj hjk => ?_, ((HB2.out.bel.grown hgrow5 HB2.out.bel.size (fun q hq => by have := (HB2.out.row.lt q hq).1; omega)).setCell (by show w.heap.size ≤ w.heap.size + 1; omega) _)⟩
      by_cases e : j = k
      ·subst e
       refine ⟨wa.heap.size, csn, ?_, by omega, ?_⟩
       ·rw [HSK.out, List.getElem?_append_right (by omega), hvl, Nat.sub_self]; rfl
       ·rw [HSK.out]; exact (HP2.out.grown HB2.out.row hgrow5).set (by omega) _
      ·obtain ⟨g, cs, e1, e2, e3⟩ := HB2.out.each j hj (by omega)
       refine ⟨g, cs, ?_, e2, (e3.grown HB2.out.row hgrow5).set (by omega) _⟩
       rw [List.getElem?_append_left (by omega)]
       exact e1
     have cM5 : w5.cell? ⟨w.heap.size + 1, 2, none⟩ = some (.slice ca k cc) := by rw [cell_of_block hM5]; rfl
     have fM5 := unfrozen_of_block hM5 2
     have hMl : w.heap.size + 1 < w5.heap.size := blt hM5
     have hne5 : wr.heap.size ≠ w.heap.size + 1 := by omega
     refine hK.out _ _ (by show w5.cell? ⟨wr.heap.size, 3, none⟩ = some (.string s.code); rw [cell_of_block hI5]; rfl) (fun hHeld => ?_)
     clear hK hown5 hgrow5 hat5 hlt5 hM5 hI5
     simp only [Act.put, aA, aB, aC, aD, aE, aF]
     refine tk 10 ?vrt10 rfl ?hyrt10 hHeld ?restrt10
     case hyrt10 => intro w hSw; (try dsimp only at hSw); go_simp; try with_reducible rfl
     simp only [Act.put, aA, aB, aC, aD, aE, aF]
     refine tk 11 ?vrt11 rfl ?hyrt11 hHeld ?restrt11
     case hyrt11 => intro w hSw; (try dsimp only at hSw); go_simp; try with_reducible rfl
     simp only [Act.put, aA, aB, aC, aD, aE, aF]
     refine rd 12 rfl (fun K hK => ?_)
     simp only [aD, aE, aF]
     go_simp
     refine hK.out _ _ ((set_other _ hne5).trans hHeld) (fun hHeld => ?_)
     clear hK
     refine wpAnyH_done (by kernel_rfl) ?_ _
     clear hHeld
     go_wp2_with fail
     refine ⟨⟨k + 1, _, _, by omega, by first | rfl | go_num, HN.out⟩, ?_⟩
     simp [intOf]; omega
  ·obtain rfl : k = S.length := by omega
   go_wp2_with fail
   go_ret
   exact ⟨rfl, cv, vs, HBS.out⟩
end Go.Proofs.YtdhmandnamajpaaGreatDoor
namespace Go.Proofs.YtdhmandnamajpaaGreatDoor
open Go.RowKit Go.Joins
set_option maxHeartbeats 2000000
set_option maxRecDepth 8000
theorem BegS.mach {w w' : World} {S : List Sec} {b off cap : Nat} {d : ByteArray} {gas : Nat} {cv : Value} {vs : List Value} {k : Nat} (h : BegS w w' S b off cap d (gas : Nat) cv vs k) :
  MachX w' w' (w.heap.size + 1) w'.heap.size ⟨.slice (some ⟨b, off, none⟩) S.length cap, d, cv⟩ (startM gas) := by
 have e : ∀ i, w'.cell? ⟨w.heap.size + 1, i, none⟩ = (machA (.slice (some ⟨b, off, none⟩) S.length cap) d cv (gas : Nat))[i]? := fun i => cell_of_block h.blk i
 refine ⟨.slice none 0 0, .slice none 0 0, .slice none 0 0, ⟨_, h.blk, rfl⟩, by rw [e]; rfl, by rw [e]; rfl, by rw [e]; rfl, by rw [e]; rfl, by rw [e]; rfl, by rw [e]; rfl, by rw [e]; rfl, by rw [e]; rfl, fun a ha => ?_, by rw [e]; rfl, by rw [e]; rfl, by rw [e]; rfl, by rw [e]; rfl, by rw [e]; rfl, ⟨rfl, .inl ⟨rfl, rfl⟩⟩, ⟨rfl, .inl ⟨rfl, rfl⟩⟩, ⟨rfl, .inl ⟨rfl, rfl⟩⟩, Kp.refl _ _ _, blt h.blk, by simp [startM]⟩
 rw [e]
 rcases (show a = 0 ∨ a = 1 ∨ a = 2 ∨ a = 3 ∨ a = 4 ∨ a = 5 ∨ a = 6 ∨ a = 7 ∨ a = 8 ∨ a = 9 ∨ a = 10 ∨ a = 11 ∨ a = 12 ∨ a = 13 ∨ a = 14 ∨ a = 15 by omega) with rfl | rfl | rfl | rfl | rfl | rfl | rfl | rfl | rfl | rfl | rfl | rfl | rfl | rfl | rfl | rfl <;> rfl
theorem BegS.stat {w w' : World} {S : List Sec} {b off cap : Nat} {d : ByteArray} {gas : Int} {cv : Value} {vs : List Value} {k : Nat} (h : BegS w w' S b off cap d gas cv vs k) (hS : SecsAt w b off S) :
  Stat w' (w.heap.size + 1) w'.heap.size ⟨.slice (some ⟨b, off, none⟩) S.length cap, d, cv⟩ S b off cap :=
 ⟨rfl, hS.below hS.1 h.bel, by have := hS.1; have := h.bel.size; omega, by have := hS.1; omega⟩
theorem BegS.codes {w w' : World} {S : List Sec} {b off cap : Nat} {d : ByteArray} {gas : Int} {cv : Value} {vs : List Value} (h : BegS w w' S b off cap d gas cv vs S.length) (h1 : 1 ≤ S.length) :
  CodesAt w' (w.heap.size + 1) w'.heap.size ⟨.slice (some ⟨b, off, none⟩) S.length cap, d, cv⟩ S := by
 constructor
 rcases h.row.2 with ⟨_, e⟩ | ⟨gc, cc, cur, hcv, hgB, hgc, _⟩
 ·omega
 ·refine ⟨gc, cc, hcv, blt hgc, by omega, fun k hk => ?_⟩
  obtain ⟨g, cs, e1, e2, e3⟩ := h.each k hk hk
  have hr := h.row
  rw [hcv] at hr
  obtain ⟨gc', q1, _, _, q2⟩ := row_cell hr e1
  injection q1 with q1
  injection q1 with q1
  subst q1
  refine ⟨g, S[k].code.size, q2, blt e3.blk, by omega, fun i x hx => ?_⟩
  have hil : i < (codeI S[k].code).length := (List.getElem?_eq_some_iff.1 hx).1
  obtain ⟨a0, a1, a2, a3, v, a4, a5⟩ := e3.cells i x hil hx
  obtain ⟨ta, tc, rfl⟩ := row_form a5
  refine ⟨(cell_of_block e3.blk _).trans a0, (cell_of_block e3.blk _).trans a1, (cell_of_block e3.blk _).trans a2, (cell_of_block e3.blk _).trans a3, ta, tc, (cell_of_block e3.blk _).trans a4, fun j t hj => ?_⟩
  obtain ⟨q, f1, f2, f3, f4⟩ := row_cell a5 (show (iV x.to)[j]? = some (.int .i64 t) by simp [iV, hj])
  exact ⟨q, f1, f3, by omega, f4⟩
def OutPost (w : World) (mf : MS) : Ending → World → Prop := fun e w' => ∃ oa oc, e = .returned (.agg #[.int .i64 (endOf mf : Nat), .slice oa (outM mf).length oc, .int .i64 (mf.gas : Nat), .int .i64 (mf.steps : Nat)]) ∧ Below w.heap.size w w' ∧ w'.ownsRow w.heap.size 3 1 (.slice oa (outM mf).length oc) (outM mf).length (nV (outM mf))
theorem mach_run (S : List Sec) (d : ByteArray) (b off cap gas : Nat) (w : World) (hS : SecsAt w b off S) (hR : RowsAt w) (hSo : Sound S) (hg : gas ≤ 3000) :
  Calls Tryz.prog 17 #[.agg #[.slice (some ⟨b, off, none⟩) S.length cap, .string d], .int .i64 (gas : Nat)] w (OutPost w (fateM S d (startM gas))) := by
 have HS := hidc hS
 have HR := hidc hR
 have HSO := hidc hSo
 have hb := hS.1
 have h0 := hR.1
 have hfew := hSo.few
 have hlen := hSo.len
 clear hS hR hSo
 go_enter Tryz.func17, Tryz.ntmps17
 go_wp2_with fail
 have hb2 := below2 w (.cells #[.slice (some ⟨b, off, none⟩) S.length cap, .string d] 40) (.cells #[.int .i64 0, .slice none 0 0, .int .i64 0, .int .i64 0] 24)
 have kO : ((w.alloc (.cells #[.slice (some ⟨b, off, none⟩) S.length cap, .string d] 40)).alloc (.cells #[.int .i64 0, .slice none 0 0, .int .i64 0, .int .i64 0] 24)).heap[w.heap.size + 1]? = some (.cells #[.int .i64 0, .slice none 0 0, .int .i64 0, .int .i64 0] 24 (0, 0)) := by
  have := heap_alloc_new (w.alloc (.cells #[.slice (some ⟨b, off, none⟩) S.length cap, .string d] 40)) (.cells #[.int .i64 0, .slice none 0 0, .int .i64 0, .int .i64 0] 24)
  simpa using this
 have hs2 : w.heap.size + 2 = ((w.alloc (.cells #[.slice (some ⟨b, off, none⟩) S.length cap, .string d] 40)).alloc (.cells #[.int .i64 0, .slice none 0 0, .int .i64 0, .int .i64 0] 24)).heap.size := by simp
 generalize ((w.alloc (.cells #[.slice (some ⟨b, off, none⟩) S.length cap, .string d] 40)).alloc (.cells #[.int .i64 0, .slice none 0 0, .int .i64 0, .int .i64 0] 24)) = w2 at *
 have HB2 := hidc hb2
 have HKO := hidc kO
 have HS2 := hidc (HS.out.below hb hb2)
 have HR2 := hidc (HR.out.below h0 hb2)
 clear hb2 kO
 refine (m_begin S d b off cap (gas : Nat) w2 HS2.out HR2.out HSO.out.fit ⟨hlen, hfew⟩ (fun k hk => (HSO.out.ok k hk).split.elim (fun e => by rw [e]) id)).mono ?_
 rintro e w3 ⟨rfl, cv, vs, hbs⟩
 have HBS := hidc hbs
 have hs3 : w2.heap.size + 1 < w3.heap.size := blt hbs.blk
 have HR3 := hidc (HR2.out.below (by omega) hbs.bel)
 clear hbs
 go_wp2_with fail
 refine (m_run (HBS.out.stat HS2.out) (HBS.out.codes hlen) HR3.out (by omega) (by omega) HSO.out HBS.out.mach (good_start HSO.out gas) (by simp [startM]) (by simp [startM]; omega) (Nat.le_refl _)).mono ?_
 rintro e w4 ⟨rfl, hm4, hB4, hk4, hsz4⟩
 obtain ⟨frV, stV, outV, hmach⟩ := hm4
 obtain ⟨oa, oc, hov⟩ := row_form hmach.out
 subst hov
 have c24 : w4.cell? ⟨w2.heap.size + 1, 24, none⟩ = some (.int .i64 (endOf (fateM S d (startM gas)) : Nat)) := hmach.c24
 have c25 : w4.cell? ⟨w2.heap.size + 1, 25, none⟩ = some (.slice oa (outM (fateM S d (startM gas))).length oc) := hmach.c25
 have c26 : w4.cell? ⟨w2.heap.size + 1, 26, none⟩ = some (.int .i64 ((fateM S d (startM gas)).gas : Nat)) := hmach.c26
 have c27 : w4.cell? ⟨w2.heap.size + 1, 27, none⟩ = some (.int .i64 ((fateM S d (startM gas)).steps : Nat)) := hmach.c27
 have hout : w4.ownsRow w3.heap.size 3 1 (.slice oa (outM (fateM S d (startM gas))).length oc) (outM (fateM S d (startM gas))).length (nV (outM (fateM S d (startM gas)))) := hmach.out
 have hkp := hmach.kp
 have hM4 := hmach.size
 clear hmach
 generalize fateM S d (startM gas) = mf at *
 have kO4 : w4.heap[w.heap.size + 1]? = some (.cells #[.int .i64 0, .slice none 0 0, .int .i64 0, .int .i64 0] 24 (0, 0)) := by
  rw [hkp.block _ (by omega) (by omega), HBS.out.bel.block _ (by omega)]
  exact HKO.out
 have hbel : Below w.heap.size w w4 := (HB2.out.trans (HBS.out.bel.mono (by omega))).trans ⟨hkp.os, hkp.tape, hkp.output, hkp.size, fun q hq => hkp.block q (by omega) (by omega)⟩
 have z0 := cell_of_block kO4 0
 have z1 := cell_of_block kO4 1
 have z2 := cell_of_block kO4 2
 have z3 := cell_of_block kO4 3
 have y0 := unfrozen_of_block kO4 0
 have y1 := unfrozen_of_block kO4 1
 have y2 := unfrozen_of_block kO4 2
 have y3 := unfrozen_of_block kO4 3
 have hs4 : w.heap.size + 1 < w4.heap.size := blt kO4
 have hne : w2.heap.size + 1 ≠ w.heap.size + 1 := by omega
 have HOUT := hidc (own_mono hout (show w.heap.size + 2 ≤ w3.heap.size by omega))
 have HBEL := hidc hbel
 have HK4 := hidc kO4
 clear hkp hk4 hout hbel kO4 HBS HSO HR3 HS2 HR2
 go_wp2_with fail
 generalize hen : endOf mf = en at *
 have HEN := hidc hen
 clear hen
 have hF : ((((w4.setCell ⟨w.heap.size + 1, 0, none⟩ (.int .i64 (en : Nat))).setCell ⟨w.heap.size + 1, 1, none⟩ (.slice oa (outM mf).length oc)).setCell ⟨w.heap.size + 1, 2, none⟩ (.int .i64 (mf.gas : Nat))).setCell ⟨w.heap.size + 1, 3, none⟩ (.int .i64 (mf.steps : Nat))).heap[w.heap.size + 1]? = some (.cells #[.int .i64 (en : Nat), .slice oa (outM mf).length oc, .int .i64 (mf.gas : Nat), .int .i64 (mf.steps : Nat)] 24 (0, 0)) := block_setCell (block_setCell (block_setCell (block_setCell HK4.out _) _) _) _
 have r0 := cell_of_block hF 0
 have r1 := cell_of_block hF 1
 have r2 := cell_of_block hF 2
 have r3 := cell_of_block hF 3
 refine bodyPost_ret (v := .agg #[.int .i64 (en : Nat), .slice oa (outM mf).length oc, .int .i64 (mf.gas : Nat), .int .i64 (mf.steps : Nat)]) (by simp [results, Tryz.results17, go_sem, r0, r1, r2, r3]) rfl ⟨oa, oc, by rw [HEN.out], ?_, ?_⟩
 ·exact (((HBEL.out.setCell (by show w.heap.size ≤ w.heap.size + 1; omega) _).setCell (by show w.heap.size ≤ w.heap.size + 1; omega) _).setCell (by show w.heap.size ≤ w.heap.size + 1; omega) _).setCell (by show w.heap.size ≤ w.heap.size + 1; omega) _
 ·exact own_mono (own_set (own_set (own_set (own_set HOUT.out (by omega) _ _) (by omega) _ _) (by omega) _ _) (by omega) _ _) (by omega)
end Go.Proofs.YtdhmandnamajpaaGreatDoor
