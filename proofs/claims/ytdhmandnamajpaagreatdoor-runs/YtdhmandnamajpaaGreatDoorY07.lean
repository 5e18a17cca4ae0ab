import Derived.Test.YtdhmandnamajpaaGreatDoorY00
import Derived.Test.YtdhmandnamajpaaGreatDoorY06
import Derived.Test.YtdhmandnamajpaaGreatDoorY03
namespace Go.Proofs.YtdhmandnamajpaaGreatDoor
open Go.RowKit Go.Joins
set_option maxHeartbeats 1000000
set_option maxRecDepth 100000 in
theorem ref_far (c : ByteArray) (p : Nat) (w : World) (hp : p + 1 < c.size) (hs : c.size ≤ 120) :
  Calls Tryz.prog 137 #[.string c, .int .i64 p] w fun e w' => e = .returned (.int .i64 (sgn (byteN c p) (byteN c (p + 1)))) ∧ ∃ q, w' = w.drewN q := by
 have i0 : (p : Int) < (c.size : Int) := by omega
 have i1 : (p : Int) + 1 < (c.size : Int) := by omega
 have i2 : (0 : Int) ≤ (p : Int) := by omega
 have i0' : p < c.size := by omega
 have hw : IntKind.i64.wrap ((p : Int) + 1) = (p : Int) + 1 := by rw [IntKind.wrap_i64]; omega
 have hidx : ∀ w : World, (Instr.index 9 (.string c) (.int .i64 ((p : Int) + 1))).run Tryz.prog w = .ok (.int .u8 (c[p + 1].toNat : Int)) w := fun w => by
  rw [run_index_string w 9 c .i64 _ Tryz.underlying9, dif_pos ⟨by omega, by omega⟩]
  have : ((p : Int) + 1).toNat = p + 1 := by omega
  simp only [this]
 have hx0 := UInt8.toNat_lt c[p]
 have hx1 := UInt8.toNat_lt c[p + 1]
 rw [byteN_get c p i0', byteN_get c (p + 1) hp]
 have HSG : Hid (sgn c[p].toNat c[p + 1].toNat = if (32768 : Int) ≤ 256 * (c[p].toNat : Int) + (c[p + 1].toNat : Int) then 256 * (c[p].toNat : Int) + (c[p + 1].toNat : Int) - 65536 else 256 * (c[p].toNat : Int) + (c[p + 1].toNat : Int)) := by
  show sgn _ _ = _
  unfold sgn
  by_cases h : 32768 ≤ 256 * c[p].toNat + c[p + 1].toNat
  ·rw [if_pos h, if_pos (by omega)]; omega
  ·rw [if_neg h, if_neg (by omega)]; omega
 generalize hres : sgn c[p].toNat c[p + 1].toNat = res at *
 clear hres
 go_enter Tryz.func137, Tryz.ntmps137
 go_wp2_with fail
 go_quiet (fail)
 by_cases h : (32768 : Int) ≤ 256 * (c[p].toNat : Int) + (c[p + 1].toNat : Int)
 ·go_wp2_with fail
  go_ret
  exact ⟨ret_int (by rw [HSG.out, if_pos h]), _, rfl⟩
 ·go_wp2_with fail
  go_ret
  exact ⟨ret_int (by rw [HSG.out, if_neg (by omega)]), _, rfl⟩
theorem secget {S : List Sec} (h : S.all secB = true) (n : Nat) (hn : n < S.length) : secB S[n] = true := by
 rw [List.all_eq_true] at h
 exact h _ (by simp)
theorem keepBx {W w1 : World} (hb : Below W.heap.size W w1) {k : Nat} {o : Obj} (h : W.heap[k]? = some o) : w1.heap[k]? = some o := by
 refine (hb.block k ?_).trans h
 rcases Nat.lt_or_ge k W.heap.size with hlt | hge
 ·exact hlt
 ·rw [Array.getElem?_eq_none hge] at h; cases h
set_option maxHeartbeats 3000000 in
theorem ref_bad (S : List Sec) (d : ByteArray) (b off cap : Nat) (x : Ins) (N : Int) (ta : Option Addr) (tl tc : Nat) (s : Sec) (lo hi : Int) (w : World) (hS : SecsAt w b off S) (hN : numsAs x N) (hx : x.op = 20 → x.n < S.length) (hal : S.all secB = true) (hs : secB s = true) :
  Calls Tryz.prog 135 #[.agg #[.slice (some ⟨b, off, none⟩) S.length cap, .string d], .agg #[.int .i64 s.i, .int .i64 s.o, .int .i64 s.m, .string s.code], .agg #[.int .i64 x.pl, .int .i64 x.op, .int .i64 N, .slice ta tl tc, .int .i64 x.nx], .int .i64 lo, .int .i64 hi] w
   fun e w' => e = .returned (.bool (returnsB S x && !mayReturnB S s x lo hi)) ∧ Below w.heap.size w w' := by
 obtain ⟨d1, d2, d3, d4⟩ := (secB_iff _).1 hs
 have hb := hS.1
 have HS := hidc hS
 have HN := hidc hN
 have HX := hidc hx
 have HAL := hidc hal
 clear hS hN hx hal
 go_enter Tryz.func135, Tryz.ntmps135
 go_wp2_with fail
 have HB3 := hidc (b3 w (.cells #[.slice (some ⟨b, off, none⟩) S.length cap, .string d] 40) (.cells #[.int .i64 s.i, .int .i64 s.o, .int .i64 s.m, .string s.code] 65) (.cells #[.int .i64 x.pl, .int .i64 x.op, .int .i64 N, .slice ta tl tc, .int .i64 x.nx] 129))
 refine (ref_returns S d b off cap x N _ _ (HS.out.below hb HB3.out) HN.out HX.out).mono ?_
 rintro e w1 ⟨rfl, hb1⟩
 have HB1 := hidc (HB3.out.trans (hb1.mono HB3.out.size))
 have hA := keepBx hb1 (show _ = some (Obj.cells #[.slice (some ⟨b, off, none⟩) S.length cap, .string d] 40 (0, 0)) from (Below.heap_alloc _ _ _ (by simp; omega)).trans ((Below.heap_alloc _ _ _ (by simp)).trans (heap_alloc_new w _)))
 have hB := keepBx hb1 (show _ = some (Obj.cells #[.int .i64 s.i, .int .i64 s.o, .int .i64 s.m, .string s.code] 65 (0, 0)) from (Below.heap_alloc _ _ _ (by simp)).trans (heap_alloc_new (w.alloc (.cells #[.slice (some ⟨b, off, none⟩) S.length cap, .string d] 40)) _))
 have hC := keepBx hb1 (heap_alloc_new ((w.alloc (.cells #[.slice (some ⟨b, off, none⟩) S.length cap, .string d] 40)).alloc (.cells #[.int .i64 s.i, .int .i64 s.o, .int .i64 s.m, .string s.code] 65)) (.cells #[.int .i64 x.pl, .int .i64 x.op, .int .i64 N, .slice ta tl tc, .int .i64 x.nx] 129))
 rw [show (w.alloc (.cells #[.slice (some ⟨b, off, none⟩) S.length cap, .string d] 40)).heap.size = w.heap.size + 1 by simp] at hB
 rw [show ((w.alloc (.cells #[.slice (some ⟨b, off, none⟩) S.length cap, .string d] 40)).alloc (.cells #[.int .i64 s.i, .int .i64 s.o, .int .i64 s.m, .string s.code] 65)).heap.size = w.heap.size + 1 + 1 by simp] at hC
 have a0 := cell_of_block hA 0
 have s1 := cell_of_block hB 1
 have q1 := cell_of_block hC 1
 have q2 := cell_of_block hC 2
 have hsz : w.heap.size + 3 ≤ w1.heap.size := by have := hb1.size; simp at this; omega
 have hbw : b < w1.heap.size := by omega
 have hq1 : w.heap.size < w1.heap.size := by omega
 have hq2 : w.heap.size + 1 < w1.heap.size := by omega
 have hq3 : w.heap.size + 1 + 1 < w1.heap.size := by omega
 clear hb1 hA hB hC HB3
 cases hr : returnsB S x
 ·go_wp2_with fail
  go_ret
  exact ⟨ret_bool (by rw [hr]; rfl), HB1.out⟩
 ·by_cases h20 : x.op = 20
  ·have hn := HX.out h20
   have hNx : N = x.n := HN.out (by simp [numOp, h20])
   obtain ⟨c0, c1, c2, c3⟩ := (HS.out.below hb HB1.out).at x.n hn
   obtain ⟨b1', b2', b3', b4'⟩ := (secB_iff _).1 (secget HAL.out x.n hn)
   have h3 : ((x.op : Int) == 20) = true := by simp; omega
   subst hNx
   by_cases e0 : s.o < S[x.n].o
   ·have HE : Hid ((!mayReturnB S s x lo hi) = true) := by show (!mayReturnB S s x lo hi) = true; simp [mayReturnB, h20, outS_get S x.n hn, e0]
    go_wp2_with fail
    go_ret
    exact ⟨ret_bool (by rw [hr, Bool.true_and, HE.out]), HB1.out.alloc (by omega) _⟩
   ·have HE : Hid ((!mayReturnB S s x lo hi) = ((s.o == 128) || (lo != s.o + S[x.n].i - S[x.n].o) || (hi != s.o + S[x.n].i - S[x.n].o))) := by
     show (!mayReturnB S s x lo hi) = _
     have : s.o + (S[x.n].i - S[x.n].o) = s.o + S[x.n].i - S[x.n].o := by omega
     simp [mayReturnB, wantI, h20, outS_get S x.n hn, inS_get S x.n hn, e0, this, bne]
    by_cases e1 : s.o = 128
    ·go_wp2_with fail
     go_ret
     exact ⟨ret_bool (by rw [hr, Bool.true_and, HE.out]; simp [e1]), HB1.out.alloc (by omega) _⟩
    ·have e1' : (s.o == 128) = false := by simp [e1]
     by_cases e2 : lo = s.o + S[x.n].i - S[x.n].o
     ·go_wp2_with fail
      go_ret
      exact ⟨ret_bool (by rw [hr, Bool.true_and, HE.out]; simp [e1, e2]), HB1.out.alloc (by omega) _⟩
     ·have e2' : (lo != s.o + S[x.n].i - S[x.n].o) = true := by simp [e2]
      go_wp2_with fail
      go_ret
      exact ⟨ret_bool (by rw [hr, Bool.true_and, HE.out]; simp [e2]), HB1.out.alloc (by omega) _⟩
  ·have h3 : ((x.op : Int) == 20) = false := by simp; omega
   have HE : Hid ((!mayReturnB S s x lo hi) = ((s.o == 128) || (lo != s.o) || (hi != s.o))) := by
    show (!mayReturnB S s x lo hi) = _
    have : (x.op == 20) = false := by simp [h20]
    simp [mayReturnB, wantI, h20, this, bne]
   by_cases e1 : s.o = 128
   ·go_wp2_with fail
    go_ret
    exact ⟨ret_bool (by rw [hr, Bool.true_and, HE.out]; simp [e1]), HB1.out⟩
   ·have e1' : (s.o == 128) = false := by simp [e1]
    by_cases e2 : lo = s.o
    ·go_wp2_with fail
     go_ret
     exact ⟨ret_bool (by rw [hr, Bool.true_and, HE.out]; simp [e1, e2]), HB1.out⟩
    ·have e2' : (lo != s.o) = true := by simp [e2]
     go_wp2_with fail
     go_ret
     exact ⟨ret_bool (by rw [hr, Bool.true_and, HE.out]; simp [e2]), HB1.out⟩
end Go.Proofs.YtdhmandnamajpaaGreatDoor
namespace Go.Proofs.YtdhmandnamajpaaGreatDoor
open Go.RowKit Go.Joins
set_option maxHeartbeats 2000000
def CutBad (w : World) : Ending → World → Prop := fun e w' => ∃ v0 v1 v2 v3 v4, e = .returned (.tuple #[.agg #[.int .i64 v0, .int .i64 v1, .int .i64 v2, v3, .int .i64 v4], .bool false]) ∧ (∃ a n c, v3 = .slice a n c) ∧ Below w.heap.size w w'
def CutOk (c : ByteArray) (p : Nat) (w : World) : Ending → World → Prop := fun e w' => ∃ (N : Int) (a : Option Addr) (vc : Nat), e = .returned (.tuple #[.agg #[.int .i64 (insI c p).pl, .int .i64 (insI c p).op, .int .i64 N, .slice a (insI c p).to.length vc, .int .i64 (insI c p).nx], .bool true]) ∧
 numsAs (insI c p) N ∧ w'.ownsRow w.heap.size 3 1 (.slice a (insI c p).to.length vc) (insI c p).to.length (iV (insI c p).to) ∧ Below w.heap.size w w'
theorem cut_bad_two (c : ByteArray) (p op : Nat) (w : World) (hp : p < c.size) (hs : c.size ≤ 120) (ho : byteN c p = op) (hop : op = 9 ∨ op = 10 ∨ op = 18 ∨ op = 20) (he : c.size < p + 2) :
  Calls Tryz.prog 114 #[.string c, .int .i64 p] w (CutBad w) := by
 have hb : c[p].toNat = op := by rw [byte_nat c p hp]; exact ho
 clear ho
 rcases hop with rfl | rfl | rfl | rfl
 ·skip
  go_enter Tryz.func114, Tryz.ntmps114
  go_wp2_with fail
  exact bodyPost_ret (v := .tuple #[.agg #[.int .i64 p, .int .i64 9, .int .i64 0, .slice none 0 0, .int .i64 ((p : Int) + 2)], .bool false]) (by simp [results, Tryz.results114, go_sem]) rfl ⟨_, _, _, _, _, rfl, ⟨_, _, _, rfl⟩, below2 _ _ _⟩
 ·skip
  go_enter Tryz.func114, Tryz.ntmps114
  go_wp2_with fail
  exact bodyPost_ret (v := .tuple #[.agg #[.int .i64 p, .int .i64 10, .int .i64 0, .slice none 0 0, .int .i64 ((p : Int) + 2)], .bool false]) (by simp [results, Tryz.results114, go_sem]) rfl ⟨_, _, _, _, _, rfl, ⟨_, _, _, rfl⟩, below2 _ _ _⟩
 ·skip
  go_enter Tryz.func114, Tryz.ntmps114
  go_wp2_with fail
  exact bodyPost_ret (v := .tuple #[.agg #[.int .i64 p, .int .i64 18, .int .i64 0, .slice none 0 0, .int .i64 ((p : Int) + 2)], .bool false]) (by simp [results, Tryz.results114, go_sem]) rfl ⟨_, _, _, _, _, rfl, ⟨_, _, _, rfl⟩, below2 _ _ _⟩
 ·skip
  go_enter Tryz.func114, Tryz.ntmps114
  go_wp2_with fail
  exact bodyPost_ret (v := .tuple #[.agg #[.int .i64 p, .int .i64 20, .int .i64 0, .slice none 0 0, .int .i64 ((p : Int) + 2)], .bool false]) (by simp [results, Tryz.results114, go_sem]) rfl ⟨_, _, _, _, _, rfl, ⟨_, _, _, rfl⟩, below2 _ _ _⟩
theorem cut_bad_three (c : ByteArray) (p op : Nat) (w : World) (hp : p < c.size) (hs : c.size ≤ 120) (ho : byteN c p = op) (hop : op = 2 ∨ op = 15 ∨ op = 16) (he : c.size < p + 3) :
  Calls Tryz.prog 114 #[.string c, .int .i64 p] w (CutBad w) := by
 have hb : c[p].toNat = op := by rw [byte_nat c p hp]; exact ho
 clear ho
 rcases hop with rfl | rfl | rfl
 ·skip
  go_enter Tryz.func114, Tryz.ntmps114
  go_wp2_with fail
  exact bodyPost_ret (v := .tuple #[.agg #[.int .i64 p, .int .i64 2, .int .i64 0, .slice none 0 0, .int .i64 ((p : Int) + 3)], .bool false]) (by simp [results, Tryz.results114, go_sem]) rfl ⟨_, _, _, _, _, rfl, ⟨_, _, _, rfl⟩, below2 _ _ _⟩
 ·skip
  go_enter Tryz.func114, Tryz.ntmps114
  go_wp2_with fail
  exact bodyPost_ret (v := .tuple #[.agg #[.int .i64 p, .int .i64 15, .int .i64 0, .slice none 0 0, .int .i64 ((p : Int) + 3)], .bool false]) (by simp [results, Tryz.results114, go_sem]) rfl ⟨_, _, _, _, _, rfl, ⟨_, _, _, rfl⟩, below2 _ _ _⟩
 ·skip
  go_enter Tryz.func114, Tryz.ntmps114
  go_wp2_with fail
  exact bodyPost_ret (v := .tuple #[.agg #[.int .i64 p, .int .i64 16, .int .i64 0, .slice none 0 0, .int .i64 ((p : Int) + 3)], .bool false]) (by simp [results, Tryz.results114, go_sem]) rfl ⟨_, _, _, _, _, rfl, ⟨_, _, _, rfl⟩, below2 _ _ _⟩
theorem cut_bad_k (c : ByteArray) (p : Nat) (w : World) (hp : p < c.size) (hs : c.size ≤ 120) (ho : byteN c p = 17) (he : c.size ≤ p + 1) :
  Calls Tryz.prog 114 #[.string c, .int .i64 p] w (CutBad w) := by
 have hb : c[p].toNat = 17 := by rw [byte_nat c p hp]; exact ho
 clear ho
 go_enter Tryz.func114, Tryz.ntmps114
 go_wp2_with fail
 exact bodyPost_ret (v := .tuple #[.agg #[.int .i64 p, .int .i64 17, .int .i64 0, .slice none 0 0, .int .i64 ((p : Int) + 1)], .bool false]) (by simp [results, Tryz.results114, go_sem]) rfl ⟨_, _, _, _, _, rfl, ⟨_, _, _, rfl⟩, below2 _ _ _⟩
theorem cut_bad_table (c : ByteArray) (p : Nat) (w : World) (hp : p + 1 < c.size) (hs : c.size ≤ 120) (ho : byteN c p = 17) (he : c.size < p + (2 + 2 * (byteN c (p + 1) + 1))) :
  Calls Tryz.prog 114 #[.string c, .int .i64 p] w (CutBad w) := by
 have hp0 : p < c.size := by omega
 have hb : c[p].toNat = 17 := by rw [byte_nat c p hp0]; exact ho
 rw [← byte_nat c (p + 1) hp] at he
 have hl : c[p + 1].toNat < 256 := UInt8.toNat_lt _
 have he' : (c.size : Int) < (p : Int) + 2 + 2 * ((c[p + 1].toNat : Int) + 1) := by omega
 clear ho he
 go_enter Tryz.func114, Tryz.ntmps114
 go_wp2_with fail
 exact bodyPost_ret (v := .tuple #[.agg #[.int .i64 p, .int .i64 17, .int .i64 0, .slice none 0 0, .int .i64 ((p : Int) + 2 + 2 * ((c[p + 1].toNat : Int) + 1))], .bool false]) (by simp [results, Tryz.results114, go_sem]) rfl ⟨_, _, _, _, _, rfl, ⟨_, _, _, rfl⟩, below2 _ _ _⟩
theorem cut_ok_two (c : ByteArray) (p op : Nat) (w : World) (hp : p < c.size) (hs : c.size ≤ 120) (ho : byteN c p = op) (hop : op = 9 ∨ op = 10 ∨ op = 18 ∨ op = 20) (he : p + 2 ≤ c.size) :
  Calls Tryz.prog 114 #[.string c, .int .i64 p] w (CutOk c p w) := by
 have hz : sizeI c p = 2 := by unfold sizeI; rw [ho, if_neg (by omega)]; rcases hop with rfl | rfl | rfl | rfl <;> rfl
 have e1 : insI c p = ⟨op, p, p + 2, byteN c (p + 1), []⟩ := by
  unfold insI
  rw [hz, ho]
  rcases hop with rfl | rfl | rfl | rfl <;> rfl
 have hp1 : p + 1 < c.size := by omega
 rw [← byte_nat c (p + 1) hp1] at e1
 have HE := hidc e1
 have hl : c[p + 1].toNat < 256 := UInt8.toNat_lt _
 have hb : c[p].toNat = op := by rw [byte_nat c p hp]; exact ho
 clear e1 hz ho
 rcases hop with rfl | rfl | rfl | rfl
 ·skip
  go_enter Tryz.func114, Tryz.ntmps114
  go_wp2_with fail
  go_loopw [8] (fun iv wr => iv = .int .i64 ((p : Int) + 2) ∧ wr = (w.alloc (.cells #[.int .i64 0, .int .i64 0, .int .i64 0, .slice none 0 0, .int .i64 0] 129)).alloc (.cells #[.int .i64 p, .int .i64 9, .int .i64 c[p + 1].toNat, .slice none 0 0, .int .i64 ((p : Int) + 2)] 129)) (fun _ _ => 0)
  case atStart => exact ⟨rfl, rfl⟩
  case round =>
   obtain ⟨rfl, rfl⟩ := hrel
   go_wp2_with fail
   exact bodyPost_ret (v := .tuple #[.agg #[.int .i64 p, .int .i64 9, .int .i64 c[p + 1].toNat, .slice none 0 0, .int .i64 ((p : Int) + 2)], .bool true]) (by simp [results, Tryz.results114, go_sem]) rfl ⟨_, none, 0, by rw [HE.out]; rfl, by rw [HE.out]; exact fun h => rfl, by rw [HE.out]; exact row_nil _ _, below2 _ _ _⟩
 ·skip
  go_enter Tryz.func114, Tryz.ntmps114
  go_wp2_with fail
  go_loopw [8] (fun iv wr => iv = .int .i64 ((p : Int) + 2) ∧ wr = (w.alloc (.cells #[.int .i64 0, .int .i64 0, .int .i64 0, .slice none 0 0, .int .i64 0] 129)).alloc (.cells #[.int .i64 p, .int .i64 10, .int .i64 c[p + 1].toNat, .slice none 0 0, .int .i64 ((p : Int) + 2)] 129)) (fun _ _ => 0)
  case atStart => exact ⟨rfl, rfl⟩
  case round =>
   obtain ⟨rfl, rfl⟩ := hrel
   go_wp2_with fail
   exact bodyPost_ret (v := .tuple #[.agg #[.int .i64 p, .int .i64 10, .int .i64 c[p + 1].toNat, .slice none 0 0, .int .i64 ((p : Int) + 2)], .bool true]) (by simp [results, Tryz.results114, go_sem]) rfl ⟨_, none, 0, by rw [HE.out]; rfl, by rw [HE.out]; exact fun h => rfl, by rw [HE.out]; exact row_nil _ _, below2 _ _ _⟩
 ·skip
  go_enter Tryz.func114, Tryz.ntmps114
  go_wp2_with fail
  go_loopw [8] (fun iv wr => iv = .int .i64 ((p : Int) + 2) ∧ wr = (w.alloc (.cells #[.int .i64 0, .int .i64 0, .int .i64 0, .slice none 0 0, .int .i64 0] 129)).alloc (.cells #[.int .i64 p, .int .i64 18, .int .i64 c[p + 1].toNat, .slice none 0 0, .int .i64 ((p : Int) + 2)] 129)) (fun _ _ => 0)
  case atStart => exact ⟨rfl, rfl⟩
  case round =>
   obtain ⟨rfl, rfl⟩ := hrel
   go_wp2_with fail
   exact bodyPost_ret (v := .tuple #[.agg #[.int .i64 p, .int .i64 18, .int .i64 c[p + 1].toNat, .slice none 0 0, .int .i64 ((p : Int) + 2)], .bool true]) (by simp [results, Tryz.results114, go_sem]) rfl ⟨_, none, 0, by rw [HE.out]; rfl, by rw [HE.out]; exact fun h => rfl, by rw [HE.out]; exact row_nil _ _, below2 _ _ _⟩
 ·skip
  go_enter Tryz.func114, Tryz.ntmps114
  go_wp2_with fail
  go_loopw [8] (fun iv wr => iv = .int .i64 ((p : Int) + 2) ∧ wr = (w.alloc (.cells #[.int .i64 0, .int .i64 0, .int .i64 0, .slice none 0 0, .int .i64 0] 129)).alloc (.cells #[.int .i64 p, .int .i64 20, .int .i64 c[p + 1].toNat, .slice none 0 0, .int .i64 ((p : Int) + 2)] 129)) (fun _ _ => 0)
  case atStart => exact ⟨rfl, rfl⟩
  case round =>
   obtain ⟨rfl, rfl⟩ := hrel
   go_wp2_with fail
   exact bodyPost_ret (v := .tuple #[.agg #[.int .i64 p, .int .i64 20, .int .i64 c[p + 1].toNat, .slice none 0 0, .int .i64 ((p : Int) + 2)], .bool true]) (by simp [results, Tryz.results114, go_sem]) rfl ⟨_, none, 0, by rw [HE.out]; rfl, by rw [HE.out]; exact fun h => rfl, by rw [HE.out]; exact row_nil _ _, below2 _ _ _⟩
theorem cut_ok_one (c : ByteArray) (p op : Nat) (w : World) (hp : p < c.size) (hs : c.size ≤ 120) (ho : byteN c p = op) (h21 : op < 21)
  (h2 : op ≠ 2) (h9 : op ≠ 9) (h10 : op ≠ 10) (h15 : op ≠ 15) (h16 : op ≠ 16) (h17 : op ≠ 17) (h18 : op ≠ 18) (h20 : op ≠ 20) :
  Calls Tryz.prog 114 #[.string c, .int .i64 p] w (CutOk c p w) := by
 have hz : sizeI c p = 1 := by unfold sizeI; rw [ho, if_neg (by omega)]; simp [sizeT, h2, h9, h10, h15, h16, h17, h18, h20]
 have e1 : insI c p = ⟨op, p, p + 1, 0, []⟩ := by
  unfold insI
  rw [hz, ho]
  simp [numOp, h2, h9, h10, h15, h16, h17, h18, h20]
 have HE := hidc e1
 have HNO : Hid (numOp op = false) := by show numOp op = false; simp [numOp, h2, h9, h10, h18, h20]
 have hb : c[p].toNat = op := by rw [byte_nat c p hp]; exact ho
 clear e1 hz ho
 go_enter Tryz.func114, Tryz.ntmps114
 go_wp2_with fail
 go_loopw [8] (fun iv wr => iv = .int .i64 ((p : Int) + 1) ∧ wr = (w.alloc (.cells #[.int .i64 0, .int .i64 0, .int .i64 0, .slice none 0 0, .int .i64 0] 129)).alloc (.cells #[.int .i64 p, .int .i64 op, .int .i64 0, .slice none 0 0, .int .i64 ((p : Int) + 1)] 129)) (fun _ _ => 0)
 case atStart => exact ⟨rfl, rfl⟩
 case round =>
  obtain ⟨rfl, rfl⟩ := hrel
  go_wp2_with fail
  exact bodyPost_ret (v := .tuple #[.agg #[.int .i64 p, .int .i64 op, .int .i64 0, .slice none 0 0, .int .i64 ((p : Int) + 1)], .bool true]) (by simp [results, Tryz.results114, go_sem]) rfl ⟨_, none, 0, by rw [HE.out]; rfl, by rw [HE.out]; exact fun h => (by rw [show numOp op = false from HNO.out] at h; cases h), by rw [HE.out]; exact row_nil _ _, below2 _ _ _⟩
end Go.Proofs.YtdhmandnamajpaaGreatDoor
