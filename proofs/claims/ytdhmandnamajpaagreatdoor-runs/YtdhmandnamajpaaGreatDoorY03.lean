import Derived.Test.YtdhmandnamajpaaGreatDoorY00
import Derived.Test.YtdhmandnamajpaaGreatDoorY02
import Derived.Deep.RegionHeld3
import Derived.Laws.OwnMore
import Derived.Deep.AppendLies
namespace Go.Proofs.YtdhmandnamajpaaGreatDoor
open Go.RowKit Go.Joins
set_option maxHeartbeats 400000
theorem tos_get {w : World} {H : Nat} {a : Option Addr} {n c : Nat} {to : List Int} (h : TosAt0 w H (.slice a n c) to) (k : Nat) (hk : k < to.length) :
  ∃ g, a = some ⟨g, 0, none⟩ ∧ g < w.heap.size ∧ g ≠ H ∧ w.cell? ⟨g, k, none⟩ = some (.int .i64 to[k]) := by
 rcases h with ⟨_, e⟩ | ⟨g, cap, e, h1, h2, h3⟩
 ·rw [e] at hk; simp at hk
 ·injection e with e1 e2 e3
  exact ⟨g, e1, h1, h2, h3 k to[k] (by simp [hk])⟩
theorem ret_intn {k : IntKind} {a b : Nat} (h : a = b) : Ending.returned (.int k a) = .returned (.int k b) := by rw [h]
theorem look_references {w : World} {L H : Nat} {S : List Sec} {s : Sec} {b off cap g cc : Nat} {l : List Ins} (h : Look w L H S s b off cap g cc l) (x : Ins) (a : Option Addr) (vc : Nat) (ht : TosAt0 w H (.slice a x.to.length vc) x.to)
  (hl : l.length ≤ 120) (hto : x.to.length ≤ 300) :
  Calls Tryz.prog 84 #[.pointer (some ⟨L, 0, none⟩), .agg #[.int .i64 x.op, .int .i64 x.pl, .int .i64 x.nx, .int .i64 x.n, .slice a x.to.length vc]] w
   fun e w' => e = .returned (.int .i64 (refE S l x)) ∧ Below w.heap.size w w' := by
 have HL := hidc h
 have HT := hidc ht
 have hL := blt h.blk
 clear h ht
 go_enter Tryz.func84, Tryz.ntmps84
 go_wp2_with fail
 go_loopw [10] (fun i wr => ∃ k : Nat, k ≤ x.to.length ∧ i = .int .i64 k ∧ (x.to.take k).all (fun t => beginsB l t) = true ∧ Below (w.heap.size + 1) (w.alloc (.cells #[.int .i64 x.op, .int .i64 x.pl, .int .i64 x.nx, .int .i64 x.n, .slice a x.to.length vc] 116)) wr) (fun i _ => x.to.length - (intOf i).toNat)
 case atStart => exact ⟨0, Nat.zero_le _, rfl, by simp, Below.refl _ _⟩
 case round =>
  obtain ⟨k, hk, rfl, hall, hbel⟩ := hrel
  have HA := hidc hall
  have HB := hidc ((((Below.refl w.heap.size w).alloc (Nat.le_refl _) (.cells #[.int .i64 x.op, .int .i64 x.pl, .int .i64 x.nx, .int .i64 x.n, .slice a x.to.length vc] 116))).trans (hbel.mono (by omega)))
  have hsz : w.heap.size + 1 ≤ wr.heap.size := by have := hbel.size; simpa using this
  have q0 : wr.cell? ⟨w.heap.size, 0, none⟩ = some (.int .i64 x.op) := by rw [(bcell hbel).1 _ _ (by omega)]; simp
  have q1 : wr.cell? ⟨w.heap.size, 1, none⟩ = some (.int .i64 x.pl) := by rw [(bcell hbel).1 _ _ (by omega)]; simp
  have q2 : wr.cell? ⟨w.heap.size, 2, none⟩ = some (.int .i64 x.nx) := by rw [(bcell hbel).1 _ _ (by omega)]; simp
  have q3 : wr.cell? ⟨w.heap.size, 3, none⟩ = some (.int .i64 x.n) := by rw [(bcell hbel).1 _ _ (by omega)]; simp
  have q4 : wr.cell? ⟨w.heap.size, 4, none⟩ = some (.slice a x.to.length vc) := by rw [(bcell hbel).1 _ _ (by omega)]; simp
  have HBL := hidc hbel
  clear hall hbel
  by_cases hlt : k < x.to.length
  ·obtain ⟨gt, rfl, hg1, hg2, c0⟩ := tos_get (HT.out.kp (Kp.of HB.out H)) k hlt
   cases hbb : beginsB l x.to[k]
   ·have HE : Hid (refE S l x = 8) := by
     show refE S l x = 8
     have : x.to.any (fun t => !beginsB l t) = true := by rw [List.any_eq_true]; exact ⟨x.to[k], by simp, by simp [hbb]⟩
     simp [refE, this]
    go_wp2_with (go_at_call 120; refine (look_begins (HL.out.below HB.out) _ hl).mono ?_; rw [hbb]; rintro e w1 ⟨rfl, hb1⟩)
    go_ret
    exact ⟨ret_intn HE.out.symm, HB.out.trans (hb1.mono (by omega))⟩
   ·go_wp2_with (go_at_call 120; refine (look_begins (HL.out.below HB.out) _ hl).mono ?_; rw [hbb]; rintro e w1 ⟨rfl, hb1⟩)
    go_roundw
    case rel => exact ⟨k + 1, by omega, by go_num, by rw [List.take_succ_eq_append_getElem hlt, List.all_append, HA.out]; simp [hbb], HBL.out.trans (hb1.mono hsz)⟩
    case measure => simp [intOf]; omega
  ·have HN : Hid (x.to.any (fun t => !beginsB l t) = false) := by
    show x.to.any (fun t => !beginsB l t) = false
    have := HA.out
    rw [List.take_of_length_le (by omega)] at this
    rw [List.any_eq_false]
    intro t ht
    rw [List.all_eq_true] at this
    simp [this t ht]
   cases hn : namesB x
   ·have HE : Hid (refE S l x = 0) := by show refE S l x = 0; simp [refE, HN.out, hn]
    go_wp2_with (go_at_call 87; refine (check_names x _ _).mono ?_; rw [hn]; rintro e w1 ⟨rfl, hb1⟩)
    go_ret
    exact ⟨ret_intn HE.out.symm, HB.out.trans (hb1.mono (by omega))⟩
   ·cases hm : mayNameB S x
    ·have HE : Hid (refE S l x = 9) := by show refE S l x = 9; simp [refE, HN.out, hn, hm]
     go_wp2_with (first | (go_at_call 87; refine (check_names x _ _).mono ?_; rw [hn]; rintro e w1 ⟨rfl, hb1⟩; have y0 := ((bcell hb1).1 w.heap.size 0 (by omega)).trans q0; have y1 := ((bcell hb1).1 w.heap.size 1 (by omega)).trans q1; have y2 := ((bcell hb1).1 w.heap.size 2 (by omega)).trans q2; have y3 := ((bcell hb1).1 w.heap.size 3 (by omega)).trans q3; have y4 := ((bcell hb1).1 w.heap.size 4 (by omega)).trans q4) | (go_at_call 121; refine (look_mayName ((HL.out.below HB.out).below hb1) x _).mono ?_; rw [hm]; rintro e w2 ⟨rfl, hb2⟩))
     go_ret
     exact ⟨ret_intn HE.out.symm, (HB.out.trans (hb1.mono (by omega))).trans (hb2.mono (by have := hb1.size; omega))⟩
    ·have HE : Hid (refE S l x = 0) := by show refE S l x = 0; simp [refE, HN.out, hn, hm]
     go_wp2_with (first | (go_at_call 87; refine (check_names x _ _).mono ?_; rw [hn]; rintro e w1 ⟨rfl, hb1⟩; have y0 := ((bcell hb1).1 w.heap.size 0 (by omega)).trans q0; have y1 := ((bcell hb1).1 w.heap.size 1 (by omega)).trans q1; have y2 := ((bcell hb1).1 w.heap.size 2 (by omega)).trans q2; have y3 := ((bcell hb1).1 w.heap.size 3 (by omega)).trans q3; have y4 := ((bcell hb1).1 w.heap.size 4 (by omega)).trans q4) | (go_at_call 121; refine (look_mayName ((HL.out.below HB.out).below hb1) x _).mono ?_; rw [hm]; rintro e w2 ⟨rfl, hb2⟩))
     go_ret
     exact ⟨ret_intn HE.out.symm, (HB.out.trans (hb1.mono (by omega))).trans (hb2.mono (by have := hb1.size; omega))⟩
theorem cell_al {w : World} (o : Obj) {g i : Nat} (h : g < w.heap.size) : (w.alloc o).cell? ⟨g, i, none⟩ = w.cell? ⟨g, i, none⟩ := (bcell ((Below.refl w.heap.size w).alloc (Nat.le_refl _) o)).1 g i h
theorem cell_nw {w : World} {cs : Array Value} {t g i : Nat} {v : Value} (hg : g = w.heap.size) (h : cs[i]? = some v) : (w.alloc (.cells cs t)).cell? ⟨g, i, none⟩ = some v := by
 subst hg
 rw [cell_of_block (heap_alloc_new w _)]
 exact h
theorem sec_get {S : List Sec} (h : S.all secB = true) (n : Nat) (hn : n < S.length) : secB S[n] = true := by
 rw [List.all_eq_true] at h
 exact h _ (by simp)
theorem may_plain {w : World} {L H : Nat} {S : List Sec} {s : Sec} {b off cap g cc : Nat} {l : List Ins} (h : Look w L H S s b off cap g cc l) (x : Ins) (t : Value) (lo hi : Int) (hx : x.op ≠ 20) :
  Calls Tryz.prog 124 #[.pointer (some ⟨L, 0, none⟩), .agg #[.int .i64 x.op, .int .i64 x.pl, .int .i64 x.nx, .int .i64 x.n, t], .agg #[.bool true, .int .i64 lo, .int .i64 hi]] w
   fun e w' => e = .returned (.bool (mayReturnB S s x lo hi)) ∧ Below w.heap.size w w' := by
 obtain ⟨f0, _, f2, _, _, f5, _, hL⟩ := h.facts
 have HL := hidc h
 clear h
 have h3 : ((x.op : Int) == 20) = false := by simp; omega
 have HE : Hid (mayReturnB S s x lo hi = ((s.o != 128) && (lo == s.o) && (hi == s.o))) := by
  show mayReturnB S s x lo hi = ((s.o != 128) && (lo == s.o) && (hi == s.o))
  have : (x.op == 20) = false := by simp [hx]
  simp [mayReturnB, wantI, hx, this]
 by_cases e1 : s.o = 128
 ·go_enter Tryz.func124, Tryz.ntmps124
  go_wp2_with fail
  go_ret
  exact ⟨ret_bool (by rw [HE.out]; simp [e1]), below2 _ _ _⟩
 ·by_cases e2 : lo = s.o
  ·go_enter Tryz.func124, Tryz.ntmps124
   go_wp2_with fail
   go_ret
   exact ⟨ret_bool (by rw [HE.out]; simp [e2]), below2 _ _ _⟩
  ·go_enter Tryz.func124, Tryz.ntmps124
   go_wp2_with fail
   go_ret
   exact ⟨ret_bool (by rw [HE.out]; simp [e2]), below2 _ _ _⟩
theorem may_goto {w : World} {L H : Nat} {S : List Sec} {s : Sec} {b off cap g cc : Nat} {l : List Ins} (h : Look w L H S s b off cap g cc l) (x : Ins) (t : Value) (lo hi : Int) (hx : x.op = 20) (hn : x.n < S.length) (hS : S.all secB = true) (hs : secB s = true) :
  Calls Tryz.prog 124 #[.pointer (some ⟨L, 0, none⟩), .agg #[.int .i64 x.op, .int .i64 x.pl, .int .i64 x.nx, .int .i64 x.n, t], .agg #[.bool true, .int .i64 lo, .int .i64 hi]] w
   fun e w' => e = .returned (.bool (mayReturnB S s x lo hi)) ∧ Below w.heap.size w w' := by
 obtain ⟨f0, _, f2, _, _, f5, _, hL⟩ := h.facts
 obtain ⟨c0, c1, c2, c3⟩ := h.secs.at x.n hn
 have hb := h.secs.1
 obtain ⟨b1, b2, b3, b4⟩ := (secB_iff _).1 (sec_get hS x.n hn)
 obtain ⟨d1, d2, d3, d4⟩ := (secB_iff _).1 hs
 have HL := hidc h
 clear h
 have h3 : ((x.op : Int) == 20) = true := by simp; omega
 go_enter Tryz.func124, Tryz.ntmps124
 go_wp2_with fail
 refine wp_region_held_drew (S := fun w' => w'.cell? ⟨L, 0, none⟩ = some (.slice (some ⟨b, off, none⟩) S.length cap) ∧ w'.cell? ⟨w.heap.size, 3, none⟩ = some (.int .i64 x.n) ∧ w'.cell? ⟨b, off + x.n * 4, none⟩ = some (.int .i64 S[x.n].i) ∧ w'.cell? ⟨b, off + x.n * 4 + 1, none⟩ = some (.int .i64 S[x.n].o) ∧ w'.cell? ⟨b, off + x.n * 4 + 2, none⟩ = some (.int .i64 S[x.n].m) ∧ w'.cell? ⟨b, off + x.n * 4 + 3, none⟩ = some (.string S[x.n].code) ∧ w'.cell? ⟨L, 2, none⟩ = some (.int .i64 s.o)) (by kernel_rfl) ?hS0 (fun hHeld => ?_)
 case hS0 => go_simp
 have hH0 := hHeld
 refine tk 0 ?va0 rfl ?hya0 hHeld ?resta0
 case hya0 => rintro w ⟨s0, s1, s2, s3, s4, s5, s6⟩; go_simp; try with_reducible rfl
 simp only [Act.put, aA, aB, aC, aD, aE]
 refine tk 1 ?va1 rfl ?hya1 hHeld ?resta1
 case hya1 => rintro w ⟨s0, s1, s2, s3, s4, s5, s6⟩; go_simp; try with_reducible rfl
 simp only [Act.put, aA, aB, aC, aD, aE, aF]
 refine tk 2 ?va2 rfl ?hya2 hHeld ?resta2
 case hya2 => rintro w ⟨s0, s1, s2, s3, s4, s5, s6⟩; go_simp; try with_reducible rfl
 simp only [Act.put, aA, aB, aC, aD, aE, aF]
 refine tk 3 ?va3 rfl ?hya3 hHeld ?resta3
 case hya3 => rintro w ⟨s0, s1, s2, s3, s4, s5, s6⟩; go_simp; try with_reducible rfl
 simp only [Act.put, aA, aB, aC, aD, aE, aF]
 refine tk 4 ?va4 rfl ?hya4 hHeld ?resta4
 case hya4 => rintro w ⟨s0, s1, s2, s3, s4, s5, s6⟩; go_simp; try with_reducible rfl
 simp only [Act.put, aA, aB, aC, aD, aE, aF]
 refine tk 5 ?va5 rfl ?hya5 hHeld ?resta5
 case hya5 => rintro w ⟨s0, s1, s2, s3, s4, s5, s6⟩; go_simp; try with_reducible rfl
 simp only [Act.put, aA, aB, aC, aD, aE, aF]
 refine tk 6 ?va6 rfl ?hya6 hHeld ?resta6
 case hya6 => rintro w ⟨s0, s1, s2, s3, s4, s5, s6⟩; go_simp; try with_reducible rfl
 simp only [Act.put, aA, aB, aC, aD, aE, aF]
 refine tk 7 ?va7 rfl ?hya7 hHeld ?resta7
 case hya7 => rintro w ⟨s0, s1, s2, s3, s4, s5, s6⟩; go_simp; try with_reducible rfl
 simp only [Act.put, aA, aB, aC, aD, aE, aF]
 refine rd 8 rfl (fun K hK => ?_)
 simp only [aD, aE, aF]
 go_simp
 refine hK.out _ _ ?hS8 (fun hHeld => ?_)
 case hS8 => obtain ⟨s0, s1, s2, s3, s4, s5, s6⟩ := hH0; exact ⟨(cell_al _ (by simp; omega)).trans s0, (cell_al _ (by simp; omega)).trans s1, (cell_al _ (by simp; omega)).trans s2, (cell_al _ (by simp; omega)).trans s3, (cell_al _ (by simp; omega)).trans s4, (cell_al _ (by simp; omega)).trans s5, (cell_al _ (by simp; omega)).trans s6⟩
 clear hK
 refine rd 9 rfl (fun K hK => ?_)
 simp only [aD, aE, aF]
 go_simp
 refine hK.out _ _ ?hS9 (fun hHeld => ?_)
 case hS9 => obtain ⟨s0, s1, s2, s3, s4, s5, s6⟩ := hH0; exact ⟨(cell_al _ (by simp; omega)).trans s0, (cell_al _ (by simp; omega)).trans s1, (cell_al _ (by simp; omega)).trans s2, (cell_al _ (by simp; omega)).trans s3, (cell_al _ (by simp; omega)).trans s4, (cell_al _ (by simp; omega)).trans s5, (cell_al _ (by simp; omega)).trans s6⟩
 clear hK
 refine wpAnyH_done (by kernel_rfl) ?_ _
 obtain ⟨s0, s1, s2, s3, s4, s5, s6⟩ := hHeld
 have HQ : Hid (Below w.heap.size w ((((w.alloc (.cells #[.int .i64 20, .int .i64 x.pl, .int .i64 x.nx, .int .i64 x.n, t] 116)).alloc (.cells #[.bool true, .int .i64 lo, .int .i64 hi] 141)).alloc (.cells #[.int .i64 S[x.n].i, .int .i64 S[x.n].o, .int .i64 S[x.n].m, .string S[x.n].code] 65)).drew)) := ((below2 _ _ _).alloc (by simp; omega) _).drew
 have z1 : ((((w.alloc (.cells #[.int .i64 20, .int .i64 x.pl, .int .i64 x.nx, .int .i64 x.n, t] 116)).alloc (.cells #[.bool true, .int .i64 lo, .int .i64 hi] 141)).alloc (.cells #[.int .i64 S[x.n].i, .int .i64 S[x.n].o, .int .i64 S[x.n].m, .string S[x.n].code] 65)).drew).cell? ⟨w.heap.size + 1 + 1, 0, none⟩ = some (.int .i64 S[x.n].i) := cell_nw (by simp) rfl
 have z2 : ((((w.alloc (.cells #[.int .i64 20, .int .i64 x.pl, .int .i64 x.nx, .int .i64 x.n, t] 116)).alloc (.cells #[.bool true, .int .i64 lo, .int .i64 hi] 141)).alloc (.cells #[.int .i64 S[x.n].i, .int .i64 S[x.n].o, .int .i64 S[x.n].m, .string S[x.n].code] 65)).drew).cell? ⟨w.heap.size + 1 + 1, 1, none⟩ = some (.int .i64 S[x.n].o) := cell_nw (by simp) rfl
 have z3 : ((((w.alloc (.cells #[.int .i64 20, .int .i64 x.pl, .int .i64 x.nx, .int .i64 x.n, t] 116)).alloc (.cells #[.bool true, .int .i64 lo, .int .i64 hi] 141)).alloc (.cells #[.int .i64 S[x.n].i, .int .i64 S[x.n].o, .int .i64 S[x.n].m, .string S[x.n].code] 65)).drew).cell? ⟨w.heap.size + 1, 1, none⟩ = some (.int .i64 lo) := (cell_al _ (by simp)).trans (cell_nw (by simp) rfl)
 have z4 : ((((w.alloc (.cells #[.int .i64 20, .int .i64 x.pl, .int .i64 x.nx, .int .i64 x.n, t] 116)).alloc (.cells #[.bool true, .int .i64 lo, .int .i64 hi] 141)).alloc (.cells #[.int .i64 S[x.n].i, .int .i64 S[x.n].o, .int .i64 S[x.n].m, .string S[x.n].code] 65)).drew).cell? ⟨w.heap.size + 1, 2, none⟩ = some (.int .i64 hi) := (cell_al _ (by simp)).trans (cell_nw (by simp) rfl)
 generalize ((((w.alloc (.cells #[.int .i64 20, .int .i64 x.pl, .int .i64 x.nx, .int .i64 x.n, t] 116)).alloc (.cells #[.bool true, .int .i64 lo, .int .i64 hi] 141)).alloc (.cells #[.int .i64 S[x.n].i, .int .i64 S[x.n].o, .int .i64 S[x.n].m, .string S[x.n].code] 65)).drew) = wq at *
 by_cases e0 : s.o < S[x.n].o
 ·have HE : Hid (mayReturnB S s x lo hi = false) := by
   show mayReturnB S s x lo hi = false
   simp [mayReturnB, hx, outS_get S x.n hn, e0]
  go_wp2_with fail
  go_quiet (fail)
  go_wp2_with fail
  go_ret
  exact ⟨ret_bool HE.out.symm, bdr HQ.out _⟩
 ·have HE : Hid (mayReturnB S s x lo hi = ((s.o != 128) && (lo == s.o + (S[x.n].i - S[x.n].o)) && (hi == s.o + (S[x.n].i - S[x.n].o)))) := by
   show mayReturnB S s x lo hi = ((s.o != 128) && (lo == s.o + (S[x.n].i - S[x.n].o)) && (hi == s.o + (S[x.n].i - S[x.n].o)))
   simp [mayReturnB, wantI, hx, outS_get S x.n hn, inS_get S x.n hn, e0]
  by_cases e1 : s.o = 128
  ·go_wp2_with fail
   go_quiet (fail)
   go_wp2_with fail
   go_ret
   exact ⟨ret_bool (by rw [HE.out]; simp [e1]), bdr HQ.out _⟩
  ·by_cases e2 : lo = s.o + (S[x.n].i - S[x.n].o)
   ·go_wp2_with fail
    go_quiet (fail)
    go_wp2_with fail
    go_ret
    exact ⟨ret_bool (by rw [HE.out]; simp [e2]), bdr HQ.out _⟩
   ·go_wp2_with fail
    go_quiet (fail)
    go_wp2_with fail
    go_ret
    exact ⟨ret_bool (by rw [HE.out]; simp [e2]), bdr HQ.out _⟩
theorem look_mayReturn {w : World} {L H : Nat} {S : List Sec} {s : Sec} {b off cap g cc : Nat} {l : List Ins} (h : Look w L H S s b off cap g cc l) (x : Ins) (t : Value) (lo hi : Int) (hx : x.op = 20 → x.n < S.length) (hS : S.all secB = true) (hs : secB s = true) :
  Calls Tryz.prog 124 #[.pointer (some ⟨L, 0, none⟩), .agg #[.int .i64 x.op, .int .i64 x.pl, .int .i64 x.nx, .int .i64 x.n, t], .agg #[.bool true, .int .i64 lo, .int .i64 hi]] w
   fun e w' => e = .returned (.bool (mayReturnB S s x lo hi)) ∧ Below w.heap.size w w' := by
 by_cases h1 : x.op = 20
 ·exact may_goto h x t lo hi h1 (hx h1) hS hs
 ·exact may_plain h x t lo hi h1
end Go.Proofs.YtdhmandnamajpaaGreatDoor
namespace Go.Proofs.YtdhmandnamajpaaGreatDoor
open Go.RowKit Go.Joins
set_option maxHeartbeats 400000
theorem Tryz.infoInt : (Tryz.prog.info? 3).map (fun i => (i.zero, i.size, i.bytes)) = some (some (.int .i64 0), 1, 8) := by kernel_rfl
def iV (l : List Int) : List Value := l.map (fun t => .int .i64 t)
theorem tos_succ (c : ByteArray) (nx q m : Nat) : tos c nx q (m + 1) = tos c nx q m ++ [toF c nx q m] := by simp [tos, List.range_succ]
theorem iV_snoc (l : List Int) (t : Int) : iV (l ++ [t]) = iV l ++ [.int .i64 t] := by simp [iV]
theorem tos_len (c : ByteArray) (nx q m : Nat) : (tos c nx q m).length = m := by simp [tos]
theorem news1d (w : World) (x : Value) (g : Nat) (hg : g = w.heap.size) : ∀ j u, [x][j]? = some u → (w.alloc (.cells #[x] 3)).drew.cell? ((⟨g, 0, none⟩ : Addr).add j) = some u := by
 intro j u hj
 subst hg
 have hb : (w.alloc (.cells #[x] 3)).drew.heap[w.heap.size]? = some (.cells #[x] 3 (0, 0)) := heap_alloc_new w _
 exact World.news_of_block hb j u hj
theorem own_dr {w : World} {B e s n : Nat} {v : Value} {xs : List Value} (h : w.ownsRow B e s v n xs) : w.drew.ownsRow B e s v n xs := h
theorem sgn_le (a d : Nat) (ha : a < 256) (hd : d < 256) : -32768 ≤ sgn a d ∧ sgn a d ≤ 32767 := by unfold sgn; split <;> omega
theorem one1c (x : Int) : ∀ u ∈ [Value.int .i64 x], u.oneCell' = true := by
 intro u hu
 simp at hu
 subst hu
 rfl
theorem ops_targets (c : ByteArray) (q m nx : Nat) (w : World) (hq : q + 2 * m = nx) (hn : nx ≤ c.size) (hs : c.size ≤ 120) :
  Calls Tryz.prog 141 #[.string c, .int .i64 q, .int .i64 nx] w fun e w' => ∃ v, e = .returned v ∧ w'.ownsRow w.heap.size 3 1 v m (iV (tos c nx q m)) ∧ Below w.heap.size w w' := by
 obtain ⟨iz, hiz, hzz0, hzz1, hzz2⟩ := info_parts Tryz.infoInt
 go_enter Tryz.func141, Tryz.ntmps141
 go_wp2_with fail
 go_loopw [7, 8] (fun pv i wr => ∃ k : Nat, k ≤ m ∧ i = .int .i64 ((q + 2 * k : Nat) : Int) ∧ wr.ownsRow w.heap.size 3 1 pv k (iV (tos c nx q k)) ∧ Below w.heap.size w wr) (fun _ i _ => nx - (intOf i).toNat)
 case atStart => exact ⟨0, Nat.zero_le _, by simp, ⟨by simp [tos, iV], .inl ⟨rfl, rfl⟩⟩, Below.refl _ _⟩
 case round =>
  obtain ⟨k, hk, rfl, hown, hbel⟩ := hrel
  have HO := hidc hown
  have HB := hidc hbel
  have hsz := hbel.size
  clear hown hbel
  by_cases hlt : k < m
  ·have i0 : q + 2 * k < c.size := by omega
   have i1 : q + 2 * k + 1 < c.size := by omega
   generalize hat : q + 2 * k = at0 at *
   have HE : Hid (toF c nx q k = (nx : Int) + sgn c[at0].toNat c[at0 + 1].toNat) := by
    show toF c nx q k = (nx : Int) + sgn c[at0].toNat c[at0 + 1].toNat
    subst hat
    rw [toF, byteN_get c _ i0, byteN_get c _ i1]
   have y0 : c[at0].toNat < 256 := UInt8.toNat_lt _
   have y1 : c[at0 + 1].toNat < 256 := UInt8.toNat_lt _
   have hlt' : at0 < nx := by omega
   have hw : IntKind.i64.wrap ((at0 : Int) + 1) = (at0 : Int) + 1 := by rw [IntKind.wrap_i64]; omega
   obtain ⟨z0, z1⟩ := sgn_le c[at0].toNat c[at0 + 1].toNat y0 y1
   have hw2 : IntKind.i64.wrap ((nx : Int) + sgn c[at0].toNat c[at0 + 1].toNat) = (nx : Int) + sgn c[at0].toNat c[at0 + 1].toNat := by rw [IntKind.wrap_i64]; omega
   have j0 : (0 : Int) ≤ (at0 : Int) + 1 := by omega
   have j1 : (at0 : Int) + 1 < (c.size : Int) := by omega
   have j2 : ((at0 : Int) + 1).toNat = at0 + 1 := by omega
   have HAT := hidc hat
   clear hat
   go_wp2_with fail
   refine wp_region_held_drew (S := fun _ => True) (by kernel_rfl) trivial (fun hHeld => ?_)
   refine tk 0 ?va0 rfl ?hya0 hHeld ?resta0
   case hya0 => intro w hSw; (try dsimp only at hSw); go_simp; try with_reducible rfl
   simp only [Act.put, aA, aB, aC, aD, aE]
   refine tk 1 ?va1 rfl ?hya1 hHeld ?resta1
   case hya1 => intro w hSw; (try dsimp only at hSw); go_simp; try with_reducible rfl
   simp only [Act.put, aA, aB, aC, aD, aE, aF]
   refine tk 2 ?va2 rfl ?hya2 hHeld ?resta2
   case hya2 => intro w hSw; (try dsimp only at hSw); go_simp; try with_reducible rfl
   simp only [Act.put, aA, aB, aC, aD, aE, aF]
   refine tk 3 ?va3 rfl ?hya3 hHeld ?resta3
   case hya3 => intro w hSw; (try dsimp only at hSw); go_simp; try with_reducible rfl
   simp only [Act.put, aA, aB, aC, aD, aE, aF]
   refine tk 4 ?va4 rfl ?hya4 hHeld ?resta4
   case hya4 => intro w hSw; (try dsimp only at hSw); go_simp; try with_reducible rfl
   simp only [Act.put, aA, aB, aC, aD, aE, aF]
   refine tk 5 ?va5 rfl ?hya5 hHeld ?resta5
   case hya5 => intro w hSw; (try dsimp only at hSw); go_simp; try with_reducible rfl
   simp only [Act.put, aA, aB, aC, aD, aE, aF]
   refine tk 6 ?va6 rfl ?hya6 hHeld ?resta6
   case hya6 => intro w hSw; (try dsimp only at hSw); go_simp; try with_reducible rfl
   simp only [Act.put, aA, aB, aC, aD, aE, aF]
   refine tk 7 (.int .i64 ((at0 : Int) + 1)) rfl ?hya7 hHeld ?resta7
   case hya7 => intro w hSw; (try dsimp only at hSw); go_simp
   simp only [Act.put, aA, aB, aC, aD, aE, aF]
   refine tk 8 (.int .u8 (c[at0 + 1].toNat : Int)) rfl ?hya8 hHeld ?resta8
   case hya8 => intro w hSw; (try dsimp only at hSw); go_simp; try with_reducible rfl
   simp only [Act.put, aA, aB, aC, aD, aE, aF]
   refine rd 9 rfl (fun K hK => ?_)
   simp only [aD, aE, aF]
   go_simp
   go_at_call 140
   refine (ops_number _ _ y0 y1 _).mono ?_
   rintro e w' ⟨rfl, rfl⟩
   go_wp2_with fail
   refine hK.out _ _ trivial (fun hHeld => ?_)
   clear hK
   refine rd 10 rfl (fun K hK => ?_)
   simp only [aD, aE, aF]
   go_simp
   go_at_call 142
   refine (ops_signed _ _ y0 y1 _).mono ?_
   rintro e w' ⟨rfl, rfl⟩
   go_wp2_with fail
   refine hK.out _ _ trivial (fun hHeld => ?_)
   clear hK
   refine tk 11 (.int .i64 ((nx : Int) + sgn c[at0].toNat c[at0 + 1].toNat)) rfl ?hyb11 hHeld ?restb11
   case hyb11 => intro w hSw; (try dsimp only at hSw); go_simp
   simp only [Act.put, aA, aB, aC, aD, aE, aF]
   refine rd 12 rfl (fun K hK => ?_)
   simp only [aD, aE, aF]
   go_simp
   refine hK.out _ _ trivial (fun hHeld => ?_)
   clear hK
   refine rd 13 rfl (fun K hK => ?_)
   refine step_append_lies _ rfl _ _ 22 rfl w.heap.size 3 iz (.int .i64 0) 1 8 Tryz.underlying22 hiz hzz0 hzz1 hzz2 rfl (by decide) _ k (iV (tos c nx q k)) rfl (own_dr (HO.out.alloc _)) ⟨wr.heap.size, 0, none⟩ 1 1 [.int .i64 ((nx : Int) + sgn c[at0].toNat c[at0 + 1].toNat)] rfl rfl (news1d _ _ _ rfl) (one1c _) (by decide) (by unfold maxLen; omega) (by omega) (by simp; omega) _ rfl ?_
   intro ga ca w5 hown5 hgrow5 hat5 hlt5
   have HO5 := hidc hown5
   have HB5 := hidc (((HB.out.alloc hsz _).drew).grown hgrow5 (by simp; omega) (fun j hj => (HO.out.lt j hj).1))
   clear hown5 hgrow5 hat5 hlt5
   refine hK.out _ _ trivial (fun hHeld => ?_)
   clear hK
   simp only [Act.put, aA, aB, aC, aD, aE, aF]
   refine tk 14 ?vc14 rfl ?hyc14 hHeld ?restc14
   case hyc14 => intro w hSw; (try dsimp only at hSw); go_simp; try with_reducible rfl
   simp only [Act.put, aA, aB, aC, aD, aE, aF]
   refine wpAnyH_done (by kernel_rfl) ?_ _
   go_wp2_with fail
   have hk1 : q + 2 * (k + 1) = at0 + 2 := by have := HAT.out; omega
   refine ⟨⟨k + 1, by omega, by rw [hk1]; rfl, ?_, HB5.out⟩, ?_⟩
   ·rw [tos_succ, iV_snoc, HE.out]
    exact HO5.out
   ·simp [intOf]
    omega
  ·have hkm : k = m := by omega
   subst hkm
   have hge : ¬ (q + 2 * k < nx) := by omega
   go_wp2_with fail
   go_ret
   exact ⟨_, rfl, HO.out, HB.out⟩
theorem iV_get (l : List Int) (j : Nat) (t : Int) (h : l[j]? = some t) : (iV l)[j]? = some (.int .i64 t) := by simp [iV, h]
theorem tos_of_row {w : World} {B H : Nat} {v : Value} {to : List Int} (h : w.ownsRow B 3 1 v to.length (iV to)) (hH : H < B) : TosAt0 w H v to := by
 rcases h.2 with ⟨e, h0⟩ | ⟨g, cap, cur, hv, hb, hg, hc, _, hs, ht⟩
 ·exact .inl ⟨e, List.length_eq_zero_iff.1 h0⟩
 ·refine .inr ⟨g, cap, hv, blt hg, by omega, fun j t hj => ?_⟩
  rw [cell_of_block hg]
  have hlt : j < to.length := (List.getElem?_eq_some_iff.1 hj).1
  have := iV_get to j t hj
  rw [← ht, List.getElem?_take_of_lt (by omega)] at this
  simpa using this
theorem ops_read_bad (c : ByteArray) (p : Nat) (w : World) (hR : RowsAt w) (hp : p < c.size) (hs : c.size ≤ 120) (he : opE c p ≠ 0) :
  Calls Tryz.prog 127 #[.string c, .int .i64 p] w fun e w' => e = .returned (.tuple #[.agg #[.int .i64 0, .int .i64 0, .int .i64 0, .int .i64 0, .slice none 0 0], .int .i64 (opE c p : Nat)]) ∧ Below w.heap.size w w' := by
 have hb := byte_nat c p hp
 have hsz := sizeI_le c p
 by_cases h21 : 21 ≤ byteN c p
 ·have e1 : opE c p = 6 := by simp [opE, h21]
  rw [e1]
  have h21' : 21 ≤ c[p].toNat := by rw [hb]; exact h21
  have hl : c[p].toNat < 256 := UInt8.toNat_lt _
  clear hb he e1 h21
  go_enter Tryz.func127, Tryz.ntmps127
  go_wp2_with fail
  refine bodyPost_ret (v := .tuple #[.agg #[.int .i64 0, .int .i64 0, .int .i64 0, .int .i64 0, .slice none 0 0], .int .i64 6]) (by simp [results, Tryz.results127, go_sem]) rfl ⟨rfl, (Below.refl _ _).alloc (Nat.le_refl _) _⟩
 ·have e1 : opE c p = 7 := by unfold opE at he ⊢; rw [if_neg h21] at he ⊢; by_cases h : c.size < p + sizeI c p <;> simp_all
  have e2 : c.size < p + sizeI c p := by unfold opE at he; rw [if_neg h21] at he; by_cases h : c.size < p + sizeI c p <;> simp_all
  rw [e1]
  have h21' : ¬ 21 ≤ c[p].toNat := by rw [hb]; exact h21
  have HSZ := hidc e2
  generalize hz : sizeI c p = z at *
  have HZ := hidc hz
  have HR := hidc hR
  have HH := hidc h21
  clear hb he e1 h21 hR hz
  go_enter Tryz.func127, Tryz.ntmps127
  go_wp2_with (go_at_call 139; refine (ops_size c p _ (HR.out.alloc _) hp hs (by have := HH.out; omega)).mono ?_; rw [HZ.out]; rintro e w1 ⟨rfl, rfl⟩)
  refine bodyPost_ret (v := .tuple #[.agg #[.int .i64 0, .int .i64 0, .int .i64 0, .int .i64 0, .slice none 0 0], .int .i64 7]) (by simp [results, Tryz.results127, go_sem]) rfl ⟨rfl, below2 _ _ _⟩
def ReadPost (c : ByteArray) (p : Nat) (w : World) : Ending → World → Prop := fun e w' => ∃ a vc, e = .returned (.tuple #[.agg #[.int .i64 (insI c p).op, .int .i64 (insI c p).pl, .int .i64 (insI c p).nx, .int .i64 (insI c p).n, .slice a (insI c p).to.length vc], .int .i64 0]) ∧
 w'.ownsRow w.heap.size 3 1 (.slice a (insI c p).to.length vc) (insI c p).to.length (iV (insI c p).to) ∧ Below w.heap.size w w'
theorem row_nil (w : World) (B : Nat) : w.ownsRow B 3 1 (.slice none 0 0) 0 (iV []) := ⟨rfl, .inl ⟨rfl, rfl⟩⟩
theorem ops_read_num (c : ByteArray) (p op : Nat) (w : World) (hR : RowsAt w) (hp : p < c.size) (hs : c.size ≤ 120) (he : p + sizeI c p ≤ c.size) (ho : byteN c p = op) (hop : op = 9 ∨ op = 10 ∨ op = 18 ∨ op = 20) :
  Calls Tryz.prog 127 #[.string c, .int .i64 p] w (ReadPost c p w) := by
 have hz : sizeI c p = 2 := by unfold sizeI; rw [ho, if_neg (by omega)]; rcases hop with rfl | rfl | rfl | rfl <;> rfl
 have e1 : insI c p = ⟨op, p, p + 2, byteN c (p + 1), []⟩ := by
  unfold insI
  rw [hz, ho]
  rcases hop with rfl | rfl | rfl | rfl <;> rfl
 have hp1 : p + 1 < c.size := by omega
 rw [← byte_nat c (p + 1) hp1] at e1
 have HE := hidc e1
 have HZ := hidc hz
 have HR := hidc hR
 have HO := hidc ho
 have hl : c[p + 1].toNat < 256 := UInt8.toNat_lt _
 have hb : c[p].toNat = op := by rw [byte_nat c p hp]; exact ho
 clear e1 hz hR ho he
 rcases hop with rfl | rfl | rfl | rfl
 ·go_enter Tryz.func127, Tryz.ntmps127
  go_wp2_with (go_at_call 139; refine (ops_size c p _ (HR.out.alloc _) hp hs (by have := HO.out; omega)).mono ?_; rw [HZ.out]; rintro e w1 ⟨rfl, rfl⟩)
  refine bodyPost_ret (v := .tuple #[.agg #[.int .i64 9, .int .i64 p, .int .i64 ((p : Int) + 2), .int .i64 c[p + 1].toNat, .slice none 0 0], .int .i64 0]) (by simp [results, Tryz.results127, go_sem]) rfl ⟨none, 0, by rw [HE.out]; rfl, by rw [HE.out]; exact row_nil _ _, below2 _ _ _⟩
 ·go_enter Tryz.func127, Tryz.ntmps127
  go_wp2_with (go_at_call 139; refine (ops_size c p _ (HR.out.alloc _) hp hs (by have := HO.out; omega)).mono ?_; rw [HZ.out]; rintro e w1 ⟨rfl, rfl⟩)
  refine bodyPost_ret (v := .tuple #[.agg #[.int .i64 10, .int .i64 p, .int .i64 ((p : Int) + 2), .int .i64 c[p + 1].toNat, .slice none 0 0], .int .i64 0]) (by simp [results, Tryz.results127, go_sem]) rfl ⟨none, 0, by rw [HE.out]; rfl, by rw [HE.out]; exact row_nil _ _, below2 _ _ _⟩
 ·go_enter Tryz.func127, Tryz.ntmps127
  go_wp2_with (go_at_call 139; refine (ops_size c p _ (HR.out.alloc _) hp hs (by have := HO.out; omega)).mono ?_; rw [HZ.out]; rintro e w1 ⟨rfl, rfl⟩)
  refine bodyPost_ret (v := .tuple #[.agg #[.int .i64 18, .int .i64 p, .int .i64 ((p : Int) + 2), .int .i64 c[p + 1].toNat, .slice none 0 0], .int .i64 0]) (by simp [results, Tryz.results127, go_sem]) rfl ⟨none, 0, by rw [HE.out]; rfl, by rw [HE.out]; exact row_nil _ _, below2 _ _ _⟩
 ·go_enter Tryz.func127, Tryz.ntmps127
  go_wp2_with (go_at_call 139; refine (ops_size c p _ (HR.out.alloc _) hp hs (by have := HO.out; omega)).mono ?_; rw [HZ.out]; rintro e w1 ⟨rfl, rfl⟩)
  refine bodyPost_ret (v := .tuple #[.agg #[.int .i64 20, .int .i64 p, .int .i64 ((p : Int) + 2), .int .i64 c[p + 1].toNat, .slice none 0 0], .int .i64 0]) (by simp [results, Tryz.results127, go_sem]) rfl ⟨none, 0, by rw [HE.out]; rfl, by rw [HE.out]; exact row_nil _ _, below2 _ _ _⟩
theorem ops_read_plain (c : ByteArray) (p op : Nat) (w : World) (hR : RowsAt w) (hp : p < c.size) (hs : c.size ≤ 120) (he : p + sizeI c p ≤ c.size) (ho : byteN c p = op) (h21 : op < 21)
  (h2 : op ≠ 2) (h9 : op ≠ 9) (h10 : op ≠ 10) (h15 : op ≠ 15) (h16 : op ≠ 16) (h17 : op ≠ 17) (h18 : op ≠ 18) (h20 : op ≠ 20) :
  Calls Tryz.prog 127 #[.string c, .int .i64 p] w (ReadPost c p w) := by
 have hz1 := sizeT_le op
 have hz : sizeI c p = sizeT op := by unfold sizeI; rw [ho, if_neg (by omega)]; rfl
 have e1 : insI c p = ⟨op, p, p + sizeT op, 0, []⟩ := by
  unfold insI
  rw [hz, ho]
  simp [numOp, h2, h9, h10, h15, h16, h17, h18, h20]
 generalize sizeT op = z at *
 have HE := hidc e1
 have HZ := hidc hz
 have HR := hidc hR
 have HO := hidc ho
 have hb : c[p].toNat = op := by rw [byte_nat c p hp]; exact ho
 rw [hz] at he
 clear e1 hz hR ho
 go_enter Tryz.func127, Tryz.ntmps127
 go_wp2_with (go_at_call 139; refine (ops_size c p _ (HR.out.alloc _) hp hs (by have := HO.out; omega)).mono ?_; rw [HZ.out]; rintro e w1 ⟨rfl, rfl⟩)
 refine bodyPost_ret (v := .tuple #[.agg #[.int .i64 op, .int .i64 p, .int .i64 ((p : Int) + z), .int .i64 0, .slice none 0 0], .int .i64 0]) (by simp [results, Tryz.results127, go_sem]) rfl ⟨none, 0, by rw [HE.out]; rfl, by rw [HE.out]; exact row_nil _ _, below2 _ _ _⟩
theorem ops_read_push (c : ByteArray) (p : Nat) (w : World) (hR : RowsAt w) (hp : p < c.size) (hs : c.size ≤ 120) (he : p + sizeI c p ≤ c.size) (ho : byteN c p = 2) :
  Calls Tryz.prog 127 #[.string c, .int .i64 p] w (ReadPost c p w) := by
 have hz : sizeI c p = 3 := by unfold sizeI; rw [ho, if_neg (by omega)]; rfl
 have i1 : p + 1 < c.size := by omega
 have i2 : p + 2 < c.size := by omega
 have e1 : insI c p = ⟨2, p, p + 3, 256 * c[p + 1].toNat + c[p + 2].toNat, []⟩ := by
  unfold insI
  rw [hz, ho, byte_nat c (p + 1) i1, byte_nat c (p + 2) i2]
  rfl
 have HE := hidc e1
 have HZ := hidc hz
 have HR := hidc hR
 have HO := hidc ho
 have y0 : c[p + 1].toNat < 256 := UInt8.toNat_lt _
 have y1 : c[p + 2].toNat < 256 := UInt8.toNat_lt _
 have hb : c[p].toNat = 2 := by rw [byte_nat c p hp]; exact ho
 clear e1 hz hR ho he
 have hw1 : IntKind.i64.wrap ((p : Int) + 1) = (p : Int) + 1 := by rw [IntKind.wrap_i64]; omega
 have hw2 : IntKind.i64.wrap ((p : Int) + 2) = (p : Int) + 2 := by rw [IntKind.wrap_i64]; omega
 have j0 : (0 : Int) ≤ (p : Int) + 1 := by omega
 have j1 : (p : Int) + 1 < (c.size : Int) := by omega
 have j2 : ((p : Int) + 1).toNat = p + 1 := by omega
 have k0 : (0 : Int) ≤ (p : Int) + 2 := by omega
 have k1 : (p : Int) + 2 < (c.size : Int) := by omega
 have k2 : ((p : Int) + 2).toNat = p + 2 := by omega
 go_enter Tryz.func127, Tryz.ntmps127
 go_wp2_with (go_at_call 139; refine (ops_size c p _ (HR.out.alloc _) hp hs (by have := HO.out; omega)).mono ?_; rw [HZ.out]; rintro e w1 ⟨rfl, rfl⟩)
 refine wp_region_held_drew (S := fun _ => True) (by kernel_rfl) trivial (fun hHeld => ?_)
 refine tk 0 ?va0 rfl ?hya0 hHeld ?resta0
 case hya0 => intro w hSw; (try dsimp only at hSw); go_simp; try with_reducible rfl
 simp only [Act.put, aA, aB, aC, aD, aE]
 refine tk 1 ?va1 rfl ?hya1 hHeld ?resta1
 case hya1 => intro w hSw; (try dsimp only at hSw); go_simp; try with_reducible rfl
 simp only [Act.put, aA, aB, aC, aD, aE, aF]
 refine tk 2 (.int .i64 ((p : Int) + 1)) rfl ?hya2 hHeld ?resta2
 case hya2 => intro w hSw; (try dsimp only at hSw); go_simp; try with_reducible rfl
 simp only [Act.put, aA, aB, aC, aD, aE, aF]
 refine tk 3 (.int .u8 (c[p + 1].toNat : Int)) rfl ?hya3 hHeld ?resta3
 case hya3 => intro w hSw; (try dsimp only at hSw); go_simp; try with_reducible rfl
 simp only [Act.put, aA, aB, aC, aD, aE, aF]
 refine tk 4 ?va4 rfl ?hya4 hHeld ?resta4
 case hya4 => intro w hSw; (try dsimp only at hSw); go_simp; try with_reducible rfl
 simp only [Act.put, aA, aB, aC, aD, aE, aF]
 refine tk 5 ?va5 rfl ?hya5 hHeld ?resta5
 case hya5 => intro w hSw; (try dsimp only at hSw); go_simp; try with_reducible rfl
 simp only [Act.put, aA, aB, aC, aD, aE, aF]
 refine tk 6 (.int .i64 ((p : Int) + 2)) rfl ?hya6 hHeld ?resta6
 case hya6 => intro w hSw; (try dsimp only at hSw); go_simp; try with_reducible rfl
 simp only [Act.put, aA, aB, aC, aD, aE, aF]
 refine tk 7 (.int .u8 (c[p + 2].toNat : Int)) rfl ?hya7 hHeld ?resta7
 case hya7 => intro w hSw; (try dsimp only at hSw); go_simp; try with_reducible rfl
 simp only [Act.put, aA, aB, aC, aD, aE, aF]
 refine rd 8 rfl (fun K hK => ?_)
 simp only [aD, aE, aF]
 go_simp
 go_at_call 140
 refine (ops_number _ _ y0 y1 _).mono ?_
 rintro e w' ⟨rfl, rfl⟩
 go_wp2_with fail
 refine hK.out _ _ trivial (fun hHeld => ?_)
 clear hK
 refine tk 9 ?va9 rfl ?hya9 hHeld ?resta9
 case hya9 => intro w hSw; (try dsimp only at hSw); go_simp; try with_reducible rfl
 simp only [Act.put, aA, aB, aC, aD, aE, aF]
 refine rd 10 rfl (fun K hK => ?_)
 simp only [aD, aE, aF]
 go_simp
 refine hK.out _ _ trivial (fun hHeld => ?_)
 clear hK
 refine wpAnyH_done (by kernel_rfl) ?_ _
 go_wp2_with fail
 exact bodyPost_ret (v := .tuple #[.agg #[.int .i64 2, .int .i64 p, .int .i64 ((p : Int) + 3), .int .i64 (256 * (c[p + 1].toNat : Int) + (c[p + 2].toNat : Int)), .slice none 0 0], .int .i64 0]) (by simp [results, Tryz.results127, go_sem]) rfl ⟨none, 0, by rw [HE.out]; rfl, by rw [HE.out]; exact row_nil _ _, (below2 _ _ _).drew⟩
theorem own_set {w : World} {B e s n : Nat} {v : Value} {xs : List Value} (h : w.ownsRow B e s v n xs) {g : Nat} (hg : g < B) (i : Nat) (u : Value) : (w.setCell ⟨g, i, none⟩ u).ownsRow B e s v n xs :=
 ⟨h.1, h.2.imp id (fun ⟨g', cap, cur, hv, hb, hc, r⟩ => ⟨g', cap, cur, hv, hb, (Below.heap_setCell _ _ _ _ (by show g' ≠ g; omega)).trans hc, r⟩)⟩
theorem own_mono {w : World} {B B' e s n : Nat} {v : Value} {xs : List Value} (h : w.ownsRow B e s v n xs) (hB : B' ≤ B) : w.ownsRow B' e s v n xs :=
 ⟨h.1, h.2.imp id (fun ⟨g', cap, cur, hv, hb, r⟩ => ⟨g', cap, cur, hv, by omega, r⟩)⟩
theorem ops_targets_i (c : ByteArray) (q m nx : Nat) (a z : Int) (w : World) (ha : a = (q : Int)) (hz : z = (nx : Int)) (hq : q + 2 * m = nx) (hn : nx ≤ c.size) (hs : c.size ≤ 120) :
  Calls Tryz.prog 141 #[.string c, .int .i64 a, .int .i64 z] w fun e w' => ∃ v, e = .returned v ∧ w'.ownsRow w.heap.size 3 1 v m (iV (tos c nx q m)) ∧ Below w.heap.size w w' := by
 subst ha hz
 exact ops_targets c q m nx w hq hn hs
theorem keepB {W w1 : World} (hb : Below W.heap.size W w1) {k : Nat} {o : Obj} (h : W.heap[k]? = some o) : w1.heap[k]? = some o := (hb.block k (blt h)).trans h
theorem row_form {w : World} {B e s n : Nat} {v : Value} {xs : List Value} (h : w.ownsRow B e s v n xs) : ∃ a c, v = .slice a n c := by
 rcases h.2 with ⟨rfl, rfl⟩ | ⟨g, cap, cur, rfl, _⟩
 ·exact ⟨none, 0, rfl⟩
 ·exact ⟨_, _, rfl⟩
end Go.Proofs.YtdhmandnamajpaaGreatDoor
