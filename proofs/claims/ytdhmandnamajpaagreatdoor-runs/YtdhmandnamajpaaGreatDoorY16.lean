import Derived.Test.YtdhmandnamajpaaGreatDoorY00
import Derived.Test.YtdhmandnamajpaaGreatDoorY05
import Derived.Test.YtdhmandnamajpaaGreatDoorY01
namespace Go.Proofs.YtdhmandnamajpaaGreatDoor
open Go.RowKit Go.Joins
set_option maxHeartbeats 1000000
structure FM (w w' : World) (L H : Nat) (S : List Sec) (s : Sec) (b off cap g cc : Nat) (l : List Ins) (hs : List (Option (Int × Int))) (cs : Array Value) (x : Ins) (ta : Option Addr) (tc : Nat) (o : Option (Int × Int)) : Prop where
 look : Look w' L H S s b off cap g cc l
 hts : HtsAt w' H s.code.size l hs cs
 inb : w'.heap[w.heap.size]? = some (.cells #[.int .i64 x.op, .int .i64 x.pl, .int .i64 x.nx, .int .i64 x.n, .slice ta x.to.length tc] 116 (0, 0))
 hasb : w'.heap[w.heap.size + 1]? = some (.cells #[.bool o.isSome, .int .i64 (o.getD (0, 0)).1, .int .i64 (o.getD (0, 0)).2] 141 (0, 0))
 kp : Kp w.heap.size H w w'
theorem FM.below {w w' w'' : World} {L H : Nat} {S : List Sec} {s : Sec} {b off cap g cc : Nat} {l : List Ins} {hs : List (Option (Int × Int))} {cs : Array Value} {x : Ins} {ta : Option Addr} {tc : Nat} {o : Option (Int × Int)}
  (h : FM w w' L H S s b off cap g cc l hs cs x ta tc o) (hb : Below w'.heap.size w' w'') : FM w w'' L H S s b off cap g cc l hs cs x ta tc o :=
 ⟨h.look.below hb, h.hts.below hb, keepB hb h.inb, keepB hb h.hasb, h.kp.trans ((Kp.of hb H).mono h.kp.size)⟩
theorem FM.give {w w' w'' : World} {L H : Nat} {S : List Sec} {s : Sec} {b off cap g cc : Nat} {l : List Ins} {hs hs' : List (Option (Int × Int))} {cs cs' : Array Value} {x : Ins} {ta : Option Addr} {tc : Nat} {o : Option (Int × Int)}
  (h : FM w w' L H S s b off cap g cc l hs cs x ta tc o) (hH : H < w.heap.size) (hk : Kp w'.heap.size H w' w'') (hh : HtsAt w'' H s.code.size l hs' cs') : FM w w'' L H S s b off cap g cc l hs' cs' x ta tc o :=
 ⟨h.look.kp hk, hh, (hk.block _ (blt h.inb) (by omega)).trans h.inb, (hk.block _ (blt h.hasb) (by omega)).trans h.hasb, h.kp.trans (hk.mono h.kp.size)⟩
theorem FM.facts {w w' : World} {L H : Nat} {S : List Sec} {s : Sec} {b off cap g cc : Nat} {l : List Ins} {hs : List (Option (Int × Int))} {cs : Array Value} {x : Ins} {ta : Option Addr} {tc : Nat} {o : Option (Int × Int)}
  (h : FM w w' L H S s b off cap g cc l hs cs x ta tc o) :
  w'.cell? ⟨w.heap.size, 0, none⟩ = some (.int .i64 x.op) ∧ w'.cell? ⟨w.heap.size, 1, none⟩ = some (.int .i64 x.pl) ∧ w'.cell? ⟨w.heap.size, 2, none⟩ = some (.int .i64 x.nx) ∧ w'.cell? ⟨w.heap.size, 3, none⟩ = some (.int .i64 x.n) ∧ w'.cell? ⟨w.heap.size, 4, none⟩ = some (.slice ta x.to.length tc) ∧
  w'.cell? ⟨w.heap.size + 1, 0, none⟩ = some (.bool o.isSome) ∧ w'.cell? ⟨w.heap.size + 1, 1, none⟩ = some (.int .i64 (o.getD (0, 0)).1) ∧ w'.cell? ⟨w.heap.size + 1, 2, none⟩ = some (.int .i64 (o.getD (0, 0)).2) ∧ w.heap.size + 2 ≤ w'.heap.size := by
 refine ⟨?_, ?_, ?_, ?_, ?_, ?_, ?_, ?_, by have := blt h.hasb; omega⟩
 ·rw [cell_of_block h.inb]; rfl
 ·rw [cell_of_block h.inb]; rfl
 ·rw [cell_of_block h.inb]; rfl
 ·rw [cell_of_block h.inb]; rfl
 ·rw [cell_of_block h.inb]; rfl
 ·rw [cell_of_block h.hasb]; rfl
 ·rw [cell_of_block h.hasb]; rfl
 ·rw [cell_of_block h.hasb]; rfl
theorem takes_le {S : List Sec} {s : Sec} {x : Ins} (hS : S.all secB = true) (hs : secB s = true) (hn : x.op = 2 ∨ x.n < 256) (hx : namesB x = true → x.n < S.length) : 0 ≤ takesI S s x ∧ takesI S s x ≤ 300 := by
 obtain ⟨d1, d2, d3, d4⟩ := (secB_iff _).1 hs
 unfold takesI
 split
 ·have : takesT x.op ≤ 2 := by unfold takesT; split <;> (try split) <;> omega
  omega
 ·split
  ·rename_i h1 h2
   have hl := hx (by simp [namesB]; exact h2)
   obtain ⟨b1, b2, b3, b4⟩ := (secB_iff _).1 (sec_get hS x.n hl)
   rw [inS_get S x.n hl]
   omega
  ·split
   ·split <;> omega
   ·have : takesT x.op ≤ 2 := by unfold takesT; split <;> (try split) <;> omega
    omega
theorem brings_le {S : List Sec} {x : Ins} (hS : S.all secB = true) (hn : x.op = 2 ∨ x.n < 256) (hx : namesB x = true → x.n < S.length) : 0 ≤ bringsI S x ∧ bringsI S x ≤ 300 := by
 unfold bringsI
 split
 ·have : bringsT x.op ≤ 2 := by unfold bringsT; split <;> (try split) <;> omega
  omega
 ·split
  ·rename_i h1 h2
   have hl := hx (by simp [namesB, h2])
   obtain ⟨b1, b2, b3, b4⟩ := (secB_iff _).1 (sec_get hS x.n hl)
   rw [outS_get S x.n hl]
   omega
  ·split
   ·omega
   ·have : bringsT x.op ≤ 2 := by unfold bringsT; split <;> (try split) <;> omega
    omega
theorem give_ahead_at {w : World} {L H : Nat} {S : List Sec} {s : Sec} {b off cap g cc : Nat} {l : List Ins} {hs : List (Option (Int × Int))} {cs : Array Value} (h : Look w L H S s b off cap g cc l) (hh : HtsAt w H s.code.size l hs cs)
  (p j t : Nat) (hj : j < l.length) (ht : t = l[j].pl) (hp : p < l[j].pl) (hc : l[j].pl < s.code.size) (hd : ∀ k x, l[k]? = some x → k ≠ j → x.pl ≠ l[j].pl) (lo hi : Int) :
  Calls Tryz.prog 126 #[.pointer (some ⟨L, 0, none⟩), .int .i64 p, .int .i64 t, .agg #[.bool true, .int .i64 lo, .int .i64 hi]] w
   fun e w' => e = .returned (.bool true) ∧ Kp w.heap.size H w w' ∧ ∃ cs', HtsAt w' H s.code.size l (hs.set j (some (mergeH (lo, hi) (hs.getD j none)))) cs' := by
 subst ht
 exact give_ahead h hh p j hj hp hc hd lo hi
def FlowPost (w : World) (H : Nat) (S : List Sec) (s : Sec) (l : List Ins) (i : Nat) (x : Ins) (hs : List (Option (Int × Int))) : Ending → World → Prop := fun e w' => e = .returned (.int .i64 (passE S s l i x hs : Nat)) ∧ Kp w.heap.size H w w' ∧
 (passE S s l i x hs = 0 → ∃ hs' cs', passH S s l i x hs = some hs' ∧ HtsAt w' H s.code.size l hs' cs')
theorem look_flow {w : World} {L H : Nat} {S : List Sec} {s : Sec} {b off cap g cc : Nat} {l : List Ins} {hs : List (Option (Int × Int))} {cs : Array Value} (h : Look w L H S s b off cap g cc l) (hh : HtsAt w H s.code.size l hs cs) (hch : Chained l s.code.size) (i : Nat) (x : Ins) (hx : l[i]? = some x) (ta : Option Addr) (tc : Nat)
  (ht : TosAt0 w H (.slice ta x.to.length tc) x.to) (href : refE S l x = 0) (hS : S.all secB = true) (hs1 : secB s = true) (hsm : Small 100000 hs) :
  Calls Tryz.prog 85 #[.pointer (some ⟨L, 0, none⟩), .agg #[.int .i64 x.op, .int .i64 x.pl, .int .i64 x.nx, .int .i64 x.n, .slice ta x.to.length tc]] w (FlowPost w H S s l i x hs) := by
 have hil : i < l.length := (List.getElem?_eq_some_iff.1 hx).1
 obtain ⟨x1, x2, x3⟩ := hch.op i x hx
 have hpl := hch.lt i x hx
 obtain ⟨_, _, _, s4⟩ := (secB_iff _).1 hs1
 have hnm : namesB x = true → x.n < S.length := by
  intro hn
  unfold refE at href
  split at href
  ·cases href
  ·split at href
   ·cases href
   ·rename_i h1 h2
    simp [hn] at h2
    unfold mayNameB at h2
    simp at h2
    exact h2.1
 have hbg : ∀ t ∈ x.to, beginsB l t = true := by
  intro t htm
  unfold refE at href
  split at href
  ·cases href
  ·rename_i h1
   simp at h1
   exact h1 t htm
 obtain ⟨t1, t2⟩ := takes_le hS hs1 x2 hnm
 obtain ⟨r1, r2⟩ := brings_le hS x2 hnm
 obtain ⟨f0, f1, f2, f3, f4, f5, f6, hL⟩ := h.facts
 obtain ⟨c0, c1, c2⟩ := hh.span i x hx
 have k0 : w.cell? ⟨H, x.pl * 3, none⟩ = some (.bool (hs.getD i none).isSome) := by rw [cell_of_block hh.blk]; exact c0
 have k1 : w.cell? ⟨H, x.pl * 3 + 1, none⟩ = some (.int .i64 ((hs.getD i none).getD (0, 0)).1) := by rw [cell_of_block hh.blk]; exact c1
 have k2 : w.cell? ⟨H, x.pl * 3 + 2, none⟩ = some (.int .i64 ((hs.getD i none).getD (0, 0)).2) := by rw [cell_of_block hh.blk]; exact c2
 have hH := blt hh.blk
 have hob : ∀ o, hs.getD i none = some o → -100000 ≤ o.1 ∧ o.1 ≤ 100000 ∧ -100000 ≤ o.2 ∧ o.2 ≤ 100000 := fun o ho => hsm i o ho
 have HL := hidc h
 have HH := hidc hh
 have HCH := hidc hch
 have HT := hidc ht
 have HX := hidc hx
 have HSM := hidc hsm
 have HBG := hidc hbg
 have HSS := hidc hS
 have HS1 := hidc hs1
 have HNM := hidc hnm
 generalize hog : hs.getD i none = o at *
 have HOG := hidc hog
 have HOB := hidc hob
 clear h hh hch ht hx hsm hbg hS hs1 hnm href hog hob c0 c1 c2
 go_enter Tryz.func85, Tryz.ntmps85
 go_wp2_with fail
 refine wp_region_held_drew (S := fun w' => w'.cell? ⟨L, 6, none⟩ = some (.slice (some ⟨H, 0, none⟩) s.code.size s.code.size) ∧ w'.cell? ⟨w.heap.size, 1, none⟩ = some (.int .i64 x.pl) ∧ w'.cell? ⟨H, x.pl * 3, none⟩ = some (.bool o.isSome) ∧ w'.cell? ⟨H, x.pl * 3 + 1, none⟩ = some (.int .i64 (o.getD (0, 0)).1) ∧ w'.cell? ⟨H, x.pl * 3 + 2, none⟩ = some (.int .i64 (o.getD (0, 0)).2)) (by kernel_rfl) ?hS0 (fun hHeld => ?_)
 case hS0 => go_simp
 have hH0 := hHeld
 refine tk 0 ?va0 rfl ?hya0 hHeld ?resta0
 case hya0 => rintro w ⟨s0, s1, s2, s3, s4⟩; go_simp; try with_reducible rfl
 simp only [Act.put, aA, aB, aC, aD, aE]
 refine tk 1 ?va1 rfl ?hya1 hHeld ?resta1
 case hya1 => rintro w ⟨s0, s1, s2, s3, s4⟩; go_simp; try with_reducible rfl
 simp only [Act.put, aA, aB, aC, aD, aE, aF]
 refine tk 2 ?va2 rfl ?hya2 hHeld ?resta2
 case hya2 => rintro w ⟨s0, s1, s2, s3, s4⟩; go_simp; try with_reducible rfl
 simp only [Act.put, aA, aB, aC, aD, aE, aF]
 refine tk 3 ?va3 rfl ?hya3 hHeld ?resta3
 case hya3 => rintro w ⟨s0, s1, s2, s3, s4⟩; go_simp; try with_reducible rfl
 simp only [Act.put, aA, aB, aC, aD, aE, aF]
 refine tk 4 ?va4 rfl ?hya4 hHeld ?resta4
 case hya4 => rintro w ⟨s0, s1, s2, s3, s4⟩; go_simp; try with_reducible rfl
 simp only [Act.put, aA, aB, aC, aD, aE, aF]
 refine tk 5 ?va5 rfl ?hya5 hHeld ?resta5
 case hya5 => rintro w ⟨s0, s1, s2, s3, s4⟩; go_simp; try with_reducible rfl
 simp only [Act.put, aA, aB, aC, aD, aE, aF]
 refine tk 6 ?va6 rfl ?hya6 hHeld ?resta6
 case hya6 => rintro w ⟨s0, s1, s2, s3, s4⟩; go_simp; try with_reducible rfl
 simp only [Act.put, aA, aB, aC, aD, aE, aF]
 refine tk 7 ?va7 rfl ?hya7 hHeld ?resta7
 case hya7 => rintro w ⟨s0, s1, s2, s3, s4⟩; go_simp; try with_reducible rfl
 simp only [Act.put, aA, aB, aC, aD, aE, aF]
 refine rd 8 rfl (fun K hK => ?_)
 simp only [aD, aE, aF]
 go_simp
 refine hK.out _ _ ?hS8 (fun hHeld => ?_)
 case hS8 => obtain ⟨s0, s1, s2, s3, s4⟩ := hH0; exact ⟨(cell_al _ (by simp; omega)).trans s0, (cell_al _ (by simp)).trans s1, (cell_al _ (by simp; omega)).trans s2, (cell_al _ (by simp; omega)).trans s3, (cell_al _ (by simp; omega)).trans s4⟩
 clear hK
 refine rd 9 rfl (fun K hK => ?_)
 simp only [aD, aE, aF]
 go_simp
 refine hK.out _ _ ?hS9 (fun hHeld => ?_)
 case hS9 => obtain ⟨s0, s1, s2, s3, s4⟩ := hH0; exact ⟨(cell_al _ (by simp; omega)).trans s0, (cell_al _ (by simp)).trans s1, (cell_al _ (by simp; omega)).trans s2, (cell_al _ (by simp; omega)).trans s3, (cell_al _ (by simp; omega)).trans s4⟩
 clear hK
 refine wpAnyH_done (by kernel_rfl) ?_ _
 have HF : Hid (FM w (((w.alloc (.cells #[.int .i64 x.op, .int .i64 x.pl, .int .i64 x.nx, .int .i64 x.n, .slice ta x.to.length tc] 116)).alloc (.cells #[.bool o.isSome, .int .i64 (o.getD (0, 0)).1, .int .i64 (o.getD (0, 0)).2] 141)).drew) L H S s b off cap g cc l hs cs x ta tc o) := by
  have hb : Below w.heap.size w (((w.alloc (.cells #[.int .i64 x.op, .int .i64 x.pl, .int .i64 x.nx, .int .i64 x.n, .slice ta x.to.length tc] 116)).alloc (.cells #[.bool o.isSome, .int .i64 (o.getD (0, 0)).1, .int .i64 (o.getD (0, 0)).2] 141)).drew) := (below2 _ _ _).drew
  refine ⟨HL.out.below hb, HH.out.below hb, ?_, ?_, Kp.of hb H⟩
  ·exact (Below.heap_alloc _ _ _ (by simp)).trans (heap_alloc_new w _)
  ·have := heap_alloc_new (w.alloc (.cells #[.int .i64 x.op, .int .i64 x.pl, .int .i64 x.nx, .int .i64 x.n, .slice ta x.to.length tc] 116)) (.cells #[.bool o.isSome, .int .i64 (o.getD (0, 0)).1, .int .i64 (o.getD (0, 0)).2] 141)
   rw [show (w.alloc (.cells #[.int .i64 x.op, .int .i64 x.pl, .int .i64 x.nx, .int .i64 x.n, .slice ta x.to.length tc] 116)).heap.size = w.heap.size + 1 by simp] at this
   exact this
 clear hHeld hH0 k0 k1 k2 f0 f1 f2 f3 f4 f5 f6
 generalize (((w.alloc (.cells #[.int .i64 x.op, .int .i64 x.pl, .int .i64 x.nx, .int .i64 x.n, .slice ta x.to.length tc] 116)).alloc (.cells #[.bool o.isSome, .int .i64 (o.getD (0, 0)).1, .int .i64 (o.getD (0, 0)).2] 141)).drew) = wq at *
 obtain ⟨q0, q1, q2, q3, q4, q5, q6, q7, hq⟩ := HF.out.facts
 obtain ⟨f0, f1, f2, f3, f4, f5, f6, hL2⟩ := HF.out.look.facts
 go_wp2_with fail
 refine wp_region_held_drew (S := fun w' => w'.cell? ⟨w.heap.size, 0, none⟩ = some (.int .i64 x.op) ∧ w'.cell? ⟨w.heap.size, 1, none⟩ = some (.int .i64 x.pl) ∧ w'.cell? ⟨w.heap.size, 2, none⟩ = some (.int .i64 x.nx) ∧ w'.cell? ⟨w.heap.size, 3, none⟩ = some (.int .i64 x.n) ∧ w'.cell? ⟨w.heap.size, 4, none⟩ = some (.slice ta x.to.length tc) ∧ w'.cell? ⟨L, 0, none⟩ = some (.slice (some ⟨b, off, none⟩) S.length cap) ∧ w'.cell? ⟨L, 1, none⟩ = some (.int .i64 s.i) ∧ w'.cell? ⟨L, 2, none⟩ = some (.int .i64 s.o) ∧ w'.cell? ⟨L, 3, none⟩ = some (.int .i64 s.m) ∧ w'.cell? ⟨L, 4, none⟩ = some (.string s.code)) (by kernel_rfl) ⟨q0, q1, q2, q3, q4, f0, f1, f2, f3, f4⟩ (fun hHeld => ?_)
 refine tk 0 ?vb0 rfl ?hyb0 hHeld ?restb0
 case hyb0 => rintro w ⟨s0, s1, s2, s3, s4, s5, s6, s7, s8, s9⟩; go_simp; try with_reducible rfl
 simp only [Act.put, aA, aB, aC, aD, aE]
 refine tk 1 ?vb1 rfl ?hyb1 hHeld ?restb1
 case hyb1 => rintro w ⟨s0, s1, s2, s3, s4, s5, s6, s7, s8, s9⟩; go_simp; try with_reducible rfl
 simp only [Act.put, aA, aB, aC, aD, aE, aF]
 refine tk 2 ?vb2 rfl ?hyb2 hHeld ?restb2
 case hyb2 => rintro w ⟨s0, s1, s2, s3, s4, s5, s6, s7, s8, s9⟩; go_simp; try with_reducible rfl
 simp only [Act.put, aA, aB, aC, aD, aE, aF]
 refine tk 3 ?vb3 rfl ?hyb3 hHeld ?restb3
 case hyb3 => rintro w ⟨s0, s1, s2, s3, s4, s5, s6, s7, s8, s9⟩; go_simp; try with_reducible rfl
 simp only [Act.put, aA, aB, aC, aD, aE, aF]
 refine tk 4 ?vb4 rfl ?hyb4 hHeld ?restb4
 case hyb4 => rintro w ⟨s0, s1, s2, s3, s4, s5, s6, s7, s8, s9⟩; go_simp; try with_reducible rfl
 simp only [Act.put, aA, aB, aC, aD, aE, aF]
 refine tk 5 ?vb5 rfl ?hyb5 hHeld ?restb5
 case hyb5 => rintro w ⟨s0, s1, s2, s3, s4, s5, s6, s7, s8, s9⟩; go_simp; try with_reducible rfl
 simp only [Act.put, aA, aB, aC, aD, aE, aF]
 refine tk 6 ?vb6 rfl ?hyb6 hHeld ?restb6
 case hyb6 => rintro w ⟨s0, s1, s2, s3, s4, s5, s6, s7, s8, s9⟩; go_simp; try with_reducible rfl
 simp only [Act.put, aA, aB, aC, aD, aE, aF]
 refine tk 7 ?vb7 rfl ?hyb7 hHeld ?restb7
 case hyb7 => rintro w ⟨s0, s1, s2, s3, s4, s5, s6, s7, s8, s9⟩; go_simp; try with_reducible rfl
 simp only [Act.put, aA, aB, aC, aD, aE, aF]
 refine tk 8 ?vb8 rfl ?hyb8 hHeld ?restb8
 case hyb8 => rintro w ⟨s0, s1, s2, s3, s4, s5, s6, s7, s8, s9⟩; go_simp; try with_reducible rfl
 simp only [Act.put, aA, aB, aC, aD, aE, aF]
 refine rd 9 rfl (fun K hK => ?_)
 simp only [aD, aE, aF]
 go_simp
 have HFd := hidc (HF.out.below (Below.refl _ _).drew)
 refine (effect_all S x b off cap _ s _ HFd.out.look.rows HFd.out.look.secs x1 x2 HNM.out).mono ?_
 rintro e w3 ⟨rfl, hb3⟩
 have HF3 := hidc (HFd.out.below hb3)
 clear q0 q1 q2 q3 q4 q5 q6 q7 hq f0 f1 f2 f3 f4 f5 f6 hL2 hHeld
 obtain ⟨q0, q1, q2, q3, q4, q5, q6, q7, hq⟩ := HF3.out.facts
 obtain ⟨f0, f1, f2, f3, f4, f5, f6, hL2⟩ := HF3.out.look.facts
 go_wp2_with fail
 refine hK.out _ _ ⟨q0, q1, q2, q3, q4, f0, f1, f2, f3, f4⟩ (fun hHeld => ?_)
 clear hK
 refine tk 10 ?vc10 rfl ?hyc10 hHeld ?restc10
 case hyc10 => rintro w ⟨s0, s1, s2, s3, s4, s5, s6, s7, s8, s9⟩; go_simp; try with_reducible rfl
 simp only [Act.put, aA, aB, aC, aD, aE, aF]
 refine tk 11 ?vc11 rfl ?hyc11 hHeld ?restc11
 case hyc11 => rintro w ⟨s0, s1, s2, s3, s4, s5, s6, s7, s8, s9⟩; go_simp; try with_reducible rfl
 simp only [Act.put, aA, aB, aC, aD, aE, aF]
 refine tk 12 ?vc12 rfl ?hyc12 hHeld ?restc12
 case hyc12 => rintro w ⟨s0, s1, s2, s3, s4, s5, s6, s7, s8, s9⟩; go_simp; try with_reducible rfl
 simp only [Act.put, aA, aB, aC, aD, aE, aF]
 refine tk 13 ?vc13 rfl ?hyc13 hHeld ?restc13
 case hyc13 => rintro w ⟨s0, s1, s2, s3, s4, s5, s6, s7, s8, s9⟩; go_simp; try with_reducible rfl
 simp only [Act.put, aA, aB, aC, aD, aE, aF]
 refine tk 14 ?vc14 rfl ?hyc14 hHeld ?restc14
 case hyc14 => rintro w ⟨s0, s1, s2, s3, s4, s5, s6, s7, s8, s9⟩; go_simp; try with_reducible rfl
 simp only [Act.put, aA, aB, aC, aD, aE, aF]
 refine wpAnyH_done (by kernel_rfl) ?_ _
 clear hHeld HF HFd
 cases o with
 | none =>
  simp only [Option.isSome_none, Option.getD_none] at q5 q6 q7
  have HE : Hid (passE S s l i x hs = 10) := passE_ahead (by rw [HOG.out]; rfl) (by decide)
  go_wp2_with fail
  go_ret
  exact ⟨ret_intn HE.out.symm, HF3.out.kp, fun h => by rw [HE.out] at h; cases h⟩
 | some o =>
  obtain ⟨lo, hi⟩ := o
  obtain ⟨o1, o2, o3, o4⟩ := HOB.out _ rfl
  simp only at o1 o2 o3 o4
  simp only [Option.isSome_some, Option.getD_some] at q5 q6 q7
  by_cases hlow : lo < takesI S s x
  ·have HE : Hid (passE S s l i x hs = 11) := passE_ahead (by rw [HOG.out]; simp [aheadE, hlow]) (by decide)
   go_wp2_with fail
   go_ret
   exact ⟨ret_intn HE.out.symm, HF3.out.kp, fun h => by rw [HE.out] at h; cases h⟩
  ·have hx20 : x.op = 20 → x.n < S.length := fun e => HNM.out (by simp [namesB, e])
   cases hr : returnsB S x
   ·go_wp2_with (go_at_call 123; refine (look_returns HF3.out.look x _ hx20).mono ?_; rw [hr]; rintro e w5 ⟨rfl, hb5⟩; have HF5 := hidc (HF3.out.below hb5); clear q0 q1 q2 q3 q4 q5 q6 q7 hq f0 f1 f2 f3 f4 f5 f6 hL2; obtain ⟨q0, q1, q2, q3, q4, q5, q6, q7, hq⟩ := HF5.out.facts; obtain ⟨f0, f1, f2, f3, f4, f5, f6, hL2⟩ := HF5.out.look.facts; simp only [Option.isSome_some, Option.getD_some] at q5 q6 q7)
    cases hlast : lastT x.op
    ·skip
     go_wp2_with fail
     refine wp_region_held_drew (S := fun w' => w'.cell? ⟨w.heap.size, 0, none⟩ = some (.int .i64 x.op) ∧ w'.cell? ⟨w.heap.size, 1, none⟩ = some (.int .i64 x.pl) ∧ w'.cell? ⟨w.heap.size, 2, none⟩ = some (.int .i64 x.nx) ∧ w'.cell? ⟨w.heap.size, 3, none⟩ = some (.int .i64 x.n) ∧ w'.cell? ⟨w.heap.size, 4, none⟩ = some (.slice ta x.to.length tc) ∧ w'.cell? ⟨L, 4, none⟩ = some (.string s.code)) (by kernel_rfl) ⟨q0, q1, q2, q3, q4, f4⟩ (fun hHeld => ?_)
     refine tk 0 ?vdp0 rfl ?hydp0 hHeld ?restdp0
     case hydp0 => rintro w ⟨s0, s1, s2, s3, s4, s5⟩; go_simp; try with_reducible rfl
     simp only [Act.put, aA, aB, aC, aD, aE]
     refine rd 1 rfl (fun K hK => ?_)
     simp only [aD, aE, aF]
     go_simp
     have HFx := hidc (HF5.out.below (Below.refl _ _).drew)
     refine (ops_last x _ _ HFx.out.look.rows x1).mono ?_
     rw [hlast]
     rintro e w6 ⟨rfl, hb6⟩
     have HF6 := hidc (HFx.out.below hb6)
     clear hHeld
     clear q0 q1 q2 q3 q4 q5 q6 q7 hq f0 f1 f2 f3 f4 f5 f6 hL2
     obtain ⟨q0, q1, q2, q3, q4, q5, q6, q7, hq⟩ := HF6.out.facts
     obtain ⟨f0, f1, f2, f3, f4, f5, f6, hL2⟩ := HF6.out.look.facts
     simp only [Option.isSome_some, Option.getD_some] at q5 q6 q7
     go_wp2_with fail
     refine hK.out _ _ ⟨q0, q1, q2, q3, q4, f4⟩ (fun hHeld => ?_)
     clear hK
     refine tk 2 ?vdq2 rfl ?hydq2 hHeld ?restdq2
     case hydq2 => rintro w ⟨s0, s1, s2, s3, s4, s5⟩; go_simp; try with_reducible rfl
     simp only [Act.put, aA, aB, aC, aD, aE, aF]
     refine tk 3 ?vdq3 rfl ?hydq3 hHeld ?restdq3
     case hydq3 => rintro w ⟨s0, s1, s2, s3, s4, s5⟩; go_simp; try with_reducible rfl
     simp only [Act.put, aA, aB, aC, aD, aE, aF]
     refine tk 4 ?vdu4 rfl ?hydu4 hHeld ?restdu4
     case hydu4 => rintro w ⟨s0, s1, s2, s3, s4, s5⟩; go_simp; try with_reducible rfl
     simp only [Act.put, aA, aB, aC, aD, aE, aF]
     refine tk 5 ?vdu5 rfl ?hydu5 hHeld ?restdu5
     case hydu5 => rintro w ⟨s0, s1, s2, s3, s4, s5⟩; go_simp; try with_reducible rfl
     simp only [Act.put, aA, aB, aC, aD, aE, aF]
     refine tk 6 ?vdu6 rfl ?hydu6 hHeld ?restdu6
     case hydu6 => rintro w ⟨s0, s1, s2, s3, s4, s5⟩; go_simp; try with_reducible rfl
     simp only [Act.put, aA, aB, aC, aD, aE, aF]
     refine tk 7 ?vdu7 rfl ?hydu7 hHeld ?restdu7
     case hydu7 => rintro w ⟨s0, s1, s2, s3, s4, s5⟩; go_simp; try with_reducible rfl
     simp only [Act.put, aA, aB, aC, aD, aE, aF]
     refine tk 8 ?vdu8 rfl ?hydu8 hHeld ?restdu8
     case hydu8 => rintro w ⟨s0, s1, s2, s3, s4, s5⟩; go_simp; try with_reducible rfl
     simp only [Act.put, aA, aB, aC, aD, aE, aF]
     refine tk 9 ?vdu9 rfl ?hydu9 hHeld ?restdu9
     case hydu9 => rintro w ⟨s0, s1, s2, s3, s4, s5⟩; go_simp; try with_reducible rfl
     simp only [Act.put, aA, aB, aC, aD, aE, aF]
     refine tk 10 ?vdu10 rfl ?hydu10 hHeld ?restdu10
     case hydu10 => rintro w ⟨s0, s1, s2, s3, s4, s5⟩; go_simp; try with_reducible rfl
     simp only [Act.put, aA, aB, aC, aD, aE, aF]
     refine tk 11 ?vdu11 rfl ?hydu11 hHeld ?restdu11
     case hydu11 => rintro w ⟨s0, s1, s2, s3, s4, s5⟩; go_simp; try with_reducible rfl
     simp only [Act.put, aA, aB, aC, aD, aE, aF]
     refine tk 12 ?vdu12 rfl ?hydu12 hHeld ?restdu12
     case hydu12 => rintro w ⟨s0, s1, s2, s3, s4, s5⟩; go_simp; try with_reducible rfl
     simp only [Act.put, aA, aB, aC, aD, aE, aF]
     refine tk 13 ?vdr13 rfl ?hydr13 hHeld ?restdr13
     case hydr13 => rintro w ⟨s0, s1, s2, s3, s4, s5⟩; go_simp; try with_reducible rfl
     simp only [Act.put, aA, aB, aC, aD, aE, aF]
     refine tk 14 ?vdr14 rfl ?hydr14 hHeld ?restdr14
     case hydr14 => rintro w ⟨s0, s1, s2, s3, s4, s5⟩; go_simp; try with_reducible rfl
     simp only [Act.put, aA, aB, aC, aD, aE, aF]
     refine wpAnyH_done (by kernel_rfl) ?_ _
     clear hHeld HFx
     cases hend : ((x.nx : Int) == (s.code.size : Int))
     ·skip
      have HII : Hid (¬ i + 1 = l.length) := by
       intro hii
       have := HCH.out.last i x HX.out hii
       simp at hend
       omega
      have HA0 : Hid (aheadE S s l i x (hs.getD i none) = 0) := by
       show aheadE S s l i x (hs.getD i none) = 0
       rw [HOG.out]
       simp [aheadE, hlow, hr, hlast, HII.out]
      have HG : Hid (afterI S s x ((hs.getD i none).getD (0, 0)) = ((lo - takesI S s x + bringsI S x), (hi - takesI S s x + bringsI S x))) := by
       show afterI S s x ((hs.getD i none).getD (0, 0)) = ((lo - takesI S s x + bringsI S x), (hi - takesI S s x + bringsI S x))
       rw [HOG.out]
       rfl
      have hqa : w.heap.size < w6.heap.size := by omega
      have hqb : w.heap.size + 1 < w6.heap.size := by omega
      go_wp2_with fail
      have HF7 := hidc (HF6.out.below ((Below.refl _ _).alloc (Nat.le_refl _) (.cells #[.bool true, .int .i64 (lo - takesI S s x + bringsI S x), .int .i64 (hi - takesI S s x + bringsI S x)] 141)))
      have HGB := hidc (heap_alloc_new w6 (.cells #[.bool true, .int .i64 (lo - takesI S s x + bringsI S x), .int .i64 (hi - takesI S s x + bringsI S x)] 141))
      clear q0 q1 q2 q3 q4 q5 q6 q7 f0 f1 f2 f3 f4 f5 f6 hL2
      go_loopw [83] (fun iv wr => ∃ (k : Nat) (hsk : List (Option (Int × Int))) (csk : Array Value), k ≤ x.to.length ∧ iv = .int .i64 k ∧ Hid (givesH i ((lo - takesI S s x + bringsI S x), (hi - takesI S s x + bringsI S x)) hs ((x.to.map (idxP l)).take k) = some hsk) ∧ Hid (FM w wr L H S s b off cap g cc l hsk csk x ta tc (some (lo, hi))) ∧ Hid (wr.heap[w6.heap.size]? = some (.cells #[.bool true, .int .i64 (lo - takesI S s x + bringsI S x), .int .i64 (hi - takesI S s x + bringsI S x)] 141 (0, 0)))) (fun iv _ => x.to.length - (intOf iv).toNat)
      case atStart => exact ⟨0, hs, cs, Nat.zero_le _, rfl, rfl, HF7.out, HGB.out⟩
      case round =>
       obtain ⟨k, hsk, csk, hk, rfl, HGI, HFk, HGk⟩ := hrel
       obtain ⟨q0, q1, q2, q3, q4, q5, q6, q7, hq'⟩ := HFk.out.facts
       obtain ⟨f0, f1, f2, f3, f4, f5, f6, hL2⟩ := HFk.out.look.facts
       have g0 : wr.cell? ⟨w6.heap.size, 0, none⟩ = some (.bool true) := by rw [cell_of_block HGk.out]; rfl
       have g1 : wr.cell? ⟨w6.heap.size, 1, none⟩ = some (.int .i64 (lo - takesI S s x + bringsI S x)) := by rw [cell_of_block HGk.out]; rfl
       have g2 : wr.cell? ⟨w6.heap.size, 2, none⟩ = some (.int .i64 (hi - takesI S s x + bringsI S x)) := by rw [cell_of_block HGk.out]; rfl
       have hgb : w6.heap.size < wr.heap.size := blt HGk.out
       simp only [Option.isSome_some, Option.getD_some] at q5 q6 q7
       by_cases hlt : k < x.to.length
       ·obtain ⟨gt, hta, hg1, hg2, ct⟩ := tos_get (HT.out.kp HFk.out.kp) k hlt
        obtain ⟨hj, hpj⟩ := idxP_spec (HBG.out x.to[k] (List.getElem_mem _))
        have HJ : Hid ((x.to.map (idxP l))[k]'(by simp [hlt]) = idxP l x.to[k]) := by show (x.to.map (idxP l))[k]'(by simp [hlt]) = idxP l x.to[k]; simp
        rw [← hpj] at ct
        have hlj := HCH.out.lt (idxP l x.to[k]) l[idxP l x.to[k]] (List.getElem?_eq_getElem hj)
        have hxe : l[i] = x := by have := HX.out; rw [List.getElem?_eq_getElem hil] at this; exact Option.some.inj this
        have hle := HCH.out.le_iff hil hj
        rw [hxe] at hle
        have HD := hidc (HCH.out.distinct hj)
        have HTA := hidc hta
        generalize hjj : idxP l x.to[k] = j at *
        have HJJ := hidc hjj
        have HXE := hidc hxe
        clear hpj hjj hxe
        subst hta
        by_cases hji : j ≤ i
        ·cases hdc : decide (hsk.getD j none = some ((lo - takesI S s x + bringsI S x), (hi - takesI S s x + bringsI S x)))
         ·have HE : Hid (passE S s l i x hs = 12) := passE_back HA0.out (by
           unfold passH nextsI
           rw [HG.out]
           refine givesH_stop (k := k) (by simpa using hlt) HGI.out ?_
           rw [HJ.out]
           unfold giveH
           rw [if_pos hji, if_neg (of_decide_eq_false hdc)])
          go_wp2_with (go_at_call 126; refine (give_back HFk.out.look HFk.out.hts x.pl j hj (hle.2 hji) hlj _ _).mono ?_; rw [hdc]; rintro e w8 ⟨rfl, hb8⟩)
          go_ret
          exact ⟨ret_intn HE.out.symm, (HFk.out.below hb8).kp, fun h => by rw [HE.out] at h; cases h⟩
         ·go_wp2_with (go_at_call 126; refine (give_back HFk.out.look HFk.out.hts x.pl j hj (hle.2 hji) hlj _ _).mono ?_; rw [hdc]; rintro e w8 ⟨rfl, hb8⟩)
          go_roundw
          case rel =>
           refine ⟨k + 1, hsk, csk, by omega, by go_num, ?_, HFk.out.below hb8, keepB hb8 HGk.out⟩
           show givesH i _ hs _ = some hsk
           rw [givesH_snoc (by simpa using hlt) HGI.out, HJ.out]
           unfold giveH
           rw [if_pos hji, if_pos (of_decide_eq_true hdc)]
          case measure => simp [intOf]; omega
        ·have hlt2 : x.pl < l[j].pl := by
          rcases Nat.lt_or_ge x.pl l[j].pl with h | h
          ·exact h
          ·exact absurd (hle.1 h) hji
         go_wp2_with (go_at_call 126; refine (give_ahead HFk.out.look HFk.out.hts x.pl j hj hlt2 hlj HD.out _ _).mono ?_; rintro e w8 ⟨rfl, hk8, cs8, hh8⟩)
         go_roundw
         case rel =>
          refine ⟨k + 1, _, cs8, by omega, by go_num, ?_, HFk.out.give hH hk8 hh8, (hk8.block _ (blt HGk.out) (by omega)).trans HGk.out⟩
          show givesH i _ hs _ = some _
          rw [givesH_snoc (by simpa using hlt) HGI.out, HJ.out]
          unfold giveH
          rw [if_neg hji]
         case measure => simp [intOf]; omega
       ·skip
        have HGJ : Hid (givesH i ((lo - takesI S s x + bringsI S x), (hi - takesI S s x + bringsI S x)) hs (x.to.map (idxP l)) = some hsk) := by
         have := HGI.out
         rw [List.take_of_length_le (by simp; omega)] at this
         exact this
        have hi1 : i + 1 < l.length := by have := HII.out; omega
        have HNX := hidc (HCH.out.next i x l[i + 1] HX.out (by simp [hi1]))
        have HLT1 := hidc (HCH.out.lt (i + 1) l[i + 1] (by simp [hi1]))
        have HMO := hidc (HCH.out.mono i (i + 1) x l[i + 1] (by omega) HX.out (by simp [hi1]))
        have HP : Hid (passH S s l i x hs = some (hsk.set (i + 1) (some (mergeH ((lo - takesI S s x + bringsI S x), (hi - takesI S s x + bringsI S x)) (hsk.getD (i + 1) none))))) := by
         show passH S s l i x hs = some _
         unfold passH nextsI
         rw [HG.out, hlast, givesH_append, HGJ.out]
         show givesH i _ hsk [i + 1] = _
         rw [givesH_one]
         unfold giveH
         rw [if_neg (by omega)]
        go_wp2_with (go_at_call 125; refine (ops_last x _ _ HFk.out.look.rows x1).mono ?_; rw [hlast]; rintro e w8 ⟨rfl, hb8⟩; have HF8 := hidc (HFk.out.below hb8); have HG8 := hidc (keepB hb8 HGk.out); clear q0 q1 q2 q3 q4 q5 q6 q7 f0 f1 f2 f3 f4 f5 f6 hL2 g0 g1 g2; obtain ⟨q0, q1, q2, q3, q4, q5, q6, q7, hq9⟩ := HF8.out.facts; have g0 : w8.cell? ⟨w6.heap.size, 0, none⟩ = some (.bool true) := (by rw [cell_of_block HG8.out]; rfl); have g1 : w8.cell? ⟨w6.heap.size, 1, none⟩ = some (.int .i64 (lo - takesI S s x + bringsI S x)) := (by rw [cell_of_block HG8.out]; rfl); have g2 : w8.cell? ⟨w6.heap.size, 2, none⟩ = some (.int .i64 (hi - takesI S s x + bringsI S x)) := (by rw [cell_of_block HG8.out]; rfl))
        refine (give_ahead_at HF8.out.look HF8.out.hts x.pl (i + 1) x.nx hi1 HNX.out HMO.out HLT1.out (HCH.out.distinct hi1) _ _).mono ?_
        rintro e w9 ⟨rfl, hk9, cs9, hh9⟩
        go_wp2_with fail
        go_ret
        exact ⟨ret_intn (passE_ok HA0.out HP.out).symm, (HF8.out.give hH hk9 hh9).kp, fun _ => ⟨_, cs9, HP.out, hh9⟩⟩
     ·have HE : Hid (passE S s l i x hs = 14) := by
       have hnx : x.nx = s.code.size := by simp at hend; omega
       have hii : i + 1 = l.length := by
        rcases Nat.lt_or_ge (i + 1) l.length with hlt | hge
        ·have := HCH.out.next i x l[i + 1] HX.out (by simp [hlt])
         have := HCH.out.lt (i + 1) l[i + 1] (by simp [hlt])
         omega
        ·omega
       exact passE_ahead (by rw [HOG.out]; simp [aheadE, hlow, hr, hlast, hii]) (by decide)
      go_wp2_with fail
      go_ret
      exact ⟨ret_intn HE.out.symm, HF6.out.kp, fun h => by rw [HE.out] at h; cases h⟩
    ·skip
     go_wp2_with fail
     refine wp_region_held_drew (S := fun w' => w'.cell? ⟨w.heap.size, 0, none⟩ = some (.int .i64 x.op) ∧ w'.cell? ⟨w.heap.size, 1, none⟩ = some (.int .i64 x.pl) ∧ w'.cell? ⟨w.heap.size, 2, none⟩ = some (.int .i64 x.nx) ∧ w'.cell? ⟨w.heap.size, 3, none⟩ = some (.int .i64 x.n) ∧ w'.cell? ⟨w.heap.size, 4, none⟩ = some (.slice ta x.to.length tc) ∧ w'.cell? ⟨L, 4, none⟩ = some (.string s.code)) (by kernel_rfl) ⟨q0, q1, q2, q3, q4, f4⟩ (fun hHeld => ?_)
     refine tk 0 ?vfp0 rfl ?hyfp0 hHeld ?restfp0
     case hyfp0 => rintro w ⟨s0, s1, s2, s3, s4, s5⟩; go_simp; try with_reducible rfl
     simp only [Act.put, aA, aB, aC, aD, aE]
     refine rd 1 rfl (fun K hK => ?_)
     simp only [aD, aE, aF]
     go_simp
     have HFx := hidc (HF5.out.below (Below.refl _ _).drew)
     refine (ops_last x _ _ HFx.out.look.rows x1).mono ?_
     rw [hlast]
     rintro e w6 ⟨rfl, hb6⟩
     have HF6 := hidc (HFx.out.below hb6)
     clear hHeld
     clear q0 q1 q2 q3 q4 q5 q6 q7 hq f0 f1 f2 f3 f4 f5 f6 hL2
     obtain ⟨q0, q1, q2, q3, q4, q5, q6, q7, hq⟩ := HF6.out.facts
     obtain ⟨f0, f1, f2, f3, f4, f5, f6, hL2⟩ := HF6.out.look.facts
     simp only [Option.isSome_some, Option.getD_some] at q5 q6 q7
     go_wp2_with fail
     refine hK.out _ _ ⟨q0, q1, q2, q3, q4, f4⟩ (fun hHeld => ?_)
     clear hK
     refine tk 2 ?vfq2 rfl ?hyfq2 hHeld ?restfq2
     case hyfq2 => rintro w ⟨s0, s1, s2, s3, s4, s5⟩; go_simp; try with_reducible rfl
     simp only [Act.put, aA, aB, aC, aD, aE, aF]
     refine tk 3 ?vfq3 rfl ?hyfq3 hHeld ?restfq3
     case hyfq3 => rintro w ⟨s0, s1, s2, s3, s4, s5⟩; go_simp; try with_reducible rfl
     simp only [Act.put, aA, aB, aC, aD, aE, aF]
     refine wpAnyH_take (i := 4) (v := undef) rfl (by kernel_rfl) (by kernel_rfl) (by kernel_rfl) (fun _ _ _ h => h) (Or.inr ⟨by rfl, rfl⟩) hHeld ?_
     simp only [Act.put, aA, aB, aC, aD, aE, aF]
     refine wpAnyH_take (i := 5) (v := undef) rfl (by kernel_rfl) (by kernel_rfl) (by kernel_rfl) (fun _ _ _ h => h) (Or.inr ⟨by rfl, rfl⟩) hHeld ?_
     simp only [Act.put, aA, aB, aC, aD, aE, aF]
     refine wpAnyH_take (i := 6) (v := undef) rfl (by kernel_rfl) (by kernel_rfl) (by kernel_rfl) (fun _ _ _ h => h) (Or.inr ⟨by rfl, rfl⟩) hHeld ?_
     simp only [Act.put, aA, aB, aC, aD, aE, aF]
     refine wpAnyH_take (i := 7) (v := undef) rfl (by kernel_rfl) (by kernel_rfl) (by kernel_rfl) (fun _ _ _ h => h) (Or.inr ⟨by rfl, rfl⟩) hHeld ?_
     simp only [Act.put, aA, aB, aC, aD, aE, aF]
     refine wpAnyH_take (i := 8) (v := undef) rfl (by kernel_rfl) (by kernel_rfl) (by kernel_rfl) (fun _ _ _ h => h) (Or.inr ⟨by rfl, rfl⟩) hHeld ?_
     simp only [Act.put, aA, aB, aC, aD, aE, aF]
     refine wpAnyH_take (i := 9) (v := undef) rfl (by kernel_rfl) (by kernel_rfl) (by kernel_rfl) (fun _ _ _ h => h) (Or.inr ⟨by rfl, rfl⟩) hHeld ?_
     simp only [Act.put, aA, aB, aC, aD, aE, aF]
     refine wpAnyH_take (i := 10) (v := undef) rfl (by kernel_rfl) (by kernel_rfl) (by kernel_rfl) (fun _ _ _ h => h) (Or.inr ⟨by rfl, rfl⟩) hHeld ?_
     simp only [Act.put, aA, aB, aC, aD, aE, aF]
     refine wpAnyH_take (i := 11) (v := undef) rfl (by kernel_rfl) (by kernel_rfl) (by kernel_rfl) (fun _ _ _ h => h) (Or.inr ⟨by rfl, rfl⟩) hHeld ?_
     simp only [Act.put, aA, aB, aC, aD, aE, aF]
     refine wpAnyH_take (i := 12) (v := undef) rfl (by kernel_rfl) (by kernel_rfl) (by kernel_rfl) (fun _ _ _ h => h) (Or.inr ⟨by rfl, rfl⟩) hHeld ?_
     simp only [Act.put, aA, aB, aC, aD, aE, aF]
     refine tk 13 ?vfr13 rfl ?hyfr13 hHeld ?restfr13
     case hyfr13 => rintro w ⟨s0, s1, s2, s3, s4, s5⟩; go_simp; try with_reducible rfl
     simp only [Act.put, aA, aB, aC, aD, aE, aF]
     refine tk 14 ?vfr14 rfl ?hyfr14 hHeld ?restfr14
     case hyfr14 => rintro w ⟨s0, s1, s2, s3, s4, s5⟩; go_simp; try with_reducible rfl
     simp only [Act.put, aA, aB, aC, aD, aE, aF]
     refine wpAnyH_done (by kernel_rfl) ?_ _
     clear hHeld HFx
     have HA0 : Hid (aheadE S s l i x (hs.getD i none) = 0) := by
      show aheadE S s l i x (hs.getD i none) = 0
      rw [HOG.out]
      simp [aheadE, hlow, hr, hlast]
     have HG : Hid (afterI S s x ((hs.getD i none).getD (0, 0)) = ((lo - takesI S s x + bringsI S x), (hi - takesI S s x + bringsI S x))) := by
      show afterI S s x ((hs.getD i none).getD (0, 0)) = ((lo - takesI S s x + bringsI S x), (hi - takesI S s x + bringsI S x))
      rw [HOG.out]
      rfl
     have hqa : w.heap.size < w6.heap.size := by omega
     have hqb : w.heap.size + 1 < w6.heap.size := by omega
     go_wp2_with fail
     have HF7 := hidc (HF6.out.below ((Below.refl _ _).alloc (Nat.le_refl _) (.cells #[.bool true, .int .i64 (lo - takesI S s x + bringsI S x), .int .i64 (hi - takesI S s x + bringsI S x)] 141)))
     have HGB := hidc (heap_alloc_new w6 (.cells #[.bool true, .int .i64 (lo - takesI S s x + bringsI S x), .int .i64 (hi - takesI S s x + bringsI S x)] 141))
     clear q0 q1 q2 q3 q4 q5 q6 q7 f0 f1 f2 f3 f4 f5 f6 hL2
     go_loopw [83] (fun iv wr => ∃ (k : Nat) (hsk : List (Option (Int × Int))) (csk : Array Value), k ≤ x.to.length ∧ iv = .int .i64 k ∧ Hid (givesH i ((lo - takesI S s x + bringsI S x), (hi - takesI S s x + bringsI S x)) hs ((x.to.map (idxP l)).take k) = some hsk) ∧ Hid (FM w wr L H S s b off cap g cc l hsk csk x ta tc (some (lo, hi))) ∧ Hid (wr.heap[w6.heap.size]? = some (.cells #[.bool true, .int .i64 (lo - takesI S s x + bringsI S x), .int .i64 (hi - takesI S s x + bringsI S x)] 141 (0, 0)))) (fun iv _ => x.to.length - (intOf iv).toNat)
     case atStart => exact ⟨0, hs, cs, Nat.zero_le _, rfl, rfl, HF7.out, HGB.out⟩
     case round =>
      obtain ⟨k, hsk, csk, hk, rfl, HGI, HFk, HGk⟩ := hrel
      obtain ⟨q0, q1, q2, q3, q4, q5, q6, q7, hq'⟩ := HFk.out.facts
      obtain ⟨f0, f1, f2, f3, f4, f5, f6, hL2⟩ := HFk.out.look.facts
      have g0 : wr.cell? ⟨w6.heap.size, 0, none⟩ = some (.bool true) := by rw [cell_of_block HGk.out]; rfl
      have g1 : wr.cell? ⟨w6.heap.size, 1, none⟩ = some (.int .i64 (lo - takesI S s x + bringsI S x)) := by rw [cell_of_block HGk.out]; rfl
      have g2 : wr.cell? ⟨w6.heap.size, 2, none⟩ = some (.int .i64 (hi - takesI S s x + bringsI S x)) := by rw [cell_of_block HGk.out]; rfl
      have hgb : w6.heap.size < wr.heap.size := blt HGk.out
      simp only [Option.isSome_some, Option.getD_some] at q5 q6 q7
      by_cases hlt : k < x.to.length
      ·obtain ⟨gt, hta, hg1, hg2, ct⟩ := tos_get (HT.out.kp HFk.out.kp) k hlt
       obtain ⟨hj, hpj⟩ := idxP_spec (HBG.out x.to[k] (List.getElem_mem _))
       have HJ : Hid ((x.to.map (idxP l))[k]'(by simp [hlt]) = idxP l x.to[k]) := by show (x.to.map (idxP l))[k]'(by simp [hlt]) = idxP l x.to[k]; simp
       rw [← hpj] at ct
       have hlj := HCH.out.lt (idxP l x.to[k]) l[idxP l x.to[k]] (List.getElem?_eq_getElem hj)
       have hxe : l[i] = x := by have := HX.out; rw [List.getElem?_eq_getElem hil] at this; exact Option.some.inj this
       have hle := HCH.out.le_iff hil hj
       rw [hxe] at hle
       have HD := hidc (HCH.out.distinct hj)
       have HTA := hidc hta
       generalize hjj : idxP l x.to[k] = j at *
       have HJJ := hidc hjj
       have HXE := hidc hxe
       clear hpj hjj hxe
       subst hta
       by_cases hji : j ≤ i
       ·cases hdc : decide (hsk.getD j none = some ((lo - takesI S s x + bringsI S x), (hi - takesI S s x + bringsI S x)))
        ·have HE : Hid (passE S s l i x hs = 12) := passE_back HA0.out (by
          unfold passH nextsI
          rw [HG.out]
          refine givesH_stop (k := k) (by simpa using hlt) HGI.out ?_
          rw [HJ.out]
          unfold giveH
          rw [if_pos hji, if_neg (of_decide_eq_false hdc)])
         go_wp2_with (go_at_call 126; refine (give_back HFk.out.look HFk.out.hts x.pl j hj (hle.2 hji) hlj _ _).mono ?_; rw [hdc]; rintro e w8 ⟨rfl, hb8⟩)
         go_ret
         exact ⟨ret_intn HE.out.symm, (HFk.out.below hb8).kp, fun h => by rw [HE.out] at h; cases h⟩
        ·go_wp2_with (go_at_call 126; refine (give_back HFk.out.look HFk.out.hts x.pl j hj (hle.2 hji) hlj _ _).mono ?_; rw [hdc]; rintro e w8 ⟨rfl, hb8⟩)
         go_roundw
         case rel =>
          refine ⟨k + 1, hsk, csk, by omega, by go_num, ?_, HFk.out.below hb8, keepB hb8 HGk.out⟩
          show givesH i _ hs _ = some hsk
          rw [givesH_snoc (by simpa using hlt) HGI.out, HJ.out]
          unfold giveH
          rw [if_pos hji, if_pos (of_decide_eq_true hdc)]
         case measure => simp [intOf]; omega
       ·have hlt2 : x.pl < l[j].pl := by
         rcases Nat.lt_or_ge x.pl l[j].pl with h | h
         ·exact h
         ·exact absurd (hle.1 h) hji
        go_wp2_with (go_at_call 126; refine (give_ahead HFk.out.look HFk.out.hts x.pl j hj hlt2 hlj HD.out _ _).mono ?_; rintro e w8 ⟨rfl, hk8, cs8, hh8⟩)
        go_roundw
        case rel =>
         refine ⟨k + 1, _, cs8, by omega, by go_num, ?_, HFk.out.give hH hk8 hh8, (hk8.block _ (blt HGk.out) (by omega)).trans HGk.out⟩
         show givesH i _ hs _ = some _
         rw [givesH_snoc (by simpa using hlt) HGI.out, HJ.out]
         unfold giveH
         rw [if_neg hji]
        case measure => simp [intOf]; omega
      ·skip
       have HGJ : Hid (givesH i ((lo - takesI S s x + bringsI S x), (hi - takesI S s x + bringsI S x)) hs (x.to.map (idxP l)) = some hsk) := by
        have := HGI.out
        rw [List.take_of_length_le (by simp; omega)] at this
        exact this
       have HP : Hid (passH S s l i x hs = some hsk) := by
        show passH S s l i x hs = some hsk
        unfold passH nextsI
        rw [HG.out, hlast]
        simpa using HGJ.out
       go_wp2_with (go_at_call 125; refine (ops_last x _ _ HFk.out.look.rows x1).mono ?_; rw [hlast]; rintro e w8 ⟨rfl, hb8⟩)
       go_ret
       exact ⟨ret_intn (passE_ok HA0.out HP.out).symm, (HFk.out.below hb8).kp, fun _ => ⟨hsk, csk, HP.out, (HFk.out.below hb8).hts⟩⟩
   ·have hlast : lastT x.op = true := by
     unfold returnsB at hr
     simp at hr
     rcases hr with h | ⟨h, _⟩ <;> simp [lastT, h]
    cases hm : mayReturnB S s x lo hi
    ·have HE : Hid (passE S s l i x hs = 13) := passE_ahead (by rw [HOG.out]; simp [aheadE, hlow, hr, hm]) (by decide)
     go_wp2_with (first | (go_at_call 123; refine (look_returns HF3.out.look x _ hx20).mono ?_; rw [hr]; rintro e w5 ⟨rfl, hb5⟩; have HF5 := hidc (HF3.out.below hb5); clear q0 q1 q2 q3 q4 q5 q6 q7 hq f0 f1 f2 f3 f4 f5 f6 hL2; obtain ⟨q0, q1, q2, q3, q4, q5, q6, q7, hq⟩ := HF5.out.facts; obtain ⟨f0, f1, f2, f3, f4, f5, f6, hL2⟩ := HF5.out.look.facts; simp only [Option.isSome_some, Option.getD_some] at q5 q6 q7) | (go_at_call 124; refine (look_mayReturn HF5.out.look x _ lo hi hx20 HSS.out HS1.out).mono ?_; rw [hm]; rintro e w7 ⟨rfl, hb7⟩))
     go_ret
     exact ⟨ret_intn HE.out.symm, (HF5.out.below hb7).kp, fun h => by rw [HE.out] at h; cases h⟩
    ·go_wp2_with (first | (go_at_call 123; refine (look_returns HF3.out.look x _ hx20).mono ?_; rw [hr]; rintro e w5 ⟨rfl, hb5⟩; have HF4 := hidc (HF3.out.below hb5); clear q0 q1 q2 q3 q4 q5 q6 q7 hq f0 f1 f2 f3 f4 f5 f6 hL2; obtain ⟨q0, q1, q2, q3, q4, q5, q6, q7, hq⟩ := HF4.out.facts; obtain ⟨f0, f1, f2, f3, f4, f5, f6, hL2⟩ := HF4.out.look.facts; simp only [Option.isSome_some, Option.getD_some] at q5 q6 q7) | (go_at_call 124; refine (look_mayReturn HF4.out.look x _ lo hi hx20 HSS.out HS1.out).mono ?_; rw [hm]; rintro e w7 ⟨rfl, hb7⟩; have HF5 := hidc (HF4.out.below hb7); clear q0 q1 q2 q3 q4 q5 q6 q7 hq f0 f1 f2 f3 f4 f5 f6 hL2; obtain ⟨q0, q1, q2, q3, q4, q5, q6, q7, hq⟩ := HF5.out.facts; obtain ⟨f0, f1, f2, f3, f4, f5, f6, hL2⟩ := HF5.out.look.facts; simp only [Option.isSome_some, Option.getD_some] at q5 q6 q7))
     go_wp2_with fail
     refine wp_region_held_drew (S := fun w' => w'.cell? ⟨w.heap.size, 0, none⟩ = some (.int .i64 x.op) ∧ w'.cell? ⟨w.heap.size, 1, none⟩ = some (.int .i64 x.pl) ∧ w'.cell? ⟨w.heap.size, 2, none⟩ = some (.int .i64 x.nx) ∧ w'.cell? ⟨w.heap.size, 3, none⟩ = some (.int .i64 x.n) ∧ w'.cell? ⟨w.heap.size, 4, none⟩ = some (.slice ta x.to.length tc) ∧ w'.cell? ⟨L, 4, none⟩ = some (.string s.code)) (by kernel_rfl) ⟨q0, q1, q2, q3, q4, f4⟩ (fun hHeld => ?_)
     refine tk 0 ?vep0 rfl ?hyep0 hHeld ?restep0
     case hyep0 => rintro w ⟨s0, s1, s2, s3, s4, s5⟩; go_simp; try with_reducible rfl
     simp only [Act.put, aA, aB, aC, aD, aE]
     refine rd 1 rfl (fun K hK => ?_)
     simp only [aD, aE, aF]
     go_simp
     have HFx := hidc (HF5.out.below (Below.refl _ _).drew)
     refine (ops_last x _ _ HFx.out.look.rows x1).mono ?_
     rw [hlast]
     rintro e w6 ⟨rfl, hb6⟩
     have HF6 := hidc (HFx.out.below hb6)
     clear hHeld
     clear q0 q1 q2 q3 q4 q5 q6 q7 hq f0 f1 f2 f3 f4 f5 f6 hL2
     obtain ⟨q0, q1, q2, q3, q4, q5, q6, q7, hq⟩ := HF6.out.facts
     obtain ⟨f0, f1, f2, f3, f4, f5, f6, hL2⟩ := HF6.out.look.facts
     simp only [Option.isSome_some, Option.getD_some] at q5 q6 q7
     go_wp2_with fail
     refine hK.out _ _ ⟨q0, q1, q2, q3, q4, f4⟩ (fun hHeld => ?_)
     clear hK
     refine tk 2 ?veq2 rfl ?hyeq2 hHeld ?resteq2
     case hyeq2 => rintro w ⟨s0, s1, s2, s3, s4, s5⟩; go_simp; try with_reducible rfl
     simp only [Act.put, aA, aB, aC, aD, aE, aF]
     refine tk 3 ?veq3 rfl ?hyeq3 hHeld ?resteq3
     case hyeq3 => rintro w ⟨s0, s1, s2, s3, s4, s5⟩; go_simp; try with_reducible rfl
     simp only [Act.put, aA, aB, aC, aD, aE, aF]
     refine wpAnyH_take (i := 4) (v := undef) rfl (by kernel_rfl) (by kernel_rfl) (by kernel_rfl) (fun _ _ _ h => h) (Or.inr ⟨by rfl, rfl⟩) hHeld ?_
     simp only [Act.put, aA, aB, aC, aD, aE, aF]
     refine wpAnyH_take (i := 5) (v := undef) rfl (by kernel_rfl) (by kernel_rfl) (by kernel_rfl) (fun _ _ _ h => h) (Or.inr ⟨by rfl, rfl⟩) hHeld ?_
     simp only [Act.put, aA, aB, aC, aD, aE, aF]
     refine wpAnyH_take (i := 6) (v := undef) rfl (by kernel_rfl) (by kernel_rfl) (by kernel_rfl) (fun _ _ _ h => h) (Or.inr ⟨by rfl, rfl⟩) hHeld ?_
     simp only [Act.put, aA, aB, aC, aD, aE, aF]
     refine wpAnyH_take (i := 7) (v := undef) rfl (by kernel_rfl) (by kernel_rfl) (by kernel_rfl) (fun _ _ _ h => h) (Or.inr ⟨by rfl, rfl⟩) hHeld ?_
     simp only [Act.put, aA, aB, aC, aD, aE, aF]
     refine wpAnyH_take (i := 8) (v := undef) rfl (by kernel_rfl) (by kernel_rfl) (by kernel_rfl) (fun _ _ _ h => h) (Or.inr ⟨by rfl, rfl⟩) hHeld ?_
     simp only [Act.put, aA, aB, aC, aD, aE, aF]
     refine wpAnyH_take (i := 9) (v := undef) rfl (by kernel_rfl) (by kernel_rfl) (by kernel_rfl) (fun _ _ _ h => h) (Or.inr ⟨by rfl, rfl⟩) hHeld ?_
     simp only [Act.put, aA, aB, aC, aD, aE, aF]
     refine wpAnyH_take (i := 10) (v := undef) rfl (by kernel_rfl) (by kernel_rfl) (by kernel_rfl) (fun _ _ _ h => h) (Or.inr ⟨by rfl, rfl⟩) hHeld ?_
     simp only [Act.put, aA, aB, aC, aD, aE, aF]
     refine wpAnyH_take (i := 11) (v := undef) rfl (by kernel_rfl) (by kernel_rfl) (by kernel_rfl) (fun _ _ _ h => h) (Or.inr ⟨by rfl, rfl⟩) hHeld ?_
     simp only [Act.put, aA, aB, aC, aD, aE, aF]
     refine wpAnyH_take (i := 12) (v := undef) rfl (by kernel_rfl) (by kernel_rfl) (by kernel_rfl) (fun _ _ _ h => h) (Or.inr ⟨by rfl, rfl⟩) hHeld ?_
     simp only [Act.put, aA, aB, aC, aD, aE, aF]
     refine tk 13 ?ver13 rfl ?hyer13 hHeld ?rester13
     case hyer13 => rintro w ⟨s0, s1, s2, s3, s4, s5⟩; go_simp; try with_reducible rfl
     simp only [Act.put, aA, aB, aC, aD, aE, aF]
     refine tk 14 ?ver14 rfl ?hyer14 hHeld ?rester14
     case hyer14 => rintro w ⟨s0, s1, s2, s3, s4, s5⟩; go_simp; try with_reducible rfl
     simp only [Act.put, aA, aB, aC, aD, aE, aF]
     refine wpAnyH_done (by kernel_rfl) ?_ _
     clear hHeld HFx
     have HA0 : Hid (aheadE S s l i x (hs.getD i none) = 0) := by
      show aheadE S s l i x (hs.getD i none) = 0
      rw [HOG.out]
      simp [aheadE, hlow, hm, hlast]
     have HG : Hid (afterI S s x ((hs.getD i none).getD (0, 0)) = ((lo - takesI S s x + bringsI S x), (hi - takesI S s x + bringsI S x))) := by
      show afterI S s x ((hs.getD i none).getD (0, 0)) = ((lo - takesI S s x + bringsI S x), (hi - takesI S s x + bringsI S x))
      rw [HOG.out]
      rfl
     have hqa : w.heap.size < w6.heap.size := by omega
     have hqb : w.heap.size + 1 < w6.heap.size := by omega
     go_wp2_with fail
     have HF7 := hidc (HF6.out.below ((Below.refl _ _).alloc (Nat.le_refl _) (.cells #[.bool true, .int .i64 (lo - takesI S s x + bringsI S x), .int .i64 (hi - takesI S s x + bringsI S x)] 141)))
     have HGB := hidc (heap_alloc_new w6 (.cells #[.bool true, .int .i64 (lo - takesI S s x + bringsI S x), .int .i64 (hi - takesI S s x + bringsI S x)] 141))
     clear q0 q1 q2 q3 q4 q5 q6 q7 f0 f1 f2 f3 f4 f5 f6 hL2
     go_loopw [83] (fun iv wr => ∃ (k : Nat) (hsk : List (Option (Int × Int))) (csk : Array Value), k ≤ x.to.length ∧ iv = .int .i64 k ∧ Hid (givesH i ((lo - takesI S s x + bringsI S x), (hi - takesI S s x + bringsI S x)) hs ((x.to.map (idxP l)).take k) = some hsk) ∧ Hid (FM w wr L H S s b off cap g cc l hsk csk x ta tc (some (lo, hi))) ∧ Hid (wr.heap[w6.heap.size]? = some (.cells #[.bool true, .int .i64 (lo - takesI S s x + bringsI S x), .int .i64 (hi - takesI S s x + bringsI S x)] 141 (0, 0)))) (fun iv _ => x.to.length - (intOf iv).toNat)
     case atStart => exact ⟨0, hs, cs, Nat.zero_le _, rfl, rfl, HF7.out, HGB.out⟩
     case round =>
      obtain ⟨k, hsk, csk, hk, rfl, HGI, HFk, HGk⟩ := hrel
      obtain ⟨q0, q1, q2, q3, q4, q5, q6, q7, hq'⟩ := HFk.out.facts
      obtain ⟨f0, f1, f2, f3, f4, f5, f6, hL2⟩ := HFk.out.look.facts
      have g0 : wr.cell? ⟨w6.heap.size, 0, none⟩ = some (.bool true) := by rw [cell_of_block HGk.out]; rfl
      have g1 : wr.cell? ⟨w6.heap.size, 1, none⟩ = some (.int .i64 (lo - takesI S s x + bringsI S x)) := by rw [cell_of_block HGk.out]; rfl
      have g2 : wr.cell? ⟨w6.heap.size, 2, none⟩ = some (.int .i64 (hi - takesI S s x + bringsI S x)) := by rw [cell_of_block HGk.out]; rfl
      have hgb : w6.heap.size < wr.heap.size := blt HGk.out
      simp only [Option.isSome_some, Option.getD_some] at q5 q6 q7
      by_cases hlt : k < x.to.length
      ·obtain ⟨gt, hta, hg1, hg2, ct⟩ := tos_get (HT.out.kp HFk.out.kp) k hlt
       obtain ⟨hj, hpj⟩ := idxP_spec (HBG.out x.to[k] (List.getElem_mem _))
       have HJ : Hid ((x.to.map (idxP l))[k]'(by simp [hlt]) = idxP l x.to[k]) := by show (x.to.map (idxP l))[k]'(by simp [hlt]) = idxP l x.to[k]; simp
       rw [← hpj] at ct
       have hlj := HCH.out.lt (idxP l x.to[k]) l[idxP l x.to[k]] (List.getElem?_eq_getElem hj)
       have hxe : l[i] = x := by have := HX.out; rw [List.getElem?_eq_getElem hil] at this; exact Option.some.inj this
       have hle := HCH.out.le_iff hil hj
       rw [hxe] at hle
       have HD := hidc (HCH.out.distinct hj)
       have HTA := hidc hta
       generalize hjj : idxP l x.to[k] = j at *
       have HJJ := hidc hjj
       have HXE := hidc hxe
       clear hpj hjj hxe
       subst hta
       by_cases hji : j ≤ i
       ·cases hdc : decide (hsk.getD j none = some ((lo - takesI S s x + bringsI S x), (hi - takesI S s x + bringsI S x)))
        ·have HE : Hid (passE S s l i x hs = 12) := passE_back HA0.out (by
          unfold passH nextsI
          rw [HG.out]
          refine givesH_stop (k := k) (by simpa using hlt) HGI.out ?_
          rw [HJ.out]
          unfold giveH
          rw [if_pos hji, if_neg (of_decide_eq_false hdc)])
         go_wp2_with (go_at_call 126; refine (give_back HFk.out.look HFk.out.hts x.pl j hj (hle.2 hji) hlj _ _).mono ?_; rw [hdc]; rintro e w8 ⟨rfl, hb8⟩)
         go_ret
         exact ⟨ret_intn HE.out.symm, (HFk.out.below hb8).kp, fun h => by rw [HE.out] at h; cases h⟩
        ·go_wp2_with (go_at_call 126; refine (give_back HFk.out.look HFk.out.hts x.pl j hj (hle.2 hji) hlj _ _).mono ?_; rw [hdc]; rintro e w8 ⟨rfl, hb8⟩)
         go_roundw
         case rel =>
          refine ⟨k + 1, hsk, csk, by omega, by go_num, ?_, HFk.out.below hb8, keepB hb8 HGk.out⟩
          show givesH i _ hs _ = some hsk
          rw [givesH_snoc (by simpa using hlt) HGI.out, HJ.out]
          unfold giveH
          rw [if_pos hji, if_pos (of_decide_eq_true hdc)]
         case measure => simp [intOf]; omega
       ·have hlt2 : x.pl < l[j].pl := by
         rcases Nat.lt_or_ge x.pl l[j].pl with h | h
         ·exact h
         ·exact absurd (hle.1 h) hji
        go_wp2_with (go_at_call 126; refine (give_ahead HFk.out.look HFk.out.hts x.pl j hj hlt2 hlj HD.out _ _).mono ?_; rintro e w8 ⟨rfl, hk8, cs8, hh8⟩)
        go_roundw
        case rel =>
         refine ⟨k + 1, _, cs8, by omega, by go_num, ?_, HFk.out.give hH hk8 hh8, (hk8.block _ (blt HGk.out) (by omega)).trans HGk.out⟩
         show givesH i _ hs _ = some _
         rw [givesH_snoc (by simpa using hlt) HGI.out, HJ.out]
         unfold giveH
         rw [if_neg hji]
        case measure => simp [intOf]; omega
      ·skip
       have HGJ : Hid (givesH i ((lo - takesI S s x + bringsI S x), (hi - takesI S s x + bringsI S x)) hs (x.to.map (idxP l)) = some hsk) := by
        have := HGI.out
        rw [List.take_of_length_le (by simp; omega)] at this
        exact this
       have HP : Hid (passH S s l i x hs = some hsk) := by
        show passH S s l i x hs = some hsk
        unfold passH nextsI
        rw [HG.out, hlast]
        simpa using HGJ.out
       go_wp2_with (go_at_call 125; refine (ops_last x _ _ HFk.out.look.rows x1).mono ?_; rw [hlast]; rintro e w8 ⟨rfl, hb8⟩)
       go_ret
       exact ⟨ret_intn (passE_ok HA0.out HP.out).symm, (HFk.out.below hb8).kp, fun _ => ⟨hsk, csk, HP.out, (HFk.out.below hb8).hts⟩⟩
end Go.Proofs.YtdhmandnamajpaaGreatDoor
