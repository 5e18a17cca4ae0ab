/-
  Package check: flow.
-/
import Derived.Test.YtdhmandnamajpaaDoorLookD
import Derived.Test.YtdhmandnamajpaaDoorCChain
namespace Go.Proofs.YtdhmandnamajpaaDoor
open Go.RowKit Go.Joins

set_option maxHeartbeats 1000000

/-- Flow's memory: the look, the heights, the instruction's own block and that of what it has. -/
structure FM (w w' : World) (L H : Nat) (S : List Sec) (s : Sec) (b off cap g cc : Nat) (l : List Ins) (hs : List (Option (Int × Int))) (cs : Array Value) (x : Ins) (ta : Option Addr) (tc : Nat) (o : Option (Int × Int)) : Prop where
  look : Look w' L H S s b off cap g cc l
  hts : HtsAt w' H s.code.size l hs cs
  inb : w'.heap[w.heap.size]? = some (.cells #[.int .i64 x.op, .int .i64 x.pl, .int .i64 x.nx, .int .i64 x.n, .slice ta x.to.length tc] 116 (0, 0))
  hasb : w'.heap[w.heap.size + 1]? = some (.cells #[.bool o.isSome, .int .i64 (o.getD (0, 0)).1, .int .i64 (o.getD (0, 0)).2] 113 (0, 0))
  kp : Kp w.heap.size H w w'
theorem FM.below {w w' w'' : World} {L H : Nat} {S : List Sec} {s : Sec} {b off cap g cc : Nat} {l : List Ins} {hs : List (Option (Int × Int))} {cs : Array Value} {x : Ins} {ta : Option Addr} {tc : Nat} {o : Option (Int × Int)}
    (h : FM w w' L H S s b off cap g cc l hs cs x ta tc o) (hb : Below w'.heap.size w' w'') : FM w w'' L H S s b off cap g cc l hs cs x ta tc o :=
  ⟨h.look.below hb, h.hts.below hb, keepB hb h.inb, keepB hb h.hasb, h.kp.trans ((Kp.of hb H).mono h.kp.size)⟩
theorem FM.give {w w' w'' : World} {L H : Nat} {S : List Sec} {s : Sec} {b off cap g cc : Nat} {l : List Ins} {hs hs' : List (Option (Int × Int))} {cs cs' : Array Value} {x : Ins} {ta : Option Addr} {tc : Nat} {o : Option (Int × Int)}
    (h : FM w w' L H S s b off cap g cc l hs cs x ta tc o) (hH : H < w.heap.size) (hk : Kp w'.heap.size H w' w'') (hh : HtsAt w'' H s.code.size l hs' cs') : FM w w'' L H S s b off cap g cc l hs' cs' x ta tc o :=
  ⟨h.look.kp hk, hh, (hk.block _ (blt h.inb) (by omega)).trans h.inb, (hk.block _ (blt h.hasb) (by omega)).trans h.hasb, h.kp.trans (hk.mono h.kp.size)⟩
theorem FM.facts {w w' : World} {L H : Nat} {S : List Sec} {s : Sec} {b off cap g cc : Nat} {l : List Ins} {hs : List (Option (Int × Int))} {cs : Array Value} {x : Ins} {ta : Option Addr} {tc : Nat} {o : Option (Int × Int)}
    (h : FM w w' L H S s b off cap g cc l hs cs x ta tc o) :
    w'.cell? ⟨w.heap.size, 0, none⟩ = some (.int .i64 x.op) ∧ w'.cell? ⟨w.heap.size, 1, none⟩ = some (.int .i64 x.pl) ∧ w'.cell? ⟨w.heap.size, 2, none⟩ = some (.int .i64 x.nx) ∧ w'.cell? ⟨w.heap.size, 3, none⟩ = some (.int .i64 x.n) ∧ w'.cell? ⟨w.heap.size, 4, none⟩ = some (.slice ta x.to.length tc) ∧
    w'.cell? ⟨w.heap.size + 1, 0, none⟩ = some (.bool o.isSome) ∧ w'.cell? ⟨w.heap.size + 1, 1, none⟩ = some (.int .i64 (o.getD (0, 0)).1) ∧ w'.cell? ⟨w.heap.size + 1, 2, none⟩ = some (.int .i64 (o.getD (0, 0)).2) ∧ w.heap.size + 2 ≤ w'.heap.size := by
  refine ⟨?_, ?_, ?_, ?_, ?_, ?_, ?_, ?_, by have := blt h.hasb; omega⟩
  · rw [cell_of_block h.inb]; rfl
  · rw [cell_of_block h.inb]; rfl
  · rw [cell_of_block h.inb]; rfl
  · rw [cell_of_block h.inb]; rfl
  · rw [cell_of_block h.inb]; rfl
  · rw [cell_of_block h.hasb]; rfl
  · rw [cell_of_block h.hasb]; rfl
  · rw [cell_of_block h.hasb]; rfl

theorem takes_le {S : List Sec} {s : Sec} {x : Ins} (hS : S.all secB = true) (hs : secB s = true) (hn : x.op = 2 ∨ x.n < 256) (hx : namesB x = true → x.n < S.length) : 0 ≤ takesI S s x ∧ takesI S s x ≤ 300 := by
  obtain ⟨d1, d2, d3, d4⟩ := (secB_iff _).1 hs
  unfold takesI
  split
  · have : takesT x.op ≤ 2 := by unfold takesT; split <;> (try split) <;> omega
    omega
  · split
    · rename_i h1 h2
      have hl := hx (by simp [namesB]; exact h2)
      obtain ⟨b1, b2, b3, b4⟩ := (secB_iff _).1 (sec_get hS x.n hl)
      rw [inS_get S x.n hl]
      omega
    · split
      · split <;> omega
      · have : takesT x.op ≤ 2 := by unfold takesT; split <;> (try split) <;> omega
        omega
theorem brings_le {S : List Sec} {x : Ins} (hS : S.all secB = true) (hn : x.op = 2 ∨ x.n < 256) (hx : namesB x = true → x.n < S.length) : 0 ≤ bringsI S x ∧ bringsI S x ≤ 300 := by
  unfold bringsI
  split
  · have : bringsT x.op ≤ 2 := by unfold bringsT; split <;> (try split) <;> omega
    omega
  · split
    · rename_i h1 h2
      have hl := hx (by simp [namesB, h2])
      obtain ⟨b1, b2, b3, b4⟩ := (secB_iff _).1 (sec_get hS x.n hl)
      rw [outS_get S x.n hl]
      omega
    · split
      · omega
      · have : bringsT x.op ≤ 2 := by unfold bringsT; split <;> (try split) <;> omega
        omega

theorem give_ahead_at {w : World} {L H : Nat} {S : List Sec} {s : Sec} {b off cap g cc : Nat} {l : List Ins} {hs : List (Option (Int × Int))} {cs : Array Value} (h : Look w L H S s b off cap g cc l) (hh : HtsAt w H s.code.size l hs cs)
    (p j t : Nat) (hj : j < l.length) (ht : t = l[j].pl) (hp : p < l[j].pl) (hc : l[j].pl < s.code.size) (hd : ∀ k x, l[k]? = some x → k ≠ j → x.pl ≠ l[j].pl) (lo hi : Int) :
    Calls Tryd.prog 87 #[.pointer (some ⟨L, 0, none⟩), .int .i64 p, .int .i64 t, .agg #[.bool true, .int .i64 lo, .int .i64 hi]] w
      fun e w' => e = .returned (.bool true) ∧ Kp w.heap.size H w w' ∧ ∃ cs', HtsAt w' H s.code.size l (hs.set j (some (mergeH (lo, hi) (hs.getD j none)))) cs' := by
  subst ht
  exact give_ahead h hh p j hj hp hc hd lo hi

/-- What flow answers. -/
def FlowPost (w : World) (H : Nat) (S : List Sec) (s : Sec) (l : List Ins) (i : Nat) (x : Ins) (hs : List (Option (Int × Int))) : Ending → World → Prop := fun e w' => e = .returned (.int .i64 (passE S s l i x hs : Nat)) ∧ Kp w.heap.size H w w' ∧
  (passE S s l i x hs = 0 → ∃ hs' cs', passH S s l i x hs = some hs' ∧ HtsAt w' H s.code.size l hs' cs')
theorem look_flow {w : World} {L H : Nat} {S : List Sec} {s : Sec} {b off cap g cc : Nat} {l : List Ins} {hs : List (Option (Int × Int))} {cs : Array Value} (h : Look w L H S s b off cap g cc l) (hh : HtsAt w H s.code.size l hs cs) (hch : Chained l s.code.size) (i : Nat) (x : Ins) (hx : l[i]? = some x) (ta : Option Addr) (tc : Nat)
    (ht : TosAt0 w H (.slice ta x.to.length tc) x.to) (href : refE S l x = 0) (hS : S.all secB = true) (hs1 : secB s = true) (hsm : Small 100000 hs) :
    Calls Tryd.prog 59 #[.pointer (some ⟨L, 0, none⟩), .agg #[.int .i64 x.op, .int .i64 x.pl, .int .i64 x.nx, .int .i64 x.n, .slice ta x.to.length tc]] w (FlowPost w H S s l i x hs) := by
  have hil : i < l.length := (List.getElem?_eq_some_iff.1 hx).1
  obtain ⟨x1, x2, x3⟩ := hch.op i x hx
  have hpl := hch.lt i x hx
  obtain ⟨_, _, _, s4⟩ := (secB_iff _).1 hs1
  have hnm : namesB x = true → x.n < S.length := by
    intro hn
    unfold refE at href
    split at href
    · cases href
    · split at href
      · cases href
      · rename_i h1 h2
        simp [hn] at h2
        unfold mayNameB at h2
        simp at h2
        exact h2.1
  have hbg : ∀ t ∈ x.to, beginsB l t = true := by
    intro t htm
    unfold refE at href
    split at href
    · cases href
    · rename_i h1
      simp at h1
      exact h1 t htm
  obtain ⟨t1, t2⟩ := takes_le hS hs1 x2 hnm
  obtain ⟨r1, r2⟩ := brings_le hS x2 hnm
  obtain ⟨f0, f1, f2, f3, f4, f5, f6, hL⟩ := h.facts
  obtain ⟨c0, c1, c2⟩ := hh.span i x hx
  have k0 : w.cell? ⟨H, x.pl * 3, none⟩ = some (.bool (hs.getD i none).isSome) := by rw [cell_of_block hh.blk]; exact c0
  have k1 : w.cell? ⟨H, x.pl * 3 + 1, none⟩ = some (.int .i64 ((hs.getD i none).getD (0, 0)).1) := by rw [cell_of_block hh.blk]; exact c1
  have k2 : w.cell? ⟨H, x.pl * 3 + 2, none⟩ = some (.int .i64 ((hs.getD i none).getD (0, 0)).2) := by rw [cell_of_block hh.blk]; exact c2
  have hH := blt hh.blk
  have hob : ∀ o, hs.getD i none = some o → -100000 ≤ o.1 ∧ o.1 ≤ 100000 ∧ -100000 ≤ o.2 ∧ o.2 ≤ 100000 := fun o ho => hsm i o ho
  have HL := hidc h
  have HH := hidc hh
  have HCH := hidc hch
  have HT := hidc ht
  have HX := hidc hx
  have HSM := hidc hsm
  have HBG := hidc hbg
  have HSS := hidc hS
  have HS1 := hidc hs1
  have HNM := hidc hnm
  generalize hog : hs.getD i none = o at *
  have HOG := hidc hog
  have HOB := hidc hob
  clear h hh hch ht hx hsm hbg hS hs1 hnm href hog hob c0 c1 c2
  go_enter Tryd.func59, Tryd.ntmps59
  go_wp2_with fail
  refine wp_region_held_drew (S := fun w' => w'.cell? ⟨L, 6, none⟩ = some (.slice (some ⟨H, 0, none⟩) s.code.size s.code.size) ∧ w'.cell? ⟨w.heap.size, 1, none⟩ = some (.int .i64 x.pl) ∧ w'.cell? ⟨H, x.pl * 3, none⟩ = some (.bool o.isSome) ∧ w'.cell? ⟨H, x.pl * 3 + 1, none⟩ = some (.int .i64 (o.getD (0, 0)).1) ∧ w'.cell? ⟨H, x.pl * 3 + 2, none⟩ = some (.int .i64 (o.getD (0, 0)).2)) (by kernel_rfl) ?hS0 (fun hHeld => ?_)
  case hS0 => go_simp
  have hH0 := hHeld
  refine wpAnyH_take (i := 0) (v := ?va0) rfl (by kernel_rfl) (by kernel_rfl) (by kernel_rfl) (fun _ _ _ h => h) (Or.inl ⟨by rfl, ?hya0⟩) hHeld ?resta0
  case hya0 => intro w hSw; obtain ⟨s0, s1, s2, s3, s4⟩ := hSw; go_simp; try with_reducible rfl
  simp only [Act.put, List.setIfInBounds_toArray, List.set_cons_zero, List.set_cons_succ, List.getElem_toArray, List.getElem_cons_zero]
  refine wpAnyH_take (i := 1) (v := ?va1) rfl (by kernel_rfl) (by kernel_rfl) (by kernel_rfl) (fun _ _ _ h => h) (Or.inl ⟨by rfl, ?hya1⟩) hHeld ?resta1
  case hya1 => intro w hSw; obtain ⟨s0, s1, s2, s3, s4⟩ := hSw; go_simp; try with_reducible rfl
  simp only [Act.put, List.setIfInBounds_toArray, List.set_cons_zero, List.set_cons_succ, List.getElem_toArray, List.getElem_cons_zero, List.getElem_cons_succ]
  refine wpAnyH_take (i := 2) (v := ?va2) rfl (by kernel_rfl) (by kernel_rfl) (by kernel_rfl) (fun _ _ _ h => h) (Or.inl ⟨by rfl, ?hya2⟩) hHeld ?resta2
  case hya2 => intro w hSw; obtain ⟨s0, s1, s2, s3, s4⟩ := hSw; go_simp; try with_reducible rfl
  simp only [Act.put, List.setIfInBounds_toArray, List.set_cons_zero, List.set_cons_succ, List.getElem_toArray, List.getElem_cons_zero, List.getElem_cons_succ]
  refine wpAnyH_take (i := 3) (v := ?va3) rfl (by kernel_rfl) (by kernel_rfl) (by kernel_rfl) (fun _ _ _ h => h) (Or.inl ⟨by rfl, ?hya3⟩) hHeld ?resta3
  case hya3 => intro w hSw; obtain ⟨s0, s1, s2, s3, s4⟩ := hSw; go_simp; try with_reducible rfl
  simp only [Act.put, List.setIfInBounds_toArray, List.set_cons_zero, List.set_cons_succ, List.getElem_toArray, List.getElem_cons_zero, List.getElem_cons_succ]
  refine wpAnyH_take (i := 4) (v := ?va4) rfl (by kernel_rfl) (by kernel_rfl) (by kernel_rfl) (fun _ _ _ h => h) (Or.inl ⟨by rfl, ?hya4⟩) hHeld ?resta4
  case hya4 => intro w hSw; obtain ⟨s0, s1, s2, s3, s4⟩ := hSw; go_simp; try with_reducible rfl
  simp only [Act.put, List.setIfInBounds_toArray, List.set_cons_zero, List.set_cons_succ, List.getElem_toArray, List.getElem_cons_zero, List.getElem_cons_succ]
  refine wpAnyH_take (i := 5) (v := ?va5) rfl (by kernel_rfl) (by kernel_rfl) (by kernel_rfl) (fun _ _ _ h => h) (Or.inl ⟨by rfl, ?hya5⟩) hHeld ?resta5
  case hya5 => intro w hSw; obtain ⟨s0, s1, s2, s3, s4⟩ := hSw; go_simp; try with_reducible rfl
  simp only [Act.put, List.setIfInBounds_toArray, List.set_cons_zero, List.set_cons_succ, List.getElem_toArray, List.getElem_cons_zero, List.getElem_cons_succ]
  refine wpAnyH_take (i := 6) (v := ?va6) rfl (by kernel_rfl) (by kernel_rfl) (by kernel_rfl) (fun _ _ _ h => h) (Or.inl ⟨by rfl, ?hya6⟩) hHeld ?resta6
  case hya6 => intro w hSw; obtain ⟨s0, s1, s2, s3, s4⟩ := hSw; go_simp; try with_reducible rfl
  simp only [Act.put, List.setIfInBounds_toArray, List.set_cons_zero, List.set_cons_succ, List.getElem_toArray, List.getElem_cons_zero, List.getElem_cons_succ]
  refine wpAnyH_take (i := 7) (v := ?va7) rfl (by kernel_rfl) (by kernel_rfl) (by kernel_rfl) (fun _ _ _ h => h) (Or.inl ⟨by rfl, ?hya7⟩) hHeld ?resta7
  case hya7 => intro w hSw; obtain ⟨s0, s1, s2, s3, s4⟩ := hSw; go_simp; try with_reducible rfl
  simp only [Act.put, List.setIfInBounds_toArray, List.set_cons_zero, List.set_cons_succ, List.getElem_toArray, List.getElem_cons_zero, List.getElem_cons_succ]
  refine wpAnyH_ready (rs := [8]) (by kernel_rfl) (by simp) ?_
  refine AllReadyH.cons (i := 8) rfl (fun K hK => ?_) AllReadyH.nil
  simp only [List.getElem_toArray, List.getElem_cons_zero, List.getElem_cons_succ]
  go_simp
  refine hK.out _ _ ?hS8 (fun hHeld => ?_)
  case hS8 => obtain ⟨s0, s1, s2, s3, s4⟩ := hH0; exact ⟨(cell_al _ (by simp; omega)).trans s0, (cell_al _ (by simp)).trans s1, (cell_al _ (by simp; omega)).trans s2, (cell_al _ (by simp; omega)).trans s3, (cell_al _ (by simp; omega)).trans s4⟩
  clear hK
  refine wpAnyH_ready (rs := [9]) (by kernel_rfl) (by simp) ?_
  refine AllReadyH.cons (i := 9) rfl (fun K hK => ?_) AllReadyH.nil
  simp only [List.getElem_toArray, List.getElem_cons_zero, List.getElem_cons_succ]
  go_simp
  refine hK.out _ _ ?hS9 (fun hHeld => ?_)
  case hS9 => obtain ⟨s0, s1, s2, s3, s4⟩ := hH0; exact ⟨(cell_al _ (by simp; omega)).trans s0, (cell_al _ (by simp)).trans s1, (cell_al _ (by simp; omega)).trans s2, (cell_al _ (by simp; omega)).trans s3, (cell_al _ (by simp; omega)).trans s4⟩
  clear hK
  refine wpAnyH_done (by kernel_rfl) ?_ _
  have HF : Hid (FM w (((w.alloc (.cells #[.int .i64 x.op, .int .i64 x.pl, .int .i64 x.nx, .int .i64 x.n, .slice ta x.to.length tc] 116)).alloc (.cells #[.bool o.isSome, .int .i64 (o.getD (0, 0)).1, .int .i64 (o.getD (0, 0)).2] 113)).drew) L H S s b off cap g cc l hs cs x ta tc o) := by
    have hb : Below w.heap.size w (((w.alloc (.cells #[.int .i64 x.op, .int .i64 x.pl, .int .i64 x.nx, .int .i64 x.n, .slice ta x.to.length tc] 116)).alloc (.cells #[.bool o.isSome, .int .i64 (o.getD (0, 0)).1, .int .i64 (o.getD (0, 0)).2] 113)).drew) := (below2 _ _ _).drew
    refine ⟨HL.out.below hb, HH.out.below hb, ?_, ?_, Kp.of hb H⟩
    · exact (Below.heap_alloc _ _ _ (by simp)).trans (heap_alloc_new w _)
    · have := heap_alloc_new (w.alloc (.cells #[.int .i64 x.op, .int .i64 x.pl, .int .i64 x.nx, .int .i64 x.n, .slice ta x.to.length tc] 116)) (.cells #[.bool o.isSome, .int .i64 (o.getD (0, 0)).1, .int .i64 (o.getD (0, 0)).2] 113)
      rw [show (w.alloc (.cells #[.int .i64 x.op, .int .i64 x.pl, .int .i64 x.nx, .int .i64 x.n, .slice ta x.to.length tc] 116)).heap.size = w.heap.size + 1 by simp] at this
      exact this
  clear hHeld hH0 k0 k1 k2 f0 f1 f2 f3 f4 f5 f6
  generalize (((w.alloc (.cells #[.int .i64 x.op, .int .i64 x.pl, .int .i64 x.nx, .int .i64 x.n, .slice ta x.to.length tc] 116)).alloc (.cells #[.bool o.isSome, .int .i64 (o.getD (0, 0)).1, .int .i64 (o.getD (0, 0)).2] 113)).drew) = wq at *
  obtain ⟨q0, q1, q2, q3, q4, q5, q6, q7, hq⟩ := HF.out.facts
  obtain ⟨f0, f1, f2, f3, f4, f5, f6, hL2⟩ := HF.out.look.facts
  go_wp2_with fail
  refine wp_region_held_drew (S := fun w' => w'.cell? ⟨w.heap.size, 0, none⟩ = some (.int .i64 x.op) ∧ w'.cell? ⟨w.heap.size, 1, none⟩ = some (.int .i64 x.pl) ∧ w'.cell? ⟨w.heap.size, 2, none⟩ = some (.int .i64 x.nx) ∧ w'.cell? ⟨w.heap.size, 3, none⟩ = some (.int .i64 x.n) ∧ w'.cell? ⟨w.heap.size, 4, none⟩ = some (.slice ta x.to.length tc) ∧ w'.cell? ⟨L, 0, none⟩ = some (.slice (some ⟨b, off, none⟩) S.length cap) ∧ w'.cell? ⟨L, 1, none⟩ = some (.int .i64 s.i) ∧ w'.cell? ⟨L, 2, none⟩ = some (.int .i64 s.o) ∧ w'.cell? ⟨L, 3, none⟩ = some (.int .i64 s.m) ∧ w'.cell? ⟨L, 4, none⟩ = some (.string s.code)) (by kernel_rfl) ⟨q0, q1, q2, q3, q4, f0, f1, f2, f3, f4⟩ (fun hHeld => ?_)
  refine wpAnyH_take (i := 0) (v := ?vb0) rfl (by kernel_rfl) (by kernel_rfl) (by kernel_rfl) (fun _ _ _ h => h) (Or.inl ⟨by rfl, ?hyb0⟩) hHeld ?restb0
  case hyb0 => intro w hSw; obtain ⟨s0, s1, s2, s3, s4, s5, s6, s7, s8, s9⟩ := hSw; go_simp; try with_reducible rfl
  simp only [Act.put, List.setIfInBounds_toArray, List.set_cons_zero, List.set_cons_succ, List.getElem_toArray, List.getElem_cons_zero]
  refine wpAnyH_take (i := 1) (v := ?vb1) rfl (by kernel_rfl) (by kernel_rfl) (by kernel_rfl) (fun _ _ _ h => h) (Or.inl ⟨by rfl, ?hyb1⟩) hHeld ?restb1
  case hyb1 => intro w hSw; obtain ⟨s0, s1, s2, s3, s4, s5, s6, s7, s8, s9⟩ := hSw; go_simp; try with_reducible rfl
  simp only [Act.put, List.setIfInBounds_toArray, List.set_cons_zero, List.set_cons_succ, List.getElem_toArray, List.getElem_cons_zero, List.getElem_cons_succ]
  refine wpAnyH_take (i := 2) (v := ?vb2) rfl (by kernel_rfl) (by kernel_rfl) (by kernel_rfl) (fun _ _ _ h => h) (Or.inl ⟨by rfl, ?hyb2⟩) hHeld ?restb2
  case hyb2 => intro w hSw; obtain ⟨s0, s1, s2, s3, s4, s5, s6, s7, s8, s9⟩ := hSw; go_simp; try with_reducible rfl
  simp only [Act.put, List.setIfInBounds_toArray, List.set_cons_zero, List.set_cons_succ, List.getElem_toArray, List.getElem_cons_zero, List.getElem_cons_succ]
  refine wpAnyH_take (i := 3) (v := ?vb3) rfl (by kernel_rfl) (by kernel_rfl) (by kernel_rfl) (fun _ _ _ h => h) (Or.inl ⟨by rfl, ?hyb3⟩) hHeld ?restb3
  case hyb3 => intro w hSw; obtain ⟨s0, s1, s2, s3, s4, s5, s6, s7, s8, s9⟩ := hSw; go_simp; try with_reducible rfl
  simp only [Act.put, List.setIfInBounds_toArray, List.set_cons_zero, List.set_cons_succ, List.getElem_toArray, List.getElem_cons_zero, List.getElem_cons_succ]
  refine wpAnyH_take (i := 4) (v := ?vb4) rfl (by kernel_rfl) (by kernel_rfl) (by kernel_rfl) (fun _ _ _ h => h) (Or.inl ⟨by rfl, ?hyb4⟩) hHeld ?restb4
  case hyb4 => intro w hSw; obtain ⟨s0, s1, s2, s3, s4, s5, s6, s7, s8, s9⟩ := hSw; go_simp; try with_reducible rfl
  simp only [Act.put, List.setIfInBounds_toArray, List.set_cons_zero, List.set_cons_succ, List.getElem_toArray, List.getElem_cons_zero, List.getElem_cons_succ]
  refine wpAnyH_take (i := 5) (v := ?vb5) rfl (by kernel_rfl) (by kernel_rfl) (by kernel_rfl) (fun _ _ _ h => h) (Or.inl ⟨by rfl, ?hyb5⟩) hHeld ?restb5
  case hyb5 => intro w hSw; obtain ⟨s0, s1, s2, s3, s4, s5, s6, s7, s8, s9⟩ := hSw; go_simp; try with_reducible rfl
  simp only [Act.put, List.setIfInBounds_toArray, List.set_cons_zero, List.set_cons_succ, List.getElem_toArray, List.getElem_cons_zero, List.getElem_cons_succ]
  refine wpAnyH_take (i := 6) (v := ?vb6) rfl (by kernel_rfl) (by kernel_rfl) (by kernel_rfl) (fun _ _ _ h => h) (Or.inl ⟨by rfl, ?hyb6⟩) hHeld ?restb6
  case hyb6 => intro w hSw; obtain ⟨s0, s1, s2, s3, s4, s5, s6, s7, s8, s9⟩ := hSw; go_simp; try with_reducible rfl
  simp only [Act.put, List.setIfInBounds_toArray, List.set_cons_zero, List.set_cons_succ, List.getElem_toArray, List.getElem_cons_zero, List.getElem_cons_succ]
  refine wpAnyH_take (i := 7) (v := ?vb7) rfl (by kernel_rfl) (by kernel_rfl) (by kernel_rfl) (fun _ _ _ h => h) (Or.inl ⟨by rfl, ?hyb7⟩) hHeld ?restb7
  case hyb7 => intro w hSw; obtain ⟨s0, s1, s2, s3, s4, s5, s6, s7, s8, s9⟩ := hSw; go_simp; try with_reducible rfl
  simp only [Act.put, List.setIfInBounds_toArray, List.set_cons_zero, List.set_cons_succ, List.getElem_toArray, List.getElem_cons_zero, List.getElem_cons_succ]
  refine wpAnyH_take (i := 8) (v := ?vb8) rfl (by kernel_rfl) (by kernel_rfl) (by kernel_rfl) (fun _ _ _ h => h) (Or.inl ⟨by rfl, ?hyb8⟩) hHeld ?restb8
  case hyb8 => intro w hSw; obtain ⟨s0, s1, s2, s3, s4, s5, s6, s7, s8, s9⟩ := hSw; go_simp; try with_reducible rfl
  simp only [Act.put, List.setIfInBounds_toArray, List.set_cons_zero, List.set_cons_succ, List.getElem_toArray, List.getElem_cons_zero, List.getElem_cons_succ]
  refine wpAnyH_ready (rs := [9]) (by kernel_rfl) (by simp) ?_
  refine AllReadyH.cons (i := 9) rfl (fun K hK => ?_) AllReadyH.nil
  simp only [List.getElem_toArray, List.getElem_cons_zero, List.getElem_cons_succ]
  go_simp
  have HFd := hidc (HF.out.below (Below.refl _ _).drew)
  refine (effect_all S x b off cap _ s _ HFd.out.look.rows HFd.out.look.secs x1 x2 HNM.out).mono ?_
  rintro e w3 ⟨rfl, hb3⟩
  have HF3 := hidc (HFd.out.below hb3)
  clear q0 q1 q2 q3 q4 q5 q6 q7 hq f0 f1 f2 f3 f4 f5 f6 hL2 hHeld
  obtain ⟨q0, q1, q2, q3, q4, q5, q6, q7, hq⟩ := HF3.out.facts
  obtain ⟨f0, f1, f2, f3, f4, f5, f6, hL2⟩ := HF3.out.look.facts
  go_wp2_with fail
  refine hK.out _ _ ⟨q0, q1, q2, q3, q4, f0, f1, f2, f3, f4⟩ (fun hHeld => ?_)
  clear hK
  refine wpAnyH_take (i := 10) (v := ?vc10) rfl (by kernel_rfl) (by kernel_rfl) (by kernel_rfl) (fun _ _ _ h => h) (Or.inl ⟨by rfl, ?hyc10⟩) hHeld ?restc10
  case hyc10 => intro w hSw; obtain ⟨s0, s1, s2, s3, s4, s5, s6, s7, s8, s9⟩ := hSw; go_simp; try with_reducible rfl
  simp only [Act.put, List.setIfInBounds_toArray, List.set_cons_zero, List.set_cons_succ, List.getElem_toArray, List.getElem_cons_zero, List.getElem_cons_succ]
  refine wpAnyH_take (i := 11) (v := ?vc11) rfl (by kernel_rfl) (by kernel_rfl) (by kernel_rfl) (fun _ _ _ h => h) (Or.inl ⟨by rfl, ?hyc11⟩) hHeld ?restc11
  case hyc11 => intro w hSw; obtain ⟨s0, s1, s2, s3, s4, s5, s6, s7, s8, s9⟩ := hSw; go_simp; try with_reducible rfl
  simp only [Act.put, List.setIfInBounds_toArray, List.set_cons_zero, List.set_cons_succ, List.getElem_toArray, List.getElem_cons_zero, List.getElem_cons_succ]
  refine wpAnyH_take (i := 12) (v := ?vc12) rfl (by kernel_rfl) (by kernel_rfl) (by kernel_rfl) (fun _ _ _ h => h) (Or.inl ⟨by rfl, ?hyc12⟩) hHeld ?restc12
  case hyc12 => intro w hSw; obtain ⟨s0, s1, s2, s3, s4, s5, s6, s7, s8, s9⟩ := hSw; go_simp; try with_reducible rfl
  simp only [Act.put, List.setIfInBounds_toArray, List.set_cons_zero, List.set_cons_succ, List.getElem_toArray, List.getElem_cons_zero, List.getElem_cons_succ]
  refine wpAnyH_take (i := 13) (v := ?vc13) rfl (by kernel_rfl) (by kernel_rfl) (by kernel_rfl) (fun _ _ _ h => h) (Or.inl ⟨by rfl, ?hyc13⟩) hHeld ?restc13
  case hyc13 => intro w hSw; obtain ⟨s0, s1, s2, s3, s4, s5, s6, s7, s8, s9⟩ := hSw; go_simp; try with_reducible rfl
  simp only [Act.put, List.setIfInBounds_toArray, List.set_cons_zero, List.set_cons_succ, List.getElem_toArray, List.getElem_cons_zero, List.getElem_cons_succ]
  refine wpAnyH_take (i := 14) (v := ?vc14) rfl (by kernel_rfl) (by kernel_rfl) (by kernel_rfl) (fun _ _ _ h => h) (Or.inl ⟨by rfl, ?hyc14⟩) hHeld ?restc14
  case hyc14 => intro w hSw; obtain ⟨s0, s1, s2, s3, s4, s5, s6, s7, s8, s9⟩ := hSw; go_simp; try with_reducible rfl
  simp only [Act.put, List.setIfInBounds_toArray, List.set_cons_zero, List.set_cons_succ, List.getElem_toArray, List.getElem_cons_zero, List.getElem_cons_succ]
  refine wpAnyH_done (by kernel_rfl) ?_ _
  clear hHeld HF HFd
  cases o with
  | none =>
    simp only [Option.isSome_none, Option.getD_none] at q5 q6 q7
    have HE : Hid (passE S s l i x hs = 10) := passE_ahead (by rw [HOG.out]; rfl) (by decide)
    go_wp2_with fail
    go_ret
    exact ⟨ret_intn HE.out.symm, HF3.out.kp, fun h => by rw [HE.out] at h; cases h⟩
  | some o =>
    obtain ⟨lo, hi⟩ := o
    obtain ⟨o1, o2, o3, o4⟩ := HOB.out _ rfl
    simp only at o1 o2 o3 o4
    simp only [Option.isSome_some, Option.getD_some] at q5 q6 q7
    by_cases hlow : lo < takesI S s x
    · have HE : Hid (passE S s l i x hs = 11) := passE_ahead (by rw [HOG.out]; simp [aheadE, hlow]) (by decide)
      go_wp2_with fail
      go_ret
      exact ⟨ret_intn HE.out.symm, HF3.out.kp, fun h => by rw [HE.out] at h; cases h⟩
    · have hx20 : x.op = 20 → x.n < S.length := fun e => HNM.out (by simp [namesB, e])
      cases hr : returnsB S x
      · go_wp2_with (go_at_call 84; refine (look_returns HF3.out.look x _ hx20).mono ?_; rw [hr]; rintro e w5 ⟨rfl, hb5⟩; have HF5 := hidc (HF3.out.below hb5); clear q0 q1 q2 q3 q4 q5 q6 q7 hq f0 f1 f2 f3 f4 f5 f6 hL2; obtain ⟨q0, q1, q2, q3, q4, q5, q6, q7, hq⟩ := HF5.out.facts; obtain ⟨f0, f1, f2, f3, f4, f5, f6, hL2⟩ := HF5.out.look.facts; simp only [Option.isSome_some, Option.getD_some] at q5 q6 q7)
        cases hlast : lastT x.op
        · skip
          go_wp2_with fail
          refine wp_region_held_drew (S := fun w' => w'.cell? ⟨w.heap.size, 0, none⟩ = some (.int .i64 x.op) ∧ w'.cell? ⟨w.heap.size, 1, none⟩ = some (.int .i64 x.pl) ∧ w'.cell? ⟨w.heap.size, 2, none⟩ = some (.int .i64 x.nx) ∧ w'.cell? ⟨w.heap.size, 3, none⟩ = some (.int .i64 x.n) ∧ w'.cell? ⟨w.heap.size, 4, none⟩ = some (.slice ta x.to.length tc) ∧ w'.cell? ⟨L, 4, none⟩ = some (.string s.code)) (by kernel_rfl) ⟨q0, q1, q2, q3, q4, f4⟩ (fun hHeld => ?_)
          refine wpAnyH_take (i := 0) (v := ?vdp0) rfl (by kernel_rfl) (by kernel_rfl) (by kernel_rfl) (fun _ _ _ h => h) (Or.inl ⟨by rfl, ?hydp0⟩) hHeld ?restdp0
          case hydp0 => intro w hSw; obtain ⟨s0, s1, s2, s3, s4, s5⟩ := hSw; go_simp; try with_reducible rfl
          simp only [Act.put, List.setIfInBounds_toArray, List.set_cons_zero, List.set_cons_succ, List.getElem_toArray, List.getElem_cons_zero]
          refine wpAnyH_ready (rs := [1]) (by kernel_rfl) (by simp) ?_
          refine AllReadyH.cons (i := 1) rfl (fun K hK => ?_) AllReadyH.nil
          simp only [List.getElem_toArray, List.getElem_cons_zero, List.getElem_cons_succ]
          go_simp
          have HFx := hidc (HF5.out.below (Below.refl _ _).drew)
          refine (ops_last x _ _ HFx.out.look.rows x1).mono ?_
          rw [hlast]
          rintro e w6 ⟨rfl, hb6⟩
          have HF6 := hidc (HFx.out.below hb6)
          clear hHeld
          clear q0 q1 q2 q3 q4 q5 q6 q7 hq f0 f1 f2 f3 f4 f5 f6 hL2
          obtain ⟨q0, q1, q2, q3, q4, q5, q6, q7, hq⟩ := HF6.out.facts
          obtain ⟨f0, f1, f2, f3, f4, f5, f6, hL2⟩ := HF6.out.look.facts
          simp only [Option.isSome_some, Option.getD_some] at q5 q6 q7
          go_wp2_with fail
          refine hK.out _ _ ⟨q0, q1, q2, q3, q4, f4⟩ (fun hHeld => ?_)
          clear hK
          refine wpAnyH_take (i := 2) (v := ?vdq2) rfl (by kernel_rfl) (by kernel_rfl) (by kernel_rfl) (fun _ _ _ h => h) (Or.inl ⟨by rfl, ?hydq2⟩) hHeld ?restdq2
          case hydq2 => intro w hSw; obtain ⟨s0, s1, s2, s3, s4, s5⟩ := hSw; go_simp; try with_reducible rfl
          simp only [Act.put, List.setIfInBounds_toArray, List.set_cons_zero, List.set_cons_succ, List.getElem_toArray, List.getElem_cons_zero, List.getElem_cons_succ]
          refine wpAnyH_take (i := 3) (v := ?vdq3) rfl (by kernel_rfl) (by kernel_rfl) (by kernel_rfl) (fun _ _ _ h => h) (Or.inl ⟨by rfl, ?hydq3⟩) hHeld ?restdq3
          case hydq3 => intro w hSw; obtain ⟨s0, s1, s2, s3, s4, s5⟩ := hSw; go_simp; try with_reducible rfl
          simp only [Act.put, List.setIfInBounds_toArray, List.set_cons_zero, List.set_cons_succ, List.getElem_toArray, List.getElem_cons_zero, List.getElem_cons_succ]
          refine wpAnyH_take (i := 4) (v := ?vdu4) rfl (by kernel_rfl) (by kernel_rfl) (by kernel_rfl) (fun _ _ _ h => h) (Or.inl ⟨by rfl, ?hydu4⟩) hHeld ?restdu4
          case hydu4 => intro w hSw; obtain ⟨s0, s1, s2, s3, s4, s5⟩ := hSw; go_simp; try with_reducible rfl
          simp only [Act.put, List.setIfInBounds_toArray, List.set_cons_zero, List.set_cons_succ, List.getElem_toArray, List.getElem_cons_zero, List.getElem_cons_succ]
          refine wpAnyH_take (i := 5) (v := ?vdu5) rfl (by kernel_rfl) (by kernel_rfl) (by kernel_rfl) (fun _ _ _ h => h) (Or.inl ⟨by rfl, ?hydu5⟩) hHeld ?restdu5
          case hydu5 => intro w hSw; obtain ⟨s0, s1, s2, s3, s4, s5⟩ := hSw; go_simp; try with_reducible rfl
          simp only [Act.put, List.setIfInBounds_toArray, List.set_cons_zero, List.set_cons_succ, List.getElem_toArray, List.getElem_cons_zero, List.getElem_cons_succ]
          refine wpAnyH_take (i := 6) (v := ?vdu6) rfl (by kernel_rfl) (by kernel_rfl) (by kernel_rfl) (fun _ _ _ h => h) (Or.inl ⟨by rfl, ?hydu6⟩) hHeld ?restdu6
          case hydu6 => intro w hSw; obtain ⟨s0, s1, s2, s3, s4, s5⟩ := hSw; go_simp; try with_reducible rfl
          simp only [Act.put, List.setIfInBounds_toArray, List.set_cons_zero, List.set_cons_succ, List.getElem_toArray, List.getElem_cons_zero, List.getElem_cons_succ]
          refine wpAnyH_take (i := 7) (v := ?vdu7) rfl (by kernel_rfl) (by kernel_rfl) (by kernel_rfl) (fun _ _ _ h => h) (Or.inl ⟨by rfl, ?hydu7⟩) hHeld ?restdu7
          case hydu7 => intro w hSw; obtain ⟨s0, s1, s2, s3, s4, s5⟩ := hSw; go_simp; try with_reducible rfl
          simp only [Act.put, List.setIfInBounds_toArray, List.set_cons_zero, List.set_cons_succ, List.getElem_toArray, List.getElem_cons_zero, List.getElem_cons_succ]
          refine wpAnyH_take (i := 8) (v := ?vdu8) rfl (by kernel_rfl) (by kernel_rfl) (by kernel_rfl) (fun _ _ _ h => h) (Or.inl ⟨by rfl, ?hydu8⟩) hHeld ?restdu8
          case hydu8 => intro w hSw; obtain ⟨s0, s1, s2, s3, s4, s5⟩ := hSw; go_simp; try with_reducible rfl
          simp only [Act.put, List.setIfInBounds_toArray, List.set_cons_zero, List.set_cons_succ, List.getElem_toArray, List.getElem_cons_zero, List.getElem_cons_succ]
          refine wpAnyH_take (i := 9) (v := ?vdu9) rfl (by kernel_rfl) (by kernel_rfl) (by kernel_rfl) (fun _ _ _ h => h) (Or.inl ⟨by rfl, ?hydu9⟩) hHeld ?restdu9
          case hydu9 => intro w hSw; obtain ⟨s0, s1, s2, s3, s4, s5⟩ := hSw; go_simp; try with_reducible rfl
          simp only [Act.put, List.setIfInBounds_toArray, List.set_cons_zero, List.set_cons_succ, List.getElem_toArray, List.getElem_cons_zero, List.getElem_cons_succ]
          refine wpAnyH_take (i := 10) (v := ?vdu10) rfl (by kernel_rfl) (by kernel_rfl) (by kernel_rfl) (fun _ _ _ h => h) (Or.inl ⟨by rfl, ?hydu10⟩) hHeld ?restdu10
          case hydu10 => intro w hSw; obtain ⟨s0, s1, s2, s3, s4, s5⟩ := hSw; go_simp; try with_reducible rfl
          simp only [Act.put, List.setIfInBounds_toArray, List.set_cons_zero, List.set_cons_succ, List.getElem_toArray, List.getElem_cons_zero, List.getElem_cons_succ]
          refine wpAnyH_take (i := 11) (v := ?vdu11) rfl (by kernel_rfl) (by kernel_rfl) (by kernel_rfl) (fun _ _ _ h => h) (Or.inl ⟨by rfl, ?hydu11⟩) hHeld ?restdu11
          case hydu11 => intro w hSw; obtain ⟨s0, s1, s2, s3, s4, s5⟩ := hSw; go_simp; try with_reducible rfl
          simp only [Act.put, List.setIfInBounds_toArray, List.set_cons_zero, List.set_cons_succ, List.getElem_toArray, List.getElem_cons_zero, List.getElem_cons_succ]
          refine wpAnyH_take (i := 12) (v := ?vdu12) rfl (by kernel_rfl) (by kernel_rfl) (by kernel_rfl) (fun _ _ _ h => h) (Or.inl ⟨by rfl, ?hydu12⟩) hHeld ?restdu12
          case hydu12 => intro w hSw; obtain ⟨s0, s1, s2, s3, s4, s5⟩ := hSw; go_simp; try with_reducible rfl
          simp only [Act.put, List.setIfInBounds_toArray, List.set_cons_zero, List.set_cons_succ, List.getElem_toArray, List.getElem_cons_zero, List.getElem_cons_succ]
          refine wpAnyH_take (i := 13) (v := ?vdr13) rfl (by kernel_rfl) (by kernel_rfl) (by kernel_rfl) (fun _ _ _ h => h) (Or.inl ⟨by rfl, ?hydr13⟩) hHeld ?restdr13
          case hydr13 => intro w hSw; obtain ⟨s0, s1, s2, s3, s4, s5⟩ := hSw; go_simp; try with_reducible rfl
          simp only [Act.put, List.setIfInBounds_toArray, List.set_cons_zero, List.set_cons_succ, List.getElem_toArray, List.getElem_cons_zero, List.getElem_cons_succ]
          refine wpAnyH_take (i := 14) (v := ?vdr14) rfl (by kernel_rfl) (by kernel_rfl) (by kernel_rfl) (fun _ _ _ h => h) (Or.inl ⟨by rfl, ?hydr14⟩) hHeld ?restdr14
          case hydr14 => intro w hSw; obtain ⟨s0, s1, s2, s3, s4, s5⟩ := hSw; go_simp; try with_reducible rfl
          simp only [Act.put, List.setIfInBounds_toArray, List.set_cons_zero, List.set_cons_succ, List.getElem_toArray, List.getElem_cons_zero, List.getElem_cons_succ]
          refine wpAnyH_done (by kernel_rfl) ?_ _
          clear hHeld HFx
          cases hend : ((x.nx : Int) == (s.code.size : Int))
          · skip
            have HII : Hid (¬ i + 1 = l.length) := by
              intro hii
              have := HCH.out.last i x HX.out hii
              simp at hend
              omega
            have HA0 : Hid (aheadE S s l i x (hs.getD i none) = 0) := by
              show aheadE S s l i x (hs.getD i none) = 0
              rw [HOG.out]
              simp [aheadE, hlow, hr, hlast, HII.out]
            have HG : Hid (afterI S s x ((hs.getD i none).getD (0, 0)) = ((lo - takesI S s x + bringsI S x), (hi - takesI S s x + bringsI S x))) := by
              show afterI S s x ((hs.getD i none).getD (0, 0)) = ((lo - takesI S s x + bringsI S x), (hi - takesI S s x + bringsI S x))
              rw [HOG.out]
              rfl
            have hqa : w.heap.size < w6.heap.size := by omega
            have hqb : w.heap.size + 1 < w6.heap.size := by omega
            go_wp2_with fail
            have HF7 := hidc (HF6.out.below ((Below.refl _ _).alloc (Nat.le_refl _) (.cells #[.bool true, .int .i64 (lo - takesI S s x + bringsI S x), .int .i64 (hi - takesI S s x + bringsI S x)] 113)))
            have HGB := hidc (heap_alloc_new w6 (.cells #[.bool true, .int .i64 (lo - takesI S s x + bringsI S x), .int .i64 (hi - takesI S s x + bringsI S x)] 113))
            clear q0 q1 q2 q3 q4 q5 q6 q7 f0 f1 f2 f3 f4 f5 f6 hL2
            go_loopw [83] (fun iv wr => ∃ (k : Nat) (hsk : List (Option (Int × Int))) (csk : Array Value), k ≤ x.to.length ∧ iv = .int .i64 k ∧ Hid (givesH i ((lo - takesI S s x + bringsI S x), (hi - takesI S s x + bringsI S x)) hs ((x.to.map (idxP l)).take k) = some hsk) ∧ Hid (FM w wr L H S s b off cap g cc l hsk csk x ta tc (some (lo, hi))) ∧ Hid (wr.heap[w6.heap.size]? = some (.cells #[.bool true, .int .i64 (lo - takesI S s x + bringsI S x), .int .i64 (hi - takesI S s x + bringsI S x)] 113 (0, 0)))) (fun iv _ => x.to.length - (intOf iv).toNat)
            case atStart => exact ⟨0, hs, cs, Nat.zero_le _, rfl, rfl, HF7.out, HGB.out⟩
            case round =>
              obtain ⟨k, hsk, csk, hk, rfl, HGI, HFk, HGk⟩ := hrel
              obtain ⟨q0, q1, q2, q3, q4, q5, q6, q7, hq'⟩ := HFk.out.facts
              obtain ⟨f0, f1, f2, f3, f4, f5, f6, hL2⟩ := HFk.out.look.facts
              have g0 : wr.cell? ⟨w6.heap.size, 0, none⟩ = some (.bool true) := by rw [cell_of_block HGk.out]; rfl
              have g1 : wr.cell? ⟨w6.heap.size, 1, none⟩ = some (.int .i64 (lo - takesI S s x + bringsI S x)) := by rw [cell_of_block HGk.out]; rfl
              have g2 : wr.cell? ⟨w6.heap.size, 2, none⟩ = some (.int .i64 (hi - takesI S s x + bringsI S x)) := by rw [cell_of_block HGk.out]; rfl
              have hgb : w6.heap.size < wr.heap.size := blt HGk.out
              simp only [Option.isSome_some, Option.getD_some] at q5 q6 q7
              by_cases hlt : k < x.to.length
              · obtain ⟨gt, hta, hg1, hg2, ct⟩ := tos_get (HT.out.kp HFk.out.kp) k hlt
                obtain ⟨hj, hpj⟩ := idxP_spec (HBG.out x.to[k] (List.getElem_mem _))
                have HJ : Hid ((x.to.map (idxP l))[k]'(by simp [hlt]) = idxP l x.to[k]) := by show (x.to.map (idxP l))[k]'(by simp [hlt]) = idxP l x.to[k]; simp
                rw [← hpj] at ct
                have hlj := HCH.out.lt (idxP l x.to[k]) l[idxP l x.to[k]] (List.getElem?_eq_getElem hj)
                have hxe : l[i] = x := by have := HX.out; rw [List.getElem?_eq_getElem hil] at this; exact Option.some.inj this
                have hle := HCH.out.le_iff hil hj
                rw [hxe] at hle
                have HD := hidc (HCH.out.distinct hj)
                have HTA := hidc hta
                generalize hjj : idxP l x.to[k] = j at *
                have HJJ := hidc hjj
                have HXE := hidc hxe
                clear hpj hjj hxe
                subst hta
                by_cases hji : j ≤ i
                · cases hdc : decide (hsk.getD j none = some ((lo - takesI S s x + bringsI S x), (hi - takesI S s x + bringsI S x)))
                  · have HE : Hid (passE S s l i x hs = 12) := passE_back HA0.out (by
                      unfold passH nextsI
                      rw [HG.out]
                      refine givesH_stop (k := k) (by simpa using hlt) HGI.out ?_
                      rw [HJ.out]
                      unfold giveH
                      rw [if_pos hji, if_neg (of_decide_eq_false hdc)])
                    go_wp2_with (go_at_call 87; refine (give_back HFk.out.look HFk.out.hts x.pl j hj (hle.2 hji) hlj _ _).mono ?_; rw [hdc]; rintro e w8 ⟨rfl, hb8⟩)
                    go_ret
                    exact ⟨ret_intn HE.out.symm, (HFk.out.below hb8).kp, fun h => by rw [HE.out] at h; cases h⟩
                  · go_wp2_with (go_at_call 87; refine (give_back HFk.out.look HFk.out.hts x.pl j hj (hle.2 hji) hlj _ _).mono ?_; rw [hdc]; rintro e w8 ⟨rfl, hb8⟩)
                    go_roundw
                    case rel =>
                      refine ⟨k + 1, hsk, csk, by omega, by go_num, ?_, HFk.out.below hb8, keepB hb8 HGk.out⟩
                      show givesH i _ hs _ = some hsk
                      rw [givesH_snoc (by simpa using hlt) HGI.out, HJ.out]
                      unfold giveH
                      rw [if_pos hji, if_pos (of_decide_eq_true hdc)]
                    case measure => simp [intOf]; omega
                · have hlt2 : x.pl < l[j].pl := by
                    rcases Nat.lt_or_ge x.pl l[j].pl with h | h
                    · exact h
                    · exact absurd (hle.1 h) hji
                  go_wp2_with (go_at_call 87; refine (give_ahead HFk.out.look HFk.out.hts x.pl j hj hlt2 hlj HD.out _ _).mono ?_; rintro e w8 ⟨rfl, hk8, cs8, hh8⟩)
                  go_roundw
                  case rel =>
                    refine ⟨k + 1, _, cs8, by omega, by go_num, ?_, HFk.out.give hH hk8 hh8, (hk8.block _ (blt HGk.out) (by omega)).trans HGk.out⟩
                    show givesH i _ hs _ = some _
                    rw [givesH_snoc (by simpa using hlt) HGI.out, HJ.out]
                    unfold giveH
                    rw [if_neg hji]
                  case measure => simp [intOf]; omega

              · skip
                have HGJ : Hid (givesH i ((lo - takesI S s x + bringsI S x), (hi - takesI S s x + bringsI S x)) hs (x.to.map (idxP l)) = some hsk) := by
                  have := HGI.out
                  rw [List.take_of_length_le (by simp; omega)] at this
                  exact this
                have hi1 : i + 1 < l.length := by have := HII.out; omega
                have HNX := hidc (HCH.out.next i x l[i + 1] HX.out (by simp [hi1]))
                have HLT1 := hidc (HCH.out.lt (i + 1) l[i + 1] (by simp [hi1]))
                have HMO := hidc (HCH.out.mono i (i + 1) x l[i + 1] (by omega) HX.out (by simp [hi1]))
                have HP : Hid (passH S s l i x hs = some (hsk.set (i + 1) (some (mergeH ((lo - takesI S s x + bringsI S x), (hi - takesI S s x + bringsI S x)) (hsk.getD (i + 1) none))))) := by
                  show passH S s l i x hs = some _
                  unfold passH nextsI
                  rw [HG.out, hlast, givesH_append, HGJ.out]
                  show givesH i _ hsk [i + 1] = _
                  rw [givesH_one]
                  unfold giveH
                  rw [if_neg (by omega)]
                go_wp2_with (go_at_call 86; refine (ops_last x _ _ HFk.out.look.rows x1).mono ?_; rw [hlast]; rintro e w8 ⟨rfl, hb8⟩; have HF8 := hidc (HFk.out.below hb8); have HG8 := hidc (keepB hb8 HGk.out); clear q0 q1 q2 q3 q4 q5 q6 q7 f0 f1 f2 f3 f4 f5 f6 hL2 g0 g1 g2; obtain ⟨q0, q1, q2, q3, q4, q5, q6, q7, hq9⟩ := HF8.out.facts; have g0 : w8.cell? ⟨w6.heap.size, 0, none⟩ = some (.bool true) := (by rw [cell_of_block HG8.out]; rfl); have g1 : w8.cell? ⟨w6.heap.size, 1, none⟩ = some (.int .i64 (lo - takesI S s x + bringsI S x)) := (by rw [cell_of_block HG8.out]; rfl); have g2 : w8.cell? ⟨w6.heap.size, 2, none⟩ = some (.int .i64 (hi - takesI S s x + bringsI S x)) := (by rw [cell_of_block HG8.out]; rfl))
                refine (give_ahead_at HF8.out.look HF8.out.hts x.pl (i + 1) x.nx hi1 HNX.out HMO.out HLT1.out (HCH.out.distinct hi1) _ _).mono ?_
                rintro e w9 ⟨rfl, hk9, cs9, hh9⟩
                go_wp2_with fail
                go_ret
                exact ⟨ret_intn (passE_ok HA0.out HP.out).symm, (HF8.out.give hH hk9 hh9).kp, fun _ => ⟨_, cs9, HP.out, hh9⟩⟩

          · have HE : Hid (passE S s l i x hs = 14) := by
              have hnx : x.nx = s.code.size := by simp at hend; omega
              have hii : i + 1 = l.length := by
                rcases Nat.lt_or_ge (i + 1) l.length with hlt | hge
                · have := HCH.out.next i x l[i + 1] HX.out (by simp [hlt])
                  have := HCH.out.lt (i + 1) l[i + 1] (by simp [hlt])
                  omega
                · omega
              exact passE_ahead (by rw [HOG.out]; simp [aheadE, hlow, hr, hlast, hii]) (by decide)
            go_wp2_with fail
            go_ret
            exact ⟨ret_intn HE.out.symm, HF6.out.kp, fun h => by rw [HE.out] at h; cases h⟩
        · skip
          go_wp2_with fail
          refine wp_region_held_drew (S := fun w' => w'.cell? ⟨w.heap.size, 0, none⟩ = some (.int .i64 x.op) ∧ w'.cell? ⟨w.heap.size, 1, none⟩ = some (.int .i64 x.pl) ∧ w'.cell? ⟨w.heap.size, 2, none⟩ = some (.int .i64 x.nx) ∧ w'.cell? ⟨w.heap.size, 3, none⟩ = some (.int .i64 x.n) ∧ w'.cell? ⟨w.heap.size, 4, none⟩ = some (.slice ta x.to.length tc) ∧ w'.cell? ⟨L, 4, none⟩ = some (.string s.code)) (by kernel_rfl) ⟨q0, q1, q2, q3, q4, f4⟩ (fun hHeld => ?_)
          refine wpAnyH_take (i := 0) (v := ?vfp0) rfl (by kernel_rfl) (by kernel_rfl) (by kernel_rfl) (fun _ _ _ h => h) (Or.inl ⟨by rfl, ?hyfp0⟩) hHeld ?restfp0
          case hyfp0 => intro w hSw; obtain ⟨s0, s1, s2, s3, s4, s5⟩ := hSw; go_simp; try with_reducible rfl
          simp only [Act.put, List.setIfInBounds_toArray, List.set_cons_zero, List.set_cons_succ, List.getElem_toArray, List.getElem_cons_zero]
          refine wpAnyH_ready (rs := [1]) (by kernel_rfl) (by simp) ?_
          refine AllReadyH.cons (i := 1) rfl (fun K hK => ?_) AllReadyH.nil
          simp only [List.getElem_toArray, List.getElem_cons_zero, List.getElem_cons_succ]
          go_simp
          have HFx := hidc (HF5.out.below (Below.refl _ _).drew)
          refine (ops_last x _ _ HFx.out.look.rows x1).mono ?_
          rw [hlast]
          rintro e w6 ⟨rfl, hb6⟩
          have HF6 := hidc (HFx.out.below hb6)
          clear hHeld
          clear q0 q1 q2 q3 q4 q5 q6 q7 hq f0 f1 f2 f3 f4 f5 f6 hL2
          obtain ⟨q0, q1, q2, q3, q4, q5, q6, q7, hq⟩ := HF6.out.facts
          obtain ⟨f0, f1, f2, f3, f4, f5, f6, hL2⟩ := HF6.out.look.facts
          simp only [Option.isSome_some, Option.getD_some] at q5 q6 q7
          go_wp2_with fail
          refine hK.out _ _ ⟨q0, q1, q2, q3, q4, f4⟩ (fun hHeld => ?_)
          clear hK
          refine wpAnyH_take (i := 2) (v := ?vfq2) rfl (by kernel_rfl) (by kernel_rfl) (by kernel_rfl) (fun _ _ _ h => h) (Or.inl ⟨by rfl, ?hyfq2⟩) hHeld ?restfq2
          case hyfq2 => intro w hSw; obtain ⟨s0, s1, s2, s3, s4, s5⟩ := hSw; go_simp; try with_reducible rfl
          simp only [Act.put, List.setIfInBounds_toArray, List.set_cons_zero, List.set_cons_succ, List.getElem_toArray, List.getElem_cons_zero, List.getElem_cons_succ]
          refine wpAnyH_take (i := 3) (v := ?vfq3) rfl (by kernel_rfl) (by kernel_rfl) (by kernel_rfl) (fun _ _ _ h => h) (Or.inl ⟨by rfl, ?hyfq3⟩) hHeld ?restfq3
          case hyfq3 => intro w hSw; obtain ⟨s0, s1, s2, s3, s4, s5⟩ := hSw; go_simp; try with_reducible rfl
          simp only [Act.put, List.setIfInBounds_toArray, List.set_cons_zero, List.set_cons_succ, List.getElem_toArray, List.getElem_cons_zero, List.getElem_cons_succ]
          refine wpAnyH_take (i := 4) (v := undef) rfl (by kernel_rfl) (by kernel_rfl) (by kernel_rfl) (fun _ _ _ h => h) (Or.inr ⟨by rfl, rfl⟩) hHeld ?_
          simp only [Act.put, List.setIfInBounds_toArray, List.set_cons_zero, List.set_cons_succ, List.getElem_toArray, List.getElem_cons_zero, List.getElem_cons_succ]
          refine wpAnyH_take (i := 5) (v := undef) rfl (by kernel_rfl) (by kernel_rfl) (by kernel_rfl) (fun _ _ _ h => h) (Or.inr ⟨by rfl, rfl⟩) hHeld ?_
          simp only [Act.put, List.setIfInBounds_toArray, List.set_cons_zero, List.set_cons_succ, List.getElem_toArray, List.getElem_cons_zero, List.getElem_cons_succ]
          refine wpAnyH_take (i := 6) (v := undef) rfl (by kernel_rfl) (by kernel_rfl) (by kernel_rfl) (fun _ _ _ h => h) (Or.inr ⟨by rfl, rfl⟩) hHeld ?_
          simp only [Act.put, List.setIfInBounds_toArray, List.set_cons_zero, List.set_cons_succ, List.getElem_toArray, List.getElem_cons_zero, List.getElem_cons_succ]
          refine wpAnyH_take (i := 7) (v := undef) rfl (by kernel_rfl) (by kernel_rfl) (by kernel_rfl) (fun _ _ _ h => h) (Or.inr ⟨by rfl, rfl⟩) hHeld ?_
          simp only [Act.put, List.setIfInBounds_toArray, List.set_cons_zero, List.set_cons_succ, List.getElem_toArray, List.getElem_cons_zero, List.getElem_cons_succ]
          refine wpAnyH_take (i := 8) (v := undef) rfl (by kernel_rfl) (by kernel_rfl) (by kernel_rfl) (fun _ _ _ h => h) (Or.inr ⟨by rfl, rfl⟩) hHeld ?_
          simp only [Act.put, List.setIfInBounds_toArray, List.set_cons_zero, List.set_cons_succ, List.getElem_toArray, List.getElem_cons_zero, List.getElem_cons_succ]
          refine wpAnyH_take (i := 9) (v := undef) rfl (by kernel_rfl) (by kernel_rfl) (by kernel_rfl) (fun _ _ _ h => h) (Or.inr ⟨by rfl, rfl⟩) hHeld ?_
          simp only [Act.put, List.setIfInBounds_toArray, List.set_cons_zero, List.set_cons_succ, List.getElem_toArray, List.getElem_cons_zero, List.getElem_cons_succ]
          refine wpAnyH_take (i := 10) (v := undef) rfl (by kernel_rfl) (by kernel_rfl) (by kernel_rfl) (fun _ _ _ h => h) (Or.inr ⟨by rfl, rfl⟩) hHeld ?_
          simp only [Act.put, List.setIfInBounds_toArray, List.set_cons_zero, List.set_cons_succ, List.getElem_toArray, List.getElem_cons_zero, List.getElem_cons_succ]
          refine wpAnyH_take (i := 11) (v := undef) rfl (by kernel_rfl) (by kernel_rfl) (by kernel_rfl) (fun _ _ _ h => h) (Or.inr ⟨by rfl, rfl⟩) hHeld ?_
          simp only [Act.put, List.setIfInBounds_toArray, List.set_cons_zero, List.set_cons_succ, List.getElem_toArray, List.getElem_cons_zero, List.getElem_cons_succ]
          refine wpAnyH_take (i := 12) (v := undef) rfl (by kernel_rfl) (by kernel_rfl) (by kernel_rfl) (fun _ _ _ h => h) (Or.inr ⟨by rfl, rfl⟩) hHeld ?_
          simp only [Act.put, List.setIfInBounds_toArray, List.set_cons_zero, List.set_cons_succ, List.getElem_toArray, List.getElem_cons_zero, List.getElem_cons_succ]
          refine wpAnyH_take (i := 13) (v := ?vfr13) rfl (by kernel_rfl) (by kernel_rfl) (by kernel_rfl) (fun _ _ _ h => h) (Or.inl ⟨by rfl, ?hyfr13⟩) hHeld ?restfr13
          case hyfr13 => intro w hSw; obtain ⟨s0, s1, s2, s3, s4, s5⟩ := hSw; go_simp; try with_reducible rfl
          simp only [Act.put, List.setIfInBounds_toArray, List.set_cons_zero, List.set_cons_succ, List.getElem_toArray, List.getElem_cons_zero, List.getElem_cons_succ]
          refine wpAnyH_take (i := 14) (v := ?vfr14) rfl (by kernel_rfl) (by kernel_rfl) (by kernel_rfl) (fun _ _ _ h => h) (Or.inl ⟨by rfl, ?hyfr14⟩) hHeld ?restfr14
          case hyfr14 => intro w hSw; obtain ⟨s0, s1, s2, s3, s4, s5⟩ := hSw; go_simp; try with_reducible rfl
          simp only [Act.put, List.setIfInBounds_toArray, List.set_cons_zero, List.set_cons_succ, List.getElem_toArray, List.getElem_cons_zero, List.getElem_cons_succ]
          refine wpAnyH_done (by kernel_rfl) ?_ _
          clear hHeld HFx
          have HA0 : Hid (aheadE S s l i x (hs.getD i none) = 0) := by
            show aheadE S s l i x (hs.getD i none) = 0
            rw [HOG.out]
            simp [aheadE, hlow, hr, hlast]
          have HG : Hid (afterI S s x ((hs.getD i none).getD (0, 0)) = ((lo - takesI S s x + bringsI S x), (hi - takesI S s x + bringsI S x))) := by
            show afterI S s x ((hs.getD i none).getD (0, 0)) = ((lo - takesI S s x + bringsI S x), (hi - takesI S s x + bringsI S x))
            rw [HOG.out]
            rfl
          have hqa : w.heap.size < w6.heap.size := by omega
          have hqb : w.heap.size + 1 < w6.heap.size := by omega
          go_wp2_with fail
          have HF7 := hidc (HF6.out.below ((Below.refl _ _).alloc (Nat.le_refl _) (.cells #[.bool true, .int .i64 (lo - takesI S s x + bringsI S x), .int .i64 (hi - takesI S s x + bringsI S x)] 113)))
          have HGB := hidc (heap_alloc_new w6 (.cells #[.bool true, .int .i64 (lo - takesI S s x + bringsI S x), .int .i64 (hi - takesI S s x + bringsI S x)] 113))
          clear q0 q1 q2 q3 q4 q5 q6 q7 f0 f1 f2 f3 f4 f5 f6 hL2
          go_loopw [83] (fun iv wr => ∃ (k : Nat) (hsk : List (Option (Int × Int))) (csk : Array Value), k ≤ x.to.length ∧ iv = .int .i64 k ∧ Hid (givesH i ((lo - takesI S s x + bringsI S x), (hi - takesI S s x + bringsI S x)) hs ((x.to.map (idxP l)).take k) = some hsk) ∧ Hid (FM w wr L H S s b off cap g cc l hsk csk x ta tc (some (lo, hi))) ∧ Hid (wr.heap[w6.heap.size]? = some (.cells #[.bool true, .int .i64 (lo - takesI S s x + bringsI S x), .int .i64 (hi - takesI S s x + bringsI S x)] 113 (0, 0)))) (fun iv _ => x.to.length - (intOf iv).toNat)
          case atStart => exact ⟨0, hs, cs, Nat.zero_le _, rfl, rfl, HF7.out, HGB.out⟩
          case round =>
            obtain ⟨k, hsk, csk, hk, rfl, HGI, HFk, HGk⟩ := hrel
            obtain ⟨q0, q1, q2, q3, q4, q5, q6, q7, hq'⟩ := HFk.out.facts
            obtain ⟨f0, f1, f2, f3, f4, f5, f6, hL2⟩ := HFk.out.look.facts
            have g0 : wr.cell? ⟨w6.heap.size, 0, none⟩ = some (.bool true) := by rw [cell_of_block HGk.out]; rfl
            have g1 : wr.cell? ⟨w6.heap.size, 1, none⟩ = some (.int .i64 (lo - takesI S s x + bringsI S x)) := by rw [cell_of_block HGk.out]; rfl
            have g2 : wr.cell? ⟨w6.heap.size, 2, none⟩ = some (.int .i64 (hi - takesI S s x + bringsI S x)) := by rw [cell_of_block HGk.out]; rfl
            have hgb : w6.heap.size < wr.heap.size := blt HGk.out
            simp only [Option.isSome_some, Option.getD_some] at q5 q6 q7
            by_cases hlt : k < x.to.length
            · obtain ⟨gt, hta, hg1, hg2, ct⟩ := tos_get (HT.out.kp HFk.out.kp) k hlt
              obtain ⟨hj, hpj⟩ := idxP_spec (HBG.out x.to[k] (List.getElem_mem _))
              have HJ : Hid ((x.to.map (idxP l))[k]'(by simp [hlt]) = idxP l x.to[k]) := by show (x.to.map (idxP l))[k]'(by simp [hlt]) = idxP l x.to[k]; simp
              rw [← hpj] at ct
              have hlj := HCH.out.lt (idxP l x.to[k]) l[idxP l x.to[k]] (List.getElem?_eq_getElem hj)
              have hxe : l[i] = x := by have := HX.out; rw [List.getElem?_eq_getElem hil] at this; exact Option.some.inj this
              have hle := HCH.out.le_iff hil hj
              rw [hxe] at hle
              have HD := hidc (HCH.out.distinct hj)
              have HTA := hidc hta
              generalize hjj : idxP l x.to[k] = j at *
              have HJJ := hidc hjj
              have HXE := hidc hxe
              clear hpj hjj hxe
              subst hta
              by_cases hji : j ≤ i
              · cases hdc : decide (hsk.getD j none = some ((lo - takesI S s x + bringsI S x), (hi - takesI S s x + bringsI S x)))
                · have HE : Hid (passE S s l i x hs = 12) := passE_back HA0.out (by
                    unfold passH nextsI
                    rw [HG.out]
                    refine givesH_stop (k := k) (by simpa using hlt) HGI.out ?_
                    rw [HJ.out]
                    unfold giveH
                    rw [if_pos hji, if_neg (of_decide_eq_false hdc)])
                  go_wp2_with (go_at_call 87; refine (give_back HFk.out.look HFk.out.hts x.pl j hj (hle.2 hji) hlj _ _).mono ?_; rw [hdc]; rintro e w8 ⟨rfl, hb8⟩)
                  go_ret
                  exact ⟨ret_intn HE.out.symm, (HFk.out.below hb8).kp, fun h => by rw [HE.out] at h; cases h⟩
                · go_wp2_with (go_at_call 87; refine (give_back HFk.out.look HFk.out.hts x.pl j hj (hle.2 hji) hlj _ _).mono ?_; rw [hdc]; rintro e w8 ⟨rfl, hb8⟩)
                  go_roundw
                  case rel =>
                    refine ⟨k + 1, hsk, csk, by omega, by go_num, ?_, HFk.out.below hb8, keepB hb8 HGk.out⟩
                    show givesH i _ hs _ = some hsk
                    rw [givesH_snoc (by simpa using hlt) HGI.out, HJ.out]
                    unfold giveH
                    rw [if_pos hji, if_pos (of_decide_eq_true hdc)]
                  case measure => simp [intOf]; omega
              · have hlt2 : x.pl < l[j].pl := by
                  rcases Nat.lt_or_ge x.pl l[j].pl with h | h
                  · exact h
                  · exact absurd (hle.1 h) hji
                go_wp2_with (go_at_call 87; refine (give_ahead HFk.out.look HFk.out.hts x.pl j hj hlt2 hlj HD.out _ _).mono ?_; rintro e w8 ⟨rfl, hk8, cs8, hh8⟩)
                go_roundw
                case rel =>
                  refine ⟨k + 1, _, cs8, by omega, by go_num, ?_, HFk.out.give hH hk8 hh8, (hk8.block _ (blt HGk.out) (by omega)).trans HGk.out⟩
                  show givesH i _ hs _ = some _
                  rw [givesH_snoc (by simpa using hlt) HGI.out, HJ.out]
                  unfold giveH
                  rw [if_neg hji]
                case measure => simp [intOf]; omega

            · skip
              have HGJ : Hid (givesH i ((lo - takesI S s x + bringsI S x), (hi - takesI S s x + bringsI S x)) hs (x.to.map (idxP l)) = some hsk) := by
                have := HGI.out
                rw [List.take_of_length_le (by simp; omega)] at this
                exact this
              have HP : Hid (passH S s l i x hs = some hsk) := by
                show passH S s l i x hs = some hsk
                unfold passH nextsI
                rw [HG.out, hlast]
                simpa using HGJ.out
              go_wp2_with (go_at_call 86; refine (ops_last x _ _ HFk.out.look.rows x1).mono ?_; rw [hlast]; rintro e w8 ⟨rfl, hb8⟩)
              go_ret
              exact ⟨ret_intn (passE_ok HA0.out HP.out).symm, (HFk.out.below hb8).kp, fun _ => ⟨hsk, csk, HP.out, (HFk.out.below hb8).hts⟩⟩

      · have hlast : lastT x.op = true := by
          unfold returnsB at hr
          simp at hr
          rcases hr with h | ⟨h, _⟩ <;> simp [lastT, h]
        cases hm : mayReturnB S s x lo hi
        · have HE : Hid (passE S s l i x hs = 13) := passE_ahead (by rw [HOG.out]; simp [aheadE, hlow, hr, hm]) (by decide)
          go_wp2_with (first | (go_at_call 84; refine (look_returns HF3.out.look x _ hx20).mono ?_; rw [hr]; rintro e w5 ⟨rfl, hb5⟩; have HF5 := hidc (HF3.out.below hb5); clear q0 q1 q2 q3 q4 q5 q6 q7 hq f0 f1 f2 f3 f4 f5 f6 hL2; obtain ⟨q0, q1, q2, q3, q4, q5, q6, q7, hq⟩ := HF5.out.facts; obtain ⟨f0, f1, f2, f3, f4, f5, f6, hL2⟩ := HF5.out.look.facts; simp only [Option.isSome_some, Option.getD_some] at q5 q6 q7) | (go_at_call 85; refine (look_mayReturn HF5.out.look x _ lo hi hx20 HSS.out HS1.out).mono ?_; rw [hm]; rintro e w7 ⟨rfl, hb7⟩))
          go_ret
          exact ⟨ret_intn HE.out.symm, (HF5.out.below hb7).kp, fun h => by rw [HE.out] at h; cases h⟩
        · go_wp2_with (first | (go_at_call 84; refine (look_returns HF3.out.look x _ hx20).mono ?_; rw [hr]; rintro e w5 ⟨rfl, hb5⟩; have HF4 := hidc (HF3.out.below hb5); clear q0 q1 q2 q3 q4 q5 q6 q7 hq f0 f1 f2 f3 f4 f5 f6 hL2; obtain ⟨q0, q1, q2, q3, q4, q5, q6, q7, hq⟩ := HF4.out.facts; obtain ⟨f0, f1, f2, f3, f4, f5, f6, hL2⟩ := HF4.out.look.facts; simp only [Option.isSome_some, Option.getD_some] at q5 q6 q7) | (go_at_call 85; refine (look_mayReturn HF4.out.look x _ lo hi hx20 HSS.out HS1.out).mono ?_; rw [hm]; rintro e w7 ⟨rfl, hb7⟩; have HF5 := hidc (HF4.out.below hb7); clear q0 q1 q2 q3 q4 q5 q6 q7 hq f0 f1 f2 f3 f4 f5 f6 hL2; obtain ⟨q0, q1, q2, q3, q4, q5, q6, q7, hq⟩ := HF5.out.facts; obtain ⟨f0, f1, f2, f3, f4, f5, f6, hL2⟩ := HF5.out.look.facts; simp only [Option.isSome_some, Option.getD_some] at q5 q6 q7))
          go_wp2_with fail
          refine wp_region_held_drew (S := fun w' => w'.cell? ⟨w.heap.size, 0, none⟩ = some (.int .i64 x.op) ∧ w'.cell? ⟨w.heap.size, 1, none⟩ = some (.int .i64 x.pl) ∧ w'.cell? ⟨w.heap.size, 2, none⟩ = some (.int .i64 x.nx) ∧ w'.cell? ⟨w.heap.size, 3, none⟩ = some (.int .i64 x.n) ∧ w'.cell? ⟨w.heap.size, 4, none⟩ = some (.slice ta x.to.length tc) ∧ w'.cell? ⟨L, 4, none⟩ = some (.string s.code)) (by kernel_rfl) ⟨q0, q1, q2, q3, q4, f4⟩ (fun hHeld => ?_)
          refine wpAnyH_take (i := 0) (v := ?vep0) rfl (by kernel_rfl) (by kernel_rfl) (by kernel_rfl) (fun _ _ _ h => h) (Or.inl ⟨by rfl, ?hyep0⟩) hHeld ?restep0
          case hyep0 => intro w hSw; obtain ⟨s0, s1, s2, s3, s4, s5⟩ := hSw; go_simp; try with_reducible rfl
          simp only [Act.put, List.setIfInBounds_toArray, List.set_cons_zero, List.set_cons_succ, List.getElem_toArray, List.getElem_cons_zero]
          refine wpAnyH_ready (rs := [1]) (by kernel_rfl) (by simp) ?_
          refine AllReadyH.cons (i := 1) rfl (fun K hK => ?_) AllReadyH.nil
          simp only [List.getElem_toArray, List.getElem_cons_zero, List.getElem_cons_succ]
          go_simp
          have HFx := hidc (HF5.out.below (Below.refl _ _).drew)
          refine (ops_last x _ _ HFx.out.look.rows x1).mono ?_
          rw [hlast]
          rintro e w6 ⟨rfl, hb6⟩
          have HF6 := hidc (HFx.out.below hb6)
          clear hHeld
          clear q0 q1 q2 q3 q4 q5 q6 q7 hq f0 f1 f2 f3 f4 f5 f6 hL2
          obtain ⟨q0, q1, q2, q3, q4, q5, q6, q7, hq⟩ := HF6.out.facts
          obtain ⟨f0, f1, f2, f3, f4, f5, f6, hL2⟩ := HF6.out.look.facts
          simp only [Option.isSome_some, Option.getD_some] at q5 q6 q7
          go_wp2_with fail
          refine hK.out _ _ ⟨q0, q1, q2, q3, q4, f4⟩ (fun hHeld => ?_)
          clear hK
          refine wpAnyH_take (i := 2) (v := ?veq2) rfl (by kernel_rfl) (by kernel_rfl) (by kernel_rfl) (fun _ _ _ h => h) (Or.inl ⟨by rfl, ?hyeq2⟩) hHeld ?resteq2
          case hyeq2 => intro w hSw; obtain ⟨s0, s1, s2, s3, s4, s5⟩ := hSw; go_simp; try with_reducible rfl
          simp only [Act.put, List.setIfInBounds_toArray, List.set_cons_zero, List.set_cons_succ, List.getElem_toArray, List.getElem_cons_zero, List.getElem_cons_succ]
          refine wpAnyH_take (i := 3) (v := ?veq3) rfl (by kernel_rfl) (by kernel_rfl) (by kernel_rfl) (fun _ _ _ h => h) (Or.inl ⟨by rfl, ?hyeq3⟩) hHeld ?resteq3
          case hyeq3 => intro w hSw; obtain ⟨s0, s1, s2, s3, s4, s5⟩ := hSw; go_simp; try with_reducible rfl
          simp only [Act.put, List.setIfInBounds_toArray, List.set_cons_zero, List.set_cons_succ, List.getElem_toArray, List.getElem_cons_zero, List.getElem_cons_succ]
          refine wpAnyH_take (i := 4) (v := undef) rfl (by kernel_rfl) (by kernel_rfl) (by kernel_rfl) (fun _ _ _ h => h) (Or.inr ⟨by rfl, rfl⟩) hHeld ?_
          simp only [Act.put, List.setIfInBounds_toArray, List.set_cons_zero, List.set_cons_succ, List.getElem_toArray, List.getElem_cons_zero, List.getElem_cons_succ]
          refine wpAnyH_take (i := 5) (v := undef) rfl (by kernel_rfl) (by kernel_rfl) (by kernel_rfl) (fun _ _ _ h => h) (Or.inr ⟨by rfl, rfl⟩) hHeld ?_
          simp only [Act.put, List.setIfInBounds_toArray, List.set_cons_zero, List.set_cons_succ, List.getElem_toArray, List.getElem_cons_zero, List.getElem_cons_succ]
          refine wpAnyH_take (i := 6) (v := undef) rfl (by kernel_rfl) (by kernel_rfl) (by kernel_rfl) (fun _ _ _ h => h) (Or.inr ⟨by rfl, rfl⟩) hHeld ?_
          simp only [Act.put, List.setIfInBounds_toArray, List.set_cons_zero, List.set_cons_succ, List.getElem_toArray, List.getElem_cons_zero, List.getElem_cons_succ]
          refine wpAnyH_take (i := 7) (v := undef) rfl (by kernel_rfl) (by kernel_rfl) (by kernel_rfl) (fun _ _ _ h => h) (Or.inr ⟨by rfl, rfl⟩) hHeld ?_
          simp only [Act.put, List.setIfInBounds_toArray, List.set_cons_zero, List.set_cons_succ, List.getElem_toArray, List.getElem_cons_zero, List.getElem_cons_succ]
          refine wpAnyH_take (i := 8) (v := undef) rfl (by kernel_rfl) (by kernel_rfl) (by kernel_rfl) (fun _ _ _ h => h) (Or.inr ⟨by rfl, rfl⟩) hHeld ?_
          simp only [Act.put, List.setIfInBounds_toArray, List.set_cons_zero, List.set_cons_succ, List.getElem_toArray, List.getElem_cons_zero, List.getElem_cons_succ]
          refine wpAnyH_take (i := 9) (v := undef) rfl (by kernel_rfl) (by kernel_rfl) (by kernel_rfl) (fun _ _ _ h => h) (Or.inr ⟨by rfl, rfl⟩) hHeld ?_
          simp only [Act.put, List.setIfInBounds_toArray, List.set_cons_zero, List.set_cons_succ, List.getElem_toArray, List.getElem_cons_zero, List.getElem_cons_succ]
          refine wpAnyH_take (i := 10) (v := undef) rfl (by kernel_rfl) (by kernel_rfl) (by kernel_rfl) (fun _ _ _ h => h) (Or.inr ⟨by rfl, rfl⟩) hHeld ?_
          simp only [Act.put, List.setIfInBounds_toArray, List.set_cons_zero, List.set_cons_succ, List.getElem_toArray, List.getElem_cons_zero, List.getElem_cons_succ]
          refine wpAnyH_take (i := 11) (v := undef) rfl (by kernel_rfl) (by kernel_rfl) (by kernel_rfl) (fun _ _ _ h => h) (Or.inr ⟨by rfl, rfl⟩) hHeld ?_
          simp only [Act.put, List.setIfInBounds_toArray, List.set_cons_zero, List.set_cons_succ, List.getElem_toArray, List.getElem_cons_zero, List.getElem_cons_succ]
          refine wpAnyH_take (i := 12) (v := undef) rfl (by kernel_rfl) (by kernel_rfl) (by kernel_rfl) (fun _ _ _ h => h) (Or.inr ⟨by rfl, rfl⟩) hHeld ?_
          simp only [Act.put, List.setIfInBounds_toArray, List.set_cons_zero, List.set_cons_succ, List.getElem_toArray, List.getElem_cons_zero, List.getElem_cons_succ]
          refine wpAnyH_take (i := 13) (v := ?ver13) rfl (by kernel_rfl) (by kernel_rfl) (by kernel_rfl) (fun _ _ _ h => h) (Or.inl ⟨by rfl, ?hyer13⟩) hHeld ?rester13
          case hyer13 => intro w hSw; obtain ⟨s0, s1, s2, s3, s4, s5⟩ := hSw; go_simp; try with_reducible rfl
          simp only [Act.put, List.setIfInBounds_toArray, List.set_cons_zero, List.set_cons_succ, List.getElem_toArray, List.getElem_cons_zero, List.getElem_cons_succ]
          refine wpAnyH_take (i := 14) (v := ?ver14) rfl (by kernel_rfl) (by kernel_rfl) (by kernel_rfl) (fun _ _ _ h => h) (Or.inl ⟨by rfl, ?hyer14⟩) hHeld ?rester14
          case hyer14 => intro w hSw; obtain ⟨s0, s1, s2, s3, s4, s5⟩ := hSw; go_simp; try with_reducible rfl
          simp only [Act.put, List.setIfInBounds_toArray, List.set_cons_zero, List.set_cons_succ, List.getElem_toArray, List.getElem_cons_zero, List.getElem_cons_succ]
          refine wpAnyH_done (by kernel_rfl) ?_ _
          clear hHeld HFx
          have HA0 : Hid (aheadE S s l i x (hs.getD i none) = 0) := by
            show aheadE S s l i x (hs.getD i none) = 0
            rw [HOG.out]
            simp [aheadE, hlow, hm, hlast]
          have HG : Hid (afterI S s x ((hs.getD i none).getD (0, 0)) = ((lo - takesI S s x + bringsI S x), (hi - takesI S s x + bringsI S x))) := by
            show afterI S s x ((hs.getD i none).getD (0, 0)) = ((lo - takesI S s x + bringsI S x), (hi - takesI S s x + bringsI S x))
            rw [HOG.out]
            rfl
          have hqa : w.heap.size < w6.heap.size := by omega
          have hqb : w.heap.size + 1 < w6.heap.size := by omega
          go_wp2_with fail
          have HF7 := hidc (HF6.out.below ((Below.refl _ _).alloc (Nat.le_refl _) (.cells #[.bool true, .int .i64 (lo - takesI S s x + bringsI S x), .int .i64 (hi - takesI S s x + bringsI S x)] 113)))
          have HGB := hidc (heap_alloc_new w6 (.cells #[.bool true, .int .i64 (lo - takesI S s x + bringsI S x), .int .i64 (hi - takesI S s x + bringsI S x)] 113))
          clear q0 q1 q2 q3 q4 q5 q6 q7 f0 f1 f2 f3 f4 f5 f6 hL2
          go_loopw [83] (fun iv wr => ∃ (k : Nat) (hsk : List (Option (Int × Int))) (csk : Array Value), k ≤ x.to.length ∧ iv = .int .i64 k ∧ Hid (givesH i ((lo - takesI S s x + bringsI S x), (hi - takesI S s x + bringsI S x)) hs ((x.to.map (idxP l)).take k) = some hsk) ∧ Hid (FM w wr L H S s b off cap g cc l hsk csk x ta tc (some (lo, hi))) ∧ Hid (wr.heap[w6.heap.size]? = some (.cells #[.bool true, .int .i64 (lo - takesI S s x + bringsI S x), .int .i64 (hi - takesI S s x + bringsI S x)] 113 (0, 0)))) (fun iv _ => x.to.length - (intOf iv).toNat)
          case atStart => exact ⟨0, hs, cs, Nat.zero_le _, rfl, rfl, HF7.out, HGB.out⟩
          case round =>
            obtain ⟨k, hsk, csk, hk, rfl, HGI, HFk, HGk⟩ := hrel
            obtain ⟨q0, q1, q2, q3, q4, q5, q6, q7, hq'⟩ := HFk.out.facts
            obtain ⟨f0, f1, f2, f3, f4, f5, f6, hL2⟩ := HFk.out.look.facts
            have g0 : wr.cell? ⟨w6.heap.size, 0, none⟩ = some (.bool true) := by rw [cell_of_block HGk.out]; rfl
            have g1 : wr.cell? ⟨w6.heap.size, 1, none⟩ = some (.int .i64 (lo - takesI S s x + bringsI S x)) := by rw [cell_of_block HGk.out]; rfl
            have g2 : wr.cell? ⟨w6.heap.size, 2, none⟩ = some (.int .i64 (hi - takesI S s x + bringsI S x)) := by rw [cell_of_block HGk.out]; rfl
            have hgb : w6.heap.size < wr.heap.size := blt HGk.out
            simp only [Option.isSome_some, Option.getD_some] at q5 q6 q7
            by_cases hlt : k < x.to.length
            · obtain ⟨gt, hta, hg1, hg2, ct⟩ := tos_get (HT.out.kp HFk.out.kp) k hlt
              obtain ⟨hj, hpj⟩ := idxP_spec (HBG.out x.to[k] (List.getElem_mem _))
              have HJ : Hid ((x.to.map (idxP l))[k]'(by simp [hlt]) = idxP l x.to[k]) := by show (x.to.map (idxP l))[k]'(by simp [hlt]) = idxP l x.to[k]; simp
              rw [← hpj] at ct
              have hlj := HCH.out.lt (idxP l x.to[k]) l[idxP l x.to[k]] (List.getElem?_eq_getElem hj)
              have hxe : l[i] = x := by have := HX.out; rw [List.getElem?_eq_getElem hil] at this; exact Option.some.inj this
              have hle := HCH.out.le_iff hil hj
              rw [hxe] at hle
              have HD := hidc (HCH.out.distinct hj)
              have HTA := hidc hta
              generalize hjj : idxP l x.to[k] = j at *
              have HJJ := hidc hjj
              have HXE := hidc hxe
              clear hpj hjj hxe
              subst hta
              by_cases hji : j ≤ i
              · cases hdc : decide (hsk.getD j none = some ((lo - takesI S s x + bringsI S x), (hi - takesI S s x + bringsI S x)))
                · have HE : Hid (passE S s l i x hs = 12) := passE_back HA0.out (by
                    unfold passH nextsI
                    rw [HG.out]
                    refine givesH_stop (k := k) (by simpa using hlt) HGI.out ?_
                    rw [HJ.out]
                    unfold giveH
                    rw [if_pos hji, if_neg (of_decide_eq_false hdc)])
                  go_wp2_with (go_at_call 87; refine (give_back HFk.out.look HFk.out.hts x.pl j hj (hle.2 hji) hlj _ _).mono ?_; rw [hdc]; rintro e w8 ⟨rfl, hb8⟩)
                  go_ret
                  exact ⟨ret_intn HE.out.symm, (HFk.out.below hb8).kp, fun h => by rw [HE.out] at h; cases h⟩
                · go_wp2_with (go_at_call 87; refine (give_back HFk.out.look HFk.out.hts x.pl j hj (hle.2 hji) hlj _ _).mono ?_; rw [hdc]; rintro e w8 ⟨rfl, hb8⟩)
                  go_roundw
                  case rel =>
                    refine ⟨k + 1, hsk, csk, by omega, by go_num, ?_, HFk.out.below hb8, keepB hb8 HGk.out⟩
                    show givesH i _ hs _ = some hsk
                    rw [givesH_snoc (by simpa using hlt) HGI.out, HJ.out]
                    unfold giveH
                    rw [if_pos hji, if_pos (of_decide_eq_true hdc)]
                  case measure => simp [intOf]; omega
              · have hlt2 : x.pl < l[j].pl := by
                  rcases Nat.lt_or_ge x.pl l[j].pl with h | h
                  · exact h
                  · exact absurd (hle.1 h) hji
                go_wp2_with (go_at_call 87; refine (give_ahead HFk.out.look HFk.out.hts x.pl j hj hlt2 hlj HD.out _ _).mono ?_; rintro e w8 ⟨rfl, hk8, cs8, hh8⟩)
                go_roundw
                case rel =>
                  refine ⟨k + 1, _, cs8, by omega, by go_num, ?_, HFk.out.give hH hk8 hh8, (hk8.block _ (blt HGk.out) (by omega)).trans HGk.out⟩
                  show givesH i _ hs _ = some _
                  rw [givesH_snoc (by simpa using hlt) HGI.out, HJ.out]
                  unfold giveH
                  rw [if_neg hji]
                case measure => simp [intOf]; omega

            · skip
              have HGJ : Hid (givesH i ((lo - takesI S s x + bringsI S x), (hi - takesI S s x + bringsI S x)) hs (x.to.map (idxP l)) = some hsk) := by
                have := HGI.out
                rw [List.take_of_length_le (by simp; omega)] at this
                exact this
              have HP : Hid (passH S s l i x hs = some hsk) := by
                show passH S s l i x hs = some hsk
                unfold passH nextsI
                rw [HG.out, hlast]
                simpa using HGJ.out
              go_wp2_with (go_at_call 86; refine (ops_last x _ _ HFk.out.look.rows x1).mono ?_; rw [hlast]; rintro e w8 ⟨rfl, hb8⟩)
              go_ret
              exact ⟨ret_intn (passE_ok HA0.out HP.out).symm, (HFk.out.below hb8).kp, fun _ => ⟨hsk, csk, HP.out, (HFk.out.below hb8).hts⟩⟩

end Go.Proofs.YtdhmandnamajpaaDoor
