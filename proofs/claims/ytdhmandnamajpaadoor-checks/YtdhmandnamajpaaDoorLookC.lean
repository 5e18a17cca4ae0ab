/-
  Package check: the heights; give.
-/
import Derived.Test.YtdhmandnamajpaaDoorLookB
namespace Go.Proofs.YtdhmandnamajpaaDoor
open Go.RowKit Go.Joins

set_option maxHeartbeats 400000

def SpanAt (cs : Array Value) (p : Nat) (o : Option (Int × Int)) : Prop :=
  cs[p * 3]? = some (.bool o.isSome) ∧ cs[p * 3 + 1]? = some (.int .i64 (o.getD (0, 0)).1) ∧ cs[p * 3 + 2]? = some (.int .i64 (o.getD (0, 0)).2)
/-- The heights hs of the instructions l lie in block H, by places. -/
structure HtsAt (w : World) (H n : Nat) (l : List Ins) (hs : List (Option (Int × Int))) (cs : Array Value) : Prop where
  blk : w.heap[H]? = some (.cells cs 113 (0, 0))
  size : cs.size = n * 3
  len : hs.length = l.length
  span : ∀ k x, l[k]? = some x → SpanAt cs x.pl (hs.getD k none)
theorem HtsAt.below {w w' : World} {H n : Nat} {l : List Ins} {hs : List (Option (Int × Int))} {cs : Array Value} (h : HtsAt w H n l hs cs) (hb : Below w.heap.size w w') : HtsAt w' H n l hs cs :=
  ⟨(hb.block H (blt h.blk)).trans h.blk, h.size, h.len, h.span⟩
theorem HtsAt.cells {w : World} {H n : Nat} {l : List Ins} {hs : List (Option (Int × Int))} {cs : Array Value} (h : HtsAt w H n l hs cs) (k : Nat) (hk : k < l.length) :
    w.cell? ⟨H, l[k].pl * 3, none⟩ = some (.bool (hs.getD k none).isSome) ∧ w.cell? ⟨H, l[k].pl * 3 + 1, none⟩ = some (.int .i64 ((hs.getD k none).getD (0, 0)).1) ∧ w.cell? ⟨H, l[k].pl * 3 + 2, none⟩ = some (.int .i64 ((hs.getD k none).getD (0, 0)).2) ∧ H < w.heap.size ∧
    (∀ i, w.frozen? ⟨H, i, none⟩ = false) := by
  obtain ⟨a, b, c⟩ := h.span k l[k] (by simp [hk])
  refine ⟨?_, ?_, ?_, blt h.blk, fun i => unfrozen_of_block h.blk i⟩
  · rw [cell_of_block h.blk]; exact a
  · rw [cell_of_block h.blk]; exact b
  · rw [cell_of_block h.blk]; exact c

/-- Going back: just these heights? -/
theorem give_back {w : World} {L H : Nat} {S : List Sec} {s : Sec} {b off cap g cc : Nat} {l : List Ins} {hs : List (Option (Int × Int))} {cs : Array Value} (h : Look w L H S s b off cap g cc l) (hh : HtsAt w H s.code.size l hs cs)
    (p j : Nat) (hj : j < l.length) (hp : l[j].pl ≤ p) (hc : l[j].pl < s.code.size) (lo hi : Int) :
    Calls Tryd.prog 87 #[.pointer (some ⟨L, 0, none⟩), .int .i64 p, .int .i64 (l[j].pl : Nat), .agg #[.bool true, .int .i64 lo, .int .i64 hi]] w
      fun e w' => e = .returned (.bool (decide (hs.getD j none = some (lo, hi)))) ∧ Below w.heap.size w w' := by
  obtain ⟨_, _, _, _, _, _, f6, hL⟩ := h.facts
  obtain ⟨c0, c1, c2, hH, _⟩ := hh.cells j hj
  clear h hh
  generalize hs.getD j none = o at *
  cases o with
  | none =>
    simp only [Option.isSome_none, Option.getD_none] at c0 c1 c2
    go_enter Tryd.func87, Tryd.ntmps87
    go_wp2_with fail
    go_quiet (fail)
    go_wp2_with fail
    go_ret
    exact ⟨ret_bool (by simp), bdr ((Below.refl _ _).alloc (Nat.le_refl _) _) _⟩
  | some o =>
    obtain ⟨oa, ob⟩ := o
    simp only [Option.isSome_some, Option.getD_some] at c0 c1 c2
    by_cases ea : oa = lo
    · subst ea
      by_cases eb : ob = hi
      · subst eb
        go_enter Tryd.func87, Tryd.ntmps87
        go_wp2_with fail
        go_quiet (fail)
        go_wp2_with fail
        go_ret
        exact ⟨ret_bool (by simp), bdr ((Below.refl _ _).alloc (Nat.le_refl _) _) _⟩

      · have eb' : (ob == hi) = false := by simp [eb]
        go_enter Tryd.func87, Tryd.ntmps87
        go_wp2_with fail
        go_quiet (fail)
        go_wp2_with fail
        go_ret
        exact ⟨ret_bool (by simp [eb]), bdr ((Below.refl _ _).alloc (Nat.le_refl _) _) _⟩

    · have ea' : (oa == lo) = false := by simp [ea]
      go_enter Tryd.func87, Tryd.ntmps87
      go_wp2_with fail
      go_quiet (fail)
      go_wp2_with fail
      go_ret
      exact ⟨ret_bool (by simp [ea]), bdr ((Below.refl _ _).alloc (Nat.le_refl _) _) _⟩


theorem HtsAt.set {w : World} {H n : Nat} {l : List Ins} {hs : List (Option (Int × Int))} {cs : Array Value} (h : HtsAt w H n l hs cs) (j : Nat) (hj : j < l.length) (hc : l[j].pl < n) (hd : ∀ k x, l[k]? = some x → k ≠ j → x.pl ≠ l[j].pl) (a c : Int) :
    HtsAt (((w.setCell ⟨H, l[j].pl * 3, none⟩ (.bool true)).setCell ⟨H, l[j].pl * 3 + 1, none⟩ (.int .i64 a)).setCell ⟨H, l[j].pl * 3 + 2, none⟩ (.int .i64 c)) H n l (hs.set j (some (a, c)))
      (((cs.setIfInBounds (l[j].pl * 3) (.bool true)).setIfInBounds (l[j].pl * 3 + 1) (.int .i64 a)).setIfInBounds (l[j].pl * 3 + 2) (.int .i64 c)) where
  blk := block_setCell (block_setCell (block_setCell h.blk _) _) _
  size := by simp [h.size]
  len := by simp [h.len]
  span := fun k x hk => by
    have hsz := h.size
    by_cases e : k = j
    · subst e
      have hx : x = l[k] := by rw [List.getElem?_eq_getElem hj] at hk; exact (Option.some.inj hk).symm
      subst hx
      have hg : (hs.set k (some (a, c))).getD k none = some (a, c) := by simp [List.getD, h.len, hj]
      rw [hg]
      refine ⟨?_, ?_, ?_⟩
      · rw [Array.getElem?_setIfInBounds_ne (by omega), Array.getElem?_setIfInBounds_ne (by omega), Array.getElem?_setIfInBounds_self_of_lt (by omega)]; rfl
      · rw [Array.getElem?_setIfInBounds_ne (by omega), Array.getElem?_setIfInBounds_self_of_lt (by simp; omega)]; rfl
      · rw [Array.getElem?_setIfInBounds_self_of_lt (by simp; omega)]; rfl
    · have hne := hd k x hk e
      have hg : (hs.set j (some (a, c))).getD k none = hs.getD k none := by
        simp only [List.getD]
        rw [List.getElem?_set_ne (by omega)]
      rw [hg]
      obtain ⟨c0, c1, c2⟩ := h.span k x hk
      refine ⟨?_, ?_, ?_⟩ <;> rw [Array.getElem?_setIfInBounds_ne (by omega), Array.getElem?_setIfInBounds_ne (by omega), Array.getElem?_setIfInBounds_ne (by omega)]
      · exact c0
      · exact c1
      · exact c2

theorem set_other {w : World} {g i r : Nat} (o : Nat) {v : Value} (h : g ≠ r) : (w.setCell ⟨r, o, none⟩ v).cell? ⟨g, i, none⟩ = w.cell? ⟨g, i, none⟩ := by
  unfold World.cell?
  rw [Below.heap_setCell _ _ _ _ h]

set_option maxHeartbeats 1000000 in
theorem give_none {w : World} {L H : Nat} {S : List Sec} {s : Sec} {b off cap g cc : Nat} {l : List Ins} {hs : List (Option (Int × Int))} {cs : Array Value} (h : Look w L H S s b off cap g cc l) (hh : HtsAt w H s.code.size l hs cs)
    (p j : Nat) (hj : j < l.length) (hp : p < l[j].pl) (hc : l[j].pl < s.code.size) (hd : ∀ k x, l[k]? = some x → k ≠ j → x.pl ≠ l[j].pl) (lo hi : Int) (ho : hs.getD j none = none) :
    Calls Tryd.prog 87 #[.pointer (some ⟨L, 0, none⟩), .int .i64 p, .int .i64 (l[j].pl : Nat), .agg #[.bool true, .int .i64 lo, .int .i64 hi]] w
      fun e w' => e = .returned (.bool true) ∧ Kp w.heap.size H w w' ∧ ∃ cs', HtsAt w' H s.code.size l (hs.set j (some (mergeH (lo, hi) (hs.getD j none)))) cs' := by
  obtain ⟨_, _, _, _, _, _, f6, hL⟩ := h.facts
  have hLH := h.neL
  obtain ⟨c0, c1, c2, hH, hfr⟩ := hh.cells j hj
  have HH := hidc hh
  have HD := hidc hd
  clear h hh hd
  rw [ho] at c0 c1 c2 ⊢
  simp only [Option.isSome_none, Option.getD_none] at c0 c1 c2
  go_enter Tryd.func87, Tryd.ntmps87
  go_wp2_with fail
  refine wp_region_held_drew (S := fun w' => w'.cell? ⟨L, 6, none⟩ = some (.slice (some ⟨H, 0, none⟩) s.code.size s.code.size) ∧ w'.cell? ⟨w.heap.size, 0, none⟩ = some (.bool true) ∧ w'.cell? ⟨w.heap.size, 1, none⟩ = some (.int .i64 lo) ∧ w'.cell? ⟨w.heap.size, 2, none⟩ = some (.int .i64 hi)) (by kernel_rfl) ?hS0 (fun hHeld => ?_)
  case hS0 => go_simp
  refine wpAnyH_take (i := 0) (v := ?va0) rfl (by kernel_rfl) (by kernel_rfl) (by kernel_rfl) (fun _ _ _ h => h) (Or.inl ⟨by rfl, ?hya0⟩) hHeld ?resta0
  case hya0 => intro w hSw; obtain ⟨s0, s1, s2, s3⟩ := hSw; go_simp; try with_reducible rfl
  simp only [Act.put, List.setIfInBounds_toArray, List.set_cons_zero, List.set_cons_succ, List.getElem_toArray, List.getElem_cons_zero]
  refine wpAnyH_take (i := 1) (v := ?va1) rfl (by kernel_rfl) (by kernel_rfl) (by kernel_rfl) (fun _ _ _ h => h) (Or.inl ⟨by rfl, ?hya1⟩) hHeld ?resta1
  case hya1 => intro w hSw; obtain ⟨s0, s1, s2, s3⟩ := hSw; go_simp; try with_reducible rfl
  simp only [Act.put, List.setIfInBounds_toArray, List.set_cons_zero, List.set_cons_succ, List.getElem_toArray, List.getElem_cons_zero, List.getElem_cons_succ]
  refine wpAnyH_take (i := 2) (v := ?va2) rfl (by kernel_rfl) (by kernel_rfl) (by kernel_rfl) (fun _ _ _ h => h) (Or.inl ⟨by rfl, ?hya2⟩) hHeld ?resta2
  case hya2 => intro w hSw; obtain ⟨s0, s1, s2, s3⟩ := hSw; go_simp; try with_reducible rfl
  simp only [Act.put, List.setIfInBounds_toArray, List.set_cons_zero, List.set_cons_succ, List.getElem_toArray, List.getElem_cons_zero, List.getElem_cons_succ]
  refine wpAnyH_take (i := 3) (v := ?va3) rfl (by kernel_rfl) (by kernel_rfl) (by kernel_rfl) (fun _ _ _ h => h) (Or.inl ⟨by rfl, ?hya3⟩) hHeld ?resta3
  case hya3 => intro w hSw; obtain ⟨s0, s1, s2, s3⟩ := hSw; go_simp; try with_reducible rfl
  simp only [Act.put, List.setIfInBounds_toArray, List.set_cons_zero, List.set_cons_succ, List.getElem_toArray, List.getElem_cons_zero, List.getElem_cons_succ]
  refine wpAnyH_take (i := 4) (v := ?va4) rfl (by kernel_rfl) (by kernel_rfl) (by kernel_rfl) (fun _ _ _ h => h) (Or.inl ⟨by rfl, ?hya4⟩) hHeld ?resta4
  case hya4 => intro w hSw; obtain ⟨s0, s1, s2, s3⟩ := hSw; go_simp; try with_reducible rfl
  simp only [Act.put, List.setIfInBounds_toArray, List.set_cons_zero, List.set_cons_succ, List.getElem_toArray, List.getElem_cons_zero, List.getElem_cons_succ]
  refine wpAnyH_take (i := 5) (v := ?va5) rfl (by kernel_rfl) (by kernel_rfl) (by kernel_rfl) (fun _ _ _ h => h) (Or.inl ⟨by rfl, ?hya5⟩) hHeld ?resta5
  case hya5 => intro w hSw; obtain ⟨s0, s1, s2, s3⟩ := hSw; go_simp; try with_reducible rfl
  simp only [Act.put, List.setIfInBounds_toArray, List.set_cons_zero, List.set_cons_succ, List.getElem_toArray, List.getElem_cons_zero, List.getElem_cons_succ]
  refine wpAnyH_take (i := 6) (v := ?va6) rfl (by kernel_rfl) (by kernel_rfl) (by kernel_rfl) (fun _ _ _ h => h) (Or.inl ⟨by rfl, ?hya6⟩) hHeld ?resta6
  case hya6 => intro w hSw; obtain ⟨s0, s1, s2, s3⟩ := hSw; go_simp; try with_reducible rfl
  simp only [Act.put, List.setIfInBounds_toArray, List.set_cons_zero, List.set_cons_succ, List.getElem_toArray, List.getElem_cons_zero, List.getElem_cons_succ]
  refine wpAnyH_ready (rs := [7]) (by kernel_rfl) (by simp) ?_
  refine AllReadyH.cons (i := 7) rfl (fun K hK => ?_) AllReadyH.nil
  simp only [List.getElem_toArray, List.getElem_cons_zero, List.getElem_cons_succ]
  go_simp
  refine hK.out _ _ ?hS9 (fun hHeld => ?_)
  case hS9 =>
    exact ⟨(cell_al _ (by first | (simp; done) | (simp; omega))).trans ((cell_al _ (by first | (simp; done) | (simp; omega))).trans ((set_other _ hLH).trans ((set_other _ hLH).trans ((set_other _ hLH).trans f6)))), (cell_al _ (by first | (simp; done) | (simp; omega))).trans (cell_nw (by first | (simp; done) | (simp; omega)) rfl), (cell_al _ (by first | (simp; done) | (simp; omega))).trans (cell_nw (by first | (simp; done) | (simp; omega)) rfl), (cell_al _ (by first | (simp; done) | (simp; omega))).trans (cell_nw (by first | (simp; done) | (simp; omega)) rfl)⟩
  clear hK
  refine wpAnyH_done (by kernel_rfl) ?_ _
  go_wp2_with fail
  go_ret
  refine ⟨rfl, ?_, _, (HH.out.set j hj hc HD.out _ _).below (below2 _ _ _).drew⟩
  exact ((((Kp.refl w.heap.size H w).set _ _).set _ _).set _ _).trans ((Kp.of (below2 _ _ _).drew H).mono (by first | (simp; done) | (simp; omega)))
set_option maxHeartbeats 1000000 in
theorem give_some_b {w : World} {L H : Nat} {S : List Sec} {s : Sec} {b off cap g cc : Nat} {l : List Ins} {hs : List (Option (Int × Int))} {cs : Array Value} (h : Look w L H S s b off cap g cc l) (hh : HtsAt w H s.code.size l hs cs)
    (p j : Nat) (hj : j < l.length) (hp : p < l[j].pl) (hc : l[j].pl < s.code.size) (hd : ∀ k x, l[k]? = some x → k ≠ j → x.pl ≠ l[j].pl) (lo hi : Int) (oa ob : Int) (ho : hs.getD j none = some (oa, ob)) (em : lo ≤ oa) (eM : ob ≤ hi) :
    Calls Tryd.prog 87 #[.pointer (some ⟨L, 0, none⟩), .int .i64 p, .int .i64 (l[j].pl : Nat), .agg #[.bool true, .int .i64 lo, .int .i64 hi]] w
      fun e w' => e = .returned (.bool true) ∧ Kp w.heap.size H w w' ∧ ∃ cs', HtsAt w' H s.code.size l (hs.set j (some (mergeH (lo, hi) (hs.getD j none)))) cs' := by
  obtain ⟨_, _, _, _, _, _, f6, hL⟩ := h.facts
  have hLH := h.neL
  obtain ⟨c0, c1, c2, hH, hfr⟩ := hh.cells j hj
  have HH := hidc hh
  have HD := hidc hd
  clear h hh hd
  rw [ho] at c0 c1 c2 ⊢
  simp only [Option.isSome_some, Option.getD_some] at c0 c1 c2
  have hm : mergeH (lo, hi) (some (oa, ob)) = (lo, hi) := by simp only [mergeH]; rw [show min lo oa = lo by omega, show max hi ob = hi by omega]
  rw [hm]
  clear hm
  go_enter Tryd.func87, Tryd.ntmps87
  go_wp2_with fail
  refine wp_region_held_drew (S := fun w' => w'.cell? ⟨L, 6, none⟩ = some (.slice (some ⟨H, 0, none⟩) s.code.size s.code.size) ∧ w'.cell? ⟨w.heap.size, 0, none⟩ = some (.bool true) ∧ w'.cell? ⟨w.heap.size, 1, none⟩ = some (.int .i64 lo) ∧ w'.cell? ⟨w.heap.size, 2, none⟩ = some (.int .i64 hi)) (by kernel_rfl) ?hS0 (fun hHeld => ?_)
  case hS0 => go_simp
  refine wpAnyH_take (i := 0) (v := ?vb0) rfl (by kernel_rfl) (by kernel_rfl) (by kernel_rfl) (fun _ _ _ h => h) (Or.inl ⟨by rfl, ?hyb0⟩) hHeld ?restb0
  case hyb0 => intro w hSw; obtain ⟨s0, s1, s2, s3⟩ := hSw; go_simp; try with_reducible rfl
  simp only [Act.put, List.setIfInBounds_toArray, List.set_cons_zero, List.set_cons_succ, List.getElem_toArray, List.getElem_cons_zero]
  refine wpAnyH_take (i := 1) (v := ?vb1) rfl (by kernel_rfl) (by kernel_rfl) (by kernel_rfl) (fun _ _ _ h => h) (Or.inl ⟨by rfl, ?hyb1⟩) hHeld ?restb1
  case hyb1 => intro w hSw; obtain ⟨s0, s1, s2, s3⟩ := hSw; go_simp; try with_reducible rfl
  simp only [Act.put, List.setIfInBounds_toArray, List.set_cons_zero, List.set_cons_succ, List.getElem_toArray, List.getElem_cons_zero, List.getElem_cons_succ]
  refine wpAnyH_take (i := 2) (v := ?vb2) rfl (by kernel_rfl) (by kernel_rfl) (by kernel_rfl) (fun _ _ _ h => h) (Or.inl ⟨by rfl, ?hyb2⟩) hHeld ?restb2
  case hyb2 => intro w hSw; obtain ⟨s0, s1, s2, s3⟩ := hSw; go_simp; try with_reducible rfl
  simp only [Act.put, List.setIfInBounds_toArray, List.set_cons_zero, List.set_cons_succ, List.getElem_toArray, List.getElem_cons_zero, List.getElem_cons_succ]
  refine wpAnyH_take (i := 3) (v := ?vb3) rfl (by kernel_rfl) (by kernel_rfl) (by kernel_rfl) (fun _ _ _ h => h) (Or.inl ⟨by rfl, ?hyb3⟩) hHeld ?restb3
  case hyb3 => intro w hSw; obtain ⟨s0, s1, s2, s3⟩ := hSw; go_simp; try with_reducible rfl
  simp only [Act.put, List.setIfInBounds_toArray, List.set_cons_zero, List.set_cons_succ, List.getElem_toArray, List.getElem_cons_zero, List.getElem_cons_succ]
  refine wpAnyH_take (i := 4) (v := ?vb4) rfl (by kernel_rfl) (by kernel_rfl) (by kernel_rfl) (fun _ _ _ h => h) (Or.inl ⟨by rfl, ?hyb4⟩) hHeld ?restb4
  case hyb4 => intro w hSw; obtain ⟨s0, s1, s2, s3⟩ := hSw; go_simp; try with_reducible rfl
  simp only [Act.put, List.setIfInBounds_toArray, List.set_cons_zero, List.set_cons_succ, List.getElem_toArray, List.getElem_cons_zero, List.getElem_cons_succ]
  refine wpAnyH_take (i := 5) (v := ?vb5) rfl (by kernel_rfl) (by kernel_rfl) (by kernel_rfl) (fun _ _ _ h => h) (Or.inl ⟨by rfl, ?hyb5⟩) hHeld ?restb5
  case hyb5 => intro w hSw; obtain ⟨s0, s1, s2, s3⟩ := hSw; go_simp; try with_reducible rfl
  simp only [Act.put, List.setIfInBounds_toArray, List.set_cons_zero, List.set_cons_succ, List.getElem_toArray, List.getElem_cons_zero, List.getElem_cons_succ]
  refine wpAnyH_take (i := 6) (v := ?vb6) rfl (by kernel_rfl) (by kernel_rfl) (by kernel_rfl) (fun _ _ _ h => h) (Or.inl ⟨by rfl, ?hyb6⟩) hHeld ?restb6
  case hyb6 => intro w hSw; obtain ⟨s0, s1, s2, s3⟩ := hSw; go_simp; try with_reducible rfl
  simp only [Act.put, List.setIfInBounds_toArray, List.set_cons_zero, List.set_cons_succ, List.getElem_toArray, List.getElem_cons_zero, List.getElem_cons_succ]
  refine wpAnyH_ready (rs := [7]) (by kernel_rfl) (by simp) ?_
  refine AllReadyH.cons (i := 7) rfl (fun K hK => ?_) AllReadyH.nil
  simp only [List.getElem_toArray, List.getElem_cons_zero, List.getElem_cons_succ]
  go_simp
  refine hK.out _ _ ?hS9 (fun hHeld => ?_)
  case hS9 =>
    exact ⟨(cell_al _ (by first | (simp; done) | (simp; omega))).trans ((cell_al _ (by first | (simp; done) | (simp; omega))).trans ((set_other _ hLH).trans ((set_other _ hLH).trans ((set_other _ hLH).trans f6)))), (cell_al _ (by first | (simp; done) | (simp; omega))).trans (cell_nw (by first | (simp; done) | (simp; omega)) rfl), (cell_al _ (by first | (simp; done) | (simp; omega))).trans (cell_nw (by first | (simp; done) | (simp; omega)) rfl), (cell_al _ (by first | (simp; done) | (simp; omega))).trans (cell_nw (by first | (simp; done) | (simp; omega)) rfl)⟩
  clear hK
  refine wpAnyH_done (by kernel_rfl) ?_ _
  go_wp2_with fail
  go_ret
  refine ⟨rfl, ?_, _, (HH.out.set j hj hc HD.out _ _).below (below2 _ _ _).drew⟩
  exact ((((Kp.refl w.heap.size H w).set _ _).set _ _).set _ _).trans ((Kp.of (below2 _ _ _).drew H).mono (by first | (simp; done) | (simp; omega)))
set_option maxHeartbeats 1000000 in
theorem give_some_c {w : World} {L H : Nat} {S : List Sec} {s : Sec} {b off cap g cc : Nat} {l : List Ins} {hs : List (Option (Int × Int))} {cs : Array Value} (h : Look w L H S s b off cap g cc l) (hh : HtsAt w H s.code.size l hs cs)
    (p j : Nat) (hj : j < l.length) (hp : p < l[j].pl) (hc : l[j].pl < s.code.size) (hd : ∀ k x, l[k]? = some x → k ≠ j → x.pl ≠ l[j].pl) (lo hi : Int) (oa ob : Int) (ho : hs.getD j none = some (oa, ob)) (em : lo ≤ oa) (eM : ¬ ob ≤ hi) :
    Calls Tryd.prog 87 #[.pointer (some ⟨L, 0, none⟩), .int .i64 p, .int .i64 (l[j].pl : Nat), .agg #[.bool true, .int .i64 lo, .int .i64 hi]] w
      fun e w' => e = .returned (.bool true) ∧ Kp w.heap.size H w w' ∧ ∃ cs', HtsAt w' H s.code.size l (hs.set j (some (mergeH (lo, hi) (hs.getD j none)))) cs' := by
  obtain ⟨_, _, _, _, _, _, f6, hL⟩ := h.facts
  have hLH := h.neL
  obtain ⟨c0, c1, c2, hH, hfr⟩ := hh.cells j hj
  have HH := hidc hh
  have HD := hidc hd
  clear h hh hd
  rw [ho] at c0 c1 c2 ⊢
  simp only [Option.isSome_some, Option.getD_some] at c0 c1 c2
  have hm : mergeH (lo, hi) (some (oa, ob)) = (lo, ob) := by simp only [mergeH]; rw [show min lo oa = lo by omega, show max hi ob = ob by omega]
  rw [hm]
  clear hm
  go_enter Tryd.func87, Tryd.ntmps87
  go_wp2_with fail
  refine wp_region_held_drew (S := fun w' => w'.cell? ⟨L, 6, none⟩ = some (.slice (some ⟨H, 0, none⟩) s.code.size s.code.size) ∧ w'.cell? ⟨w.heap.size, 0, none⟩ = some (.bool true) ∧ w'.cell? ⟨w.heap.size, 1, none⟩ = some (.int .i64 lo) ∧ w'.cell? ⟨w.heap.size, 2, none⟩ = some (.int .i64 ob)) (by kernel_rfl) ?hS0 (fun hHeld => ?_)
  case hS0 => go_simp
  refine wpAnyH_take (i := 0) (v := ?vc0) rfl (by kernel_rfl) (by kernel_rfl) (by kernel_rfl) (fun _ _ _ h => h) (Or.inl ⟨by rfl, ?hyc0⟩) hHeld ?restc0
  case hyc0 => intro w hSw; obtain ⟨s0, s1, s2, s3⟩ := hSw; go_simp; try with_reducible rfl
  simp only [Act.put, List.setIfInBounds_toArray, List.set_cons_zero, List.set_cons_succ, List.getElem_toArray, List.getElem_cons_zero]
  refine wpAnyH_take (i := 1) (v := ?vc1) rfl (by kernel_rfl) (by kernel_rfl) (by kernel_rfl) (fun _ _ _ h => h) (Or.inl ⟨by rfl, ?hyc1⟩) hHeld ?restc1
  case hyc1 => intro w hSw; obtain ⟨s0, s1, s2, s3⟩ := hSw; go_simp; try with_reducible rfl
  simp only [Act.put, List.setIfInBounds_toArray, List.set_cons_zero, List.set_cons_succ, List.getElem_toArray, List.getElem_cons_zero, List.getElem_cons_succ]
  refine wpAnyH_take (i := 2) (v := ?vc2) rfl (by kernel_rfl) (by kernel_rfl) (by kernel_rfl) (fun _ _ _ h => h) (Or.inl ⟨by rfl, ?hyc2⟩) hHeld ?restc2
  case hyc2 => intro w hSw; obtain ⟨s0, s1, s2, s3⟩ := hSw; go_simp; try with_reducible rfl
  simp only [Act.put, List.setIfInBounds_toArray, List.set_cons_zero, List.set_cons_succ, List.getElem_toArray, List.getElem_cons_zero, List.getElem_cons_succ]
  refine wpAnyH_take (i := 3) (v := ?vc3) rfl (by kernel_rfl) (by kernel_rfl) (by kernel_rfl) (fun _ _ _ h => h) (Or.inl ⟨by rfl, ?hyc3⟩) hHeld ?restc3
  case hyc3 => intro w hSw; obtain ⟨s0, s1, s2, s3⟩ := hSw; go_simp; try with_reducible rfl
  simp only [Act.put, List.setIfInBounds_toArray, List.set_cons_zero, List.set_cons_succ, List.getElem_toArray, List.getElem_cons_zero, List.getElem_cons_succ]
  refine wpAnyH_take (i := 4) (v := ?vc4) rfl (by kernel_rfl) (by kernel_rfl) (by kernel_rfl) (fun _ _ _ h => h) (Or.inl ⟨by rfl, ?hyc4⟩) hHeld ?restc4
  case hyc4 => intro w hSw; obtain ⟨s0, s1, s2, s3⟩ := hSw; go_simp; try with_reducible rfl
  simp only [Act.put, List.setIfInBounds_toArray, List.set_cons_zero, List.set_cons_succ, List.getElem_toArray, List.getElem_cons_zero, List.getElem_cons_succ]
  refine wpAnyH_take (i := 5) (v := ?vc5) rfl (by kernel_rfl) (by kernel_rfl) (by kernel_rfl) (fun _ _ _ h => h) (Or.inl ⟨by rfl, ?hyc5⟩) hHeld ?restc5
  case hyc5 => intro w hSw; obtain ⟨s0, s1, s2, s3⟩ := hSw; go_simp; try with_reducible rfl
  simp only [Act.put, List.setIfInBounds_toArray, List.set_cons_zero, List.set_cons_succ, List.getElem_toArray, List.getElem_cons_zero, List.getElem_cons_succ]
  refine wpAnyH_take (i := 6) (v := ?vc6) rfl (by kernel_rfl) (by kernel_rfl) (by kernel_rfl) (fun _ _ _ h => h) (Or.inl ⟨by rfl, ?hyc6⟩) hHeld ?restc6
  case hyc6 => intro w hSw; obtain ⟨s0, s1, s2, s3⟩ := hSw; go_simp; try with_reducible rfl
  simp only [Act.put, List.setIfInBounds_toArray, List.set_cons_zero, List.set_cons_succ, List.getElem_toArray, List.getElem_cons_zero, List.getElem_cons_succ]
  refine wpAnyH_ready (rs := [7]) (by kernel_rfl) (by simp) ?_
  refine AllReadyH.cons (i := 7) rfl (fun K hK => ?_) AllReadyH.nil
  simp only [List.getElem_toArray, List.getElem_cons_zero, List.getElem_cons_succ]
  go_simp
  refine hK.out _ _ ?hS9 (fun hHeld => ?_)
  case hS9 =>
    exact ⟨(cell_al _ (by first | (simp; done) | (simp; omega))).trans ((cell_al _ (by first | (simp; done) | (simp; omega))).trans ((set_other _ hLH).trans ((set_other _ hLH).trans ((set_other _ hLH).trans f6)))), (cell_al _ (by first | (simp; done) | (simp; omega))).trans (cell_nw (by first | (simp; done) | (simp; omega)) rfl), (cell_al _ (by first | (simp; done) | (simp; omega))).trans (cell_nw (by first | (simp; done) | (simp; omega)) rfl), (cell_al _ (by first | (simp; done) | (simp; omega))).trans (cell_nw (by first | (simp; done) | (simp; omega)) rfl)⟩
  clear hK
  refine wpAnyH_done (by kernel_rfl) ?_ _
  go_wp2_with fail
  go_ret
  refine ⟨rfl, ?_, _, (HH.out.set j hj hc HD.out _ _).below (below2 _ _ _).drew⟩
  exact ((((Kp.refl w.heap.size H w).set _ _).set _ _).set _ _).trans ((Kp.of (below2 _ _ _).drew H).mono (by first | (simp; done) | (simp; omega)))
set_option maxHeartbeats 1000000 in
theorem give_some_d {w : World} {L H : Nat} {S : List Sec} {s : Sec} {b off cap g cc : Nat} {l : List Ins} {hs : List (Option (Int × Int))} {cs : Array Value} (h : Look w L H S s b off cap g cc l) (hh : HtsAt w H s.code.size l hs cs)
    (p j : Nat) (hj : j < l.length) (hp : p < l[j].pl) (hc : l[j].pl < s.code.size) (hd : ∀ k x, l[k]? = some x → k ≠ j → x.pl ≠ l[j].pl) (lo hi : Int) (oa ob : Int) (ho : hs.getD j none = some (oa, ob)) (em : ¬ lo ≤ oa) (eM : ob ≤ hi) :
    Calls Tryd.prog 87 #[.pointer (some ⟨L, 0, none⟩), .int .i64 p, .int .i64 (l[j].pl : Nat), .agg #[.bool true, .int .i64 lo, .int .i64 hi]] w
      fun e w' => e = .returned (.bool true) ∧ Kp w.heap.size H w w' ∧ ∃ cs', HtsAt w' H s.code.size l (hs.set j (some (mergeH (lo, hi) (hs.getD j none)))) cs' := by
  obtain ⟨_, _, _, _, _, _, f6, hL⟩ := h.facts
  have hLH := h.neL
  obtain ⟨c0, c1, c2, hH, hfr⟩ := hh.cells j hj
  have HH := hidc hh
  have HD := hidc hd
  clear h hh hd
  rw [ho] at c0 c1 c2 ⊢
  simp only [Option.isSome_some, Option.getD_some] at c0 c1 c2
  have hm : mergeH (lo, hi) (some (oa, ob)) = (oa, hi) := by simp only [mergeH]; rw [show min lo oa = oa by omega, show max hi ob = hi by omega]
  rw [hm]
  clear hm
  go_enter Tryd.func87, Tryd.ntmps87
  go_wp2_with fail
  refine wp_region_held_drew (S := fun w' => w'.cell? ⟨L, 6, none⟩ = some (.slice (some ⟨H, 0, none⟩) s.code.size s.code.size) ∧ w'.cell? ⟨w.heap.size, 0, none⟩ = some (.bool true) ∧ w'.cell? ⟨w.heap.size, 1, none⟩ = some (.int .i64 oa) ∧ w'.cell? ⟨w.heap.size, 2, none⟩ = some (.int .i64 hi)) (by kernel_rfl) ?hS0 (fun hHeld => ?_)
  case hS0 => go_simp
  refine wpAnyH_take (i := 0) (v := ?vd0) rfl (by kernel_rfl) (by kernel_rfl) (by kernel_rfl) (fun _ _ _ h => h) (Or.inl ⟨by rfl, ?hyd0⟩) hHeld ?restd0
  case hyd0 => intro w hSw; obtain ⟨s0, s1, s2, s3⟩ := hSw; go_simp; try with_reducible rfl
  simp only [Act.put, List.setIfInBounds_toArray, List.set_cons_zero, List.set_cons_succ, List.getElem_toArray, List.getElem_cons_zero]
  refine wpAnyH_take (i := 1) (v := ?vd1) rfl (by kernel_rfl) (by kernel_rfl) (by kernel_rfl) (fun _ _ _ h => h) (Or.inl ⟨by rfl, ?hyd1⟩) hHeld ?restd1
  case hyd1 => intro w hSw; obtain ⟨s0, s1, s2, s3⟩ := hSw; go_simp; try with_reducible rfl
  simp only [Act.put, List.setIfInBounds_toArray, List.set_cons_zero, List.set_cons_succ, List.getElem_toArray, List.getElem_cons_zero, List.getElem_cons_succ]
  refine wpAnyH_take (i := 2) (v := ?vd2) rfl (by kernel_rfl) (by kernel_rfl) (by kernel_rfl) (fun _ _ _ h => h) (Or.inl ⟨by rfl, ?hyd2⟩) hHeld ?restd2
  case hyd2 => intro w hSw; obtain ⟨s0, s1, s2, s3⟩ := hSw; go_simp; try with_reducible rfl
  simp only [Act.put, List.setIfInBounds_toArray, List.set_cons_zero, List.set_cons_succ, List.getElem_toArray, List.getElem_cons_zero, List.getElem_cons_succ]
  refine wpAnyH_take (i := 3) (v := ?vd3) rfl (by kernel_rfl) (by kernel_rfl) (by kernel_rfl) (fun _ _ _ h => h) (Or.inl ⟨by rfl, ?hyd3⟩) hHeld ?restd3
  case hyd3 => intro w hSw; obtain ⟨s0, s1, s2, s3⟩ := hSw; go_simp; try with_reducible rfl
  simp only [Act.put, List.setIfInBounds_toArray, List.set_cons_zero, List.set_cons_succ, List.getElem_toArray, List.getElem_cons_zero, List.getElem_cons_succ]
  refine wpAnyH_take (i := 4) (v := ?vd4) rfl (by kernel_rfl) (by kernel_rfl) (by kernel_rfl) (fun _ _ _ h => h) (Or.inl ⟨by rfl, ?hyd4⟩) hHeld ?restd4
  case hyd4 => intro w hSw; obtain ⟨s0, s1, s2, s3⟩ := hSw; go_simp; try with_reducible rfl
  simp only [Act.put, List.setIfInBounds_toArray, List.set_cons_zero, List.set_cons_succ, List.getElem_toArray, List.getElem_cons_zero, List.getElem_cons_succ]
  refine wpAnyH_take (i := 5) (v := ?vd5) rfl (by kernel_rfl) (by kernel_rfl) (by kernel_rfl) (fun _ _ _ h => h) (Or.inl ⟨by rfl, ?hyd5⟩) hHeld ?restd5
  case hyd5 => intro w hSw; obtain ⟨s0, s1, s2, s3⟩ := hSw; go_simp; try with_reducible rfl
  simp only [Act.put, List.setIfInBounds_toArray, List.set_cons_zero, List.set_cons_succ, List.getElem_toArray, List.getElem_cons_zero, List.getElem_cons_succ]
  refine wpAnyH_take (i := 6) (v := ?vd6) rfl (by kernel_rfl) (by kernel_rfl) (by kernel_rfl) (fun _ _ _ h => h) (Or.inl ⟨by rfl, ?hyd6⟩) hHeld ?restd6
  case hyd6 => intro w hSw; obtain ⟨s0, s1, s2, s3⟩ := hSw; go_simp; try with_reducible rfl
  simp only [Act.put, List.setIfInBounds_toArray, List.set_cons_zero, List.set_cons_succ, List.getElem_toArray, List.getElem_cons_zero, List.getElem_cons_succ]
  refine wpAnyH_ready (rs := [7]) (by kernel_rfl) (by simp) ?_
  refine AllReadyH.cons (i := 7) rfl (fun K hK => ?_) AllReadyH.nil
  simp only [List.getElem_toArray, List.getElem_cons_zero, List.getElem_cons_succ]
  go_simp
  refine hK.out _ _ ?hS9 (fun hHeld => ?_)
  case hS9 =>
    exact ⟨(cell_al _ (by first | (simp; done) | (simp; omega))).trans ((cell_al _ (by first | (simp; done) | (simp; omega))).trans ((set_other _ hLH).trans ((set_other _ hLH).trans ((set_other _ hLH).trans f6)))), (cell_al _ (by first | (simp; done) | (simp; omega))).trans (cell_nw (by first | (simp; done) | (simp; omega)) rfl), (cell_al _ (by first | (simp; done) | (simp; omega))).trans (cell_nw (by first | (simp; done) | (simp; omega)) rfl), (cell_al _ (by first | (simp; done) | (simp; omega))).trans (cell_nw (by first | (simp; done) | (simp; omega)) rfl)⟩
  clear hK
  refine wpAnyH_done (by kernel_rfl) ?_ _
  go_wp2_with fail
  go_ret
  refine ⟨rfl, ?_, _, (HH.out.set j hj hc HD.out _ _).below (below2 _ _ _).drew⟩
  exact ((((Kp.refl w.heap.size H w).set _ _).set _ _).set _ _).trans ((Kp.of (below2 _ _ _).drew H).mono (by first | (simp; done) | (simp; omega)))
set_option maxHeartbeats 1000000 in
theorem give_some_e {w : World} {L H : Nat} {S : List Sec} {s : Sec} {b off cap g cc : Nat} {l : List Ins} {hs : List (Option (Int × Int))} {cs : Array Value} (h : Look w L H S s b off cap g cc l) (hh : HtsAt w H s.code.size l hs cs)
    (p j : Nat) (hj : j < l.length) (hp : p < l[j].pl) (hc : l[j].pl < s.code.size) (hd : ∀ k x, l[k]? = some x → k ≠ j → x.pl ≠ l[j].pl) (lo hi : Int) (oa ob : Int) (ho : hs.getD j none = some (oa, ob)) (em : ¬ lo ≤ oa) (eM : ¬ ob ≤ hi) :
    Calls Tryd.prog 87 #[.pointer (some ⟨L, 0, none⟩), .int .i64 p, .int .i64 (l[j].pl : Nat), .agg #[.bool true, .int .i64 lo, .int .i64 hi]] w
      fun e w' => e = .returned (.bool true) ∧ Kp w.heap.size H w w' ∧ ∃ cs', HtsAt w' H s.code.size l (hs.set j (some (mergeH (lo, hi) (hs.getD j none)))) cs' := by
  obtain ⟨_, _, _, _, _, _, f6, hL⟩ := h.facts
  have hLH := h.neL
  obtain ⟨c0, c1, c2, hH, hfr⟩ := hh.cells j hj
  have HH := hidc hh
  have HD := hidc hd
  clear h hh hd
  rw [ho] at c0 c1 c2 ⊢
  simp only [Option.isSome_some, Option.getD_some] at c0 c1 c2
  have hm : mergeH (lo, hi) (some (oa, ob)) = (oa, ob) := by simp only [mergeH]; rw [show min lo oa = oa by omega, show max hi ob = ob by omega]
  rw [hm]
  clear hm
  go_enter Tryd.func87, Tryd.ntmps87
  go_wp2_with fail
  refine wp_region_held_drew (S := fun w' => w'.cell? ⟨L, 6, none⟩ = some (.slice (some ⟨H, 0, none⟩) s.code.size s.code.size) ∧ w'.cell? ⟨w.heap.size, 0, none⟩ = some (.bool true) ∧ w'.cell? ⟨w.heap.size, 1, none⟩ = some (.int .i64 oa) ∧ w'.cell? ⟨w.heap.size, 2, none⟩ = some (.int .i64 ob)) (by kernel_rfl) ?hS0 (fun hHeld => ?_)
  case hS0 => go_simp
  refine wpAnyH_take (i := 0) (v := ?ve0) rfl (by kernel_rfl) (by kernel_rfl) (by kernel_rfl) (fun _ _ _ h => h) (Or.inl ⟨by rfl, ?hye0⟩) hHeld ?reste0
  case hye0 => intro w hSw; obtain ⟨s0, s1, s2, s3⟩ := hSw; go_simp; try with_reducible rfl
  simp only [Act.put, List.setIfInBounds_toArray, List.set_cons_zero, List.set_cons_succ, List.getElem_toArray, List.getElem_cons_zero]
  refine wpAnyH_take (i := 1) (v := ?ve1) rfl (by kernel_rfl) (by kernel_rfl) (by kernel_rfl) (fun _ _ _ h => h) (Or.inl ⟨by rfl, ?hye1⟩) hHeld ?reste1
  case hye1 => intro w hSw; obtain ⟨s0, s1, s2, s3⟩ := hSw; go_simp; try with_reducible rfl
  simp only [Act.put, List.setIfInBounds_toArray, List.set_cons_zero, List.set_cons_succ, List.getElem_toArray, List.getElem_cons_zero, List.getElem_cons_succ]
  refine wpAnyH_take (i := 2) (v := ?ve2) rfl (by kernel_rfl) (by kernel_rfl) (by kernel_rfl) (fun _ _ _ h => h) (Or.inl ⟨by rfl, ?hye2⟩) hHeld ?reste2
  case hye2 => intro w hSw; obtain ⟨s0, s1, s2, s3⟩ := hSw; go_simp; try with_reducible rfl
  simp only [Act.put, List.setIfInBounds_toArray, List.set_cons_zero, List.set_cons_succ, List.getElem_toArray, List.getElem_cons_zero, List.getElem_cons_succ]
  refine wpAnyH_take (i := 3) (v := ?ve3) rfl (by kernel_rfl) (by kernel_rfl) (by kernel_rfl) (fun _ _ _ h => h) (Or.inl ⟨by rfl, ?hye3⟩) hHeld ?reste3
  case hye3 => intro w hSw; obtain ⟨s0, s1, s2, s3⟩ := hSw; go_simp; try with_reducible rfl
  simp only [Act.put, List.setIfInBounds_toArray, List.set_cons_zero, List.set_cons_succ, List.getElem_toArray, List.getElem_cons_zero, List.getElem_cons_succ]
  refine wpAnyH_take (i := 4) (v := ?ve4) rfl (by kernel_rfl) (by kernel_rfl) (by kernel_rfl) (fun _ _ _ h => h) (Or.inl ⟨by rfl, ?hye4⟩) hHeld ?reste4
  case hye4 => intro w hSw; obtain ⟨s0, s1, s2, s3⟩ := hSw; go_simp; try with_reducible rfl
  simp only [Act.put, List.setIfInBounds_toArray, List.set_cons_zero, List.set_cons_succ, List.getElem_toArray, List.getElem_cons_zero, List.getElem_cons_succ]
  refine wpAnyH_take (i := 5) (v := ?ve5) rfl (by kernel_rfl) (by kernel_rfl) (by kernel_rfl) (fun _ _ _ h => h) (Or.inl ⟨by rfl, ?hye5⟩) hHeld ?reste5
  case hye5 => intro w hSw; obtain ⟨s0, s1, s2, s3⟩ := hSw; go_simp; try with_reducible rfl
  simp only [Act.put, List.setIfInBounds_toArray, List.set_cons_zero, List.set_cons_succ, List.getElem_toArray, List.getElem_cons_zero, List.getElem_cons_succ]
  refine wpAnyH_take (i := 6) (v := ?ve6) rfl (by kernel_rfl) (by kernel_rfl) (by kernel_rfl) (fun _ _ _ h => h) (Or.inl ⟨by rfl, ?hye6⟩) hHeld ?reste6
  case hye6 => intro w hSw; obtain ⟨s0, s1, s2, s3⟩ := hSw; go_simp; try with_reducible rfl
  simp only [Act.put, List.setIfInBounds_toArray, List.set_cons_zero, List.set_cons_succ, List.getElem_toArray, List.getElem_cons_zero, List.getElem_cons_succ]
  refine wpAnyH_ready (rs := [7]) (by kernel_rfl) (by simp) ?_
  refine AllReadyH.cons (i := 7) rfl (fun K hK => ?_) AllReadyH.nil
  simp only [List.getElem_toArray, List.getElem_cons_zero, List.getElem_cons_succ]
  go_simp
  refine hK.out _ _ ?hS9 (fun hHeld => ?_)
  case hS9 =>
    exact ⟨(cell_al _ (by first | (simp; done) | (simp; omega))).trans ((cell_al _ (by first | (simp; done) | (simp; omega))).trans ((set_other _ hLH).trans ((set_other _ hLH).trans ((set_other _ hLH).trans f6)))), (cell_al _ (by first | (simp; done) | (simp; omega))).trans (cell_nw (by first | (simp; done) | (simp; omega)) rfl), (cell_al _ (by first | (simp; done) | (simp; omega))).trans (cell_nw (by first | (simp; done) | (simp; omega)) rfl), (cell_al _ (by first | (simp; done) | (simp; omega))).trans (cell_nw (by first | (simp; done) | (simp; omega)) rfl)⟩
  clear hK
  refine wpAnyH_done (by kernel_rfl) ?_ _
  go_wp2_with fail
  go_ret
  refine ⟨rfl, ?_, _, (HH.out.set j hj hc HD.out _ _).below (below2 _ _ _).drew⟩
  exact ((((Kp.refl w.heap.size H w).set _ _).set _ _).set _ _).trans ((Kp.of (below2 _ _ _).drew H).mono (by first | (simp; done) | (simp; omega)))
/-- Going ahead: the heights widen. -/
theorem give_ahead {w : World} {L H : Nat} {S : List Sec} {s : Sec} {b off cap g cc : Nat} {l : List Ins} {hs : List (Option (Int × Int))} {cs : Array Value} (h : Look w L H S s b off cap g cc l) (hh : HtsAt w H s.code.size l hs cs)
    (p j : Nat) (hj : j < l.length) (hp : p < l[j].pl) (hc : l[j].pl < s.code.size) (hd : ∀ k x, l[k]? = some x → k ≠ j → x.pl ≠ l[j].pl) (lo hi : Int) :
    Calls Tryd.prog 87 #[.pointer (some ⟨L, 0, none⟩), .int .i64 p, .int .i64 (l[j].pl : Nat), .agg #[.bool true, .int .i64 lo, .int .i64 hi]] w
      fun e w' => e = .returned (.bool true) ∧ Kp w.heap.size H w w' ∧ ∃ cs', HtsAt w' H s.code.size l (hs.set j (some (mergeH (lo, hi) (hs.getD j none)))) cs' := by
  cases ho : hs.getD j none with
  | none => rw [← ho]; exact give_none h hh p j hj hp hc hd lo hi ho
  | some o =>
    obtain ⟨oa, ob⟩ := o
    rw [← ho]
    by_cases em : lo ≤ oa <;> by_cases eM : ob ≤ hi
    · exact give_some_b h hh p j hj hp hc hd lo hi oa ob ho em eM
    · exact give_some_c h hh p j hj hp hc hd lo hi oa ob ho em eM
    · exact give_some_d h hh p j hj hp hc hd lo hi oa ob ho em eM
    · exact give_some_e h hh p j hj hp hc hd lo hi oa ob ho em eM
end Go.Proofs.YtdhmandnamajpaaDoor
