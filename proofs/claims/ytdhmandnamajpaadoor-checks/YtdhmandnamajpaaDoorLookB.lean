/-
  Package check: references, mayReturn.
-/
import Derived.Test.YtdhmandnamajpaaDoorLookA
import Derived.Deep.RegionHeld3
namespace Go.Proofs.YtdhmandnamajpaaDoor
open Go.RowKit Go.Joins

set_option maxHeartbeats 400000

theorem tos_get {w : World} {H : Nat} {a : Option Addr} {n c : Nat} {to : List Int} (h : TosAt0 w H (.slice a n c) to) (k : Nat) (hk : k < to.length) :
    ∃ g, a = some ⟨g, 0, none⟩ ∧ g < w.heap.size ∧ g ≠ H ∧ w.cell? ⟨g, k, none⟩ = some (.int .i64 to[k]) := by
  rcases h with ⟨_, e⟩ | ⟨g, cap, e, h1, h2, h3⟩
  · rw [e] at hk; simp at hk
  · injection e with e1 e2 e3
    exact ⟨g, e1, h1, h2, h3 k to[k] (by simp [hk])⟩

theorem ret_intn {k : IntKind} {a b : Nat} (h : a = b) : Ending.returned (.int k a) = .returned (.int k b) := by rw [h]

/-- What an instruction names. -/
theorem look_references {w : World} {L H : Nat} {S : List Sec} {s : Sec} {b off cap g cc : Nat} {l : List Ins} (h : Look w L H S s b off cap g cc l) (x : Ins) (a : Option Addr) (vc : Nat) (ht : TosAt0 w H (.slice a x.to.length vc) x.to)
    (hl : l.length ≤ 120) (hto : x.to.length ≤ 300) :
    Calls Tryd.prog 58 #[.pointer (some ⟨L, 0, none⟩), .agg #[.int .i64 x.op, .int .i64 x.pl, .int .i64 x.nx, .int .i64 x.n, .slice a x.to.length vc]] w
      fun e w' => e = .returned (.int .i64 (refE S l x)) ∧ Below w.heap.size w w' := by
  have HL := hidc h
  have HT := hidc ht
  have hL := blt h.blk
  clear h ht
  go_enter Tryd.func58, Tryd.ntmps58
  go_wp2_with fail
  go_loopw [10] (fun i wr => ∃ k : Nat, k ≤ x.to.length ∧ i = .int .i64 k ∧ (x.to.take k).all (fun t => beginsB l t) = true ∧ Below (w.heap.size + 1) (w.alloc (.cells #[.int .i64 x.op, .int .i64 x.pl, .int .i64 x.nx, .int .i64 x.n, .slice a x.to.length vc] 116)) wr) (fun i _ => x.to.length - (intOf i).toNat)
  case atStart => exact ⟨0, Nat.zero_le _, rfl, by simp, Below.refl _ _⟩
  case round =>
    obtain ⟨k, hk, rfl, hall, hbel⟩ := hrel
    have HA := hidc hall
    have HB := hidc ((((Below.refl w.heap.size w).alloc (Nat.le_refl _) (.cells #[.int .i64 x.op, .int .i64 x.pl, .int .i64 x.nx, .int .i64 x.n, .slice a x.to.length vc] 116))).trans (hbel.mono (by omega)))
    have hsz : w.heap.size + 1 ≤ wr.heap.size := by have := hbel.size; simpa using this
    have q0 : wr.cell? ⟨w.heap.size, 0, none⟩ = some (.int .i64 x.op) := by rw [(bcell hbel).1 _ _ (by omega)]; simp
    have q1 : wr.cell? ⟨w.heap.size, 1, none⟩ = some (.int .i64 x.pl) := by rw [(bcell hbel).1 _ _ (by omega)]; simp
    have q2 : wr.cell? ⟨w.heap.size, 2, none⟩ = some (.int .i64 x.nx) := by rw [(bcell hbel).1 _ _ (by omega)]; simp
    have q3 : wr.cell? ⟨w.heap.size, 3, none⟩ = some (.int .i64 x.n) := by rw [(bcell hbel).1 _ _ (by omega)]; simp
    have q4 : wr.cell? ⟨w.heap.size, 4, none⟩ = some (.slice a x.to.length vc) := by rw [(bcell hbel).1 _ _ (by omega)]; simp
    have HBL := hidc hbel
    clear hall hbel
    by_cases hlt : k < x.to.length
    · obtain ⟨gt, rfl, hg1, hg2, c0⟩ := tos_get (HT.out.kp (Kp.of HB.out H)) k hlt
      cases hbb : beginsB l x.to[k]
      · have HE : Hid (refE S l x = 8) := by
          show refE S l x = 8
          have : x.to.any (fun t => !beginsB l t) = true := by rw [List.any_eq_true]; exact ⟨x.to[k], by simp, by simp [hbb]⟩
          simp [refE, this]
        go_wp2_with (go_at_call 81; refine (look_begins (HL.out.below HB.out) _ hl).mono ?_; rw [hbb]; rintro e w1 ⟨rfl, hb1⟩)
        go_ret
        exact ⟨ret_intn HE.out.symm, HB.out.trans (hb1.mono (by omega))⟩
      · go_wp2_with (go_at_call 81; refine (look_begins (HL.out.below HB.out) _ hl).mono ?_; rw [hbb]; rintro e w1 ⟨rfl, hb1⟩)
        go_roundw
        case rel => exact ⟨k + 1, by omega, by go_num, by rw [List.take_succ_eq_append_getElem hlt, List.all_append, HA.out]; simp [hbb], HBL.out.trans (hb1.mono hsz)⟩
        case measure => simp [intOf]; omega
    · have HN : Hid (x.to.any (fun t => !beginsB l t) = false) := by
        show x.to.any (fun t => !beginsB l t) = false
        have := HA.out
        rw [List.take_of_length_le (by omega)] at this
        rw [List.any_eq_false]
        intro t ht
        rw [List.all_eq_true] at this
        simp [this t ht]
      cases hn : namesB x
      · have HE : Hid (refE S l x = 0) := by show refE S l x = 0; simp [refE, HN.out, hn]
        go_wp2_with (go_at_call 61; refine (check_names x _ _).mono ?_; rw [hn]; rintro e w1 ⟨rfl, hb1⟩)
        go_ret
        exact ⟨ret_intn HE.out.symm, HB.out.trans (hb1.mono (by omega))⟩
      · cases hm : mayNameB S x
        · have HE : Hid (refE S l x = 9) := by show refE S l x = 9; simp [refE, HN.out, hn, hm]
          go_wp2_with (first | (go_at_call 61; refine (check_names x _ _).mono ?_; rw [hn]; rintro e w1 ⟨rfl, hb1⟩; have y0 := ((bcell hb1).1 w.heap.size 0 (by omega)).trans q0; have y1 := ((bcell hb1).1 w.heap.size 1 (by omega)).trans q1; have y2 := ((bcell hb1).1 w.heap.size 2 (by omega)).trans q2; have y3 := ((bcell hb1).1 w.heap.size 3 (by omega)).trans q3; have y4 := ((bcell hb1).1 w.heap.size 4 (by omega)).trans q4) | (go_at_call 82; refine (look_mayName ((HL.out.below HB.out).below hb1) x _).mono ?_; rw [hm]; rintro e w2 ⟨rfl, hb2⟩))
          go_ret
          exact ⟨ret_intn HE.out.symm, (HB.out.trans (hb1.mono (by omega))).trans (hb2.mono (by have := hb1.size; omega))⟩
        · have HE : Hid (refE S l x = 0) := by show refE S l x = 0; simp [refE, HN.out, hn, hm]
          go_wp2_with (first | (go_at_call 61; refine (check_names x _ _).mono ?_; rw [hn]; rintro e w1 ⟨rfl, hb1⟩; have y0 := ((bcell hb1).1 w.heap.size 0 (by omega)).trans q0; have y1 := ((bcell hb1).1 w.heap.size 1 (by omega)).trans q1; have y2 := ((bcell hb1).1 w.heap.size 2 (by omega)).trans q2; have y3 := ((bcell hb1).1 w.heap.size 3 (by omega)).trans q3; have y4 := ((bcell hb1).1 w.heap.size 4 (by omega)).trans q4) | (go_at_call 82; refine (look_mayName ((HL.out.below HB.out).below hb1) x _).mono ?_; rw [hm]; rintro e w2 ⟨rfl, hb2⟩))
          go_ret
          exact ⟨ret_intn HE.out.symm, (HB.out.trans (hb1.mono (by omega))).trans (hb2.mono (by have := hb1.size; omega))⟩

theorem cell_al {w : World} (o : Obj) {g i : Nat} (h : g < w.heap.size) : (w.alloc o).cell? ⟨g, i, none⟩ = w.cell? ⟨g, i, none⟩ := (bcell ((Below.refl w.heap.size w).alloc (Nat.le_refl _) o)).1 g i h
theorem cell_nw {w : World} {cs : Array Value} {t g i : Nat} {v : Value} (hg : g = w.heap.size) (h : cs[i]? = some v) : (w.alloc (.cells cs t)).cell? ⟨g, i, none⟩ = some v := by
  subst hg
  rw [cell_of_block (heap_alloc_new w _)]
  exact h
theorem sec_get {S : List Sec} (h : S.all secB = true) (n : Nat) (hn : n < S.length) : secB S[n] = true := by
  rw [List.all_eq_true] at h
  exact h _ (by simp)

theorem may_plain {w : World} {L H : Nat} {S : List Sec} {s : Sec} {b off cap g cc : Nat} {l : List Ins} (h : Look w L H S s b off cap g cc l) (x : Ins) (t : Value) (lo hi : Int) (hx : x.op ≠ 20) :
    Calls Tryd.prog 85 #[.pointer (some ⟨L, 0, none⟩), .agg #[.int .i64 x.op, .int .i64 x.pl, .int .i64 x.nx, .int .i64 x.n, t], .agg #[.bool true, .int .i64 lo, .int .i64 hi]] w
      fun e w' => e = .returned (.bool (mayReturnB S s x lo hi)) ∧ Below w.heap.size w w' := by
  obtain ⟨f0, _, f2, _, _, f5, _, hL⟩ := h.facts
  have HL := hidc h
  clear h
  have h3 : ((x.op : Int) == 20) = false := by simp; omega
  have HE : Hid (mayReturnB S s x lo hi = ((s.o != 128) && (lo == s.o) && (hi == s.o))) := by
    show mayReturnB S s x lo hi = ((s.o != 128) && (lo == s.o) && (hi == s.o))
    have : (x.op == 20) = false := by simp [hx]
    simp [mayReturnB, wantI, hx, this]
  by_cases e1 : s.o = 128
  · go_enter Tryd.func85, Tryd.ntmps85
    go_wp2_with fail
    go_ret
    exact ⟨ret_bool (by rw [HE.out]; simp [e1]), below2 _ _ _⟩
  · by_cases e2 : lo = s.o
    · go_enter Tryd.func85, Tryd.ntmps85
      go_wp2_with fail
      go_ret
      exact ⟨ret_bool (by rw [HE.out]; simp [e2]), below2 _ _ _⟩
    · go_enter Tryd.func85, Tryd.ntmps85
      go_wp2_with fail
      go_ret
      exact ⟨ret_bool (by rw [HE.out]; simp [e2]), below2 _ _ _⟩

theorem may_goto {w : World} {L H : Nat} {S : List Sec} {s : Sec} {b off cap g cc : Nat} {l : List Ins} (h : Look w L H S s b off cap g cc l) (x : Ins) (t : Value) (lo hi : Int) (hx : x.op = 20) (hn : x.n < S.length) (hS : S.all secB = true) (hs : secB s = true) :
    Calls Tryd.prog 85 #[.pointer (some ⟨L, 0, none⟩), .agg #[.int .i64 x.op, .int .i64 x.pl, .int .i64 x.nx, .int .i64 x.n, t], .agg #[.bool true, .int .i64 lo, .int .i64 hi]] w
      fun e w' => e = .returned (.bool (mayReturnB S s x lo hi)) ∧ Below w.heap.size w w' := by
  obtain ⟨f0, _, f2, _, _, f5, _, hL⟩ := h.facts
  obtain ⟨c0, c1, c2, c3⟩ := h.secs.at x.n hn
  have hb := h.secs.1
  obtain ⟨b1, b2, b3, b4⟩ := (secB_iff _).1 (sec_get hS x.n hn)
  obtain ⟨d1, d2, d3, d4⟩ := (secB_iff _).1 hs
  have HL := hidc h
  clear h
  have h3 : ((x.op : Int) == 20) = true := by simp; omega
  go_enter Tryd.func85, Tryd.ntmps85
  go_wp2_with fail
  refine wp_region_held_drew (S := fun w' => w'.cell? ⟨L, 0, none⟩ = some (.slice (some ⟨b, off, none⟩) S.length cap) ∧ w'.cell? ⟨w.heap.size, 3, none⟩ = some (.int .i64 x.n) ∧ w'.cell? ⟨b, off + x.n * 4, none⟩ = some (.int .i64 S[x.n].i) ∧ w'.cell? ⟨b, off + x.n * 4 + 1, none⟩ = some (.int .i64 S[x.n].o) ∧ w'.cell? ⟨b, off + x.n * 4 + 2, none⟩ = some (.int .i64 S[x.n].m) ∧ w'.cell? ⟨b, off + x.n * 4 + 3, none⟩ = some (.string S[x.n].code) ∧ w'.cell? ⟨L, 2, none⟩ = some (.int .i64 s.o)) (by kernel_rfl) ?hS0 (fun hHeld => ?_)
  case hS0 => go_simp
  have hH0 := hHeld
  refine wpAnyH_take (i := 0) (v := ?va0) rfl (by kernel_rfl) (by kernel_rfl) (by kernel_rfl) (fun _ _ _ h => h) (Or.inl ⟨by rfl, ?hya0⟩) hHeld ?resta0
  case hya0 => intro w hSw; obtain ⟨s0, s1, s2, s3, s4, s5, s6⟩ := hSw; go_simp; try with_reducible rfl
  simp only [Act.put, List.setIfInBounds_toArray, List.set_cons_zero, List.set_cons_succ, List.getElem_toArray, List.getElem_cons_zero]
  refine wpAnyH_take (i := 1) (v := ?va1) rfl (by kernel_rfl) (by kernel_rfl) (by kernel_rfl) (fun _ _ _ h => h) (Or.inl ⟨by rfl, ?hya1⟩) hHeld ?resta1
  case hya1 => intro w hSw; obtain ⟨s0, s1, s2, s3, s4, s5, s6⟩ := hSw; go_simp; try with_reducible rfl
  simp only [Act.put, List.setIfInBounds_toArray, List.set_cons_zero, List.set_cons_succ, List.getElem_toArray, List.getElem_cons_zero, List.getElem_cons_succ]
  refine wpAnyH_take (i := 2) (v := ?va2) rfl (by kernel_rfl) (by kernel_rfl) (by kernel_rfl) (fun _ _ _ h => h) (Or.inl ⟨by rfl, ?hya2⟩) hHeld ?resta2
  case hya2 => intro w hSw; obtain ⟨s0, s1, s2, s3, s4, s5, s6⟩ := hSw; go_simp; try with_reducible rfl
  simp only [Act.put, List.setIfInBounds_toArray, List.set_cons_zero, List.set_cons_succ, List.getElem_toArray, List.getElem_cons_zero, List.getElem_cons_succ]
  refine wpAnyH_take (i := 3) (v := ?va3) rfl (by kernel_rfl) (by kernel_rfl) (by kernel_rfl) (fun _ _ _ h => h) (Or.inl ⟨by rfl, ?hya3⟩) hHeld ?resta3
  case hya3 => intro w hSw; obtain ⟨s0, s1, s2, s3, s4, s5, s6⟩ := hSw; go_simp; try with_reducible rfl
  simp only [Act.put, List.setIfInBounds_toArray, List.set_cons_zero, List.set_cons_succ, List.getElem_toArray, List.getElem_cons_zero, List.getElem_cons_succ]
  refine wpAnyH_take (i := 4) (v := ?va4) rfl (by kernel_rfl) (by kernel_rfl) (by kernel_rfl) (fun _ _ _ h => h) (Or.inl ⟨by rfl, ?hya4⟩) hHeld ?resta4
  case hya4 => intro w hSw; obtain ⟨s0, s1, s2, s3, s4, s5, s6⟩ := hSw; go_simp; try with_reducible rfl
  simp only [Act.put, List.setIfInBounds_toArray, List.set_cons_zero, List.set_cons_succ, List.getElem_toArray, List.getElem_cons_zero, List.getElem_cons_succ]
  refine wpAnyH_take (i := 5) (v := ?va5) rfl (by kernel_rfl) (by kernel_rfl) (by kernel_rfl) (fun _ _ _ h => h) (Or.inl ⟨by rfl, ?hya5⟩) hHeld ?resta5
  case hya5 => intro w hSw; obtain ⟨s0, s1, s2, s3, s4, s5, s6⟩ := hSw; go_simp; try with_reducible rfl
  simp only [Act.put, List.setIfInBounds_toArray, List.set_cons_zero, List.set_cons_succ, List.getElem_toArray, List.getElem_cons_zero, List.getElem_cons_succ]
  refine wpAnyH_take (i := 6) (v := ?va6) rfl (by kernel_rfl) (by kernel_rfl) (by kernel_rfl) (fun _ _ _ h => h) (Or.inl ⟨by rfl, ?hya6⟩) hHeld ?resta6
  case hya6 => intro w hSw; obtain ⟨s0, s1, s2, s3, s4, s5, s6⟩ := hSw; go_simp; try with_reducible rfl
  simp only [Act.put, List.setIfInBounds_toArray, List.set_cons_zero, List.set_cons_succ, List.getElem_toArray, List.getElem_cons_zero, List.getElem_cons_succ]
  refine wpAnyH_take (i := 7) (v := ?va7) rfl (by kernel_rfl) (by kernel_rfl) (by kernel_rfl) (fun _ _ _ h => h) (Or.inl ⟨by rfl, ?hya7⟩) hHeld ?resta7
  case hya7 => intro w hSw; obtain ⟨s0, s1, s2, s3, s4, s5, s6⟩ := hSw; go_simp; try with_reducible rfl
  simp only [Act.put, List.setIfInBounds_toArray, List.set_cons_zero, List.set_cons_succ, List.getElem_toArray, List.getElem_cons_zero, List.getElem_cons_succ]
  refine wpAnyH_ready (rs := [8]) (by kernel_rfl) (by simp) ?_
  refine AllReadyH.cons (i := 8) rfl (fun K hK => ?_) AllReadyH.nil
  simp only [List.getElem_toArray, List.getElem_cons_zero, List.getElem_cons_succ]
  go_simp
  refine hK.out _ _ ?hS8 (fun hHeld => ?_)
  case hS8 => obtain ⟨s0, s1, s2, s3, s4, s5, s6⟩ := hH0; exact ⟨(cell_al _ (by simp; omega)).trans s0, (cell_al _ (by simp; omega)).trans s1, (cell_al _ (by simp; omega)).trans s2, (cell_al _ (by simp; omega)).trans s3, (cell_al _ (by simp; omega)).trans s4, (cell_al _ (by simp; omega)).trans s5, (cell_al _ (by simp; omega)).trans s6⟩
  clear hK
  refine wpAnyH_ready (rs := [9]) (by kernel_rfl) (by simp) ?_
  refine AllReadyH.cons (i := 9) rfl (fun K hK => ?_) AllReadyH.nil
  simp only [List.getElem_toArray, List.getElem_cons_zero, List.getElem_cons_succ]
  go_simp
  refine hK.out _ _ ?hS9 (fun hHeld => ?_)
  case hS9 => obtain ⟨s0, s1, s2, s3, s4, s5, s6⟩ := hH0; exact ⟨(cell_al _ (by simp; omega)).trans s0, (cell_al _ (by simp; omega)).trans s1, (cell_al _ (by simp; omega)).trans s2, (cell_al _ (by simp; omega)).trans s3, (cell_al _ (by simp; omega)).trans s4, (cell_al _ (by simp; omega)).trans s5, (cell_al _ (by simp; omega)).trans s6⟩
  clear hK
  refine wpAnyH_done (by kernel_rfl) ?_ _
  obtain ⟨s0, s1, s2, s3, s4, s5, s6⟩ := hHeld
  have HQ : Hid (Below w.heap.size w ((((w.alloc (.cells #[.int .i64 20, .int .i64 x.pl, .int .i64 x.nx, .int .i64 x.n, t] 116)).alloc (.cells #[.bool true, .int .i64 lo, .int .i64 hi] 113)).alloc (.cells #[.int .i64 S[x.n].i, .int .i64 S[x.n].o, .int .i64 S[x.n].m, .string S[x.n].code] 33)).drew)) := ((below2 _ _ _).alloc (by simp; omega) _).drew
  have z1 : ((((w.alloc (.cells #[.int .i64 20, .int .i64 x.pl, .int .i64 x.nx, .int .i64 x.n, t] 116)).alloc (.cells #[.bool true, .int .i64 lo, .int .i64 hi] 113)).alloc (.cells #[.int .i64 S[x.n].i, .int .i64 S[x.n].o, .int .i64 S[x.n].m, .string S[x.n].code] 33)).drew).cell? ⟨w.heap.size + 1 + 1, 0, none⟩ = some (.int .i64 S[x.n].i) := cell_nw (by simp) rfl
  have z2 : ((((w.alloc (.cells #[.int .i64 20, .int .i64 x.pl, .int .i64 x.nx, .int .i64 x.n, t] 116)).alloc (.cells #[.bool true, .int .i64 lo, .int .i64 hi] 113)).alloc (.cells #[.int .i64 S[x.n].i, .int .i64 S[x.n].o, .int .i64 S[x.n].m, .string S[x.n].code] 33)).drew).cell? ⟨w.heap.size + 1 + 1, 1, none⟩ = some (.int .i64 S[x.n].o) := cell_nw (by simp) rfl
  have z3 : ((((w.alloc (.cells #[.int .i64 20, .int .i64 x.pl, .int .i64 x.nx, .int .i64 x.n, t] 116)).alloc (.cells #[.bool true, .int .i64 lo, .int .i64 hi] 113)).alloc (.cells #[.int .i64 S[x.n].i, .int .i64 S[x.n].o, .int .i64 S[x.n].m, .string S[x.n].code] 33)).drew).cell? ⟨w.heap.size + 1, 1, none⟩ = some (.int .i64 lo) := (cell_al _ (by simp)).trans (cell_nw (by simp) rfl)
  have z4 : ((((w.alloc (.cells #[.int .i64 20, .int .i64 x.pl, .int .i64 x.nx, .int .i64 x.n, t] 116)).alloc (.cells #[.bool true, .int .i64 lo, .int .i64 hi] 113)).alloc (.cells #[.int .i64 S[x.n].i, .int .i64 S[x.n].o, .int .i64 S[x.n].m, .string S[x.n].code] 33)).drew).cell? ⟨w.heap.size + 1, 2, none⟩ = some (.int .i64 hi) := (cell_al _ (by simp)).trans (cell_nw (by simp) rfl)
  generalize ((((w.alloc (.cells #[.int .i64 20, .int .i64 x.pl, .int .i64 x.nx, .int .i64 x.n, t] 116)).alloc (.cells #[.bool true, .int .i64 lo, .int .i64 hi] 113)).alloc (.cells #[.int .i64 S[x.n].i, .int .i64 S[x.n].o, .int .i64 S[x.n].m, .string S[x.n].code] 33)).drew) = wq at *
  by_cases e0 : s.o < S[x.n].o
  · have HE : Hid (mayReturnB S s x lo hi = false) := by
      show mayReturnB S s x lo hi = false
      simp [mayReturnB, hx, outS_get S x.n hn, e0]
    go_wp2_with fail
    go_quiet (fail)
    go_wp2_with fail
    go_ret
    exact ⟨ret_bool HE.out.symm, bdr HQ.out _⟩
  · have HE : Hid (mayReturnB S s x lo hi = ((s.o != 128) && (lo == s.o + (S[x.n].i - S[x.n].o)) && (hi == s.o + (S[x.n].i - S[x.n].o)))) := by
      show mayReturnB S s x lo hi = ((s.o != 128) && (lo == s.o + (S[x.n].i - S[x.n].o)) && (hi == s.o + (S[x.n].i - S[x.n].o)))
      simp [mayReturnB, wantI, hx, outS_get S x.n hn, inS_get S x.n hn, e0]
    by_cases e1 : s.o = 128
    · go_wp2_with fail
      go_quiet (fail)
      go_wp2_with fail
      go_ret
      exact ⟨ret_bool (by rw [HE.out]; simp [e1]), bdr HQ.out _⟩
    · by_cases e2 : lo = s.o + (S[x.n].i - S[x.n].o)
      · go_wp2_with fail
        go_quiet (fail)
        go_wp2_with fail
        go_ret
        exact ⟨ret_bool (by rw [HE.out]; simp [e2]), bdr HQ.out _⟩
      · go_wp2_with fail
        go_quiet (fail)
        go_wp2_with fail
        go_ret
        exact ⟨ret_bool (by rw [HE.out]; simp [e2]), bdr HQ.out _⟩

theorem look_mayReturn {w : World} {L H : Nat} {S : List Sec} {s : Sec} {b off cap g cc : Nat} {l : List Ins} (h : Look w L H S s b off cap g cc l) (x : Ins) (t : Value) (lo hi : Int) (hx : x.op = 20 → x.n < S.length) (hS : S.all secB = true) (hs : secB s = true) :
    Calls Tryd.prog 85 #[.pointer (some ⟨L, 0, none⟩), .agg #[.int .i64 x.op, .int .i64 x.pl, .int .i64 x.nx, .int .i64 x.n, t], .agg #[.bool true, .int .i64 lo, .int .i64 hi]] w
      fun e w' => e = .returned (.bool (mayReturnB S s x lo hi)) ∧ Below w.heap.size w w' := by
  by_cases h1 : x.op = 20
  · exact may_goto h x t lo hi h1 (hx h1) hS hs
  · exact may_plain h x t lo hi h1
end Go.Proofs.YtdhmandnamajpaaDoor
