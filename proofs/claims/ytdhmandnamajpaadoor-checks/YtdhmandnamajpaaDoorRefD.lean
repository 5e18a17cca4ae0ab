/-
  The reference: named.
-/
import Derived.Test.YtdhmandnamajpaaDoorRefC
namespace Go.Proofs.YtdhmandnamajpaaDoor
open Go.RowKit Go.Joins

set_option maxHeartbeats 2000000

theorem keepBy {W w1 : World} (hb : Below W.heap.size W w1) {k : Nat} {o : Obj} (h : W.heap[k]? = some o) : w1.heap[k]? = some o := (hb.block k (blt h)).trans h

theorem ref_named (S : List Sec) (d : ByteArray) (b off cap g cc : Nat) (l : List Ins) (x : Ins) (N : Int) (ta : Option Addr) (tc : Nat) (w : World) (hS : SecsAt w b off S) (hlt : g < w.heap.size) (h : ∀ k (hk : k < l.length), w.cell? ⟨g, k * 5, none⟩ = some (.int .i64 l[k].pl)) (hl : l.length ≤ 120)
    (ht : TosAt0 w w.heap.size (.slice ta x.to.length tc) x.to) (hto : x.to.length ≤ 300) (hN : numsAs x N) :
    Calls Tryd.prog 40 #[.agg #[.slice (some ⟨b, off, none⟩) S.length cap, .string d], .slice (some ⟨g, 0, none⟩) l.length cc, .agg #[.int .i64 x.pl, .int .i64 x.op, .int .i64 N, .slice ta x.to.length tc, .int .i64 x.nx]] w
      fun e w' => e = .returned (.int .i64 (refE S l x)) ∧ Below w.heap.size w w' := by
  have hb := hS.1
  have HS := hidc hS
  have HL := hidc h
  have HT := hidc ht
  have HN := hidc hN
  clear hS h ht hN
  go_enter Tryd.func40, Tryd.ntmps40
  go_wp2_with fail
  have HB := hidc (below2 w (.cells #[.slice (some ⟨b, off, none⟩) S.length cap, .string d] 24) (.cells #[.int .i64 x.pl, .int .i64 x.op, .int .i64 N, .slice ta x.to.length tc, .int .i64 x.nx] 79))
  have hA := (Below.heap_alloc (w.alloc (.cells #[.slice (some ⟨b, off, none⟩) S.length cap, .string d] 24)) (.cells #[.int .i64 x.pl, .int .i64 x.op, .int .i64 N, .slice ta x.to.length tc, .int .i64 x.nx] 79) w.heap.size (by simp)).trans (heap_alloc_new w _)
  have hX := heap_alloc_new (w.alloc (.cells #[.slice (some ⟨b, off, none⟩) S.length cap, .string d] 24)) (.cells #[.int .i64 x.pl, .int .i64 x.op, .int .i64 N, .slice ta x.to.length tc, .int .i64 x.nx] 79)
  rw [show (w.alloc (.cells #[.slice (some ⟨b, off, none⟩) S.length cap, .string d] 24)).heap.size = w.heap.size + 1 by simp] at hX
  have a0 := cell_of_block hA 0
  have x1 := cell_of_block hX 1
  have x2 := cell_of_block hX 2
  have x3 := cell_of_block hX 3
  have hsz2 : w.heap.size + 2 ≤ ((w.alloc (.cells #[.slice (some ⟨b, off, none⟩) S.length cap, .string d] 24)).alloc (.cells #[.int .i64 x.pl, .int .i64 x.op, .int .i64 N, .slice ta x.to.length tc, .int .i64 x.nx] 79)).heap.size := by simp
  clear hA hX
  generalize ((w.alloc (.cells #[.slice (some ⟨b, off, none⟩) S.length cap, .string d] 24)).alloc (.cells #[.int .i64 x.pl, .int .i64 x.op, .int .i64 N, .slice ta x.to.length tc, .int .i64 x.nx] 79)) = wq at *
  go_loopw [7] (fun i wr => ∃ k : Nat, k ≤ x.to.length ∧ i = .int .i64 k ∧ Hid ((x.to.take k).all (fun t => beginsB l t) = true) ∧ wr = wq) (fun i _ => x.to.length - (intOf i).toNat)
  case atStart => exact ⟨0, Nat.zero_le _, rfl, by show (x.to.take 0).all (fun t => beginsB l t) = true; simp, rfl⟩
  case round =>
    obtain ⟨k, hk, rfl, HA, rfl⟩ := hrel
    have HLq : Hid (∀ k (hk : k < l.length), wr.cell? ⟨g, k * 5, none⟩ = some (.int .i64 l[k].pl)) := fun k hk => ((bcell HB.out).1 g _ hlt).trans (HL.out k hk)
    by_cases hlk : k < x.to.length
    · obtain ⟨gt, hta, hg1, _, c0⟩ := tos_get HT.out k hlk
      have c0' := ((bcell HB.out).1 gt k hg1).trans c0
      subst hta
      clear c0
      cases hbb : beginsB l x.to[k]
      · have HE : Hid (refE S l x = 8) := by
          show refE S l x = 8
          have : x.to.any (fun t => !beginsB l t) = true := by rw [List.any_eq_true]; exact ⟨x.to[k], by simp, by simp [hbb]⟩
          simp [refE, this]
        have HI : Hid (idxI l x.to[k] = -1) := by show idxI l x.to[k] = -1; unfold idxI; rw [hbb]; rfl
        go_wp2_with (go_at_call 63; refine (ref_begins g cc l _ _ HLq.out hl).mono ?_; rw [HI.out]; rintro e w1 ⟨rfl, rfl⟩)
        go_ret
        exact ⟨ret_intn HE.out.symm, HB.out⟩
      · obtain ⟨hj, _⟩ := idxP_spec hbb
        have HI : Hid (idxI l x.to[k] = (idxP l x.to[k] : Nat)) := by show idxI l x.to[k] = _; unfold idxI; rw [if_pos hbb]
        have hj0 : ¬ ((idxP l x.to[k] : Nat) : Int) < 0 := by omega
        go_wp2_with (go_at_call 63; refine (ref_begins g cc l _ _ HLq.out hl).mono ?_; rw [HI.out]; rintro e w1 ⟨rfl, rfl⟩)
        go_roundw
        case rel => exact ⟨k + 1, by omega, by go_num, by show (x.to.take (k + 1)).all (fun t => beginsB l t) = true; rw [List.take_succ_eq_append_getElem hlk, List.all_append, HA.out]; simp [hbb], by trivial⟩
        case measure => simp [intOf]; omega
    · have HNN : Hid (x.to.any (fun t => !beginsB l t) = false) := by
        show x.to.any (fun t => !beginsB l t) = false
        have := HA.out
        rw [List.take_of_length_le (by omega)] at this
        rw [List.any_eq_false]
        intro t ht
        rw [List.all_eq_true] at this
        simp [this t ht]
      by_cases h18 : x.op = 18
      · have hNx : N = x.n := HN.out (by simp [numOp, h18])
        subst hNx
        have h18' : ((x.op : Int) == 18) = true := by simp; omega
        by_cases hn : x.n < S.length
        · obtain ⟨_, c1, _, _⟩ := (HS.out.below hb HB.out).at x.n hn
          by_cases e : S[x.n].o = 128
          · have HE : Hid (refE S l x = 9) := by show refE S l x = 9; simp [refE, HNN.out, namesB, mayNameB, h18, hn, outS_get S x.n hn, e]
            go_wp2_with fail
            go_ret
            exact ⟨ret_intn HE.out.symm, HB.out⟩
          · have HE : Hid (refE S l x = 0) := by show refE S l x = 0; simp [refE, HNN.out, namesB, mayNameB, h18, hn, outS_get S x.n hn, e]
            have e' : (S[x.n].o == 128) = false := by simp [e]
            go_wp2_with fail
            go_ret
            exact ⟨ret_intn HE.out.symm, HB.out⟩
        · have HE : Hid (refE S l x = 9) := by show refE S l x = 9; simp [refE, HNN.out, namesB, mayNameB, h18, hn]
          go_wp2_with fail
          go_ret
          exact ⟨ret_intn HE.out.symm, HB.out⟩
      · have h18' : ((x.op : Int) == 18) = false := by simp; omega
        by_cases h20 : x.op = 20
        · have hNx : N = x.n := HN.out (by simp [numOp, h20])
          subst hNx
          have h20' : ((x.op : Int) == 20) = true := by simp; omega
          by_cases hn : x.n < S.length
          · have HE : Hid (refE S l x = 0) := by show refE S l x = 0; simp [refE, HNN.out, namesB, mayNameB, h20, hn]
            go_wp2_with fail
            go_ret
            exact ⟨ret_intn HE.out.symm, HB.out⟩
          · have HE : Hid (refE S l x = 9) := by show refE S l x = 9; simp [refE, HNN.out, namesB, mayNameB, h20, hn]
            go_wp2_with fail
            go_ret
            exact ⟨ret_intn HE.out.symm, HB.out⟩
        · have h20' : ((x.op : Int) != 20) = true := by simp; omega
          have h18n : ((x.op : Int) != 18) = true := by simp; omega
          have HE : Hid (refE S l x = 0) := by show refE S l x = 0; simp [refE, HNN.out, namesB, h18, h20]
          go_wp2_with fail
          go_ret
          exact ⟨ret_intn HE.out.symm, HB.out⟩
end Go.Proofs.YtdhmandnamajpaaDoor
