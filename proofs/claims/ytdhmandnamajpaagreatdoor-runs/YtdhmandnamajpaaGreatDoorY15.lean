import Derived.Test.YtdhmandnamajpaaGreatDoorY00
import Derived.Test.YtdhmandnamajpaaGreatDoorY14
import Derived.Test.YtdhmandnamajpaaGreatDoorY02
import Derived.Test.YtdhmandnamajpaaGreatDoorY06
import Derived.Test.YtdhmandnamajpaaGreatDoorY03
import Derived.Test.YtdhmandnamajpaaGreatDoorY01
namespace Go.Proofs.YtdhmandnamajpaaGreatDoor
open Go.RowKit Go.Joins
set_option maxHeartbeats 1000000
set_option maxRecDepth 4000
set_option linter.unusedVariables false
def RLike (w0 w : World) (M B : Nat) (sv : Value) (d : ByteArray) (m : MS) (T : List (Nat × Nat × Int)) : Ending → World → Prop := fun e w' => ∃ m', (m' = m ∨ (m.fin.isSome = true ∧ ∃ fr, m' = { m with fr := fr })) ∧ RDo w0 w M B sv d m' T e w'
structure Ready (S : List Sec) (m : MS) (x : Ins) (p : MS) : Prop where
 sound : Sound S
 good : Good S m
 is : x = nowI S m
 paid : p = paidM x m
 outs : m.out.length ≤ 4000
section
variable {w0 w : World} {M B : Nat} {sv : Value} {d : ByteArray} {p m : MS} {T : List (Nat × Nat × Int)} {S : List Sec} {x : Ins}
theorem Ready.now (h : Ready S m x p) : Now S m.sec m.pl ((m.st.length : Int) - m.base) x := by
 have := atH_now h.sound h.good.here
 rw [h.is]
 exact this
theorem Ready.small (h : Ready S m x p) : p.st.length ≤ 100 := by
 rw [h.paid]
 have := h.good.small h.sound
 show m.st.length ≤ 100
 omega
theorem Ready.vals (h : Ready S m x p) : ∀ v ∈ p.st, v < 65536 := by rw [h.paid]; exact h.good.vals
theorem Ready.mems (h : Ready S m x p) : ∀ v ∈ p.mem, v < 65536 := by rw [h.paid]; exact h.good.mems
theorem Ready.low (h : Ready S m x p) : ∃ hk : m.sec < S.length, takesI S S[m.sec] x ≤ (p.st.length : Int) - p.base := by
 have N := h.now
 refine ⟨N.lt, ?_⟩
 rw [h.paid]
 exact N.low
theorem run_do_stacks (hr : Ready S m x p) (h : RumX w0 w M B sv d p T) (hB : B ≤ w.heap.size) (ta : Option Addr) (tc : Nat) (N : Int) (hN : numsAs x N) (o : x.op = 2 ∨ x.op = 3 ∨ x.op = 9 ∨ x.op = 10) :
  Calls Tryz.prog 67 #[.pointer (some ⟨M, 0, none⟩), .agg #[.int .i64 (x.pl : Nat), .int .i64 (x.op : Nat), .int .i64 N, .slice ta x.to.length tc, .int .i64 (x.nx : Nat)]] w (RLike w0 w M B sv d (doI S d x p) T) := by
 have hl := hr.small
 have hv := hr.vals
 obtain ⟨hk, hlow⟩ := hr.low
 have hn : x.n < 65536 := by rw [hr.is]; exact insI_n_lt _ _
 rcases o with o | o | o | o
 ·have e : N = x.n := hN (by rw [o]; rfl)
  rw [doI_2 S d x p o, o, e]
  exact (run_stacks_2 h hB x.pl x.nx x.to.length tc ta x.n hn hl).mono fun e w' h => ⟨_, .inl rfl, h⟩
 ·have ht : takesI S S[m.sec] x = 1 := by simp [takesI, takesT, o]
  rw [doI_3 S d x p o, o]
  exact (run_stacks_3 h hB x.pl x.nx x.to.length tc ta N hl (by omega)).mono fun e w' h => ⟨_, .inl rfl, h⟩
 ·have e : N = x.n := hN (by rw [o]; rfl)
  have ht : takesI S S[m.sec] x = (1 : Int) + x.n := by simp [takesI, takesT, o]
  rw [doI_9 S d x p o, o, e]
  exact (run_stacks_9 h hB x.pl x.nx x.to.length tc ta x.n hl (by omega) hv).mono fun e w' h => ⟨_, .inl rfl, h⟩
 ·have e : N = x.n := hN (by rw [o]; rfl)
  have ht : takesI S S[m.sec] x = (2 : Int) + x.n := by simp [takesI, takesT, o]
  rw [doI_10 S d x p o, o, e]
  exact (run_stacks_10 h hB x.pl x.nx x.to.length tc ta x.n hl (by omega)).mono fun e w' h => ⟨_, .inl rfl, h⟩
theorem run_do_sums (hr : Ready S m x p) (h : RumX w0 w M B sv d p T) (hB : B ≤ w.heap.size) (o : 4 ≤ x.op ∧ x.op < 9) :
  Calls Tryz.prog 68 #[.pointer (some ⟨M, 0, none⟩), .int .i64 (x.op : Nat)] w (RLike w0 w M B sv d (doI S d x p) T) := by
 have hl := hr.small
 have hv := hr.vals
 obtain ⟨hk, hlow⟩ := hr.low
 have ht : takesI S S[m.sec] x = 2 := by rcases (show x.op = 4 ∨ x.op = 5 ∨ x.op = 6 ∨ x.op = 7 ∨ x.op = 8 by omega) with q | q | q | q | q <;> simp [takesI, takesT, q]
 rw [doI_sum S d x p o]
 exact (run_sums h hB hl (by omega) hv x.op o).mono fun e w' h => ⟨_, .inl rfl, h⟩
theorem run_do_words (hr : Ready S m x p) (h : RumX w0 w M B sv d p T) (hB : B ≤ w.heap.size) (ta : Option Addr) (tc : Nat) (N : Int) (o : x.op = 11 ∨ x.op = 12 ∨ x.op = 13 ∨ x.op = 14) :
  Calls Tryz.prog 69 #[.pointer (some ⟨M, 0, none⟩), .agg #[.int .i64 (x.pl : Nat), .int .i64 (x.op : Nat), .int .i64 N, .slice ta x.to.length tc, .int .i64 (x.nx : Nat)]] w (RLike w0 w M B sv d (doI S d x p) T) := by
 have hl := hr.small
 have hv := hr.vals
 obtain ⟨hk, hlow⟩ := hr.low
 rcases o with o | o | o | o
 ·have ht : takesI S S[m.sec] x = 1 := by simp [takesI, takesT, o]
  rw [doI_11 S d x p o, o]
  by_cases ha : topN p.st 0 < 16
  ·rw [if_neg (by omega)]
   exact (run_words_11n h hB x.pl x.nx x.to.length tc N ta hl (by omega) hv ha hr.mems).mono fun e w' h => ⟨_, .inl rfl, h⟩
  ·rw [if_pos (by omega)]
   exact (run_words_11w h hB x.pl x.nx x.to.length tc N ta hl (by omega) hv ha).mono fun e w' h => ⟨_, .inl rfl, h⟩
 ·have ht : takesI S S[m.sec] x = 2 := by simp [takesI, takesT, o]
  rw [doI_12 S d x p o, o]
  by_cases ha : topN p.st 0 < 16
  ·rw [if_neg (by omega)]
   exact (run_words_12n h hB x.pl x.nx x.to.length tc N ta hl (by omega) hv (by omega) ha).mono fun e w' h => ⟨_, .inl rfl, h⟩
  ·rw [if_pos (by omega)]
   exact (run_words_12w h hB x.pl x.nx x.to.length tc N ta hl (by omega) hv (by omega) ha).mono fun e w' h => ⟨_, .inl rfl, h⟩
 ·have ht : takesI S S[m.sec] x = 1 := by simp [takesI, takesT, o]
  rw [doI_13 S d x p o, o]
  by_cases ha : topN p.st 0 < d.size
  ·exact (run_words_13y h hB x.pl x.nx x.to.length tc N ta hl (by omega) hv ha).mono fun e w' h => ⟨_, .inl rfl, h⟩
  ·exact (run_words_13n h hB x.pl x.nx x.to.length tc N ta hl (by omega) hv ha).mono fun e w' h => ⟨_, .inl rfl, h⟩
 ·have ht : takesI S S[m.sec] x = 1 := by simp [takesI, takesT, o]
  rw [doI_14 S d x p o, o]
  exact (run_words_14 h hB x.pl x.nx x.to.length tc N ta hl (by omega) hv (by rw [hr.paid]; exact hr.outs)).mono fun e w' h => ⟨_, .inl rfl, h⟩
def TosN (w : World) (M : Nat) (ta : Option Addr) (to : List Int) : Prop := ∀ (j : Nat) (t : Int), to[j]? = some t → ∃ q, ta = some ⟨q, 0, none⟩ ∧ q < w.heap.size ∧ q ≠ M ∧ w.cell? ⟨q, j, none⟩ = some (.int .i64 t)
theorem run_do_jumps (hr : Ready S m x p) (h : RumX w0 w M B sv d p T) (hB : B ≤ w.heap.size) (ta : Option Addr) (tc : Nat) (N : Int) (hT : TosN w M ta x.to) (o : x.op = 15 ∨ x.op = 16 ∨ x.op = 17) :
  Calls Tryz.prog 70 #[.pointer (some ⟨M, 0, none⟩), .agg #[.int .i64 (x.pl : Nat), .int .i64 (x.op : Nat), .int .i64 N, .slice ta x.to.length tc, .int .i64 (x.nx : Nat)]] w (RLike w0 w M B sv d (doI S d x p) T) := by
 have hl := hr.small
 have hv := hr.vals
 obtain ⟨hk, hlow⟩ := hr.low
 have NN := hr.now
 have hto := insI_to (codeS S m.sec) m.pl
 rw [show insI (codeS S m.sec) m.pl = x from hr.is.symm] at hto
 have key : ∀ j, j < x.to.length → ∃ q, ta = some ⟨q, 0, none⟩ ∧ q < w.heap.size ∧ q ≠ M ∧ w.cell? ⟨q, j, none⟩ = some (.int .i64 ((x.to.getD j 0).toNat : Nat)) := by
  intro j hj
  obtain ⟨q, a, b, c, e⟩ := hT j x.to[j] (by simp [hj])
  have h0 := (NN.to x.to[j] (List.getElem_mem _)).1
  refine ⟨q, a, b, c, ?_⟩
  rw [e, show x.to.getD j 0 = x.to[j] by simp [List.getD, hj], Int.toNat_of_nonneg h0]
 rcases o with o | o | o
 ·obtain ⟨q, rfl, b, c, e⟩ := key 0 (by rw [hto.1 o]; omega)
  rw [doI_15 S d x p o, o]
  exact (run_jumps_15 h hB x.pl x.nx x.to.length tc N q 0 b c _ e (by rw [hto.1 o]; omega)).mono fun e w' h => ⟨_, .inl rfl, h⟩
 ·have ht : takesI S S[m.sec] x = 1 := by simp [takesI, takesT, o]
  rw [doI_16 S d x p o, o]
  by_cases ha : topN p.st 0 = 0
  ·rw [if_pos ha]
   exact (run_jumps_16n h hB x.pl x.nx x.to.length tc N ta hl (by omega) hv ha).mono fun e w' h => ⟨_, .inl rfl, h⟩
  ·rw [if_neg ha]
   obtain ⟨q, rfl, b, c, e⟩ := key 0 (by rw [hto.2.1 o]; omega)
   exact (run_jumps_16y h hB x.pl x.nx x.to.length tc N hl (by omega) hv q 0 b c _ e (by rw [hto.2.1 o]; omega) ha).mono fun e w' h => ⟨_, .inl rfl, h⟩
 ·have ht : takesI S S[m.sec] x = 1 := by simp [takesI, takesT, o]
  rw [doI_17 S d x p o, o]
  by_cases ha : topN p.st 0 < x.to.length
  ·rw [if_pos ha]
   obtain ⟨q, rfl, b, c, e⟩ := key _ ha
   exact (run_jumps_17y h hB x.pl x.nx x.to.length tc N hl (by omega) hv q 0 b c _ ha (by rw [Nat.zero_add]; exact e)).mono fun e w' h => ⟨_, .inl rfl, h⟩
  ·rw [if_neg ha]
   exact (run_jumps_17n h hB x.pl x.nx x.to.length tc N ta hl (by omega) hv ha).mono fun e w' h => ⟨_, .inl rfl, h⟩
theorem run_do_sections (hr : Ready S m x p) (h : RumX w0 w M B sv d p T) (hB : B ≤ w.heap.size) (ta : Option Addr) (tc : Nat) (N : Int) (hN : numsAs x N) (b off cap : Nat) (hF : sv = .slice (some ⟨b, off, none⟩) S.length cap) (hS : SecsAt w0 b off S) (hbB : b < B) (hbM : b ≠ M) (o : x.op = 18 ∨ x.op = 19 ∨ x.op = 20) :
  Calls Tryz.prog 71 #[.pointer (some ⟨M, 0, none⟩), .agg #[.int .i64 (x.pl : Nat), .int .i64 (x.op : Nat), .int .i64 N, .slice ta x.to.length tc, .int .i64 (x.nx : Nat)]] w (RLike w0 w M B sv d (doI S d x p) T) := by
 have hl := hr.small
 obtain ⟨hk, hlow⟩ := hr.low
 have NN := hr.now
 have hfew : p.fr.length ≤ 8 := by rw [hr.paid]; exact hr.good.few
 have hal := hr.sound.fit
 rcases o with o | o | o
 ·have e : N = x.n := hN (by rw [o]; rfl)
  have ht : takesI S S[m.sec] x = inS S x.n := by simp [takesI, o]
  have hn := (NN.name (by simp [namesB, o])).1
  rw [doI_18 S d x p o, o, e]
  by_cases h8 : p.fr.length = 8
  ·rw [if_pos h8]
   exact (run_sections_18d h hB x.pl x.nx x.to.length tc ta x.n S b off cap hF hS hbB hbM hal hl hfew hn (by omega) h8).mono fun e w' h => ⟨_, .inl rfl, h⟩
  ·rw [if_neg h8]
   unfold enterM
   by_cases h64 : (64 : Int) < p.st.length + maxS S x.n - inS S x.n
   ·rw [if_pos h64]
    exact (run_sections_18f h hB x.pl x.nx x.to.length tc ta x.n S b off cap hF hS hbB hbM hal hl hfew hn (by omega) h8 h64).mono fun e w' h => ⟨_, .inr ⟨rfl, p.fr, rfl⟩, h⟩
   ·rw [if_neg h64]
    exact (run_sections_18g h hB x.pl x.nx x.to.length tc ta x.n S b off cap hF hS hbB hbM hal hl hfew hn (by omega) h8 h64).mono fun e w' h => ⟨_, .inl rfl, h⟩
 ·obtain ⟨r1, r2, _⟩ := NN.ret (by simp [returnsB, o])
  have hpos : 1 ≤ m.fr.length := by
   have hfr := hr.good.frames
   cases hrev : m.fr.reverse with
   | nil => rw [hrev] at hfr; exact absurd ((outS_at S m.sec hk).symm.trans hfr) r1
   | cons f r =>
    have := congrArg List.length hrev
    simp at this
    omega
  rw [doI_19 S d x p o, o]
  have e1 : p.st = m.st := by rw [hr.paid]; rfl
  have e2 : p.fr = m.fr := by rw [hr.paid]; rfl
  have e3 : p.base = m.base := by rw [hr.paid]; rfl
  have e4 : p.sec = m.sec := by rw [hr.paid]; rfl
  have hb := hr.good.base
  have hk' : p.sec < S.length := by rw [e4]; exact hk
  have hw : (p.st.length : Int) - p.base = S[p.sec].o := by
   have : wantI S S[m.sec] x = S[m.sec].o := by simp [wantI, o]
   rw [this] at r2
   simp only [e1, e3, e4]
   exact r2
  exact (run_sections_19 h hB x.pl x.nx x.to.length tc ta N S b off cap hF hS hbB hbM hal hfew (by rw [e2]; exact hpos) hl hk' (by rw [e1, e3]; exact hb) hw).mono fun e w' h => ⟨_, .inl rfl, h⟩
 ·have e : N = x.n := hN (by rw [o]; rfl)
  have ht : takesI S S[m.sec] x = inS S x.n := by simp [takesI, o]
  have hn := (NN.name (by simp [namesB, o])).1
  rw [doI_20 S d x p (by omega), o, e]
  unfold enterM
  by_cases h64 : (64 : Int) < p.st.length + maxS S x.n - inS S x.n
  ·rw [if_pos h64]
   exact (run_sections_20f h hB x.pl x.nx x.to.length tc ta x.n S b off cap hF hS hbB hbM hal hl hfew hn (by omega) h64).mono fun e w' h => ⟨_, .inl rfl, h⟩
  ·rw [if_neg h64]
   exact (run_sections_20g h hB x.pl x.nx x.to.length tc ta x.n S b off cap hF hS hbB hbM hal hl hfew hn (by omega) h64).mono fun e w' h => ⟨_, .inl rfl, h⟩
end
end Go.Proofs.YtdhmandnamajpaaGreatDoor
namespace Go.Proofs.YtdhmandnamajpaaGreatDoor
open Go.RowKit Go.Joins
set_option maxHeartbeats 1000000
def idxI (l : List Ins) (t : Int) : Int := if beginsB l t then (idxP l t : Nat) else -1
theorem ref_begins (g cc : Nat) (l : List Ins) (t : Int) (w : World) (h : ∀ k (hk : k < l.length), w.cell? ⟨g, k * 5, none⟩ = some (.int .i64 l[k].pl)) (hl : l.length ≤ 120) :
  Calls Tryz.prog 65 #[.slice (some ⟨g, 0, none⟩) l.length cc, .int .i64 t] w fun e w' => e = .returned (.int .i64 (idxI l t)) ∧ w' = w := by
 have HL := hidc h
 clear h
 go_enter Tryz.func65, Tryz.ntmps65
 go_wp2_with fail
 go_loopw [5] (fun i wr => ∃ k : Nat, k ≤ l.length ∧ i = .int .i64 k ∧ Hid (∀ j (hj : j < l.length), j < k → ((l[j].pl : Int) == t) = false) ∧ wr = w) (fun i _ => l.length - (intOf i).toNat)
 case atStart => exact ⟨0, Nat.zero_le _, rfl, fun j _ hj => by omega, rfl⟩
 case round =>
  obtain ⟨k, hk, rfl, HA, rfl⟩ := hrel
  by_cases hlt : k < l.length
  ·have c0 := HL.out k hlt
   by_cases he : (l[k].pl : Int) = t
   ·have HE : Hid (idxI l t = k) := by
     show idxI l t = k
     have hbg : beginsB l t = true := by unfold beginsB; rw [List.any_eq_true]; exact ⟨l[k], by simp, by simp [he]⟩
     have : idxP l t = k := by
      unfold idxP
      rw [List.findIdx_eq hlt]
      exact ⟨by simp [he], fun j hj => HA.out j (by omega) hj⟩
     unfold idxI
     rw [if_pos hbg, this]
    go_wp2_with fail
    go_ret
    exact ⟨ret_int HE.out.symm, rfl⟩
   ·have he' : ((l[k].pl : Int) == t) = false := by simp [he]
    go_wp2_with fail
    go_roundw
    case rel =>
     refine ⟨k + 1, by omega, by go_num, fun j hj hjk => ?_, by trivial⟩
     rcases Nat.lt_or_ge j k with h1 | h1
     ·exact HA.out j hj h1
     ·obtain rfl : j = k := by omega
      exact he'
    case measure => simp [intOf]; omega
  ·have HE : Hid (idxI l t = -1) := by
    show idxI l t = -1
    have hbg : beginsB l t = false := by
     unfold beginsB
     rw [List.any_eq_false]
     intro y hy
     obtain ⟨j, hj, rfl⟩ := List.getElem_of_mem hy
     rw [HA.out j hj (by omega)]
     simp
    unfold idxI
    rw [hbg]
    rfl
   go_wp2_with fail
   go_ret
   exact ⟨ret_int HE.out.symm, rfl⟩
end Go.Proofs.YtdhmandnamajpaaGreatDoor
namespace Go.Proofs.YtdhmandnamajpaaGreatDoor
open Go.RowKit Go.Joins
set_option maxHeartbeats 2000000
theorem ref_named (S : List Sec) (d : ByteArray) (b off cap g cc : Nat) (l : List Ins) (x : Ins) (N : Int) (ta : Option Addr) (tc : Nat) (w : World) (hS : SecsAt w b off S) (hlt : g < w.heap.size) (h : ∀ k (hk : k < l.length), w.cell? ⟨g, k * 5, none⟩ = some (.int .i64 l[k].pl)) (hl : l.length ≤ 120)
  (ht : TosAt0 w w.heap.size (.slice ta x.to.length tc) x.to) (hto : x.to.length ≤ 300) (hN : numsAs x N) :
  Calls Tryz.prog 111 #[.agg #[.slice (some ⟨b, off, none⟩) S.length cap, .string d], .slice (some ⟨g, 0, none⟩) l.length cc, .agg #[.int .i64 x.pl, .int .i64 x.op, .int .i64 N, .slice ta x.to.length tc, .int .i64 x.nx]] w
   fun e w' => e = .returned (.int .i64 (refE S l x)) ∧ Below w.heap.size w w' := by
 have hb := hS.1
 have HS := hidc hS
 have HL := hidc h
 have HT := hidc ht
 have HN := hidc hN
 clear hS h ht hN
 go_enter Tryz.func111, Tryz.ntmps111
 go_wp2_with fail
 have HB := hidc (below2 w (.cells #[.slice (some ⟨b, off, none⟩) S.length cap, .string d] 40) (.cells #[.int .i64 x.pl, .int .i64 x.op, .int .i64 N, .slice ta x.to.length tc, .int .i64 x.nx] 129))
 have hA := (Below.heap_alloc (w.alloc (.cells #[.slice (some ⟨b, off, none⟩) S.length cap, .string d] 40)) (.cells #[.int .i64 x.pl, .int .i64 x.op, .int .i64 N, .slice ta x.to.length tc, .int .i64 x.nx] 129) w.heap.size (by simp)).trans (heap_alloc_new w _)
 have hX := heap_alloc_new (w.alloc (.cells #[.slice (some ⟨b, off, none⟩) S.length cap, .string d] 40)) (.cells #[.int .i64 x.pl, .int .i64 x.op, .int .i64 N, .slice ta x.to.length tc, .int .i64 x.nx] 129)
 rw [show (w.alloc (.cells #[.slice (some ⟨b, off, none⟩) S.length cap, .string d] 40)).heap.size = w.heap.size + 1 by simp] at hX
 have a0 := cell_of_block hA 0
 have x1 := cell_of_block hX 1
 have x2 := cell_of_block hX 2
 have x3 := cell_of_block hX 3
 have hsz2 : w.heap.size + 2 ≤ ((w.alloc (.cells #[.slice (some ⟨b, off, none⟩) S.length cap, .string d] 40)).alloc (.cells #[.int .i64 x.pl, .int .i64 x.op, .int .i64 N, .slice ta x.to.length tc, .int .i64 x.nx] 129)).heap.size := by simp
 clear hA hX
 generalize ((w.alloc (.cells #[.slice (some ⟨b, off, none⟩) S.length cap, .string d] 40)).alloc (.cells #[.int .i64 x.pl, .int .i64 x.op, .int .i64 N, .slice ta x.to.length tc, .int .i64 x.nx] 129)) = wq at *
 go_loopw [7] (fun i wr => ∃ k : Nat, k ≤ x.to.length ∧ i = .int .i64 k ∧ Hid ((x.to.take k).all (fun t => beginsB l t) = true) ∧ wr = wq) (fun i _ => x.to.length - (intOf i).toNat)
 case atStart => exact ⟨0, Nat.zero_le _, rfl, by show (x.to.take 0).all (fun t => beginsB l t) = true; simp, rfl⟩
 case round =>
  obtain ⟨k, hk, rfl, HA, rfl⟩ := hrel
  have HLq : Hid (∀ k (hk : k < l.length), wr.cell? ⟨g, k * 5, none⟩ = some (.int .i64 l[k].pl)) := fun k hk => ((bcell HB.out).1 g _ hlt).trans (HL.out k hk)
  by_cases hlk : k < x.to.length
  ·obtain ⟨gt, hta, hg1, _, c0⟩ := tos_get HT.out k hlk
   have c0' := ((bcell HB.out).1 gt k hg1).trans c0
   subst hta
   clear c0
   cases hbb : beginsB l x.to[k]
   ·have HE : Hid (refE S l x = 8) := by
     show refE S l x = 8
     have : x.to.any (fun t => !beginsB l t) = true := by rw [List.any_eq_true]; exact ⟨x.to[k], by simp, by simp [hbb]⟩
     simp [refE, this]
    have HI : Hid (idxI l x.to[k] = -1) := by show idxI l x.to[k] = -1; unfold idxI; rw [hbb]; rfl
    go_wp2_with (go_at_call 65; refine (ref_begins g cc l _ _ HLq.out hl).mono ?_; rw [HI.out]; rintro e w1 ⟨rfl, rfl⟩)
    go_ret
    exact ⟨ret_intn HE.out.symm, HB.out⟩
   ·obtain ⟨hj, _⟩ := idxP_spec hbb
    have HI : Hid (idxI l x.to[k] = (idxP l x.to[k] : Nat)) := by show idxI l x.to[k] = _; unfold idxI; rw [if_pos hbb]
    have hj0 : ¬ ((idxP l x.to[k] : Nat) : Int) < 0 := by omega
    go_wp2_with (go_at_call 65; refine (ref_begins g cc l _ _ HLq.out hl).mono ?_; rw [HI.out]; rintro e w1 ⟨rfl, rfl⟩)
    go_roundw
    case rel => exact ⟨k + 1, by omega, by go_num, by show (x.to.take (k + 1)).all (fun t => beginsB l t) = true; rw [List.take_succ_eq_append_getElem hlk, List.all_append, HA.out]; simp [hbb], by trivial⟩
    case measure => simp [intOf]; omega
  ·have HNN : Hid (x.to.any (fun t => !beginsB l t) = false) := by
    show x.to.any (fun t => !beginsB l t) = false
    have := HA.out
    rw [List.take_of_length_le (by omega)] at this
    rw [List.any_eq_false]
    intro t ht
    rw [List.all_eq_true] at this
    simp [this t ht]
   by_cases h18 : x.op = 18
   ·have hNx : N = x.n := HN.out (by simp [numOp, h18])
    subst hNx
    have h18' : ((x.op : Int) == 18) = true := by simp; omega
    by_cases hn : x.n < S.length
    ·obtain ⟨_, c1, _, _⟩ := (HS.out.below hb HB.out).at x.n hn
     by_cases e : S[x.n].o = 128
     ·have HE : Hid (refE S l x = 9) := by show refE S l x = 9; simp [refE, HNN.out, namesB, mayNameB, h18, hn, outS_get S x.n hn, e]
      go_wp2_with fail
      go_ret
      exact ⟨ret_intn HE.out.symm, HB.out⟩
     ·have HE : Hid (refE S l x = 0) := by show refE S l x = 0; simp [refE, HNN.out, namesB, mayNameB, h18, hn, outS_get S x.n hn, e]
      have e' : (S[x.n].o == 128) = false := by simp [e]
      go_wp2_with fail
      go_ret
      exact ⟨ret_intn HE.out.symm, HB.out⟩
    ·have HE : Hid (refE S l x = 9) := by show refE S l x = 9; simp [refE, HNN.out, namesB, mayNameB, h18, hn]
     go_wp2_with fail
     go_ret
     exact ⟨ret_intn HE.out.symm, HB.out⟩
   ·have h18' : ((x.op : Int) == 18) = false := by simp; omega
    by_cases h20 : x.op = 20
    ·have hNx : N = x.n := HN.out (by simp [numOp, h20])
     subst hNx
     have h20' : ((x.op : Int) == 20) = true := by simp; omega
     by_cases hn : x.n < S.length
     ·have HE : Hid (refE S l x = 0) := by show refE S l x = 0; simp [refE, HNN.out, namesB, mayNameB, h20, hn]
      go_wp2_with fail
      go_ret
      exact ⟨ret_intn HE.out.symm, HB.out⟩
     ·have HE : Hid (refE S l x = 9) := by show refE S l x = 9; simp [refE, HNN.out, namesB, mayNameB, h20, hn]
      go_wp2_with fail
      go_ret
      exact ⟨ret_intn HE.out.symm, HB.out⟩
    ·have h20' : ((x.op : Int) != 20) = true := by simp; omega
     have h18n : ((x.op : Int) != 18) = true := by simp; omega
     have HE : Hid (refE S l x = 0) := by show refE S l x = 0; simp [refE, HNN.out, namesB, h18, h20]
     go_wp2_with fail
     go_ret
     exact ⟨ret_intn HE.out.symm, HB.out⟩
end Go.Proofs.YtdhmandnamajpaaGreatDoor
