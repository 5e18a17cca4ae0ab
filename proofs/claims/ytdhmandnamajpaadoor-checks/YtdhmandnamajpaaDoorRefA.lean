/-
  The reference: what an instruction takes and brings; is it a last one; does it return.
-/
import Derived.Test.YtdhmandnamajpaaDoorOpsB
namespace Go.Proofs.YtdhmandnamajpaaDoor
open Go.RowKit Go.Joins

set_option maxHeartbeats 1000000

theorem b1 (w : World) (o : Obj) : Below w.heap.size w (w.alloc o) := (Below.refl _ _).alloc (Nat.le_refl _) _
theorem b3 (w : World) (o o' o2 : Obj) : Below w.heap.size w (((w.alloc o).alloc o').alloc o2) := (below2 _ _ _).alloc (by simp; omega) _

theorem ref_last (op pl nx : Nat) (N : Int) (t : Value) (w : World) (ho : op < 21) :
    Calls Tryd.prog 66 #[.agg #[.int .i64 pl, .int .i64 op, .int .i64 N, t, .int .i64 nx]] w fun e w' => e = .returned (.bool (lastT op)) ∧ Below w.heap.size w w' := by
  rcases (show op = 0 ∨ op = 1 ∨ op = 15 ∨ op = 19 ∨ op = 20 ∨ (op ≠ 0 ∧ op ≠ 1 ∧ op ≠ 15 ∧ op ≠ 19 ∧ op ≠ 20) by omega) with rfl | rfl | rfl | rfl | rfl | ⟨e0, e1, e15, e19, e20⟩
  · go_enter Tryd.func66, Tryd.ntmps66
    go_wp2_with fail
    go_ret
    exact ⟨rfl, b1 _ _⟩
  · go_enter Tryd.func66, Tryd.ntmps66
    go_wp2_with fail
    go_ret
    exact ⟨rfl, b1 _ _⟩
  · go_enter Tryd.func66, Tryd.ntmps66
    go_wp2_with fail
    go_ret
    exact ⟨rfl, b1 _ _⟩
  · go_enter Tryd.func66, Tryd.ntmps66
    go_wp2_with fail
    go_ret
    exact ⟨rfl, b1 _ _⟩
  · go_enter Tryd.func66, Tryd.ntmps66
    go_wp2_with fail
    go_ret
    exact ⟨rfl, b1 _ _⟩
  · have HE : Hid (lastT op = false) := by show lastT op = false; simp [lastT, e0, e1, e15, e19, e20]
    have g0 : ((op : Int) == 0) = false := by simp; omega
    have g1 : ((op : Int) == 1) = false := by simp; omega
    have g2 : ((op : Int) == 15) = false := by simp; omega
    have g3 : ((op : Int) == 19) = false := by simp; omega
    have g4 : ((op : Int) == 20) = false := by simp; omega
    go_enter Tryd.func66, Tryd.ntmps66
    go_wp2_with fail
    go_ret
    exact ⟨ret_bool HE.out.symm, b1 _ _⟩

/-- An instruction as the reference has it: its number where it has one. -/
def numsAs (x : Ins) (N : Int) : Prop := numOp x.op = true → N = x.n

theorem ref_returns (S : List Sec) (d : ByteArray) (b off cap : Nat) (x : Ins) (N : Int) (t : Value) (w : World) (hS : SecsAt w b off S) (hN : numsAs x N) (hx : x.op = 20 → x.n < S.length) :
    Calls Tryd.prog 42 #[.agg #[.slice (some ⟨b, off, none⟩) S.length cap, .string d], .agg #[.int .i64 x.pl, .int .i64 x.op, .int .i64 N, t, .int .i64 x.nx]] w fun e w' => e = .returned (.bool (returnsB S x)) ∧ Below w.heap.size w w' := by
  have hb := hS.1
  have HS := hidc hS
  clear hS
  by_cases h2 : x.op = 20
  · have h1 := hx h2
    have hNx : N = x.n := hN (by simp [numOp, h2])
    subst hNx
    obtain ⟨_, c1, _, _⟩ := HS.out.at x.n h1
    have HE : Hid (returnsB S x = (S[x.n].o != 128)) := by
      show returnsB S x = (S[x.n].o != 128)
      simp [returnsB, h2, outS_get S x.n h1]
    have h3 : ((x.op : Int) == 20) = true := by simp; omega
    have h4 : ((x.op : Int) == 19) = false := by simp; omega
    clear hN hx
    go_enter Tryd.func42, Tryd.ntmps42
    go_wp2_with fail
    go_ret
    exact ⟨ret_bool HE.out.symm, below2 _ _ _⟩
  · have h3 : ((x.op : Int) == 20) = false := by simp; omega
    by_cases h5 : x.op = 19
    · have HE : Hid (returnsB S x = true) := by show returnsB S x = true; simp [returnsB, h5]
      have h4 : ((x.op : Int) == 19) = true := by simp; omega
      clear hN hx
      go_enter Tryd.func42, Tryd.ntmps42
      go_wp2_with fail
      go_ret
      exact ⟨ret_bool HE.out.symm, below2 _ _ _⟩
    · have HE : Hid (returnsB S x = false) := by show returnsB S x = false; simp [returnsB, h5, h2]
      have h4 : ((x.op : Int) == 19) = false := by simp; omega
      clear hN hx
      go_enter Tryd.func42, Tryd.ntmps42
      go_wp2_with fail
      go_ret
      exact ⟨ret_bool HE.out.symm, below2 _ _ _⟩

theorem ref_flow_plain (op pl nx b off cap len : Nat) (N : Int) (d : ByteArray) (t : Value) (s : Sec) (w : World) (ho : op < 21) (h9 : op ≠ 9) (h10 : op ≠ 10) (h18 : op ≠ 18) (h19 : op ≠ 19) (h20 : op ≠ 20) :
    Calls Tryd.prog 64 #[.agg #[.slice (some ⟨b, off, none⟩) len cap, .string d], .agg #[.int .i64 s.i, .int .i64 s.o, .int .i64 s.m, .string s.code], .agg #[.int .i64 pl, .int .i64 op, .int .i64 N, t, .int .i64 nx]] w fun e w' => e = .returned (.tuple #[.int .i64 (takesT op), .int .i64 (bringsT op)]) ∧ Below w.heap.size w w' := by
  rcases (show op = 0 ∨ op = 1 ∨ op = 2 ∨ op = 3 ∨ op = 4 ∨ op = 5 ∨ op = 6 ∨ op = 7 ∨ op = 8 ∨ op = 11 ∨ op = 12 ∨ op = 13 ∨ op = 14 ∨ op = 15 ∨ op = 16 ∨ op = 17 by omega) with rfl | rfl | rfl | rfl | rfl | rfl | rfl | rfl | rfl | rfl | rfl | rfl | rfl | rfl | rfl | rfl
  · skip
    go_enter Tryd.func64, Tryd.ntmps64
    go_wp2_with fail
    go_ret2
    exact ⟨rfl, b3 _ _ _ _⟩
  · skip
    go_enter Tryd.func64, Tryd.ntmps64
    go_wp2_with fail
    go_ret2
    exact ⟨rfl, b3 _ _ _ _⟩
  · skip
    go_enter Tryd.func64, Tryd.ntmps64
    go_wp2_with fail
    go_ret2
    exact ⟨rfl, b3 _ _ _ _⟩
  · skip
    go_enter Tryd.func64, Tryd.ntmps64
    go_wp2_with fail
    go_ret2
    exact ⟨rfl, b3 _ _ _ _⟩
  · skip
    go_enter Tryd.func64, Tryd.ntmps64
    go_wp2_with fail
    go_ret2
    exact ⟨rfl, b3 _ _ _ _⟩
  · skip
    go_enter Tryd.func64, Tryd.ntmps64
    go_wp2_with fail
    go_ret2
    exact ⟨rfl, b3 _ _ _ _⟩
  · skip
    go_enter Tryd.func64, Tryd.ntmps64
    go_wp2_with fail
    go_ret2
    exact ⟨rfl, b3 _ _ _ _⟩
  · skip
    go_enter Tryd.func64, Tryd.ntmps64
    go_wp2_with fail
    go_ret2
    exact ⟨rfl, b3 _ _ _ _⟩
  · skip
    go_enter Tryd.func64, Tryd.ntmps64
    go_wp2_with fail
    go_ret2
    exact ⟨rfl, b3 _ _ _ _⟩
  · skip
    go_enter Tryd.func64, Tryd.ntmps64
    go_wp2_with fail
    go_ret2
    exact ⟨rfl, b3 _ _ _ _⟩
  · skip
    go_enter Tryd.func64, Tryd.ntmps64
    go_wp2_with fail
    go_ret2
    exact ⟨rfl, b3 _ _ _ _⟩
  · skip
    go_enter Tryd.func64, Tryd.ntmps64
    go_wp2_with fail
    go_ret2
    exact ⟨rfl, b3 _ _ _ _⟩
  · skip
    go_enter Tryd.func64, Tryd.ntmps64
    go_wp2_with fail
    go_ret2
    exact ⟨rfl, b3 _ _ _ _⟩
  · skip
    go_enter Tryd.func64, Tryd.ntmps64
    go_wp2_with fail
    go_ret2
    exact ⟨rfl, b3 _ _ _ _⟩
  · skip
    go_enter Tryd.func64, Tryd.ntmps64
    go_wp2_with fail
    go_ret2
    exact ⟨rfl, b3 _ _ _ _⟩
  · skip
    go_enter Tryd.func64, Tryd.ntmps64
    go_wp2_with fail
    go_ret2
    exact ⟨rfl, b3 _ _ _ _⟩

theorem ref_flow (S : List Sec) (d : ByteArray) (b off cap : Nat) (x : Ins) (N : Int) (t : Value) (s : Sec) (w : World) (hS : SecsAt w b off S) (hN : numsAs x N) (ho : x.op < 21) (hn : x.op = 2 ∨ x.n < 256) (hx : namesB x = true → x.n < S.length) :
    Calls Tryd.prog 64 #[.agg #[.slice (some ⟨b, off, none⟩) S.length cap, .string d], .agg #[.int .i64 s.i, .int .i64 s.o, .int .i64 s.m, .string s.code], .agg #[.int .i64 x.pl, .int .i64 x.op, .int .i64 N, t, .int .i64 x.nx]] w fun e w' => e = .returned (.tuple #[.int .i64 (takesI S s x), .int .i64 (bringsI S x)]) ∧ Below w.heap.size w w' := by
  obtain ⟨op, pl, nx, n, to⟩ := x
  simp only at ho hn
  have hb := hS.1
  have HS := hidc hS
  clear hS
  by_cases h9 : op = 9
  · subst h9
    obtain rfl : N = (n : Int) := hN rfl
    have e1 : takesI S s ⟨9, pl, nx, n, to⟩ = (n : Int) + 1 := by simp [takesI, takesT]; omega
    have e2 : bringsI S ⟨9, pl, nx, n, to⟩ = (n : Int) + 2 := by simp [bringsI, bringsT]; omega
    rw [e1, e2]
    clear hN hx e1 e2
    go_enter Tryd.func64, Tryd.ntmps64
    go_wp2_with fail
    go_quiet (fail)
    go_wp2_with fail
    go_ret2
    exact ⟨rfl, bdr (b3 _ _ _ _) _⟩
  by_cases h10 : op = 10
  · subst h10
    obtain rfl : N = (n : Int) := hN rfl
    have e1 : takesI S s ⟨10, pl, nx, n, to⟩ = (n : Int) + 2 := by simp [takesI, takesT]; omega
    have e2 : bringsI S ⟨10, pl, nx, n, to⟩ = (n : Int) + 2 := by simp [bringsI, bringsT]; omega
    rw [e1, e2]
    clear hN hx e1 e2
    go_enter Tryd.func64, Tryd.ntmps64
    go_wp2_with fail
    go_quiet (fail)
    go_wp2_with fail
    go_ret2
    exact ⟨rfl, bdr (b3 _ _ _ _) _⟩
  by_cases h18 : op = 18
  · subst h18
    obtain rfl : N = (n : Int) := hN rfl
    have hl := hx rfl
    simp only at hl
    obtain ⟨c0, c1, _, _⟩ := HS.out.at n hl
    have e1 : takesI S s ⟨18, pl, nx, n, to⟩ = S[n].i := by simp [takesI, inS_get S n hl]
    have e2 : bringsI S ⟨18, pl, nx, n, to⟩ = S[n].o := by simp [bringsI, outS_get S n hl]
    rw [e1, e2]
    clear hN hx e1 e2
    have hb3 := b3 w (.cells #[.slice (some ⟨b, off, none⟩) S.length cap, .string d] 24) (.cells #[.int .i64 s.i, .int .i64 s.o, .int .i64 s.m, .string s.code] 33) (.cells #[.int .i64 pl, .int .i64 18, .int .i64 n, t, .int .i64 nx] 79)
    have k0 := ((bcell hb3).1 b (off + n * 4) hb).trans c0
    have k1 := ((bcell hb3).1 b (off + n * 4 + 1) hb).trans c1
    clear c0 c1 hb3
    go_enter Tryd.func64, Tryd.ntmps64
    go_wp2_with fail
    go_quiet (fail)
    go_wp2_with fail
    go_ret2
    exact ⟨rfl, bdr (b3 _ _ _ _) _⟩
  by_cases h20 : op = 20
  · subst h20
    obtain rfl : N = (n : Int) := hN rfl
    have hl := hx rfl
    simp only at hl
    obtain ⟨c0, c1, _, _⟩ := HS.out.at n hl
    have e1 : takesI S s ⟨20, pl, nx, n, to⟩ = S[n].i := by simp [takesI, inS_get S n hl]
    rw [e1]
    clear hN hx e1
    have hb3 := b3 w (.cells #[.slice (some ⟨b, off, none⟩) S.length cap, .string d] 24) (.cells #[.int .i64 s.i, .int .i64 s.o, .int .i64 s.m, .string s.code] 33) (.cells #[.int .i64 pl, .int .i64 20, .int .i64 n, t, .int .i64 nx] 79)
    have k0 := ((bcell hb3).1 b (off + n * 4) hb).trans c0
    have k1 := ((bcell hb3).1 b (off + n * 4 + 1) hb).trans c1
    clear c0 c1 hb3
    go_enter Tryd.func64, Tryd.ntmps64
    go_wp2_with fail
    go_ret2
    exact ⟨rfl, b3 _ _ _ _⟩
  by_cases h19 : op = 19
  · subst h19
    by_cases h128 : s.o = 128
    · have e1 : takesI S s ⟨19, pl, nx, n, to⟩ = 0 := by simp [takesI, h128]
      rw [e1]
      clear hN hx e1
      go_enter Tryd.func64, Tryd.ntmps64
      go_wp2_with fail
      go_ret2
      exact ⟨rfl, b3 _ _ _ _⟩
    · have e1 : takesI S s ⟨19, pl, nx, n, to⟩ = s.o := by simp [takesI, h128]
      have e3 : (s.o == 128) = false := by simp [h128]
      rw [e1]
      clear hN hx e1
      go_enter Tryd.func64, Tryd.ntmps64
      go_wp2_with fail
      go_ret2
      exact ⟨rfl, b3 _ _ _ _⟩
  have e1 : takesI S s ⟨op, pl, nx, n, to⟩ = (takesT op : Int) := by simp [takesI, h9, h10, h18, h19, h20]
  have e2 : bringsI S ⟨op, pl, nx, n, to⟩ = (bringsT op : Int) := by simp [bringsI, h9, h10, h18, h19, h20]
  rw [e1, e2]
  exact ref_flow_plain op pl nx b off cap S.length N d t s w ho h9 h10 h18 h19 h20
end Go.Proofs.YtdhmandnamajpaaDoor
