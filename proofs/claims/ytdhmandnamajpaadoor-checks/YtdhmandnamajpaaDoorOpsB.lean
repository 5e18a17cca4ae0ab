/-
  Package ops: what an instruction takes and brings; names.
-/
import Derived.Test.YtdhmandnamajpaaDoorOpsA
namespace Go.Proofs.YtdhmandnamajpaaDoor
open Go.RowKit Go.Joins

set_option maxHeartbeats 400000

theorem outS_get (S : List Sec) (n : Nat) (h : n < S.length) : outS S n = S[n].o := by simp [outS, h]
theorem inS_get (S : List Sec) (n : Nat) (h : n < S.length) : inS S n = S[n].i := by simp [inS, h]

/-- What a call leaves of what lay there. -/
theorem bdr {B : Nat} {a w : World} (h : Below B a w) (n : Nat) : Below B a (w.drewN n) := ⟨h.os, h.tape, h.output, h.size, h.block⟩
theorem below2 (w : World) (o o' : Obj) : Below w.heap.size w ((w.alloc o).alloc o') := ((Below.refl _ _).alloc (Nat.le_refl _) _).alloc (by simp) _
theorem ret_two {k : IntKind} {a b c d : Int} (h : a = c) (h' : b = d) : Ending.returned (.tuple #[.int k a, .int k b]) = .returned (.tuple #[.int k c, .int k d]) := by rw [h, h']

theorem effect_dup (op pl nx n : Nat) (v t : Value) (s : Sec) (w : World) (hR : RowsAt w) (ho : op = 9 ∨ op = 10) (hn : n < 256) :
    Calls Tryd.prog 83 #[.agg #[.int .i64 op, .int .i64 pl, .int .i64 nx, .int .i64 n, t], v, .agg #[.int .i64 s.i, .int .i64 s.o, .int .i64 s.m, .string s.code]] w
      fun e w' => e = .returned (.tuple #[.int .i64 ((takesT op : Int) + n), .int .i64 ((bringsT op : Int) + n)]) ∧ Below w.heap.size w w' := by
  have h0 := hR.1
  rcases ho with rfl | rfl
  · have r1 : w.cell? ⟨0, 46, none⟩ = some (.int .i64 1) := (hR.2 9 (by decide)).2.1
    have r2 : w.cell? ⟨0, 47, none⟩ = some (.int .i64 2) := (hR.2 9 (by decide)).2.2.1
    clear hR
    go_enter Tryd.func83, Tryd.ntmps83
    go_wp2_with fail
    go_quiet (fail)
    go_wp2_with fail
    go_quiet (fail)
    go_wp2_with fail
    go_ret2
    exact ⟨ret_two (by simp [takesT]) (by simp [bringsT]), bdr (bdr (below2 _ _ _) _) _⟩
  · have r1 : w.cell? ⟨0, 51, none⟩ = some (.int .i64 2) := (hR.2 10 (by decide)).2.1
    have r2 : w.cell? ⟨0, 52, none⟩ = some (.int .i64 2) := (hR.2 10 (by decide)).2.2.1
    clear hR
    go_enter Tryd.func83, Tryd.ntmps83
    go_wp2_with fail
    go_quiet (fail)
    go_wp2_with fail
    go_quiet (fail)
    go_wp2_with fail
    go_ret2
    exact ⟨ret_two (by simp [takesT]) (by simp [bringsT]), bdr (bdr (below2 _ _ _) _) _⟩

theorem effect_call (S : List Sec) (pl nx n b off cap : Nat) (t : Value) (s : Sec) (w : World) (hR : RowsAt w) (hS : SecsAt w b off S) (hn : n < S.length) :
    Calls Tryd.prog 83 #[.agg #[.int .i64 18, .int .i64 pl, .int .i64 nx, .int .i64 n, t], .slice (some ⟨b, off, none⟩) S.length cap, .agg #[.int .i64 s.i, .int .i64 s.o, .int .i64 s.m, .string s.code]] w
      fun e w' => e = .returned (.tuple #[.int .i64 (inS S n), .int .i64 (outS S n)]) ∧ Below w.heap.size w w' := by
  have h0 := hR.1
  have r1 : w.cell? ⟨0, 91, none⟩ = some (.int .i64 0) := (hR.2 18 (by decide)).2.1
  have r2 : w.cell? ⟨0, 92, none⟩ = some (.int .i64 0) := (hR.2 18 (by decide)).2.2.1
  obtain ⟨c0, c1, _, _⟩ := hS.at n hn
  have hb := hS.1
  rw [inS_get S n hn, outS_get S n hn]
  clear hR hS
  go_enter Tryd.func83, Tryd.ntmps83
  go_wp2_with fail
  go_quiet (fail)
  go_wp2_with fail
  go_quiet (fail)
  go_wp2_with fail
  go_ret2
  exact ⟨rfl, bdr (bdr (below2 _ _ _) _) _⟩

theorem effect_goto (S : List Sec) (pl nx n b off cap : Nat) (t : Value) (s : Sec) (w : World) (hR : RowsAt w) (hS : SecsAt w b off S) (hn : n < S.length) :
    Calls Tryd.prog 83 #[.agg #[.int .i64 20, .int .i64 pl, .int .i64 nx, .int .i64 n, t], .slice (some ⟨b, off, none⟩) S.length cap, .agg #[.int .i64 s.i, .int .i64 s.o, .int .i64 s.m, .string s.code]] w
      fun e w' => e = .returned (.tuple #[.int .i64 (inS S n), .int .i64 0]) ∧ Below w.heap.size w w' := by
  have h0 := hR.1
  have r1 : w.cell? ⟨0, 101, none⟩ = some (.int .i64 0) := (hR.2 20 (by decide)).2.1
  have r2 : w.cell? ⟨0, 102, none⟩ = some (.int .i64 0) := (hR.2 20 (by decide)).2.2.1
  obtain ⟨c0, c1, _, _⟩ := hS.at n hn
  have hb := hS.1
  rw [inS_get S n hn]
  clear hR hS
  go_enter Tryd.func83, Tryd.ntmps83
  go_wp2_with fail
  go_quiet (fail)
  go_wp2_with fail
  go_ret2
  exact ⟨rfl, bdr (below2 _ _ _) _⟩

theorem effect_return (pl nx n : Nat) (v t : Value) (s : Sec) (w : World) (hR : RowsAt w) :
    Calls Tryd.prog 83 #[.agg #[.int .i64 19, .int .i64 pl, .int .i64 nx, .int .i64 n, t], v, .agg #[.int .i64 s.i, .int .i64 s.o, .int .i64 s.m, .string s.code]] w
      fun e w' => e = .returned (.tuple #[.int .i64 (if s.o = 128 then 0 else s.o), .int .i64 0]) ∧ Below w.heap.size w w' := by
  have h0 := hR.1
  have r1 : w.cell? ⟨0, 96, none⟩ = some (.int .i64 0) := (hR.2 19 (by decide)).2.1
  have r2 : w.cell? ⟨0, 97, none⟩ = some (.int .i64 0) := (hR.2 19 (by decide)).2.2.1
  clear hR
  generalize hz : (if s.o = 128 then (0 : Int) else s.o) = z
  have HZ : Hid ((if s.o = 128 then (0 : Int) else s.o) = z) := hz
  clear hz
  go_enter Tryd.func83, Tryd.ntmps83
  go_wp2_with fail
  go_quiet (fail)
  go_wp2_with (go_at_call 112; refine (ops_outputs s _).mono ?_; rw [HZ.out]; rintro e w1 ⟨rfl, hb1⟩)
  go_ret2
  exact ⟨rfl, (bdr (below2 _ _ _) _).trans (hb1.mono (by simp [World.drewN]; omega))⟩

theorem effect_plain (op pl nx n : Nat) (v t : Value) (s : Sec) (w : World) (hR : RowsAt w) (ho : op < 21) (h9 : op ≠ 9) (h10 : op ≠ 10) (h18 : op ≠ 18) (h19 : op ≠ 19) (h20 : op ≠ 20) :
    Calls Tryd.prog 83 #[.agg #[.int .i64 op, .int .i64 pl, .int .i64 nx, .int .i64 n, t], v, .agg #[.int .i64 s.i, .int .i64 s.o, .int .i64 s.m, .string s.code]] w
      fun e w' => e = .returned (.tuple #[.int .i64 (takesT op), .int .i64 (bringsT op)]) ∧ Below w.heap.size w w' := by
  have h0 := hR.1
  obtain ⟨_, r1, r2, _, _⟩ := hR.2 op ho
  clear hR
  go_enter Tryd.func83, Tryd.ntmps83
  go_wp2_with fail
  go_quiet (fail)
  go_wp2_with fail
  go_ret2
  exact ⟨rfl, bdr (below2 _ _ _) _⟩

/-- Effect, of every instruction. -/
theorem effect_all (S : List Sec) (x : Ins) (b off cap : Nat) (t : Value) (s : Sec) (w : World) (hR : RowsAt w) (hS : SecsAt w b off S) (ho : x.op < 21) (hx : x.op = 2 ∨ x.n < 256) (hn : namesB x = true → x.n < S.length) :
    Calls Tryd.prog 83 #[.agg #[.int .i64 x.op, .int .i64 x.pl, .int .i64 x.nx, .int .i64 x.n, t], .slice (some ⟨b, off, none⟩) S.length cap, .agg #[.int .i64 s.i, .int .i64 s.o, .int .i64 s.m, .string s.code]] w
      fun e w' => e = .returned (.tuple #[.int .i64 (takesI S s x), .int .i64 (bringsI S x)]) ∧ Below w.heap.size w w' := by
  obtain ⟨op, pl, nx, n, to⟩ := x
  simp only at ho hx
  by_cases h1 : op = 9 ∨ op = 10
  · have e1 : takesI S s ⟨op, pl, nx, n, to⟩ = (takesT op : Int) + n := by simp [takesI, h1]
    have e2 : bringsI S ⟨op, pl, nx, n, to⟩ = (bringsT op : Int) + n := by simp [bringsI, h1]
    rw [e1, e2]
    exact effect_dup op pl nx n _ t s w hR h1 (by omega)
  · by_cases h2 : op = 18
    · subst h2
      exact effect_call S pl nx n b off cap t s w hR hS (hn rfl)
    · by_cases h3 : op = 20
      · subst h3
        exact effect_goto S pl nx n b off cap t s w hR hS (hn rfl)
      · by_cases h4 : op = 19
        · subst h4
          exact effect_return pl nx n _ t s w hR
        · have e1 : takesI S s ⟨op, pl, nx, n, to⟩ = (takesT op : Int) := by simp [takesI, h1, h2, h3, h4]
          have e2 : bringsI S ⟨op, pl, nx, n, to⟩ = (bringsT op : Int) := by simp [bringsI, h1, h2, h3, h4]
          rw [e1, e2]
          exact effect_plain op pl nx n _ t s w hR ho (by omega) (by omega) h2 h4 h3

theorem check_names (x : Ins) (t : Value) (w : World) :
    Calls Tryd.prog 61 #[.agg #[.int .i64 x.op, .int .i64 x.pl, .int .i64 x.nx, .int .i64 x.n, t]] w fun e w' => e = .returned (.bool (namesB x)) ∧ Below w.heap.size w w' := by
  by_cases h1 : x.op = 18
  · have e : Hid (namesB x = true) := by show namesB x = true; simp [namesB, h1]
    go_enter Tryd.func61, Tryd.ntmps61
    go_wp2
    go_ret
    exact ⟨ret_bool (by rw [e.out]), (Below.refl _ _).alloc (Nat.le_refl _) _⟩
  · by_cases h2 : x.op = 20
    · have e : Hid (namesB x = true) := by show namesB x = true; simp [namesB, h2]
      go_enter Tryd.func61, Tryd.ntmps61
      go_wp2
      go_ret
      exact ⟨ret_bool (by rw [e.out]), (Below.refl _ _).alloc (Nat.le_refl _) _⟩
    · have e : Hid (namesB x = false) := by show namesB x = false; simp [namesB, h1, h2]
      have h3 : ((x.op : Int) == 18) = false := by simp; omega
      have h4 : ((x.op : Int) == 20) = false := by simp; omega
      go_enter Tryd.func61, Tryd.ntmps61
      go_wp2
      go_ret
      exact ⟨ret_bool (by rw [e.out]), (Below.refl _ _).alloc (Nat.le_refl _) _⟩
end Go.Proofs.YtdhmandnamajpaaDoor
