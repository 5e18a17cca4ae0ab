/-
  Package check: where a look lies in memory; begins, mayName, returns.
-/
import Derived.Test.YtdhmandnamajpaaDoorOpsB
namespace Go.Proofs.YtdhmandnamajpaaDoor
open Go.RowKit Go.Joins

/-- Below B all but block r is kept. -/
structure Kp (B r : Nat) (w w' : World) : Prop where
  os : w'.os = w.os
  tape : w'.tape = w.tape
  output : w'.output = w.output
  size : w.heap.size ≤ w'.heap.size
  block : ∀ k, k < B → k ≠ r → w'.heap[k]? = w.heap[k]?
theorem Kp.refl (B r : Nat) (w : World) : Kp B r w w := ⟨rfl, rfl, rfl, Nat.le_refl _, fun _ _ _ => rfl⟩
theorem Kp.trans {B r : Nat} {a b c : World} (h : Kp B r a b) (k : Kp B r b c) : Kp B r a c :=
  ⟨k.os.trans h.os, k.tape.trans h.tape, k.output.trans h.output, Nat.le_trans h.size k.size, fun i hi hne => (k.block i hi hne).trans (h.block i hi hne)⟩
theorem Kp.mono {B B' r : Nat} {w w' : World} (h : Kp B r w w') (hB : B' ≤ B) : Kp B' r w w' := ⟨h.os, h.tape, h.output, h.size, fun k hk hne => h.block k (by omega) hne⟩
theorem Kp.of {B : Nat} {w w' : World} (h : Below B w w') (r : Nat) : Kp B r w w' := ⟨h.os, h.tape, h.output, h.size, fun k hk _ => h.block k hk⟩
theorem Kp.alloc {B r : Nat} {a w : World} (h : Kp B r a w) (hB : B ≤ w.heap.size) (o : Obj) : Kp B r a (w.alloc o) :=
  h.trans ⟨rfl, rfl, rfl, by simp, fun k hk _ => Below.heap_alloc _ _ _ (by omega)⟩
theorem Kp.set {B r : Nat} {a w : World} (h : Kp B r a w) (i : Nat) (u : Value) : Kp B r a (w.setCell ⟨r, i, none⟩ u) :=
  h.trans ⟨rfl, rfl, rfl, by simp [World.setCell], fun k hk hne => Below.heap_setCell _ _ _ _ hne⟩
theorem Kp.drewN {B r : Nat} {a w : World} (h : Kp B r a w) (n : Nat) : Kp B r a (w.drewN n) := h.trans ⟨rfl, rfl, rfl, Nat.le_refl _, fun _ _ _ => rfl⟩
theorem Kp.cell {B r : Nat} {w w' : World} (h : Kp B r w w') {g : Nat} (hB : g < B) (hr : g ≠ r) (o : Nat) : w'.cell? ⟨g, o, none⟩ = w.cell? ⟨g, o, none⟩ := World.cell?_of_block (w := w) (h.block g hB hr)
theorem blt {w : World} {k : Nat} {o : Obj} (h : w.heap[k]? = some o) : k < w.heap.size := by
  rcases Nat.lt_or_ge k w.heap.size with hlt | hge
  · exact hlt
  · rw [Array.getElem?_eq_none hge] at h; cases h

theorem SecsAt.kp {w w' : World} {b off r : Nat} {S : List Sec} (h : SecsAt w b off S) (hb : Kp w.heap.size r w w') (hr : b ≠ r) : SecsAt w' b off S := by
  refine ⟨Nat.lt_of_lt_of_le h.1 hb.size, fun k s hk => ?_⟩
  obtain ⟨c0, c1, c2, c3⟩ := h.2 k s hk
  exact ⟨(hb.cell h.1 hr _).trans c0, (hb.cell h.1 hr _).trans c1, (hb.cell h.1 hr _).trans c2, (hb.cell h.1 hr _).trans c3⟩
theorem RowsAt.kp {w w' : World} {r : Nat} (h : RowsAt w) (hb : Kp w.heap.size r w w') (hr : 0 ≠ r) : RowsAt w' := by
  refine ⟨Nat.lt_of_lt_of_le h.1 hb.size, fun op ho => ?_⟩
  obtain ⟨c0, c1, c2, c3, c4⟩ := h.2 op ho
  exact ⟨(hb.cell h.1 hr _).trans c0, (hb.cell h.1 hr _).trans c1, (hb.cell h.1 hr _).trans c2, (hb.cell h.1 hr _).trans c3, (hb.cell h.1 hr _).trans c4⟩

/-- A list of numbers in memory, not in block H. -/
def TosAt (w : World) (H : Nat) (v : Value) (to : List Int) : Prop :=
  ∃ g cap, v = .slice (some ⟨g, 0, none⟩) to.length cap ∧ g < w.heap.size ∧ g ≠ H ∧ ∀ j t, to[j]? = some t → w.cell? ⟨g, j, none⟩ = some (.int .i64 t)
def TosAt0 (w : World) (H : Nat) (v : Value) (to : List Int) : Prop := (v = .slice none 0 0 ∧ to = []) ∨ TosAt w H v to
theorem TosAt0.kp {w w' : World} {r : Nat} {v : Value} {to : List Int} (h : TosAt0 w r v to) (hb : Kp w.heap.size r w w') : TosAt0 w' r v to := by
  rcases h with h | ⟨g, cap, e, h1, h2, h3⟩
  · exact .inl h
  · exact .inr ⟨g, cap, e, Nat.lt_of_lt_of_le h1 hb.size, h2, fun j t hj => (hb.cell h1 h2 _).trans (h3 j t hj)⟩

/-- The instructions l lie in block g. -/
structure InsAt (w : World) (H g : Nat) (l : List Ins) : Prop where
  lt : g < w.heap.size
  ne : g ≠ H
  cells : ∀ k x, l[k]? = some x → w.cell? ⟨g, k * 5, none⟩ = some (.int .i64 x.op) ∧ w.cell? ⟨g, k * 5 + 1, none⟩ = some (.int .i64 x.pl) ∧ w.cell? ⟨g, k * 5 + 2, none⟩ = some (.int .i64 x.nx) ∧
    w.cell? ⟨g, k * 5 + 3, none⟩ = some (.int .i64 x.n) ∧ ∃ v, w.cell? ⟨g, k * 5 + 4, none⟩ = some v ∧ TosAt0 w H v x.to
theorem InsAt.kp {w w' : World} {H g : Nat} {l : List Ins} (h : InsAt w H g l) (hb : Kp w.heap.size H w w') : InsAt w' H g l where
  lt := Nat.lt_of_lt_of_le h.lt hb.size
  ne := h.ne
  cells := fun k x hk => by
    obtain ⟨c0, c1, c2, c3, v, c4, c5⟩ := h.cells k x hk
    exact ⟨(hb.cell h.lt h.ne _).trans c0, (hb.cell h.lt h.ne _).trans c1, (hb.cell h.lt h.ne _).trans c2, (hb.cell h.lt h.ne _).trans c3, v, (hb.cell h.lt h.ne _).trans c4, c5.kp hb⟩

/-- A look at section s of the sections S, in block L, its heights in block H, its instructions l in block g. -/
structure Look (w : World) (L H : Nat) (S : List Sec) (s : Sec) (b off cap g cc : Nat) (l : List Ins) : Prop where
  blk : w.heap[L]? = some (.cells #[.slice (some ⟨b, off, none⟩) S.length cap, .int .i64 s.i, .int .i64 s.o, .int .i64 s.m, .string s.code, .slice (some ⟨g, 0, none⟩) l.length cc, .slice (some ⟨H, 0, none⟩) s.code.size s.code.size] 67 (0, 0))
  secs : SecsAt w b off S
  code : InsAt w H g l
  rows : RowsAt w
  neL : L ≠ H
  neb : b ≠ H
  ne0 : 0 ≠ H
theorem Look.kp {w w' : World} {L H : Nat} {S : List Sec} {s : Sec} {b off cap g cc : Nat} {l : List Ins} (h : Look w L H S s b off cap g cc l) (hb : Kp w.heap.size H w w') : Look w' L H S s b off cap g cc l :=
  ⟨(hb.block L (blt h.blk) h.neL).trans h.blk, h.secs.kp hb h.neb, h.code.kp hb, h.rows.kp hb h.ne0, h.neL, h.neb, h.ne0⟩
theorem Look.below {w w' : World} {L H : Nat} {S : List Sec} {s : Sec} {b off cap g cc : Nat} {l : List Ins} (h : Look w L H S s b off cap g cc l) (hb : Below w.heap.size w w') : Look w' L H S s b off cap g cc l := h.kp (Kp.of hb H)
theorem Look.alloc {w : World} {L H : Nat} {S : List Sec} {s : Sec} {b off cap g cc : Nat} {l : List Ins} (h : Look w L H S s b off cap g cc l) (o : Obj) : Look (w.alloc o) L H S s b off cap g cc l := h.kp ((Kp.refl _ _ _).alloc (Nat.le_refl _) _)
theorem Look.facts {w : World} {L H : Nat} {S : List Sec} {s : Sec} {b off cap g cc : Nat} {l : List Ins} (h : Look w L H S s b off cap g cc l) :
    w.cell? ⟨L, 0, none⟩ = some (.slice (some ⟨b, off, none⟩) S.length cap) ∧ w.cell? ⟨L, 1, none⟩ = some (.int .i64 s.i) ∧ w.cell? ⟨L, 2, none⟩ = some (.int .i64 s.o) ∧ w.cell? ⟨L, 3, none⟩ = some (.int .i64 s.m) ∧
      w.cell? ⟨L, 4, none⟩ = some (.string s.code) ∧ w.cell? ⟨L, 5, none⟩ = some (.slice (some ⟨g, 0, none⟩) l.length cc) ∧ w.cell? ⟨L, 6, none⟩ = some (.slice (some ⟨H, 0, none⟩) s.code.size s.code.size) ∧ L < w.heap.size := by
  refine ⟨?_, ?_, ?_, ?_, ?_, ?_, ?_, blt h.blk⟩ <;> (rw [cell_of_block h.blk]; rfl)
theorem Look.ins {w : World} {L H : Nat} {S : List Sec} {s : Sec} {b off cap g cc : Nat} {l : List Ins} (h : Look w L H S s b off cap g cc l) (k : Nat) (hk : k < l.length) :
    w.cell? ⟨g, k * 5, none⟩ = some (.int .i64 l[k].op) ∧ w.cell? ⟨g, k * 5 + 1, none⟩ = some (.int .i64 l[k].pl) ∧ w.cell? ⟨g, k * 5 + 2, none⟩ = some (.int .i64 l[k].nx) ∧
    w.cell? ⟨g, k * 5 + 3, none⟩ = some (.int .i64 l[k].n) ∧ (∃ a c, w.cell? ⟨g, k * 5 + 4, none⟩ = some (.slice a l[k].to.length c) ∧ TosAt0 w H (.slice a l[k].to.length c) l[k].to) ∧ g < w.heap.size := by
  obtain ⟨c0, c1, c2, c3, v, c4, c5⟩ := h.code.cells k l[k] (by simp [hk])
  refine ⟨c0, c1, c2, c3, ?_, h.code.lt⟩
  rcases c5 with ⟨rfl, e⟩ | ⟨g', cap', rfl, e⟩
  · exact ⟨none, 0, by rw [e]; exact c4, .inl ⟨by rw [e]; rfl, e⟩⟩
  · exact ⟨_, _, c4, .inr ⟨g', cap', rfl, e⟩⟩

set_option maxHeartbeats 400000

theorem look_begins {w : World} {L H : Nat} {S : List Sec} {s : Sec} {b off cap g cc : Nat} {l : List Ins} (h : Look w L H S s b off cap g cc l) (t : Int) (hl : l.length ≤ 120) :
    Calls Tryd.prog 81 #[.pointer (some ⟨L, 0, none⟩), .int .i64 t] w fun e w' => e = .returned (.bool (beginsB l t)) ∧ Below w.heap.size w w' := by
  obtain ⟨_, _, _, _, _, f5, _, hL⟩ := h.facts
  have HL := hidc h
  clear h
  go_enter Tryd.func81, Tryd.ntmps81
  go_wp2_with fail
  go_loopw [12] (fun i wr => ∃ k : Nat, k ≤ l.length ∧ i = .int .i64 k ∧ (l.take k).all (fun x => !((x.pl : Int) == t)) = true ∧ Below w.heap.size w wr) (fun i _ => l.length - (intOf i).toNat)
  case atStart => exact ⟨0, Nat.zero_le _, rfl, by simp, Below.refl _ _⟩
  case round =>
    obtain ⟨k, hk, rfl, hall, hbel⟩ := hrel
    have HA := hidc hall
    clear hall
    by_cases hlt : k < l.length
    · obtain ⟨c0, c1, c2, c3, ⟨va, vc, c4, _⟩, hg⟩ := (HL.out.below hbel).ins k hlt
      have hsz := hbel.size
      by_cases he : (l[k].pl : Int) = t
      · have HE : Hid (beginsB l t = true) := by
          show beginsB l t = true
          unfold beginsB
          rw [List.any_eq_true]
          exact ⟨l[k], by simp, by simp [he]⟩
        go_wp2_with fail
        go_ret
        exact ⟨ret_bool HE.out.symm, hbel.alloc hsz _⟩
      · go_wp2_with fail
        go_roundw
        case rel => exact ⟨k + 1, by omega, by go_num, by rw [List.take_succ_eq_append_getElem hlt, List.all_append, HA.out]; simp [he], hbel.alloc hsz _⟩
        case measure => simp [intOf]; omega
    · go_wp2_with fail
      go_ret
      refine ⟨ret_bool ?_, hbel⟩
      have := HA.out
      rw [List.take_of_length_le (by omega)] at this
      unfold beginsB
      rw [List.any_eq_not_all_not, this]
      rfl

/-- May this section be named so? -/
theorem look_mayName {w : World} {L H : Nat} {S : List Sec} {s : Sec} {b off cap g cc : Nat} {l : List Ins} (h : Look w L H S s b off cap g cc l) (x : Ins) (t : Value) :
    Calls Tryd.prog 82 #[.pointer (some ⟨L, 0, none⟩), .agg #[.int .i64 x.op, .int .i64 x.pl, .int .i64 x.nx, .int .i64 x.n, t]] w fun e w' => e = .returned (.bool (mayNameB S x)) ∧ Below w.heap.size w w' := by
  obtain ⟨f0, _, _, _, _, f5, _, hL⟩ := h.facts
  have HL := hidc h
  clear h
  by_cases h1 : x.n < S.length
  · obtain ⟨_, c1, _, _⟩ := HL.out.secs.at x.n h1
    have hb := HL.out.secs.1
    by_cases h2 : x.op = 20
    · have HE : Hid (mayNameB S x = true) := by show mayNameB S x = true; simp [mayNameB, h1, h2]
      have h3 : ((x.op : Int) == 20) = true := by simp; omega
      go_enter Tryd.func82, Tryd.ntmps82
      go_wp2_with fail
      go_quiet (fail)
      go_wp2_with fail
      go_quiet (fail)
      go_wp2_with fail
      go_ret
      exact ⟨ret_bool HE.out.symm, bdr (bdr ((Below.refl _ _).alloc (Nat.le_refl _) _) _) _⟩
    · have HE : Hid (mayNameB S x = (S[x.n].o != 128)) := by
        show mayNameB S x = (S[x.n].o != 128)
        simp [mayNameB, h1, outS_get S x.n h1]
        intro h; exact absurd h h2
      have h3 : ((x.op : Int) == 20) = false := by simp; omega
      go_enter Tryd.func82, Tryd.ntmps82
      go_wp2_with fail
      go_quiet (fail)
      go_wp2_with fail
      go_quiet (fail)
      go_wp2_with fail
      go_ret
      exact ⟨ret_bool HE.out.symm, bdr (bdr ((Below.refl _ _).alloc (Nat.le_refl _) _) _) _⟩
  · have HE : Hid (mayNameB S x = false) := by show mayNameB S x = false; simp [mayNameB, h1]
    go_enter Tryd.func82, Tryd.ntmps82
    go_wp2_with fail
    go_quiet (fail)
    go_wp2_with fail
    go_ret
    exact ⟨ret_bool HE.out.symm, bdr ((Below.refl _ _).alloc (Nat.le_refl _) _) _⟩

/-- Does it return? -/
theorem look_returns {w : World} {L H : Nat} {S : List Sec} {s : Sec} {b off cap g cc : Nat} {l : List Ins} (h : Look w L H S s b off cap g cc l) (x : Ins) (t : Value) (hx : x.op = 20 → x.n < S.length) :
    Calls Tryd.prog 84 #[.pointer (some ⟨L, 0, none⟩), .agg #[.int .i64 x.op, .int .i64 x.pl, .int .i64 x.nx, .int .i64 x.n, t]] w fun e w' => e = .returned (.bool (returnsB S x)) ∧ Below w.heap.size w w' := by
  obtain ⟨f0, _, _, _, _, f5, _, hL⟩ := h.facts
  have HL := hidc h
  clear h
  by_cases h2 : x.op = 20
  · have h1 := hx h2
    obtain ⟨_, c1, _, _⟩ := HL.out.secs.at x.n h1
    have hb := HL.out.secs.1
    have HE : Hid (returnsB S x = (S[x.n].o != 128)) := by
      show returnsB S x = (S[x.n].o != 128)
      simp [returnsB, h2, outS_get S x.n h1]
    have h3 : ((x.op : Int) == 20) = true := by simp; omega
    have h4 : ((x.op : Int) == 19) = false := by simp; omega
    go_enter Tryd.func84, Tryd.ntmps84
    go_wp2_with fail
    go_quiet (fail)
    go_wp2_with fail
    go_ret
    exact ⟨ret_bool HE.out.symm, bdr ((Below.refl _ _).alloc (Nat.le_refl _) _) _⟩
  · have h3 : ((x.op : Int) == 20) = false := by simp; omega
    by_cases h5 : x.op = 19
    · have HE : Hid (returnsB S x = true) := by show returnsB S x = true; simp [returnsB, h5]
      have h4 : ((x.op : Int) == 19) = true := by simp; omega
      go_enter Tryd.func84, Tryd.ntmps84
      go_wp2_with fail
      go_quiet (fail)
      go_wp2_with fail
      go_ret
      exact ⟨ret_bool HE.out.symm, bdr ((Below.refl _ _).alloc (Nat.le_refl _) _) _⟩
    · have HE : Hid (returnsB S x = false) := by show returnsB S x = false; simp [returnsB, h5, h2]
      have h4 : ((x.op : Int) == 19) = false := by simp; omega
      go_enter Tryd.func84, Tryd.ntmps84
      go_wp2_with fail
      go_quiet (fail)
      go_wp2_with fail
      go_ret
      exact ⟨ret_bool HE.out.symm, bdr ((Below.refl _ _).alloc (Nat.le_refl _) _) _⟩
end Go.Proofs.YtdhmandnamajpaaDoor
