/-
  Package ops: the table of the ops; size, signed, outputs, Last.
-/
import Derived.Test.YtdhmandnamajpaaDoorCSpec
import Derived.Test.YtdhmandnamajpaaDoorSmall
import Derived.Lib.SmallJoins
import Derived.BigQuiet
namespace Go.Proofs.YtdhmandnamajpaaDoor
open Go.RowKit Go.Joins

theorem hidc {p : Prop} (h : p) : Hid p := h

/-- The table lies in the package-level variable, block 0. -/
def RowsAt (w : World) : Prop := 0 < w.heap.size ∧ ∀ op, op < 21 → w.cell? ⟨0, op * 5, none⟩ = some (.int .i64 (sizeT op)) ∧ w.cell? ⟨0, op * 5 + 1, none⟩ = some (.int .i64 (takesT op)) ∧
  w.cell? ⟨0, op * 5 + 2, none⟩ = some (.int .i64 (bringsT op)) ∧ w.cell? ⟨0, op * 5 + 3, none⟩ = some (.int .i64 (costT op)) ∧ w.cell? ⟨0, op * 5 + 4, none⟩ = some (.bool (lastT op))
theorem RowsAt.below {w w' : World} {B : Nat} (h : RowsAt w) (hB : 0 < B) (hb : Below B w w') : RowsAt w' := by
  obtain ⟨hc, _⟩ := bcell hb
  refine ⟨Nat.lt_of_lt_of_le h.1 hb.size, fun op ho => ?_⟩
  obtain ⟨a, b, c, d, e⟩ := h.2 op ho
  exact ⟨(hc _ _ hB).trans a, (hc _ _ hB).trans b, (hc _ _ hB).trans c, (hc _ _ hB).trans d, (hc _ _ hB).trans e⟩
theorem RowsAt.alloc {w : World} (h : RowsAt w) (o : Obj) : RowsAt (w.alloc o) := h.below h.1 ((Below.refl _ _).alloc (Nat.le_refl _) _)

set_option maxHeartbeats 400000

theorem byte_nat (c : ByteArray) (p : Nat) (h : p < c.size) : c[p].toNat = byteN c p := (byteN_get c p h).symm

theorem ops_size_plain (c : ByteArray) (p : Nat) (w : World) (hR : RowsAt w) (hp : p < c.size) (hs : c.size ≤ 120) (ho : byteN c p < 21) (h17 : ¬ (byteN c p = 17 ∧ p + 1 < c.size)) :
    Calls Tryd.prog 119 #[.string c, .int .i64 p] w fun e w' => e = .returned (.int .i64 (sizeI c p)) ∧ w' = w := by
  obtain ⟨r0, _, _, _, _⟩ := hR.2 _ ho
  have hb := byte_nat c p hp
  have e1 : sizeI c p = sizeT (byteN c p) := by unfold sizeI; rw [if_neg h17]; rfl
  rw [e1, ← hb]
  rw [← hb] at r0 ho h17
  clear hb e1
  by_cases h : c[p].toNat = 17
  · have : ¬ p + 1 < c.size := fun h2 => h17 ⟨h, h2⟩
    have r1 : w.cell? ⟨0, 85, none⟩ = some (.int .i64 2) := by simpa [h, sizeT] using r0
    have e2 : Hid ((sizeT c[p].toNat : Int) = 2) := by show (sizeT c[p].toNat : Int) = 2; rw [h]; rfl
    clear r0
    go_enter Tryd.func119, Tryd.ntmps119
    go_wp2
    go_ret
    exact ⟨ret_int e2.out.symm, rfl⟩
  · go_enter Tryd.func119, Tryd.ntmps119
    go_wp2
    go_ret
    exact ⟨rfl, rfl⟩

theorem ops_size_table (c : ByteArray) (p : Nat) (w : World) (hR : RowsAt w) (hs : c.size ≤ 120) (h17 : byteN c p = 17) (hp : p + 1 < c.size) :
    Calls Tryd.prog 119 #[.string c, .int .i64 p] w fun e w' => e = .returned (.int .i64 (sizeI c p)) ∧ w' = w := by
  have r1 : w.cell? ⟨0, 85, none⟩ = some (.int .i64 2) := (hR.2 17 (by decide)).1
  have e1 : Hid ((sizeI c p : Int) = 2 + 2 * ((c[p + 1].toNat : Int) + 1)) := by show (sizeI c p : Int) = 2 + 2 * ((c[p + 1].toNat : Int) + 1); rw [byte_nat c (p + 1) hp]; unfold sizeI; rw [if_pos ⟨h17, hp⟩, h17]; simp [sizeT]
  have h : c[p].toNat = 17 := by rw [byte_nat c p (by omega)]; exact h17
  have hl : c[p + 1].toNat < 256 := UInt8.toNat_lt _
  clear h17
  go_enter Tryd.func119, Tryd.ntmps119
  go_wp2
  go_ret
  exact ⟨ret_int e1.out.symm, rfl⟩

theorem ops_size (c : ByteArray) (p : Nat) (w : World) (hR : RowsAt w) (hp : p < c.size) (hs : c.size ≤ 120) (ho : byteN c p < 21) :
    Calls Tryd.prog 119 #[.string c, .int .i64 p] w fun e w' => e = .returned (.int .i64 (sizeI c p)) ∧ w' = w := by
  by_cases h : byteN c p = 17 ∧ p + 1 < c.size
  · exact ops_size_table c p w hR hs h.1 h.2
  · exact ops_size_plain c p w hR hp hs ho h

theorem orShift (x y : Nat) (hy : y < 256) : (256 * x) ||| y = 256 * x + y := by
  have := Nat.shiftLeft_add_eq_or_of_lt (i := 8) hy x
  have h8 : (2 : Nat) ^ 8 = 256 := by decide
  rw [Nat.shiftLeft_eq, h8, Nat.mul_comm x 256] at this
  exact this.symm
theorem num_bits (a d : Nat) (ha : a < 256) (hd : d < 256) : bits .or .i64 ((a : Int) * 256) (d : Int) = ((256 * a + d : Nat) : Int) := by
  have h1 : (BitVec.ofInt 64 ((a : Int) * 256)).toNat = 256 * a := by
    rw [BitVec.toNat_ofInt]
    omega
  have h2 : (BitVec.ofInt 64 (d : Int)).toNat = d := by
    rw [BitVec.ofInt_natCast, BitVec.toNat_ofNat]; exact Nat.mod_eq_of_lt (by omega)
  show IntKind.i64.wrap ((BitVec.ofInt 64 ((a : Int) * 256) ||| BitVec.ofInt 64 (d : Int)).toNat : Int) = _
  rw [BitVec.toNat_or, h1, h2, orShift _ _ hd, IntKind.wrap_i64]
  omega
theorem ops_number (a d : Nat) (ha : a < 256) (hd : d < 256) (w : World) :
    Calls Tryd.prog 120 #[.int .u8 a, .int .u8 d] w fun e w' => e = .returned (.int .i64 ((256 * a + d : Nat) : Int)) ∧ w' = w := by
  go_enter Tryd.func120, Tryd.ntmps120
  go_wp2
  go_ret
  exact ⟨ret_int (num_bits a d ha hd), rfl⟩
theorem ops_signed (a d : Nat) (ha : a < 256) (hd : d < 256) (w : World) :
    Calls Tryd.prog 122 #[.int .i64 ((256 * a + d : Nat) : Int)] w fun e w' => e = .returned (.int .i64 (sgn a d)) ∧ w' = w := by
  go_enter Tryd.func122, Tryd.ntmps122
  go_wp2
  go_ret
  refine ⟨ret_int ?_, rfl⟩
  unfold sgn
  simp only [IntKind.wrap, IntKind.bits, IntKind.signed, wrap64]
  simp
  split <;> split <;> omega

theorem ops_outputs (s : Sec) (w : World) :
    Calls Tryd.prog 112 #[.agg #[.int .i64 s.i, .int .i64 s.o, .int .i64 s.m, .string s.code]] w fun e w' => e = .returned (.int .i64 (if s.o = 128 then 0 else s.o)) ∧ Below w.heap.size w w' := by
  by_cases h : s.o = 128
  · rw [if_pos h]
    go_enter Tryd.func112, Tryd.ntmps112
    go_wp2
    go_ret
    exact ⟨rfl, (Below.refl _ _).alloc (Nat.le_refl _) _⟩
  · rw [if_neg h]
    go_enter Tryd.func112, Tryd.ntmps112
    go_wp2
    go_ret
    exact ⟨rfl, (Below.refl _ _).alloc (Nat.le_refl _) _⟩

theorem ops_last (x : Ins) (v : Value) (w : World) (hR : RowsAt w) (ho : x.op < 21) :
    Calls Tryd.prog 86 #[.agg #[.int .i64 x.op, .int .i64 x.pl, .int .i64 x.nx, .int .i64 x.n, v]] w fun e w' => e = .returned (.bool (lastT x.op)) ∧ Below w.heap.size w w' := by
  obtain ⟨_, _, _, _, r3⟩ := (hR.alloc (.cells #[.int .i64 x.op, .int .i64 x.pl, .int .i64 x.nx, .int .i64 x.n, v] 116)).2 _ ho
  go_enter Tryd.func86, Tryd.ntmps86
  go_wp2
  go_ret
  exact ⟨rfl, (Below.refl _ _).alloc (Nat.le_refl _) _⟩
end Go.Proofs.YtdhmandnamajpaaDoor
