/-
  The reference: cut, of what has no targets.
-/
import Derived.Test.YtdhmandnamajpaaDoorRefB
import Derived.Test.YtdhmandnamajpaaDoorOpsC
namespace Go.Proofs.YtdhmandnamajpaaDoor
open Go.RowKit Go.Joins

set_option maxHeartbeats 2000000

/-- What cut answers of what goes beyond the end. -/
def CutBad (w : World) : Ending → World → Prop := fun e w' => ∃ v0 v1 v2 v3 v4, e = .returned (.tuple #[.agg #[.int .i64 v0, .int .i64 v1, .int .i64 v2, v3, .int .i64 v4], .bool false]) ∧ (∃ a n c, v3 = .slice a n c) ∧ Below w.heap.size w w'
/-- What cut answers of a good instruction. -/
def CutOk (c : ByteArray) (p : Nat) (w : World) : Ending → World → Prop := fun e w' => ∃ (N : Int) (a : Option Addr) (vc : Nat), e = .returned (.tuple #[.agg #[.int .i64 (insI c p).pl, .int .i64 (insI c p).op, .int .i64 N, .slice a (insI c p).to.length vc, .int .i64 (insI c p).nx], .bool true]) ∧
  numsAs (insI c p) N ∧ w'.ownsRow w.heap.size 3 1 (.slice a (insI c p).to.length vc) (insI c p).to.length (iV (insI c p).to) ∧ Below w.heap.size w w'

theorem cut_bad_two (c : ByteArray) (p op : Nat) (w : World) (hp : p < c.size) (hs : c.size ≤ 120) (ho : byteN c p = op) (hop : op = 9 ∨ op = 10 ∨ op = 18 ∨ op = 20) (he : c.size < p + 2) :
    Calls Tryd.prog 62 #[.string c, .int .i64 p] w (CutBad w) := by
  have hb : c[p].toNat = op := by rw [byte_nat c p hp]; exact ho
  clear ho
  rcases hop with rfl | rfl | rfl | rfl
  · skip
    go_enter Tryd.func62, Tryd.ntmps62
    go_wp2_with fail
    exact bodyPost_ret (v := .tuple #[.agg #[.int .i64 p, .int .i64 9, .int .i64 0, .slice none 0 0, .int .i64 ((p : Int) + 2)], .bool false]) (by simp [results, Tryd.results62, go_sem]) rfl ⟨_, _, _, _, _, rfl, ⟨_, _, _, rfl⟩, below2 _ _ _⟩
  · skip
    go_enter Tryd.func62, Tryd.ntmps62
    go_wp2_with fail
    exact bodyPost_ret (v := .tuple #[.agg #[.int .i64 p, .int .i64 10, .int .i64 0, .slice none 0 0, .int .i64 ((p : Int) + 2)], .bool false]) (by simp [results, Tryd.results62, go_sem]) rfl ⟨_, _, _, _, _, rfl, ⟨_, _, _, rfl⟩, below2 _ _ _⟩
  · skip
    go_enter Tryd.func62, Tryd.ntmps62
    go_wp2_with fail
    exact bodyPost_ret (v := .tuple #[.agg #[.int .i64 p, .int .i64 18, .int .i64 0, .slice none 0 0, .int .i64 ((p : Int) + 2)], .bool false]) (by simp [results, Tryd.results62, go_sem]) rfl ⟨_, _, _, _, _, rfl, ⟨_, _, _, rfl⟩, below2 _ _ _⟩
  · skip
    go_enter Tryd.func62, Tryd.ntmps62
    go_wp2_with fail
    exact bodyPost_ret (v := .tuple #[.agg #[.int .i64 p, .int .i64 20, .int .i64 0, .slice none 0 0, .int .i64 ((p : Int) + 2)], .bool false]) (by simp [results, Tryd.results62, go_sem]) rfl ⟨_, _, _, _, _, rfl, ⟨_, _, _, rfl⟩, below2 _ _ _⟩

theorem cut_bad_three (c : ByteArray) (p op : Nat) (w : World) (hp : p < c.size) (hs : c.size ≤ 120) (ho : byteN c p = op) (hop : op = 2 ∨ op = 15 ∨ op = 16) (he : c.size < p + 3) :
    Calls Tryd.prog 62 #[.string c, .int .i64 p] w (CutBad w) := by
  have hb : c[p].toNat = op := by rw [byte_nat c p hp]; exact ho
  clear ho
  rcases hop with rfl | rfl | rfl
  · skip
    go_enter Tryd.func62, Tryd.ntmps62
    go_wp2_with fail
    exact bodyPost_ret (v := .tuple #[.agg #[.int .i64 p, .int .i64 2, .int .i64 0, .slice none 0 0, .int .i64 ((p : Int) + 3)], .bool false]) (by simp [results, Tryd.results62, go_sem]) rfl ⟨_, _, _, _, _, rfl, ⟨_, _, _, rfl⟩, below2 _ _ _⟩
  · skip
    go_enter Tryd.func62, Tryd.ntmps62
    go_wp2_with fail
    exact bodyPost_ret (v := .tuple #[.agg #[.int .i64 p, .int .i64 15, .int .i64 0, .slice none 0 0, .int .i64 ((p : Int) + 3)], .bool false]) (by simp [results, Tryd.results62, go_sem]) rfl ⟨_, _, _, _, _, rfl, ⟨_, _, _, rfl⟩, below2 _ _ _⟩
  · skip
    go_enter Tryd.func62, Tryd.ntmps62
    go_wp2_with fail
    exact bodyPost_ret (v := .tuple #[.agg #[.int .i64 p, .int .i64 16, .int .i64 0, .slice none 0 0, .int .i64 ((p : Int) + 3)], .bool false]) (by simp [results, Tryd.results62, go_sem]) rfl ⟨_, _, _, _, _, rfl, ⟨_, _, _, rfl⟩, below2 _ _ _⟩

theorem cut_bad_k (c : ByteArray) (p : Nat) (w : World) (hp : p < c.size) (hs : c.size ≤ 120) (ho : byteN c p = 17) (he : c.size ≤ p + 1) :
    Calls Tryd.prog 62 #[.string c, .int .i64 p] w (CutBad w) := by
  have hb : c[p].toNat = 17 := by rw [byte_nat c p hp]; exact ho
  clear ho
  go_enter Tryd.func62, Tryd.ntmps62
  go_wp2_with fail
  exact bodyPost_ret (v := .tuple #[.agg #[.int .i64 p, .int .i64 17, .int .i64 0, .slice none 0 0, .int .i64 ((p : Int) + 1)], .bool false]) (by simp [results, Tryd.results62, go_sem]) rfl ⟨_, _, _, _, _, rfl, ⟨_, _, _, rfl⟩, below2 _ _ _⟩

theorem cut_bad_table (c : ByteArray) (p : Nat) (w : World) (hp : p + 1 < c.size) (hs : c.size ≤ 120) (ho : byteN c p = 17) (he : c.size < p + (2 + 2 * (byteN c (p + 1) + 1))) :
    Calls Tryd.prog 62 #[.string c, .int .i64 p] w (CutBad w) := by
  have hp0 : p < c.size := by omega
  have hb : c[p].toNat = 17 := by rw [byte_nat c p hp0]; exact ho
  rw [← byte_nat c (p + 1) hp] at he
  have hl : c[p + 1].toNat < 256 := UInt8.toNat_lt _
  have he' : (c.size : Int) < (p : Int) + 2 + 2 * ((c[p + 1].toNat : Int) + 1) := by omega
  clear ho he
  go_enter Tryd.func62, Tryd.ntmps62
  go_wp2_with fail
  exact bodyPost_ret (v := .tuple #[.agg #[.int .i64 p, .int .i64 17, .int .i64 0, .slice none 0 0, .int .i64 ((p : Int) + 2 + 2 * ((c[p + 1].toNat : Int) + 1))], .bool false]) (by simp [results, Tryd.results62, go_sem]) rfl ⟨_, _, _, _, _, rfl, ⟨_, _, _, rfl⟩, below2 _ _ _⟩

theorem cut_ok_two (c : ByteArray) (p op : Nat) (w : World) (hp : p < c.size) (hs : c.size ≤ 120) (ho : byteN c p = op) (hop : op = 9 ∨ op = 10 ∨ op = 18 ∨ op = 20) (he : p + 2 ≤ c.size) :
    Calls Tryd.prog 62 #[.string c, .int .i64 p] w (CutOk c p w) := by
  have hz : sizeI c p = 2 := by unfold sizeI; rw [ho, if_neg (by omega)]; rcases hop with rfl | rfl | rfl | rfl <;> rfl
  have e1 : insI c p = ⟨op, p, p + 2, byteN c (p + 1), []⟩ := by
    unfold insI
    rw [hz, ho]
    rcases hop with rfl | rfl | rfl | rfl <;> rfl
  have hp1 : p + 1 < c.size := by omega
  rw [← byte_nat c (p + 1) hp1] at e1
  have HE := hidc e1
  have hl : c[p + 1].toNat < 256 := UInt8.toNat_lt _
  have hb : c[p].toNat = op := by rw [byte_nat c p hp]; exact ho
  clear e1 hz ho
  rcases hop with rfl | rfl | rfl | rfl
  · skip
    go_enter Tryd.func62, Tryd.ntmps62
    go_wp2_with fail
    go_loopw [8] (fun iv wr => iv = .int .i64 ((p : Int) + 2) ∧ wr = (w.alloc (.cells #[.int .i64 0, .int .i64 0, .int .i64 0, .slice none 0 0, .int .i64 0] 79)).alloc (.cells #[.int .i64 p, .int .i64 9, .int .i64 c[p + 1].toNat, .slice none 0 0, .int .i64 ((p : Int) + 2)] 79)) (fun _ _ => 0)
    case atStart => exact ⟨rfl, rfl⟩
    case round =>
      obtain ⟨rfl, rfl⟩ := hrel
      go_wp2_with fail
      exact bodyPost_ret (v := .tuple #[.agg #[.int .i64 p, .int .i64 9, .int .i64 c[p + 1].toNat, .slice none 0 0, .int .i64 ((p : Int) + 2)], .bool true]) (by simp [results, Tryd.results62, go_sem]) rfl ⟨_, none, 0, by rw [HE.out]; rfl, by rw [HE.out]; exact fun h => rfl, by rw [HE.out]; exact row_nil _ _, below2 _ _ _⟩
  · skip
    go_enter Tryd.func62, Tryd.ntmps62
    go_wp2_with fail
    go_loopw [8] (fun iv wr => iv = .int .i64 ((p : Int) + 2) ∧ wr = (w.alloc (.cells #[.int .i64 0, .int .i64 0, .int .i64 0, .slice none 0 0, .int .i64 0] 79)).alloc (.cells #[.int .i64 p, .int .i64 10, .int .i64 c[p + 1].toNat, .slice none 0 0, .int .i64 ((p : Int) + 2)] 79)) (fun _ _ => 0)
    case atStart => exact ⟨rfl, rfl⟩
    case round =>
      obtain ⟨rfl, rfl⟩ := hrel
      go_wp2_with fail
      exact bodyPost_ret (v := .tuple #[.agg #[.int .i64 p, .int .i64 10, .int .i64 c[p + 1].toNat, .slice none 0 0, .int .i64 ((p : Int) + 2)], .bool true]) (by simp [results, Tryd.results62, go_sem]) rfl ⟨_, none, 0, by rw [HE.out]; rfl, by rw [HE.out]; exact fun h => rfl, by rw [HE.out]; exact row_nil _ _, below2 _ _ _⟩
  · skip
    go_enter Tryd.func62, Tryd.ntmps62
    go_wp2_with fail
    go_loopw [8] (fun iv wr => iv = .int .i64 ((p : Int) + 2) ∧ wr = (w.alloc (.cells #[.int .i64 0, .int .i64 0, .int .i64 0, .slice none 0 0, .int .i64 0] 79)).alloc (.cells #[.int .i64 p, .int .i64 18, .int .i64 c[p + 1].toNat, .slice none 0 0, .int .i64 ((p : Int) + 2)] 79)) (fun _ _ => 0)
    case atStart => exact ⟨rfl, rfl⟩
    case round =>
      obtain ⟨rfl, rfl⟩ := hrel
      go_wp2_with fail
      exact bodyPost_ret (v := .tuple #[.agg #[.int .i64 p, .int .i64 18, .int .i64 c[p + 1].toNat, .slice none 0 0, .int .i64 ((p : Int) + 2)], .bool true]) (by simp [results, Tryd.results62, go_sem]) rfl ⟨_, none, 0, by rw [HE.out]; rfl, by rw [HE.out]; exact fun h => rfl, by rw [HE.out]; exact row_nil _ _, below2 _ _ _⟩
  · skip
    go_enter Tryd.func62, Tryd.ntmps62
    go_wp2_with fail
    go_loopw [8] (fun iv wr => iv = .int .i64 ((p : Int) + 2) ∧ wr = (w.alloc (.cells #[.int .i64 0, .int .i64 0, .int .i64 0, .slice none 0 0, .int .i64 0] 79)).alloc (.cells #[.int .i64 p, .int .i64 20, .int .i64 c[p + 1].toNat, .slice none 0 0, .int .i64 ((p : Int) + 2)] 79)) (fun _ _ => 0)
    case atStart => exact ⟨rfl, rfl⟩
    case round =>
      obtain ⟨rfl, rfl⟩ := hrel
      go_wp2_with fail
      exact bodyPost_ret (v := .tuple #[.agg #[.int .i64 p, .int .i64 20, .int .i64 c[p + 1].toNat, .slice none 0 0, .int .i64 ((p : Int) + 2)], .bool true]) (by simp [results, Tryd.results62, go_sem]) rfl ⟨_, none, 0, by rw [HE.out]; rfl, by rw [HE.out]; exact fun h => rfl, by rw [HE.out]; exact row_nil _ _, below2 _ _ _⟩

theorem cut_ok_one (c : ByteArray) (p op : Nat) (w : World) (hp : p < c.size) (hs : c.size ≤ 120) (ho : byteN c p = op) (h21 : op < 21)
    (h2 : op ≠ 2) (h9 : op ≠ 9) (h10 : op ≠ 10) (h15 : op ≠ 15) (h16 : op ≠ 16) (h17 : op ≠ 17) (h18 : op ≠ 18) (h20 : op ≠ 20) :
    Calls Tryd.prog 62 #[.string c, .int .i64 p] w (CutOk c p w) := by
  have hz : sizeI c p = 1 := by unfold sizeI; rw [ho, if_neg (by omega)]; simp [sizeT, h2, h9, h10, h15, h16, h17, h18, h20]
  have e1 : insI c p = ⟨op, p, p + 1, 0, []⟩ := by
    unfold insI
    rw [hz, ho]
    simp [numOp, h2, h9, h10, h15, h16, h17, h18, h20]
  have HE := hidc e1
  have HNO : Hid (numOp op = false) := by show numOp op = false; simp [numOp, h2, h9, h10, h18, h20]
  have hb : c[p].toNat = op := by rw [byte_nat c p hp]; exact ho
  clear e1 hz ho
  go_enter Tryd.func62, Tryd.ntmps62
  go_wp2_with fail
  go_loopw [8] (fun iv wr => iv = .int .i64 ((p : Int) + 1) ∧ wr = (w.alloc (.cells #[.int .i64 0, .int .i64 0, .int .i64 0, .slice none 0 0, .int .i64 0] 79)).alloc (.cells #[.int .i64 p, .int .i64 op, .int .i64 0, .slice none 0 0, .int .i64 ((p : Int) + 1)] 79)) (fun _ _ => 0)
  case atStart => exact ⟨rfl, rfl⟩
  case round =>
    obtain ⟨rfl, rfl⟩ := hrel
    go_wp2_with fail
    exact bodyPost_ret (v := .tuple #[.agg #[.int .i64 p, .int .i64 op, .int .i64 0, .slice none 0 0, .int .i64 ((p : Int) + 1)], .bool true]) (by simp [results, Tryd.results62, go_sem]) rfl ⟨_, none, 0, by rw [HE.out]; rfl, by rw [HE.out]; exact fun h => (by rw [show numOp op = false from HNO.out] at h; cases h), by rw [HE.out]; exact row_nil _ _, below2 _ _ _⟩
end Go.Proofs.YtdhmandnamajpaaDoor
