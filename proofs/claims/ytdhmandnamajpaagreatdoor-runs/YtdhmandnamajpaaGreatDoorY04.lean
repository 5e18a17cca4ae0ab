import Derived.Test.YtdhmandnamajpaaGreatDoorY00
import Derived.Test.YtdhmandnamajpaaGreatDoorY03
namespace Go.Proofs.YtdhmandnamajpaaGreatDoor
open Go.RowKit Go.Joins
set_option maxHeartbeats 1000000
theorem ops_read_jump (c : ByteArray) (p op : Nat) (w : World) (hR : RowsAt w) (hp : p < c.size) (hs : c.size ≤ 120) (he : p + sizeI c p ≤ c.size) (ho : byteN c p = op) (hop : op = 15 ∨ op = 16) :
  Calls Tryz.prog 127 #[.string c, .int .i64 p] w (ReadPost c p w) := by
 have hz : sizeI c p = 3 := by unfold sizeI; rw [ho, if_neg (by omega)]; rcases hop with rfl | rfl <;> rfl
 have e1 : insI c p = ⟨op, p, p + 3, 0, tos c (p + 3) (p + 1) 1⟩ := by
  unfold insI
  rw [hz, ho]
  rcases hop with rfl | rfl <;> rfl
 have HE := hidc e1
 have HZ := hidc hz
 have HR := hidc hR
 have HO := hidc ho
 have hb : c[p].toNat = op := by rw [byte_nat c p hp]; exact ho
 rw [hz] at he
 clear e1 hz hR ho
 rcases hop with rfl | rfl
 ·skip
  go_enter Tryz.func127, Tryz.ntmps127
  go_wp2_with (go_at_call 139; refine (ops_size c p _ (HR.out.alloc _) hp hs (by have := HO.out; omega)).mono ?_; rw [HZ.out]; rintro e w1 ⟨rfl, rfl⟩)
  refine (ops_targets_i c (p + 1) (1) (p + 3) _ _ _ (by omega) (by omega) (by omega) (by omega) hs).mono ?_
  rintro e w1 ⟨v, rfl, hown, hb1⟩
  obtain ⟨va, vc, rfl⟩ := row_form hown
  have hI := keepB hb1 (show (((w.alloc (.cells #[.int .i64 0, .int .i64 0, .int .i64 0, .int .i64 0, .slice none 0 0] 116)).alloc (.cells #[.int .i64 15, .int .i64 p, .int .i64 ((p : Int) + 3), .int .i64 0, .slice none 0 0] 116))).heap[w.heap.size + 1]? = some (.cells #[.int .i64 15, .int .i64 p, .int .i64 ((p : Int) + 3), .int .i64 0, .slice none 0 0] 116 (0, 0)) by have := heap_alloc_new (w.alloc (.cells #[.int .i64 0, .int .i64 0, .int .i64 0, .int .i64 0, .slice none 0 0] 116)) (.cells #[.int .i64 15, .int .i64 p, .int .i64 ((p : Int) + 3), .int .i64 0, .slice none 0 0] 116); simpa using this)
  have hZ := keepB hb1 (show (((w.alloc (.cells #[.int .i64 0, .int .i64 0, .int .i64 0, .int .i64 0, .slice none 0 0] 116)).alloc (.cells #[.int .i64 15, .int .i64 p, .int .i64 ((p : Int) + 3), .int .i64 0, .slice none 0 0] 116))).heap[w.heap.size]? = some (.cells #[.int .i64 0, .int .i64 0, .int .i64 0, .int .i64 0, .slice none 0 0] 116 (0, 0)) from (Below.heap_alloc _ _ _ (by simp)).trans (heap_alloc_new w _))
  have i0 := cell_of_block hI 0
  have i1 := cell_of_block hI 1
  have i2 := cell_of_block hI 2
  have i3 := cell_of_block hI 3
  have i4 := cell_of_block hI 4
  have i5 := unfrozen_of_block hI 4
  have z0 := cell_of_block hZ 0
  have z1 := cell_of_block hZ 1
  have z2 := cell_of_block hZ 2
  have z3 := cell_of_block hZ 3
  have z4 := cell_of_block hZ 4
  have y0 := unfrozen_of_block hZ 0
  have y1 := unfrozen_of_block hZ 1
  have y2 := unfrozen_of_block hZ 2
  have y3 := unfrozen_of_block hZ 3
  have y4 := unfrozen_of_block hZ 4
  have HOW := hidc hown
  have HBB := hidc hb1
  have HZZ := hidc hZ
  have hsz1 : w.heap.size + 2 ≤ w1.heap.size := by have := hb1.size; simpa using this
  clear hown hb1 hI hZ
  go_wp2_with fail
  have hF : ((((((w1.setCell ⟨w.heap.size + 1, 4, none⟩ (.slice va (1) vc)).setCell ⟨w.heap.size, 0, none⟩ (.int .i64 15)).setCell ⟨w.heap.size, 1, none⟩ (.int .i64 p)).setCell ⟨w.heap.size, 2, none⟩ (.int .i64 ((p : Int) + 3))).setCell ⟨w.heap.size, 3, none⟩ (.int .i64 0)).setCell ⟨w.heap.size, 4, none⟩ (.slice va (1) vc)).heap[w.heap.size]? = some (.cells #[.int .i64 15, .int .i64 p, .int .i64 ((p : Int) + 3), .int .i64 0, .slice va (1) vc] 116 (0, 0)) :=
   block_setCell (block_setCell (block_setCell (block_setCell (block_setCell ((Below.heap_setCell _ _ _ _ (by show w.heap.size ≠ w.heap.size + 1; omega)).trans HZZ.out) _) _) _) _) _
  have b0 := cell_of_block hF 0
  have b1 := cell_of_block hF 1
  have b2 := cell_of_block hF 2
  have b3 := cell_of_block hF 3
  have b4 := cell_of_block hF 4
  refine bodyPost_ret (v := .tuple #[.agg #[.int .i64 15, .int .i64 p, .int .i64 ((p : Int) + 3), .int .i64 0, .slice va (1) vc], .int .i64 0]) (by simp [results, Tryz.results127, go_sem, b0, b1, b2, b3, b4]) rfl ⟨va, vc, ?_, ?_, ?_⟩
  ·rw [HE.out]; simp only [tos_len]; rfl
  ·rw [HE.out]
   simp only [tos_len]
   have hB : ((w.alloc (.cells #[.int .i64 0, .int .i64 0, .int .i64 0, .int .i64 0, .slice none 0 0] 116)).alloc (.cells #[.int .i64 15, .int .i64 p, .int .i64 ((p : Int) + 3), .int .i64 0, .slice none 0 0] 116)).heap.size = w.heap.size + 2 := by simp
   exact own_mono (own_set (own_set (own_set (own_set (own_set (own_set HOW.out (by rw [hB]; omega) _ _) (by rw [hB]; omega) _ _) (by rw [hB]; omega) _ _) (by rw [hB]; omega) _ _) (by rw [hB]; omega) _ _) (by rw [hB]; omega) _ _) (by rw [hB]; omega)
  ·exact (((((((below2 _ _ _).trans (HBB.out.mono (by simp; omega))).setCell (by show w.heap.size ≤ w.heap.size + 1; omega) _).setCell (Nat.le_refl _) _).setCell (Nat.le_refl _) _).setCell (Nat.le_refl _) _).setCell (Nat.le_refl _) _).setCell (Nat.le_refl _) _
 ·skip
  go_enter Tryz.func127, Tryz.ntmps127
  go_wp2_with (go_at_call 139; refine (ops_size c p _ (HR.out.alloc _) hp hs (by have := HO.out; omega)).mono ?_; rw [HZ.out]; rintro e w1 ⟨rfl, rfl⟩)
  refine (ops_targets_i c (p + 1) (1) (p + 3) _ _ _ (by omega) (by omega) (by omega) (by omega) hs).mono ?_
  rintro e w1 ⟨v, rfl, hown, hb1⟩
  obtain ⟨va, vc, rfl⟩ := row_form hown
  have hI := keepB hb1 (show (((w.alloc (.cells #[.int .i64 0, .int .i64 0, .int .i64 0, .int .i64 0, .slice none 0 0] 116)).alloc (.cells #[.int .i64 16, .int .i64 p, .int .i64 ((p : Int) + 3), .int .i64 0, .slice none 0 0] 116))).heap[w.heap.size + 1]? = some (.cells #[.int .i64 16, .int .i64 p, .int .i64 ((p : Int) + 3), .int .i64 0, .slice none 0 0] 116 (0, 0)) by have := heap_alloc_new (w.alloc (.cells #[.int .i64 0, .int .i64 0, .int .i64 0, .int .i64 0, .slice none 0 0] 116)) (.cells #[.int .i64 16, .int .i64 p, .int .i64 ((p : Int) + 3), .int .i64 0, .slice none 0 0] 116); simpa using this)
  have hZ := keepB hb1 (show (((w.alloc (.cells #[.int .i64 0, .int .i64 0, .int .i64 0, .int .i64 0, .slice none 0 0] 116)).alloc (.cells #[.int .i64 16, .int .i64 p, .int .i64 ((p : Int) + 3), .int .i64 0, .slice none 0 0] 116))).heap[w.heap.size]? = some (.cells #[.int .i64 0, .int .i64 0, .int .i64 0, .int .i64 0, .slice none 0 0] 116 (0, 0)) from (Below.heap_alloc _ _ _ (by simp)).trans (heap_alloc_new w _))
  have i0 := cell_of_block hI 0
  have i1 := cell_of_block hI 1
  have i2 := cell_of_block hI 2
  have i3 := cell_of_block hI 3
  have i4 := cell_of_block hI 4
  have i5 := unfrozen_of_block hI 4
  have z0 := cell_of_block hZ 0
  have z1 := cell_of_block hZ 1
  have z2 := cell_of_block hZ 2
  have z3 := cell_of_block hZ 3
  have z4 := cell_of_block hZ 4
  have y0 := unfrozen_of_block hZ 0
  have y1 := unfrozen_of_block hZ 1
  have y2 := unfrozen_of_block hZ 2
  have y3 := unfrozen_of_block hZ 3
  have y4 := unfrozen_of_block hZ 4
  have HOW := hidc hown
  have HBB := hidc hb1
  have HZZ := hidc hZ
  have hsz1 : w.heap.size + 2 ≤ w1.heap.size := by have := hb1.size; simpa using this
  clear hown hb1 hI hZ
  go_wp2_with fail
  have hF : ((((((w1.setCell ⟨w.heap.size + 1, 4, none⟩ (.slice va (1) vc)).setCell ⟨w.heap.size, 0, none⟩ (.int .i64 16)).setCell ⟨w.heap.size, 1, none⟩ (.int .i64 p)).setCell ⟨w.heap.size, 2, none⟩ (.int .i64 ((p : Int) + 3))).setCell ⟨w.heap.size, 3, none⟩ (.int .i64 0)).setCell ⟨w.heap.size, 4, none⟩ (.slice va (1) vc)).heap[w.heap.size]? = some (.cells #[.int .i64 16, .int .i64 p, .int .i64 ((p : Int) + 3), .int .i64 0, .slice va (1) vc] 116 (0, 0)) :=
   block_setCell (block_setCell (block_setCell (block_setCell (block_setCell ((Below.heap_setCell _ _ _ _ (by show w.heap.size ≠ w.heap.size + 1; omega)).trans HZZ.out) _) _) _) _) _
  have b0 := cell_of_block hF 0
  have b1 := cell_of_block hF 1
  have b2 := cell_of_block hF 2
  have b3 := cell_of_block hF 3
  have b4 := cell_of_block hF 4
  refine bodyPost_ret (v := .tuple #[.agg #[.int .i64 16, .int .i64 p, .int .i64 ((p : Int) + 3), .int .i64 0, .slice va (1) vc], .int .i64 0]) (by simp [results, Tryz.results127, go_sem, b0, b1, b2, b3, b4]) rfl ⟨va, vc, ?_, ?_, ?_⟩
  ·rw [HE.out]; simp only [tos_len]; rfl
  ·rw [HE.out]
   simp only [tos_len]
   have hB : ((w.alloc (.cells #[.int .i64 0, .int .i64 0, .int .i64 0, .int .i64 0, .slice none 0 0] 116)).alloc (.cells #[.int .i64 16, .int .i64 p, .int .i64 ((p : Int) + 3), .int .i64 0, .slice none 0 0] 116)).heap.size = w.heap.size + 2 := by simp
   exact own_mono (own_set (own_set (own_set (own_set (own_set (own_set HOW.out (by rw [hB]; omega) _ _) (by rw [hB]; omega) _ _) (by rw [hB]; omega) _ _) (by rw [hB]; omega) _ _) (by rw [hB]; omega) _ _) (by rw [hB]; omega) _ _) (by rw [hB]; omega)
  ·exact (((((((below2 _ _ _).trans (HBB.out.mono (by simp; omega))).setCell (by show w.heap.size ≤ w.heap.size + 1; omega) _).setCell (Nat.le_refl _) _).setCell (Nat.le_refl _) _).setCell (Nat.le_refl _) _).setCell (Nat.le_refl _) _).setCell (Nat.le_refl _) _
theorem ops_read_table (c : ByteArray) (p k z : Nat) (w : World) (hR : RowsAt w) (hp : p < c.size) (hs : c.size ≤ 120) (he : p + z ≤ c.size) (ho : byteN c p = 17) (hp1 : p + 1 < c.size) (hk : byteN c (p + 1) = k) (hzk : z = 2 + 2 * (k + 1)) :
  Calls Tryz.prog 127 #[.string c, .int .i64 p] w (ReadPost c p w) := by
 have hz : sizeI c p = z := by unfold sizeI; rw [ho, if_pos ⟨rfl, hp1⟩, hk, hzk]; rfl
 have e1 : insI c p = ⟨17, p, p + z, 0, tos c (p + z) (p + 2) (k + 1)⟩ := by
  unfold insI
  rw [hz, ho, hk]
  rfl
 have HE := hidc e1
 have HZ := hidc hz
 have HR := hidc hR
 have HO := hidc ho
 have hb : c[p].toNat = 17 := by rw [byte_nat c p hp]; exact ho
 have HK := hidc hzk
 have hz600 : z ≤ 600 := by omega
 clear e1 hz hR ho hk hzk
 go_enter Tryz.func127, Tryz.ntmps127
 go_wp2_with (go_at_call 139; refine (ops_size c p _ (HR.out.alloc _) hp hs (by have := HO.out; omega)).mono ?_; rw [HZ.out]; rintro e w1 ⟨rfl, rfl⟩)
 refine (ops_targets_i c (p + 2) (k + 1) (p + z) _ _ _ (by omega) (by omega) (by have := HK.out; omega) he hs).mono ?_
 rintro e w1 ⟨v, rfl, hown, hb1⟩
 obtain ⟨va, vc, rfl⟩ := row_form hown
 have hI := keepB hb1 (show (((w.alloc (.cells #[.int .i64 0, .int .i64 0, .int .i64 0, .int .i64 0, .slice none 0 0] 116)).alloc (.cells #[.int .i64 17, .int .i64 p, .int .i64 ((p : Int) + z), .int .i64 0, .slice none 0 0] 116))).heap[w.heap.size + 1]? = some (.cells #[.int .i64 17, .int .i64 p, .int .i64 ((p : Int) + z), .int .i64 0, .slice none 0 0] 116 (0, 0)) by have := heap_alloc_new (w.alloc (.cells #[.int .i64 0, .int .i64 0, .int .i64 0, .int .i64 0, .slice none 0 0] 116)) (.cells #[.int .i64 17, .int .i64 p, .int .i64 ((p : Int) + z), .int .i64 0, .slice none 0 0] 116); simpa using this)
 have hZ := keepB hb1 (show (((w.alloc (.cells #[.int .i64 0, .int .i64 0, .int .i64 0, .int .i64 0, .slice none 0 0] 116)).alloc (.cells #[.int .i64 17, .int .i64 p, .int .i64 ((p : Int) + z), .int .i64 0, .slice none 0 0] 116))).heap[w.heap.size]? = some (.cells #[.int .i64 0, .int .i64 0, .int .i64 0, .int .i64 0, .slice none 0 0] 116 (0, 0)) from (Below.heap_alloc _ _ _ (by simp)).trans (heap_alloc_new w _))
 have i0 := cell_of_block hI 0
 have i1 := cell_of_block hI 1
 have i2 := cell_of_block hI 2
 have i3 := cell_of_block hI 3
 have i4 := cell_of_block hI 4
 have i5 := unfrozen_of_block hI 4
 have z0 := cell_of_block hZ 0
 have z1 := cell_of_block hZ 1
 have z2 := cell_of_block hZ 2
 have z3 := cell_of_block hZ 3
 have z4 := cell_of_block hZ 4
 have y0 := unfrozen_of_block hZ 0
 have y1 := unfrozen_of_block hZ 1
 have y2 := unfrozen_of_block hZ 2
 have y3 := unfrozen_of_block hZ 3
 have y4 := unfrozen_of_block hZ 4
 have HOW := hidc hown
 have HBB := hidc hb1
 have HZZ := hidc hZ
 have hsz1 : w.heap.size + 2 ≤ w1.heap.size := by have := hb1.size; simpa using this
 clear hown hb1 hI hZ
 go_wp2_with fail
 have hF : ((((((w1.setCell ⟨w.heap.size + 1, 4, none⟩ (.slice va (k + 1) vc)).setCell ⟨w.heap.size, 0, none⟩ (.int .i64 17)).setCell ⟨w.heap.size, 1, none⟩ (.int .i64 p)).setCell ⟨w.heap.size, 2, none⟩ (.int .i64 ((p : Int) + z))).setCell ⟨w.heap.size, 3, none⟩ (.int .i64 0)).setCell ⟨w.heap.size, 4, none⟩ (.slice va (k + 1) vc)).heap[w.heap.size]? = some (.cells #[.int .i64 17, .int .i64 p, .int .i64 ((p : Int) + z), .int .i64 0, .slice va (k + 1) vc] 116 (0, 0)) :=
  block_setCell (block_setCell (block_setCell (block_setCell (block_setCell ((Below.heap_setCell _ _ _ _ (by show w.heap.size ≠ w.heap.size + 1; omega)).trans HZZ.out) _) _) _) _) _
 have b0 := cell_of_block hF 0
 have b1 := cell_of_block hF 1
 have b2 := cell_of_block hF 2
 have b3 := cell_of_block hF 3
 have b4 := cell_of_block hF 4
 refine bodyPost_ret (v := .tuple #[.agg #[.int .i64 17, .int .i64 p, .int .i64 ((p : Int) + z), .int .i64 0, .slice va (k + 1) vc], .int .i64 0]) (by simp [results, Tryz.results127, go_sem, b0, b1, b2, b3, b4]) rfl ⟨va, vc, ?_, ?_, ?_⟩
 ·rw [HE.out]; simp only [tos_len]; rfl
 ·rw [HE.out]
  simp only [tos_len]
  have hB : ((w.alloc (.cells #[.int .i64 0, .int .i64 0, .int .i64 0, .int .i64 0, .slice none 0 0] 116)).alloc (.cells #[.int .i64 17, .int .i64 p, .int .i64 ((p : Int) + z), .int .i64 0, .slice none 0 0] 116)).heap.size = w.heap.size + 2 := by simp
  exact own_mono (own_set (own_set (own_set (own_set (own_set (own_set HOW.out (by rw [hB]; omega) _ _) (by rw [hB]; omega) _ _) (by rw [hB]; omega) _ _) (by rw [hB]; omega) _ _) (by rw [hB]; omega) _ _) (by rw [hB]; omega) _ _) (by rw [hB]; omega)
 ·exact (((((((below2 _ _ _).trans (HBB.out.mono (by simp; omega))).setCell (by show w.heap.size ≤ w.heap.size + 1; omega) _).setCell (Nat.le_refl _) _).setCell (Nat.le_refl _) _).setCell (Nat.le_refl _) _).setCell (Nat.le_refl _) _).setCell (Nat.le_refl _) _
theorem ops_read (c : ByteArray) (p : Nat) (w : World) (hR : RowsAt w) (hp : p < c.size) (hs : c.size ≤ 120) (he : opE c p = 0) :
  Calls Tryz.prog 127 #[.string c, .int .i64 p] w (ReadPost c p w) := by
 have h21 : byteN c p < 21 := by
  unfold opE at he
  by_cases h : 21 ≤ byteN c p
  ·rw [if_pos h] at he; cases he
  ·omega
 have hsz : p + sizeI c p ≤ c.size := by
  unfold opE at he
  rw [if_neg (by omega)] at he
  by_cases h : c.size < p + sizeI c p
  ·rw [if_pos h] at he; cases he
  ·omega
 by_cases h1 : byteN c p = 9 ∨ byteN c p = 10 ∨ byteN c p = 18 ∨ byteN c p = 20
 ·exact ops_read_num c p _ w hR hp hs hsz rfl h1
 ·by_cases h2 : byteN c p = 15 ∨ byteN c p = 16
  ·exact ops_read_jump c p _ w hR hp hs hsz rfl h2
  ·by_cases h3 : byteN c p = 17
   ·have hp1 : p + 1 < c.size := by
     by_cases h : p + 1 < c.size
     ·exact h
     ·have : sizeI c p = 2 := by unfold sizeI; rw [if_neg (by omega), h3]; rfl
      omega
    have hz : sizeI c p = 2 + 2 * (byteN c (p + 1) + 1) := by unfold sizeI; rw [if_pos ⟨h3, hp1⟩, h3]; rfl
    exact ops_read_table c p _ _ w hR hp hs (by rw [← hz]; exact hsz) h3 hp1 rfl rfl
   ·by_cases h4 : byteN c p = 2
    ·exact ops_read_push c p w hR hp hs hsz h4
    ·exact ops_read_plain c p _ w hR hp hs hsz rfl h21 h4 (by omega) (by omega) (by omega) (by omega) h3 (by omega) (by omega)
end Go.Proofs.YtdhmandnamajpaaGreatDoor
namespace Go.Proofs.YtdhmandnamajpaaGreatDoor
open Go.RowKit Go.Joins
set_option maxHeartbeats 400000
def SpanAt (cs : Array Value) (p : Nat) (o : Option (Int × Int)) : Prop :=
 cs[p * 3]? = some (.bool o.isSome) ∧ cs[p * 3 + 1]? = some (.int .i64 (o.getD (0, 0)).1) ∧ cs[p * 3 + 2]? = some (.int .i64 (o.getD (0, 0)).2)
structure HtsAt (w : World) (H n : Nat) (l : List Ins) (hs : List (Option (Int × Int))) (cs : Array Value) : Prop where
 blk : w.heap[H]? = some (.cells cs 141 (0, 0))
 size : cs.size = n * 3
 len : hs.length = l.length
 span : ∀ k x, l[k]? = some x → SpanAt cs x.pl (hs.getD k none)
theorem HtsAt.below {w w' : World} {H n : Nat} {l : List Ins} {hs : List (Option (Int × Int))} {cs : Array Value} (h : HtsAt w H n l hs cs) (hb : Below w.heap.size w w') : HtsAt w' H n l hs cs :=
 ⟨(hb.block H (blt h.blk)).trans h.blk, h.size, h.len, h.span⟩
theorem HtsAt.cells {w : World} {H n : Nat} {l : List Ins} {hs : List (Option (Int × Int))} {cs : Array Value} (h : HtsAt w H n l hs cs) (k : Nat) (hk : k < l.length) :
  w.cell? ⟨H, l[k].pl * 3, none⟩ = some (.bool (hs.getD k none).isSome) ∧ w.cell? ⟨H, l[k].pl * 3 + 1, none⟩ = some (.int .i64 ((hs.getD k none).getD (0, 0)).1) ∧ w.cell? ⟨H, l[k].pl * 3 + 2, none⟩ = some (.int .i64 ((hs.getD k none).getD (0, 0)).2) ∧ H < w.heap.size ∧
  (∀ i, w.frozen? ⟨H, i, none⟩ = false) := by
 obtain ⟨a, b, c⟩ := h.span k l[k] (by simp [hk])
 refine ⟨?_, ?_, ?_, blt h.blk, fun i => unfrozen_of_block h.blk i⟩
 ·rw [cell_of_block h.blk]; exact a
 ·rw [cell_of_block h.blk]; exact b
 ·rw [cell_of_block h.blk]; exact c
theorem give_back {w : World} {L H : Nat} {S : List Sec} {s : Sec} {b off cap g cc : Nat} {l : List Ins} {hs : List (Option (Int × Int))} {cs : Array Value} (h : Look w L H S s b off cap g cc l) (hh : HtsAt w H s.code.size l hs cs)
  (p j : Nat) (hj : j < l.length) (hp : l[j].pl ≤ p) (hc : l[j].pl < s.code.size) (lo hi : Int) :
  Calls Tryz.prog 126 #[.pointer (some ⟨L, 0, none⟩), .int .i64 p, .int .i64 (l[j].pl : Nat), .agg #[.bool true, .int .i64 lo, .int .i64 hi]] w
   fun e w' => e = .returned (.bool (decide (hs.getD j none = some (lo, hi)))) ∧ Below w.heap.size w w' := by
 obtain ⟨_, _, _, _, _, _, f6, hL⟩ := h.facts
 obtain ⟨c0, c1, c2, hH, _⟩ := hh.cells j hj
 clear h hh
 generalize hs.getD j none = o at *
 cases o with
 | none =>
  simp only [Option.isSome_none, Option.getD_none] at c0 c1 c2
  go_enter Tryz.func126, Tryz.ntmps126
  go_wp2_with fail
  go_quiet (fail)
  go_wp2_with fail
  go_ret
  exact ⟨ret_bool (by simp), bdr ((Below.refl _ _).alloc (Nat.le_refl _) _) _⟩
 | some o =>
  obtain ⟨oa, ob⟩ := o
  simp only [Option.isSome_some, Option.getD_some] at c0 c1 c2
  by_cases ea : oa = lo
  ·subst ea
   by_cases eb : ob = hi
   ·subst eb
    go_enter Tryz.func126, Tryz.ntmps126
    go_wp2_with fail
    go_quiet (fail)
    go_wp2_with fail
    go_ret
    exact ⟨ret_bool (by simp), bdr ((Below.refl _ _).alloc (Nat.le_refl _) _) _⟩
   ·have eb' : (ob == hi) = false := by simp [eb]
    go_enter Tryz.func126, Tryz.ntmps126
    go_wp2_with fail
    go_quiet (fail)
    go_wp2_with fail
    go_ret
    exact ⟨ret_bool (by simp [eb]), bdr ((Below.refl _ _).alloc (Nat.le_refl _) _) _⟩
  ·have ea' : (oa == lo) = false := by simp [ea]
   go_enter Tryz.func126, Tryz.ntmps126
   go_wp2_with fail
   go_quiet (fail)
   go_wp2_with fail
   go_ret
   exact ⟨ret_bool (by simp [ea]), bdr ((Below.refl _ _).alloc (Nat.le_refl _) _) _⟩
theorem HtsAt.set {w : World} {H n : Nat} {l : List Ins} {hs : List (Option (Int × Int))} {cs : Array Value} (h : HtsAt w H n l hs cs) (j : Nat) (hj : j < l.length) (hc : l[j].pl < n) (hd : ∀ k x, l[k]? = some x → k ≠ j → x.pl ≠ l[j].pl) (a c : Int) :
  HtsAt (((w.setCell ⟨H, l[j].pl * 3, none⟩ (.bool true)).setCell ⟨H, l[j].pl * 3 + 1, none⟩ (.int .i64 a)).setCell ⟨H, l[j].pl * 3 + 2, none⟩ (.int .i64 c)) H n l (hs.set j (some (a, c)))
   (((cs.setIfInBounds (l[j].pl * 3) (.bool true)).setIfInBounds (l[j].pl * 3 + 1) (.int .i64 a)).setIfInBounds (l[j].pl * 3 + 2) (.int .i64 c)) where
 blk := block_setCell (block_setCell (block_setCell h.blk _) _) _
 size := by simp [h.size]
 len := by simp [h.len]
 span := fun k x hk => by
  have hsz := h.size
  by_cases e : k = j
  ·subst e
   have hx : x = l[k] := by rw [List.getElem?_eq_getElem hj] at hk; exact (Option.some.inj hk).symm
   subst hx
   have hg : (hs.set k (some (a, c))).getD k none = some (a, c) := by simp [List.getD, h.len, hj]
   rw [hg]
   refine ⟨?_, ?_, ?_⟩
   ·rw [Array.getElem?_setIfInBounds_ne (by omega), Array.getElem?_setIfInBounds_ne (by omega), Array.getElem?_setIfInBounds_self_of_lt (by omega)]; rfl
   ·rw [Array.getElem?_setIfInBounds_ne (by omega), Array.getElem?_setIfInBounds_self_of_lt (by simp; omega)]; rfl
   ·rw [Array.getElem?_setIfInBounds_self_of_lt (by simp; omega)]; rfl
  ·have hne := hd k x hk e
   have hg : (hs.set j (some (a, c))).getD k none = hs.getD k none := by
    simp only [List.getD]
    rw [List.getElem?_set_ne (by omega)]
   rw [hg]
   obtain ⟨c0, c1, c2⟩ := h.span k x hk
   refine ⟨?_, ?_, ?_⟩ <;> rw [Array.getElem?_setIfInBounds_ne (by omega), Array.getElem?_setIfInBounds_ne (by omega), Array.getElem?_setIfInBounds_ne (by omega)]
   ·exact c0
   ·exact c1
   ·exact c2
theorem set_other {w : World} {g i r : Nat} (o : Nat) {v : Value} (h : g ≠ r) : (w.setCell ⟨r, o, none⟩ v).cell? ⟨g, i, none⟩ = w.cell? ⟨g, i, none⟩ := by
 unfold World.cell?
 rw [Below.heap_setCell _ _ _ _ h]
set_option maxHeartbeats 1000000 in
theorem give_none {w : World} {L H : Nat} {S : List Sec} {s : Sec} {b off cap g cc : Nat} {l : List Ins} {hs : List (Option (Int × Int))} {cs : Array Value} (h : Look w L H S s b off cap g cc l) (hh : HtsAt w H s.code.size l hs cs)
  (p j : Nat) (hj : j < l.length) (hp : p < l[j].pl) (hc : l[j].pl < s.code.size) (hd : ∀ k x, l[k]? = some x → k ≠ j → x.pl ≠ l[j].pl) (lo hi : Int) (ho : hs.getD j none = none) :
  Calls Tryz.prog 126 #[.pointer (some ⟨L, 0, none⟩), .int .i64 p, .int .i64 (l[j].pl : Nat), .agg #[.bool true, .int .i64 lo, .int .i64 hi]] w
   fun e w' => e = .returned (.bool true) ∧ Kp w.heap.size H w w' ∧ ∃ cs', HtsAt w' H s.code.size l (hs.set j (some (mergeH (lo, hi) (hs.getD j none)))) cs' := by
 obtain ⟨_, _, _, _, _, _, f6, hL⟩ := h.facts
 have hLH := h.neL
 obtain ⟨c0, c1, c2, hH, hfr⟩ := hh.cells j hj
 have HH := hidc hh
 have HD := hidc hd
 clear h hh hd
 rw [ho] at c0 c1 c2 ⊢
 simp only [Option.isSome_none, Option.getD_none] at c0 c1 c2
 go_enter Tryz.func126, Tryz.ntmps126
 go_wp2_with fail
 refine wp_region_held_drew (S := fun w' => w'.cell? ⟨L, 6, none⟩ = some (.slice (some ⟨H, 0, none⟩) s.code.size s.code.size) ∧ w'.cell? ⟨w.heap.size, 0, none⟩ = some (.bool true) ∧ w'.cell? ⟨w.heap.size, 1, none⟩ = some (.int .i64 lo) ∧ w'.cell? ⟨w.heap.size, 2, none⟩ = some (.int .i64 hi)) (by kernel_rfl) ?hS0 (fun hHeld => ?_)
 case hS0 => go_simp
 refine tk 0 ?va0 rfl ?hya0 hHeld ?resta0
 case hya0 => rintro w ⟨s0, s1, s2, s3⟩; go_simp; try with_reducible rfl
 simp only [Act.put, aA, aB, aC, aD, aE]
 refine tk 1 ?va1 rfl ?hya1 hHeld ?resta1
 case hya1 => rintro w ⟨s0, s1, s2, s3⟩; go_simp; try with_reducible rfl
 simp only [Act.put, aA, aB, aC, aD, aE, aF]
 refine tk 2 ?va2 rfl ?hya2 hHeld ?resta2
 case hya2 => rintro w ⟨s0, s1, s2, s3⟩; go_simp; try with_reducible rfl
 simp only [Act.put, aA, aB, aC, aD, aE, aF]
 refine tk 3 ?va3 rfl ?hya3 hHeld ?resta3
 case hya3 => rintro w ⟨s0, s1, s2, s3⟩; go_simp; try with_reducible rfl
 simp only [Act.put, aA, aB, aC, aD, aE, aF]
 refine tk 4 ?va4 rfl ?hya4 hHeld ?resta4
 case hya4 => rintro w ⟨s0, s1, s2, s3⟩; go_simp; try with_reducible rfl
 simp only [Act.put, aA, aB, aC, aD, aE, aF]
 refine tk 5 ?va5 rfl ?hya5 hHeld ?resta5
 case hya5 => rintro w ⟨s0, s1, s2, s3⟩; go_simp; try with_reducible rfl
 simp only [Act.put, aA, aB, aC, aD, aE, aF]
 refine tk 6 ?va6 rfl ?hya6 hHeld ?resta6
 case hya6 => rintro w ⟨s0, s1, s2, s3⟩; go_simp; try with_reducible rfl
 simp only [Act.put, aA, aB, aC, aD, aE, aF]
 refine rd 7 rfl (fun K hK => ?_)
 simp only [aD, aE, aF]
 go_simp
 refine hK.out _ _ ?hS9 (fun hHeld => ?_)
 case hS9 =>
  exact ⟨(cell_al _ (by first | (simp; done) | (simp; omega))).trans ((cell_al _ (by first | (simp; done) | (simp; omega))).trans ((set_other _ hLH).trans ((set_other _ hLH).trans ((set_other _ hLH).trans f6)))), (cell_al _ (by first | (simp; done) | (simp; omega))).trans (cell_nw (by first | (simp; done) | (simp; omega)) rfl), (cell_al _ (by first | (simp; done) | (simp; omega))).trans (cell_nw (by first | (simp; done) | (simp; omega)) rfl), (cell_al _ (by first | (simp; done) | (simp; omega))).trans (cell_nw (by first | (simp; done) | (simp; omega)) rfl)⟩
 clear hK
 refine wpAnyH_done (by kernel_rfl) ?_ _
 go_wp2_with fail
 go_ret
 refine ⟨rfl, ?_, _, (HH.out.set j hj hc HD.out _ _).below (below2 _ _ _).drew⟩
 exact ((((Kp.refl w.heap.size H w).set _ _).set _ _).set _ _).trans ((Kp.of (below2 _ _ _).drew H).mono (by first | (simp; done) | (simp; omega)))
set_option maxHeartbeats 1000000 in
theorem give_some_b {w : World} {L H : Nat} {S : List Sec} {s : Sec} {b off cap g cc : Nat} {l : List Ins} {hs : List (Option (Int × Int))} {cs : Array Value} (h : Look w L H S s b off cap g cc l) (hh : HtsAt w H s.code.size l hs cs)
  (p j : Nat) (hj : j < l.length) (hp : p < l[j].pl) (hc : l[j].pl < s.code.size) (hd : ∀ k x, l[k]? = some x → k ≠ j → x.pl ≠ l[j].pl) (lo hi : Int) (oa ob : Int) (ho : hs.getD j none = some (oa, ob)) (em : lo ≤ oa) (eM : ob ≤ hi) :
  Calls Tryz.prog 126 #[.pointer (some ⟨L, 0, none⟩), .int .i64 p, .int .i64 (l[j].pl : Nat), .agg #[.bool true, .int .i64 lo, .int .i64 hi]] w
   fun e w' => e = .returned (.bool true) ∧ Kp w.heap.size H w w' ∧ ∃ cs', HtsAt w' H s.code.size l (hs.set j (some (mergeH (lo, hi) (hs.getD j none)))) cs' := by
 obtain ⟨_, _, _, _, _, _, f6, hL⟩ := h.facts
 have hLH := h.neL
 obtain ⟨c0, c1, c2, hH, hfr⟩ := hh.cells j hj
 have HH := hidc hh
 have HD := hidc hd
 clear h hh hd
 rw [ho] at c0 c1 c2 ⊢
 simp only [Option.isSome_some, Option.getD_some] at c0 c1 c2
 have hm : mergeH (lo, hi) (some (oa, ob)) = (lo, hi) := by simp only [mergeH]; rw [show min lo oa = lo by omega, show max hi ob = hi by omega]
 rw [hm]
 clear hm
 go_enter Tryz.func126, Tryz.ntmps126
 go_wp2_with fail
 refine wp_region_held_drew (S := fun w' => w'.cell? ⟨L, 6, none⟩ = some (.slice (some ⟨H, 0, none⟩) s.code.size s.code.size) ∧ w'.cell? ⟨w.heap.size, 0, none⟩ = some (.bool true) ∧ w'.cell? ⟨w.heap.size, 1, none⟩ = some (.int .i64 lo) ∧ w'.cell? ⟨w.heap.size, 2, none⟩ = some (.int .i64 hi)) (by kernel_rfl) ?hS0 (fun hHeld => ?_)
 case hS0 => go_simp
 refine tk 0 ?vb0 rfl ?hyb0 hHeld ?restb0
 case hyb0 => rintro w ⟨s0, s1, s2, s3⟩; go_simp; try with_reducible rfl
 simp only [Act.put, aA, aB, aC, aD, aE]
 refine tk 1 ?vb1 rfl ?hyb1 hHeld ?restb1
 case hyb1 => rintro w ⟨s0, s1, s2, s3⟩; go_simp; try with_reducible rfl
 simp only [Act.put, aA, aB, aC, aD, aE, aF]
 refine tk 2 ?vb2 rfl ?hyb2 hHeld ?restb2
 case hyb2 => rintro w ⟨s0, s1, s2, s3⟩; go_simp; try with_reducible rfl
 simp only [Act.put, aA, aB, aC, aD, aE, aF]
 refine tk 3 ?vb3 rfl ?hyb3 hHeld ?restb3
 case hyb3 => rintro w ⟨s0, s1, s2, s3⟩; go_simp; try with_reducible rfl
 simp only [Act.put, aA, aB, aC, aD, aE, aF]
 refine tk 4 ?vb4 rfl ?hyb4 hHeld ?restb4
 case hyb4 => rintro w ⟨s0, s1, s2, s3⟩; go_simp; try with_reducible rfl
 simp only [Act.put, aA, aB, aC, aD, aE, aF]
 refine tk 5 ?vb5 rfl ?hyb5 hHeld ?restb5
 case hyb5 => rintro w ⟨s0, s1, s2, s3⟩; go_simp; try with_reducible rfl
 simp only [Act.put, aA, aB, aC, aD, aE, aF]
 refine tk 6 ?vb6 rfl ?hyb6 hHeld ?restb6
 case hyb6 => rintro w ⟨s0, s1, s2, s3⟩; go_simp; try with_reducible rfl
 simp only [Act.put, aA, aB, aC, aD, aE, aF]
 refine rd 7 rfl (fun K hK => ?_)
 simp only [aD, aE, aF]
 go_simp
 refine hK.out _ _ ?hS9 (fun hHeld => ?_)
 case hS9 =>
  exact ⟨(cell_al _ (by first | (simp; done) | (simp; omega))).trans ((cell_al _ (by first | (simp; done) | (simp; omega))).trans ((set_other _ hLH).trans ((set_other _ hLH).trans ((set_other _ hLH).trans f6)))), (cell_al _ (by first | (simp; done) | (simp; omega))).trans (cell_nw (by first | (simp; done) | (simp; omega)) rfl), (cell_al _ (by first | (simp; done) | (simp; omega))).trans (cell_nw (by first | (simp; done) | (simp; omega)) rfl), (cell_al _ (by first | (simp; done) | (simp; omega))).trans (cell_nw (by first | (simp; done) | (simp; omega)) rfl)⟩
 clear hK
 refine wpAnyH_done (by kernel_rfl) ?_ _
 go_wp2_with fail
 go_ret
 refine ⟨rfl, ?_, _, (HH.out.set j hj hc HD.out _ _).below (below2 _ _ _).drew⟩
 exact ((((Kp.refl w.heap.size H w).set _ _).set _ _).set _ _).trans ((Kp.of (below2 _ _ _).drew H).mono (by first | (simp; done) | (simp; omega)))
set_option maxHeartbeats 1000000 in
theorem give_some_c {w : World} {L H : Nat} {S : List Sec} {s : Sec} {b off cap g cc : Nat} {l : List Ins} {hs : List (Option (Int × Int))} {cs : Array Value} (h : Look w L H S s b off cap g cc l) (hh : HtsAt w H s.code.size l hs cs)
  (p j : Nat) (hj : j < l.length) (hp : p < l[j].pl) (hc : l[j].pl < s.code.size) (hd : ∀ k x, l[k]? = some x → k ≠ j → x.pl ≠ l[j].pl) (lo hi : Int) (oa ob : Int) (ho : hs.getD j none = some (oa, ob)) (em : lo ≤ oa) (eM : ¬ ob ≤ hi) :
  Calls Tryz.prog 126 #[.pointer (some ⟨L, 0, none⟩), .int .i64 p, .int .i64 (l[j].pl : Nat), .agg #[.bool true, .int .i64 lo, .int .i64 hi]] w
   fun e w' => e = .returned (.bool true) ∧ Kp w.heap.size H w w' ∧ ∃ cs', HtsAt w' H s.code.size l (hs.set j (some (mergeH (lo, hi) (hs.getD j none)))) cs' := by
 obtain ⟨_, _, _, _, _, _, f6, hL⟩ := h.facts
 have hLH := h.neL
 obtain ⟨c0, c1, c2, hH, hfr⟩ := hh.cells j hj
 have HH := hidc hh
 have HD := hidc hd
 clear h hh hd
 rw [ho] at c0 c1 c2 ⊢
 simp only [Option.isSome_some, Option.getD_some] at c0 c1 c2
 have hm : mergeH (lo, hi) (some (oa, ob)) = (lo, ob) := by simp only [mergeH]; rw [show min lo oa = lo by omega, show max hi ob = ob by omega]
 rw [hm]
 clear hm
 go_enter Tryz.func126, Tryz.ntmps126
 go_wp2_with fail
 refine wp_region_held_drew (S := fun w' => w'.cell? ⟨L, 6, none⟩ = some (.slice (some ⟨H, 0, none⟩) s.code.size s.code.size) ∧ w'.cell? ⟨w.heap.size, 0, none⟩ = some (.bool true) ∧ w'.cell? ⟨w.heap.size, 1, none⟩ = some (.int .i64 lo) ∧ w'.cell? ⟨w.heap.size, 2, none⟩ = some (.int .i64 ob)) (by kernel_rfl) ?hS0 (fun hHeld => ?_)
 case hS0 => go_simp
 refine tk 0 ?vc0 rfl ?hyc0 hHeld ?restc0
 case hyc0 => rintro w ⟨s0, s1, s2, s3⟩; go_simp; try with_reducible rfl
 simp only [Act.put, aA, aB, aC, aD, aE]
 refine tk 1 ?vc1 rfl ?hyc1 hHeld ?restc1
 case hyc1 => rintro w ⟨s0, s1, s2, s3⟩; go_simp; try with_reducible rfl
 simp only [Act.put, aA, aB, aC, aD, aE, aF]
 refine tk 2 ?vc2 rfl ?hyc2 hHeld ?restc2
 case hyc2 => rintro w ⟨s0, s1, s2, s3⟩; go_simp; try with_reducible rfl
 simp only [Act.put, aA, aB, aC, aD, aE, aF]
 refine tk 3 ?vc3 rfl ?hyc3 hHeld ?restc3
 case hyc3 => rintro w ⟨s0, s1, s2, s3⟩; go_simp; try with_reducible rfl
 simp only [Act.put, aA, aB, aC, aD, aE, aF]
 refine tk 4 ?vc4 rfl ?hyc4 hHeld ?restc4
 case hyc4 => rintro w ⟨s0, s1, s2, s3⟩; go_simp; try with_reducible rfl
 simp only [Act.put, aA, aB, aC, aD, aE, aF]
 refine tk 5 ?vc5 rfl ?hyc5 hHeld ?restc5
 case hyc5 => rintro w ⟨s0, s1, s2, s3⟩; go_simp; try with_reducible rfl
 simp only [Act.put, aA, aB, aC, aD, aE, aF]
 refine tk 6 ?vc6 rfl ?hyc6 hHeld ?restc6
 case hyc6 => rintro w ⟨s0, s1, s2, s3⟩; go_simp; try with_reducible rfl
 simp only [Act.put, aA, aB, aC, aD, aE, aF]
 refine rd 7 rfl (fun K hK => ?_)
 simp only [aD, aE, aF]
 go_simp
 refine hK.out _ _ ?hS9 (fun hHeld => ?_)
 case hS9 =>
  exact ⟨(cell_al _ (by first | (simp; done) | (simp; omega))).trans ((cell_al _ (by first | (simp; done) | (simp; omega))).trans ((set_other _ hLH).trans ((set_other _ hLH).trans ((set_other _ hLH).trans f6)))), (cell_al _ (by first | (simp; done) | (simp; omega))).trans (cell_nw (by first | (simp; done) | (simp; omega)) rfl), (cell_al _ (by first | (simp; done) | (simp; omega))).trans (cell_nw (by first | (simp; done) | (simp; omega)) rfl), (cell_al _ (by first | (simp; done) | (simp; omega))).trans (cell_nw (by first | (simp; done) | (simp; omega)) rfl)⟩
 clear hK
 refine wpAnyH_done (by kernel_rfl) ?_ _
 go_wp2_with fail
 go_ret
 refine ⟨rfl, ?_, _, (HH.out.set j hj hc HD.out _ _).below (below2 _ _ _).drew⟩
 exact ((((Kp.refl w.heap.size H w).set _ _).set _ _).set _ _).trans ((Kp.of (below2 _ _ _).drew H).mono (by first | (simp; done) | (simp; omega)))
set_option maxHeartbeats 1000000 in
theorem give_some_d {w : World} {L H : Nat} {S : List Sec} {s : Sec} {b off cap g cc : Nat} {l : List Ins} {hs : List (Option (Int × Int))} {cs : Array Value} (h : Look w L H S s b off cap g cc l) (hh : HtsAt w H s.code.size l hs cs)
  (p j : Nat) (hj : j < l.length) (hp : p < l[j].pl) (hc : l[j].pl < s.code.size) (hd : ∀ k x, l[k]? = some x → k ≠ j → x.pl ≠ l[j].pl) (lo hi : Int) (oa ob : Int) (ho : hs.getD j none = some (oa, ob)) (em : ¬ lo ≤ oa) (eM : ob ≤ hi) :
  Calls Tryz.prog 126 #[.pointer (some ⟨L, 0, none⟩), .int .i64 p, .int .i64 (l[j].pl : Nat), .agg #[.bool true, .int .i64 lo, .int .i64 hi]] w
   fun e w' => e = .returned (.bool true) ∧ Kp w.heap.size H w w' ∧ ∃ cs', HtsAt w' H s.code.size l (hs.set j (some (mergeH (lo, hi) (hs.getD j none)))) cs' := by
 obtain ⟨_, _, _, _, _, _, f6, hL⟩ := h.facts
 have hLH := h.neL
 obtain ⟨c0, c1, c2, hH, hfr⟩ := hh.cells j hj
 have HH := hidc hh
 have HD := hidc hd
 clear h hh hd
 rw [ho] at c0 c1 c2 ⊢
 simp only [Option.isSome_some, Option.getD_some] at c0 c1 c2
 have hm : mergeH (lo, hi) (some (oa, ob)) = (oa, hi) := by simp only [mergeH]; rw [show min lo oa = oa by omega, show max hi ob = hi by omega]
 rw [hm]
 clear hm
 go_enter Tryz.func126, Tryz.ntmps126
 go_wp2_with fail
 refine wp_region_held_drew (S := fun w' => w'.cell? ⟨L, 6, none⟩ = some (.slice (some ⟨H, 0, none⟩) s.code.size s.code.size) ∧ w'.cell? ⟨w.heap.size, 0, none⟩ = some (.bool true) ∧ w'.cell? ⟨w.heap.size, 1, none⟩ = some (.int .i64 oa) ∧ w'.cell? ⟨w.heap.size, 2, none⟩ = some (.int .i64 hi)) (by kernel_rfl) ?hS0 (fun hHeld => ?_)
 case hS0 => go_simp
 refine tk 0 ?vd0 rfl ?hyd0 hHeld ?restd0
 case hyd0 => rintro w ⟨s0, s1, s2, s3⟩; go_simp; try with_reducible rfl
 simp only [Act.put, aA, aB, aC, aD, aE]
 refine tk 1 ?vd1 rfl ?hyd1 hHeld ?restd1
 case hyd1 => rintro w ⟨s0, s1, s2, s3⟩; go_simp; try with_reducible rfl
 simp only [Act.put, aA, aB, aC, aD, aE, aF]
 refine tk 2 ?vd2 rfl ?hyd2 hHeld ?restd2
 case hyd2 => rintro w ⟨s0, s1, s2, s3⟩; go_simp; try with_reducible rfl
 simp only [Act.put, aA, aB, aC, aD, aE, aF]
 refine tk 3 ?vd3 rfl ?hyd3 hHeld ?restd3
 case hyd3 => rintro w ⟨s0, s1, s2, s3⟩; go_simp; try with_reducible rfl
 simp only [Act.put, aA, aB, aC, aD, aE, aF]
 refine tk 4 ?vd4 rfl ?hyd4 hHeld ?restd4
 case hyd4 => rintro w ⟨s0, s1, s2, s3⟩; go_simp; try with_reducible rfl
 simp only [Act.put, aA, aB, aC, aD, aE, aF]
 refine tk 5 ?vd5 rfl ?hyd5 hHeld ?restd5
 case hyd5 => rintro w ⟨s0, s1, s2, s3⟩; go_simp; try with_reducible rfl
 simp only [Act.put, aA, aB, aC, aD, aE, aF]
 refine tk 6 ?vd6 rfl ?hyd6 hHeld ?restd6
 case hyd6 => rintro w ⟨s0, s1, s2, s3⟩; go_simp; try with_reducible rfl
 simp only [Act.put, aA, aB, aC, aD, aE, aF]
 refine rd 7 rfl (fun K hK => ?_)
 simp only [aD, aE, aF]
 go_simp
 refine hK.out _ _ ?hS9 (fun hHeld => ?_)
 case hS9 =>
  exact ⟨(cell_al _ (by first | (simp; done) | (simp; omega))).trans ((cell_al _ (by first | (simp; done) | (simp; omega))).trans ((set_other _ hLH).trans ((set_other _ hLH).trans ((set_other _ hLH).trans f6)))), (cell_al _ (by first | (simp; done) | (simp; omega))).trans (cell_nw (by first | (simp; done) | (simp; omega)) rfl), (cell_al _ (by first | (simp; done) | (simp; omega))).trans (cell_nw (by first | (simp; done) | (simp; omega)) rfl), (cell_al _ (by first | (simp; done) | (simp; omega))).trans (cell_nw (by first | (simp; done) | (simp; omega)) rfl)⟩
 clear hK
 refine wpAnyH_done (by kernel_rfl) ?_ _
 go_wp2_with fail
 go_ret
 refine ⟨rfl, ?_, _, (HH.out.set j hj hc HD.out _ _).below (below2 _ _ _).drew⟩
 exact ((((Kp.refl w.heap.size H w).set _ _).set _ _).set _ _).trans ((Kp.of (below2 _ _ _).drew H).mono (by first | (simp; done) | (simp; omega)))
set_option maxHeartbeats 1000000 in
theorem give_some_e {w : World} {L H : Nat} {S : List Sec} {s : Sec} {b off cap g cc : Nat} {l : List Ins} {hs : List (Option (Int × Int))} {cs : Array Value} (h : Look w L H S s b off cap g cc l) (hh : HtsAt w H s.code.size l hs cs)
  (p j : Nat) (hj : j < l.length) (hp : p < l[j].pl) (hc : l[j].pl < s.code.size) (hd : ∀ k x, l[k]? = some x → k ≠ j → x.pl ≠ l[j].pl) (lo hi : Int) (oa ob : Int) (ho : hs.getD j none = some (oa, ob)) (em : ¬ lo ≤ oa) (eM : ¬ ob ≤ hi) :
  Calls Tryz.prog 126 #[.pointer (some ⟨L, 0, none⟩), .int .i64 p, .int .i64 (l[j].pl : Nat), .agg #[.bool true, .int .i64 lo, .int .i64 hi]] w
   fun e w' => e = .returned (.bool true) ∧ Kp w.heap.size H w w' ∧ ∃ cs', HtsAt w' H s.code.size l (hs.set j (some (mergeH (lo, hi) (hs.getD j none)))) cs' := by
 obtain ⟨_, _, _, _, _, _, f6, hL⟩ := h.facts
 have hLH := h.neL
 obtain ⟨c0, c1, c2, hH, hfr⟩ := hh.cells j hj
 have HH := hidc hh
 have HD := hidc hd
 clear h hh hd
 rw [ho] at c0 c1 c2 ⊢
 simp only [Option.isSome_some, Option.getD_some] at c0 c1 c2
 have hm : mergeH (lo, hi) (some (oa, ob)) = (oa, ob) := by simp only [mergeH]; rw [show min lo oa = oa by omega, show max hi ob = ob by omega]
 rw [hm]
 clear hm
 go_enter Tryz.func126, Tryz.ntmps126
 go_wp2_with fail
 refine wp_region_held_drew (S := fun w' => w'.cell? ⟨L, 6, none⟩ = some (.slice (some ⟨H, 0, none⟩) s.code.size s.code.size) ∧ w'.cell? ⟨w.heap.size, 0, none⟩ = some (.bool true) ∧ w'.cell? ⟨w.heap.size, 1, none⟩ = some (.int .i64 oa) ∧ w'.cell? ⟨w.heap.size, 2, none⟩ = some (.int .i64 ob)) (by kernel_rfl) ?hS0 (fun hHeld => ?_)
 case hS0 => go_simp
 refine tk 0 ?ve0 rfl ?hye0 hHeld ?reste0
 case hye0 => rintro w ⟨s0, s1, s2, s3⟩; go_simp; try with_reducible rfl
 simp only [Act.put, aA, aB, aC, aD, aE]
 refine tk 1 ?ve1 rfl ?hye1 hHeld ?reste1
 case hye1 => rintro w ⟨s0, s1, s2, s3⟩; go_simp; try with_reducible rfl
 simp only [Act.put, aA, aB, aC, aD, aE, aF]
 refine tk 2 ?ve2 rfl ?hye2 hHeld ?reste2
 case hye2 => rintro w ⟨s0, s1, s2, s3⟩; go_simp; try with_reducible rfl
 simp only [Act.put, aA, aB, aC, aD, aE, aF]
 refine tk 3 ?ve3 rfl ?hye3 hHeld ?reste3
 case hye3 => rintro w ⟨s0, s1, s2, s3⟩; go_simp; try with_reducible rfl
 simp only [Act.put, aA, aB, aC, aD, aE, aF]
 refine tk 4 ?ve4 rfl ?hye4 hHeld ?reste4
 case hye4 => rintro w ⟨s0, s1, s2, s3⟩; go_simp; try with_reducible rfl
 simp only [Act.put, aA, aB, aC, aD, aE, aF]
 refine tk 5 ?ve5 rfl ?hye5 hHeld ?reste5
 case hye5 => rintro w ⟨s0, s1, s2, s3⟩; go_simp; try with_reducible rfl
 simp only [Act.put, aA, aB, aC, aD, aE, aF]
 refine tk 6 ?ve6 rfl ?hye6 hHeld ?reste6
 case hye6 => rintro w ⟨s0, s1, s2, s3⟩; go_simp; try with_reducible rfl
 simp only [Act.put, aA, aB, aC, aD, aE, aF]
 refine rd 7 rfl (fun K hK => ?_)
 simp only [aD, aE, aF]
 go_simp
 refine hK.out _ _ ?hS9 (fun hHeld => ?_)
 case hS9 =>
  exact ⟨(cell_al _ (by first | (simp; done) | (simp; omega))).trans ((cell_al _ (by first | (simp; done) | (simp; omega))).trans ((set_other _ hLH).trans ((set_other _ hLH).trans ((set_other _ hLH).trans f6)))), (cell_al _ (by first | (simp; done) | (simp; omega))).trans (cell_nw (by first | (simp; done) | (simp; omega)) rfl), (cell_al _ (by first | (simp; done) | (simp; omega))).trans (cell_nw (by first | (simp; done) | (simp; omega)) rfl), (cell_al _ (by first | (simp; done) | (simp; omega))).trans (cell_nw (by first | (simp; done) | (simp; omega)) rfl)⟩
 clear hK
 refine wpAnyH_done (by kernel_rfl) ?_ _
 go_wp2_with fail
 go_ret
 refine ⟨rfl, ?_, _, (HH.out.set j hj hc HD.out _ _).below (below2 _ _ _).drew⟩
 exact ((((Kp.refl w.heap.size H w).set _ _).set _ _).set _ _).trans ((Kp.of (below2 _ _ _).drew H).mono (by first | (simp; done) | (simp; omega)))
theorem give_ahead {w : World} {L H : Nat} {S : List Sec} {s : Sec} {b off cap g cc : Nat} {l : List Ins} {hs : List (Option (Int × Int))} {cs : Array Value} (h : Look w L H S s b off cap g cc l) (hh : HtsAt w H s.code.size l hs cs)
  (p j : Nat) (hj : j < l.length) (hp : p < l[j].pl) (hc : l[j].pl < s.code.size) (hd : ∀ k x, l[k]? = some x → k ≠ j → x.pl ≠ l[j].pl) (lo hi : Int) :
  Calls Tryz.prog 126 #[.pointer (some ⟨L, 0, none⟩), .int .i64 p, .int .i64 (l[j].pl : Nat), .agg #[.bool true, .int .i64 lo, .int .i64 hi]] w
   fun e w' => e = .returned (.bool true) ∧ Kp w.heap.size H w w' ∧ ∃ cs', HtsAt w' H s.code.size l (hs.set j (some (mergeH (lo, hi) (hs.getD j none)))) cs' := by
 cases ho : hs.getD j none with
 | none => rw [← ho]; exact give_none h hh p j hj hp hc hd lo hi ho
 | some o =>
  obtain ⟨oa, ob⟩ := o
  rw [← ho]
  by_cases em : lo ≤ oa <;> by_cases eM : ob ≤ hi
  ·exact give_some_b h hh p j hj hp hc hd lo hi oa ob ho em eM
  ·exact give_some_c h hh p j hj hp hc hd lo hi oa ob ho em eM
  ·exact give_some_d h hh p j hj hp hc hd lo hi oa ob ho em eM
  ·exact give_some_e h hh p j hj hp hc hd lo hi oa ob ho em eM
end Go.Proofs.YtdhmandnamajpaaGreatDoor
