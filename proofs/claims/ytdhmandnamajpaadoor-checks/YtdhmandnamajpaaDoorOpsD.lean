/-
  Package ops: Read.
-/
import Derived.Test.YtdhmandnamajpaaDoorOpsC
namespace Go.Proofs.YtdhmandnamajpaaDoor
open Go.RowKit Go.Joins

set_option maxHeartbeats 1000000

theorem ops_read_jump (c : ByteArray) (p op : Nat) (w : World) (hR : RowsAt w) (hp : p < c.size) (hs : c.size ≤ 120) (he : p + sizeI c p ≤ c.size) (ho : byteN c p = op) (hop : op = 15 ∨ op = 16) :
    Calls Tryd.prog 111 #[.string c, .int .i64 p] w (ReadPost c p w) := by
  have hz : sizeI c p = 3 := by unfold sizeI; rw [ho, if_neg (by omega)]; rcases hop with rfl | rfl <;> rfl
  have e1 : insI c p = ⟨op, p, p + 3, 0, tos c (p + 3) (p + 1) 1⟩ := by
    unfold insI
    rw [hz, ho]
    rcases hop with rfl | rfl <;> rfl
  have HE := hidc e1
  have HZ := hidc hz
  have HR := hidc hR
  have HO := hidc ho
  have hb : c[p].toNat = op := by rw [byte_nat c p hp]; exact ho
  rw [hz] at he
  clear e1 hz hR ho
  rcases hop with rfl | rfl
  · skip
    go_enter Tryd.func111, Tryd.ntmps111
    go_wp2_with (go_at_call 119; refine (ops_size c p _ (HR.out.alloc _) hp hs (by have := HO.out; omega)).mono ?_; rw [HZ.out]; rintro e w1 ⟨rfl, rfl⟩)
    refine (ops_targets_i c (p + 1) (1) (p + 3) _ _ _ (by omega) (by omega) (by omega) (by omega) hs).mono ?_
    rintro e w1 ⟨v, rfl, hown, hb1⟩
    obtain ⟨va, vc, rfl⟩ := row_form hown
    have hI := keepB hb1 (show (((w.alloc (.cells #[.int .i64 0, .int .i64 0, .int .i64 0, .int .i64 0, .slice none 0 0] 116)).alloc (.cells #[.int .i64 15, .int .i64 p, .int .i64 ((p : Int) + 3), .int .i64 0, .slice none 0 0] 116))).heap[w.heap.size + 1]? = some (.cells #[.int .i64 15, .int .i64 p, .int .i64 ((p : Int) + 3), .int .i64 0, .slice none 0 0] 116 (0, 0)) by have := heap_alloc_new (w.alloc (.cells #[.int .i64 0, .int .i64 0, .int .i64 0, .int .i64 0, .slice none 0 0] 116)) (.cells #[.int .i64 15, .int .i64 p, .int .i64 ((p : Int) + 3), .int .i64 0, .slice none 0 0] 116); simpa using this)
    have hZ := keepB hb1 (show (((w.alloc (.cells #[.int .i64 0, .int .i64 0, .int .i64 0, .int .i64 0, .slice none 0 0] 116)).alloc (.cells #[.int .i64 15, .int .i64 p, .int .i64 ((p : Int) + 3), .int .i64 0, .slice none 0 0] 116))).heap[w.heap.size]? = some (.cells #[.int .i64 0, .int .i64 0, .int .i64 0, .int .i64 0, .slice none 0 0] 116 (0, 0)) from (Below.heap_alloc _ _ _ (by simp)).trans (heap_alloc_new w _))
    have i0 := cell_of_block hI 0
    have i1 := cell_of_block hI 1
    have i2 := cell_of_block hI 2
    have i3 := cell_of_block hI 3
    have i4 := cell_of_block hI 4
    have i5 := unfrozen_of_block hI 4
    have z0 := cell_of_block hZ 0
    have z1 := cell_of_block hZ 1
    have z2 := cell_of_block hZ 2
    have z3 := cell_of_block hZ 3
    have z4 := cell_of_block hZ 4
    have y0 := unfrozen_of_block hZ 0
    have y1 := unfrozen_of_block hZ 1
    have y2 := unfrozen_of_block hZ 2
    have y3 := unfrozen_of_block hZ 3
    have y4 := unfrozen_of_block hZ 4
    have HOW := hidc hown
    have HBB := hidc hb1
    have HZZ := hidc hZ
    have hsz1 : w.heap.size + 2 ≤ w1.heap.size := by have := hb1.size; simpa using this
    clear hown hb1 hI hZ
    go_wp2_with fail
    have hF : ((((((w1.setCell ⟨w.heap.size + 1, 4, none⟩ (.slice va (1) vc)).setCell ⟨w.heap.size, 0, none⟩ (.int .i64 15)).setCell ⟨w.heap.size, 1, none⟩ (.int .i64 p)).setCell ⟨w.heap.size, 2, none⟩ (.int .i64 ((p : Int) + 3))).setCell ⟨w.heap.size, 3, none⟩ (.int .i64 0)).setCell ⟨w.heap.size, 4, none⟩ (.slice va (1) vc)).heap[w.heap.size]? = some (.cells #[.int .i64 15, .int .i64 p, .int .i64 ((p : Int) + 3), .int .i64 0, .slice va (1) vc] 116 (0, 0)) :=
      block_setCell (block_setCell (block_setCell (block_setCell (block_setCell ((Below.heap_setCell _ _ _ _ (by show w.heap.size ≠ w.heap.size + 1; omega)).trans HZZ.out) _) _) _) _) _
    have b0 := cell_of_block hF 0
    have b1 := cell_of_block hF 1
    have b2 := cell_of_block hF 2
    have b3 := cell_of_block hF 3
    have b4 := cell_of_block hF 4
    refine bodyPost_ret (v := .tuple #[.agg #[.int .i64 15, .int .i64 p, .int .i64 ((p : Int) + 3), .int .i64 0, .slice va (1) vc], .int .i64 0]) (by simp [results, Tryd.results111, go_sem, b0, b1, b2, b3, b4]) rfl ⟨va, vc, ?_, ?_, ?_⟩
    · rw [HE.out]; simp only [tos_len]; rfl
    · rw [HE.out]
      simp only [tos_len]
      have hB : ((w.alloc (.cells #[.int .i64 0, .int .i64 0, .int .i64 0, .int .i64 0, .slice none 0 0] 116)).alloc (.cells #[.int .i64 15, .int .i64 p, .int .i64 ((p : Int) + 3), .int .i64 0, .slice none 0 0] 116)).heap.size = w.heap.size + 2 := by simp
      exact own_mono (own_set (own_set (own_set (own_set (own_set (own_set HOW.out (by rw [hB]; omega) _ _) (by rw [hB]; omega) _ _) (by rw [hB]; omega) _ _) (by rw [hB]; omega) _ _) (by rw [hB]; omega) _ _) (by rw [hB]; omega) _ _) (by rw [hB]; omega)
    · exact (((((((below2 _ _ _).trans (HBB.out.mono (by simp; omega))).setCell (by show w.heap.size ≤ w.heap.size + 1; omega) _).setCell (Nat.le_refl _) _).setCell (Nat.le_refl _) _).setCell (Nat.le_refl _) _).setCell (Nat.le_refl _) _).setCell (Nat.le_refl _) _
  · skip
    go_enter Tryd.func111, Tryd.ntmps111
    go_wp2_with (go_at_call 119; refine (ops_size c p _ (HR.out.alloc _) hp hs (by have := HO.out; omega)).mono ?_; rw [HZ.out]; rintro e w1 ⟨rfl, rfl⟩)
    refine (ops_targets_i c (p + 1) (1) (p + 3) _ _ _ (by omega) (by omega) (by omega) (by omega) hs).mono ?_
    rintro e w1 ⟨v, rfl, hown, hb1⟩
    obtain ⟨va, vc, rfl⟩ := row_form hown
    have hI := keepB hb1 (show (((w.alloc (.cells #[.int .i64 0, .int .i64 0, .int .i64 0, .int .i64 0, .slice none 0 0] 116)).alloc (.cells #[.int .i64 16, .int .i64 p, .int .i64 ((p : Int) + 3), .int .i64 0, .slice none 0 0] 116))).heap[w.heap.size + 1]? = some (.cells #[.int .i64 16, .int .i64 p, .int .i64 ((p : Int) + 3), .int .i64 0, .slice none 0 0] 116 (0, 0)) by have := heap_alloc_new (w.alloc (.cells #[.int .i64 0, .int .i64 0, .int .i64 0, .int .i64 0, .slice none 0 0] 116)) (.cells #[.int .i64 16, .int .i64 p, .int .i64 ((p : Int) + 3), .int .i64 0, .slice none 0 0] 116); simpa using this)
    have hZ := keepB hb1 (show (((w.alloc (.cells #[.int .i64 0, .int .i64 0, .int .i64 0, .int .i64 0, .slice none 0 0] 116)).alloc (.cells #[.int .i64 16, .int .i64 p, .int .i64 ((p : Int) + 3), .int .i64 0, .slice none 0 0] 116))).heap[w.heap.size]? = some (.cells #[.int .i64 0, .int .i64 0, .int .i64 0, .int .i64 0, .slice none 0 0] 116 (0, 0)) from (Below.heap_alloc _ _ _ (by simp)).trans (heap_alloc_new w _))
    have i0 := cell_of_block hI 0
    have i1 := cell_of_block hI 1
    have i2 := cell_of_block hI 2
    have i3 := cell_of_block hI 3
    have i4 := cell_of_block hI 4
    have i5 := unfrozen_of_block hI 4
    have z0 := cell_of_block hZ 0
    have z1 := cell_of_block hZ 1
    have z2 := cell_of_block hZ 2
    have z3 := cell_of_block hZ 3
    have z4 := cell_of_block hZ 4
    have y0 := unfrozen_of_block hZ 0
    have y1 := unfrozen_of_block hZ 1
    have y2 := unfrozen_of_block hZ 2
    have y3 := unfrozen_of_block hZ 3
    have y4 := unfrozen_of_block hZ 4
    have HOW := hidc hown
    have HBB := hidc hb1
    have HZZ := hidc hZ
    have hsz1 : w.heap.size + 2 ≤ w1.heap.size := by have := hb1.size; simpa using this
    clear hown hb1 hI hZ
    go_wp2_with fail
    have hF : ((((((w1.setCell ⟨w.heap.size + 1, 4, none⟩ (.slice va (1) vc)).setCell ⟨w.heap.size, 0, none⟩ (.int .i64 16)).setCell ⟨w.heap.size, 1, none⟩ (.int .i64 p)).setCell ⟨w.heap.size, 2, none⟩ (.int .i64 ((p : Int) + 3))).setCell ⟨w.heap.size, 3, none⟩ (.int .i64 0)).setCell ⟨w.heap.size, 4, none⟩ (.slice va (1) vc)).heap[w.heap.size]? = some (.cells #[.int .i64 16, .int .i64 p, .int .i64 ((p : Int) + 3), .int .i64 0, .slice va (1) vc] 116 (0, 0)) :=
      block_setCell (block_setCell (block_setCell (block_setCell (block_setCell ((Below.heap_setCell _ _ _ _ (by show w.heap.size ≠ w.heap.size + 1; omega)).trans HZZ.out) _) _) _) _) _
    have b0 := cell_of_block hF 0
    have b1 := cell_of_block hF 1
    have b2 := cell_of_block hF 2
    have b3 := cell_of_block hF 3
    have b4 := cell_of_block hF 4
    refine bodyPost_ret (v := .tuple #[.agg #[.int .i64 16, .int .i64 p, .int .i64 ((p : Int) + 3), .int .i64 0, .slice va (1) vc], .int .i64 0]) (by simp [results, Tryd.results111, go_sem, b0, b1, b2, b3, b4]) rfl ⟨va, vc, ?_, ?_, ?_⟩
    · rw [HE.out]; simp only [tos_len]; rfl
    · rw [HE.out]
      simp only [tos_len]
      have hB : ((w.alloc (.cells #[.int .i64 0, .int .i64 0, .int .i64 0, .int .i64 0, .slice none 0 0] 116)).alloc (.cells #[.int .i64 16, .int .i64 p, .int .i64 ((p : Int) + 3), .int .i64 0, .slice none 0 0] 116)).heap.size = w.heap.size + 2 := by simp
      exact own_mono (own_set (own_set (own_set (own_set (own_set (own_set HOW.out (by rw [hB]; omega) _ _) (by rw [hB]; omega) _ _) (by rw [hB]; omega) _ _) (by rw [hB]; omega) _ _) (by rw [hB]; omega) _ _) (by rw [hB]; omega) _ _) (by rw [hB]; omega)
    · exact (((((((below2 _ _ _).trans (HBB.out.mono (by simp; omega))).setCell (by show w.heap.size ≤ w.heap.size + 1; omega) _).setCell (Nat.le_refl _) _).setCell (Nat.le_refl _) _).setCell (Nat.le_refl _) _).setCell (Nat.le_refl _) _).setCell (Nat.le_refl _) _

theorem ops_read_table (c : ByteArray) (p k z : Nat) (w : World) (hR : RowsAt w) (hp : p < c.size) (hs : c.size ≤ 120) (he : p + z ≤ c.size) (ho : byteN c p = 17) (hp1 : p + 1 < c.size) (hk : byteN c (p + 1) = k) (hzk : z = 2 + 2 * (k + 1)) :
    Calls Tryd.prog 111 #[.string c, .int .i64 p] w (ReadPost c p w) := by
  have hz : sizeI c p = z := by unfold sizeI; rw [ho, if_pos ⟨rfl, hp1⟩, hk, hzk]; rfl
  have e1 : insI c p = ⟨17, p, p + z, 0, tos c (p + z) (p + 2) (k + 1)⟩ := by
    unfold insI
    rw [hz, ho, hk]
    rfl
  have HE := hidc e1
  have HZ := hidc hz
  have HR := hidc hR
  have HO := hidc ho
  have hb : c[p].toNat = 17 := by rw [byte_nat c p hp]; exact ho
  have HK := hidc hzk
  have hz600 : z ≤ 600 := by omega
  clear e1 hz hR ho hk hzk
  go_enter Tryd.func111, Tryd.ntmps111
  go_wp2_with (go_at_call 119; refine (ops_size c p _ (HR.out.alloc _) hp hs (by have := HO.out; omega)).mono ?_; rw [HZ.out]; rintro e w1 ⟨rfl, rfl⟩)
  refine (ops_targets_i c (p + 2) (k + 1) (p + z) _ _ _ (by omega) (by omega) (by have := HK.out; omega) he hs).mono ?_
  rintro e w1 ⟨v, rfl, hown, hb1⟩
  obtain ⟨va, vc, rfl⟩ := row_form hown
  have hI := keepB hb1 (show (((w.alloc (.cells #[.int .i64 0, .int .i64 0, .int .i64 0, .int .i64 0, .slice none 0 0] 116)).alloc (.cells #[.int .i64 17, .int .i64 p, .int .i64 ((p : Int) + z), .int .i64 0, .slice none 0 0] 116))).heap[w.heap.size + 1]? = some (.cells #[.int .i64 17, .int .i64 p, .int .i64 ((p : Int) + z), .int .i64 0, .slice none 0 0] 116 (0, 0)) by have := heap_alloc_new (w.alloc (.cells #[.int .i64 0, .int .i64 0, .int .i64 0, .int .i64 0, .slice none 0 0] 116)) (.cells #[.int .i64 17, .int .i64 p, .int .i64 ((p : Int) + z), .int .i64 0, .slice none 0 0] 116); simpa using this)
  have hZ := keepB hb1 (show (((w.alloc (.cells #[.int .i64 0, .int .i64 0, .int .i64 0, .int .i64 0, .slice none 0 0] 116)).alloc (.cells #[.int .i64 17, .int .i64 p, .int .i64 ((p : Int) + z), .int .i64 0, .slice none 0 0] 116))).heap[w.heap.size]? = some (.cells #[.int .i64 0, .int .i64 0, .int .i64 0, .int .i64 0, .slice none 0 0] 116 (0, 0)) from (Below.heap_alloc _ _ _ (by simp)).trans (heap_alloc_new w _))
  have i0 := cell_of_block hI 0
  have i1 := cell_of_block hI 1
  have i2 := cell_of_block hI 2
  have i3 := cell_of_block hI 3
  have i4 := cell_of_block hI 4
  have i5 := unfrozen_of_block hI 4
  have z0 := cell_of_block hZ 0
  have z1 := cell_of_block hZ 1
  have z2 := cell_of_block hZ 2
  have z3 := cell_of_block hZ 3
  have z4 := cell_of_block hZ 4
  have y0 := unfrozen_of_block hZ 0
  have y1 := unfrozen_of_block hZ 1
  have y2 := unfrozen_of_block hZ 2
  have y3 := unfrozen_of_block hZ 3
  have y4 := unfrozen_of_block hZ 4
  have HOW := hidc hown
  have HBB := hidc hb1
  have HZZ := hidc hZ
  have hsz1 : w.heap.size + 2 ≤ w1.heap.size := by have := hb1.size; simpa using this
  clear hown hb1 hI hZ
  go_wp2_with fail
  have hF : ((((((w1.setCell ⟨w.heap.size + 1, 4, none⟩ (.slice va (k + 1) vc)).setCell ⟨w.heap.size, 0, none⟩ (.int .i64 17)).setCell ⟨w.heap.size, 1, none⟩ (.int .i64 p)).setCell ⟨w.heap.size, 2, none⟩ (.int .i64 ((p : Int) + z))).setCell ⟨w.heap.size, 3, none⟩ (.int .i64 0)).setCell ⟨w.heap.size, 4, none⟩ (.slice va (k + 1) vc)).heap[w.heap.size]? = some (.cells #[.int .i64 17, .int .i64 p, .int .i64 ((p : Int) + z), .int .i64 0, .slice va (k + 1) vc] 116 (0, 0)) :=
    block_setCell (block_setCell (block_setCell (block_setCell (block_setCell ((Below.heap_setCell _ _ _ _ (by show w.heap.size ≠ w.heap.size + 1; omega)).trans HZZ.out) _) _) _) _) _
  have b0 := cell_of_block hF 0
  have b1 := cell_of_block hF 1
  have b2 := cell_of_block hF 2
  have b3 := cell_of_block hF 3
  have b4 := cell_of_block hF 4
  refine bodyPost_ret (v := .tuple #[.agg #[.int .i64 17, .int .i64 p, .int .i64 ((p : Int) + z), .int .i64 0, .slice va (k + 1) vc], .int .i64 0]) (by simp [results, Tryd.results111, go_sem, b0, b1, b2, b3, b4]) rfl ⟨va, vc, ?_, ?_, ?_⟩
  · rw [HE.out]; simp only [tos_len]; rfl
  · rw [HE.out]
    simp only [tos_len]
    have hB : ((w.alloc (.cells #[.int .i64 0, .int .i64 0, .int .i64 0, .int .i64 0, .slice none 0 0] 116)).alloc (.cells #[.int .i64 17, .int .i64 p, .int .i64 ((p : Int) + z), .int .i64 0, .slice none 0 0] 116)).heap.size = w.heap.size + 2 := by simp
    exact own_mono (own_set (own_set (own_set (own_set (own_set (own_set HOW.out (by rw [hB]; omega) _ _) (by rw [hB]; omega) _ _) (by rw [hB]; omega) _ _) (by rw [hB]; omega) _ _) (by rw [hB]; omega) _ _) (by rw [hB]; omega) _ _) (by rw [hB]; omega)
  · exact (((((((below2 _ _ _).trans (HBB.out.mono (by simp; omega))).setCell (by show w.heap.size ≤ w.heap.size + 1; omega) _).setCell (Nat.le_refl _) _).setCell (Nat.le_refl _) _).setCell (Nat.le_refl _) _).setCell (Nat.le_refl _) _).setCell (Nat.le_refl _) _

/-- Read, of a good instruction. -/
theorem ops_read (c : ByteArray) (p : Nat) (w : World) (hR : RowsAt w) (hp : p < c.size) (hs : c.size ≤ 120) (he : opE c p = 0) :
    Calls Tryd.prog 111 #[.string c, .int .i64 p] w (ReadPost c p w) := by
  have h21 : byteN c p < 21 := by
    unfold opE at he
    by_cases h : 21 ≤ byteN c p
    · rw [if_pos h] at he; cases he
    · omega
  have hsz : p + sizeI c p ≤ c.size := by
    unfold opE at he
    rw [if_neg (by omega)] at he
    by_cases h : c.size < p + sizeI c p
    · rw [if_pos h] at he; cases he
    · omega
  by_cases h1 : byteN c p = 9 ∨ byteN c p = 10 ∨ byteN c p = 18 ∨ byteN c p = 20
  · exact ops_read_num c p _ w hR hp hs hsz rfl h1
  · by_cases h2 : byteN c p = 15 ∨ byteN c p = 16
    · exact ops_read_jump c p _ w hR hp hs hsz rfl h2
    · by_cases h3 : byteN c p = 17
      · have hp1 : p + 1 < c.size := by
          by_cases h : p + 1 < c.size
          · exact h
          · have : sizeI c p = 2 := by unfold sizeI; rw [if_neg (by omega), h3]; rfl
            omega
        have hz : sizeI c p = 2 + 2 * (byteN c (p + 1) + 1) := by unfold sizeI; rw [if_pos ⟨h3, hp1⟩, h3]; rfl
        exact ops_read_table c p _ _ w hR hp hs (by rw [← hz]; exact hsz) h3 hp1 rfl rfl
      · by_cases h4 : byteN c p = 2
        · exact ops_read_push c p w hR hp hs hsz h4
        · exact ops_read_plain c p _ w hR hp hs hsz rfl h21 h4 (by omega) (by omega) (by omega) (by omega) h3 (by omega) (by omega)
end Go.Proofs.YtdhmandnamajpaaDoor
