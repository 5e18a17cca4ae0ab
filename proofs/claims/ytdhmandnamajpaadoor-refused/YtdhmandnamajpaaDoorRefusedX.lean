/-
  The law Refused.
-/
import Derived.Test.YtdhmandnamajpaaDoorRefusedW
namespace Go.Proofs.YtdhmandnamajpaaDoor
open Go.RowKit Go.Joins

set_option maxHeartbeats 2000000

theorem keep_pick20 (c : Int) (w : World) (h1 : -9223372036854775808 ≤ c) (h2 : c ≤ 9223372036854775807) :
    Calls Tryd.prog 13 #[.int .i64 c, .int .i64 20] w fun e w' => ∃ r : Nat, e = .returned (.int .i64 r) ∧ r < 20 ∧ w' = w := keep_pick c 20 w h1 h2 (.inl rfl)
theorem keep_pick4 (c : Int) (w : World) (h1 : -9223372036854775808 ≤ c) (h2 : c ≤ 9223372036854775807) :
    Calls Tryd.prog 13 #[.int .i64 c, .int .i64 4] w fun e w' => ∃ r : Nat, e = .returned (.int .i64 r) ∧ r < 4 ∧ w' = w := keep_pick c 4 w h1 h2 (.inr rfl)

theorem one_at {w : World} {B : Nat} {s : Sec} (h : w.heap[B]? = some (.cells #[.int .i64 s.i, .int .i64 s.o, .int .i64 s.m, .string s.code] 33 (0, 0))) : SecsAt w B 0 [s] := by
  refine ⟨blt h, fun k s' hk => ?_⟩
  match k, hk with
  | 0, hk =>
    simp at hk
    subst hk
    refine ⟨?_, ?_, ?_, ?_⟩ <;> (rw [cell_of_block h]; rfl)
  | k + 1, hk => simp at hk

theorem refused_walk (n how : Int) (w : World) (hR : RowsAt w) (h1 : -9223372036854775808 ≤ n) (h2 : n ≤ 9223372036854775807) (h3 : -9223372036854775808 ≤ how) (h4 : how ≤ 9223372036854775807) :
    Calls Tryd.prog 4 #[.int .i64 n, .int .i64 how] w fun e w' => e = .returned (.bool true) ∧ Below w.heap.size w w' := by
  have HR := hidc hR
  have h00 := hR.1
  clear hR
  go_enter Tryd.func4, Tryd.ntmps4
  go_wp2_with fail
  refine (keep_looked w HR.out).mono ?_
  rintro e w1 ⟨rfl, hb1⟩
  have HB1 := hidc hb1
  have HR1 := hidc (HR.out.below h00 hb1)
  have hsz1 := hb1.size
  clear hb1
  go_wp2_with fail
  refine (keep_pick20 n _ h1 h2).mono ?_
  rintro e wp ⟨k, rfl, hk, rfl⟩
  go_wp2_with fail
  go_loopw [7, 8] (fun cv iv wr => ∃ i : Nat, i ≤ k ∧ iv = .int .i64 i ∧ cv = .string (codeK i []) ∧ wr = wp) (fun _ iv _ => k - (intOf iv).toNat)
  case atStart => exact ⟨0, Nat.zero_le _, rfl, rfl, rfl⟩
  case round =>
    obtain ⟨i, hi, rfl, rfl, rfl⟩ := hrel
    have hcs := codeK_size i []
    simp only [List.length_nil, Nat.add_zero] at hcs
    by_cases hik : i < k
    · go_wp2_with fail
      go_roundw
      case rel => exact ⟨i + 1, by omega, by go_num, by rw [← codeK_succ]; exact congrArg _ (codeK_app i [] [2, 1, 2, 3]), by trivial⟩
      case measure => simp [intOf]; omega
    · have hie : i = k := by omega
      subst hie
      by_cases hi1 : i ≤ 1
      · skip
        go_wp2_with fail
        refine (keep_pick4 how _ h3 h4).mono ?_
        rintro e wq ⟨r, rfl, hr, rfl⟩
        rcases (show r = 0 ∨ r = 1 ∨ r = 2 ∨ r = 3 by omega) with rfl | rfl | rfl | rfl
        · skip
          have HE1 : Hid ((⟨0, 128, (i : Int), codeK i [] ++ ⟨#[3, 0]⟩⟩ : Sec) = secK i [3, 0]) := by
            show (⟨0, 128, (i : Int), codeK i [] ++ ⟨#[3, 0]⟩⟩ : Sec) = secK i [3, 0]
            rw [show (⟨#[3, 0]⟩ : ByteArray) = ⟨[3, 0].toArray⟩ from rfl, codeK_app]
            unfold secK
            rw [show ((min i 1 : Nat) : Int) = (i : Int) by omega]
            rfl
          have HE2 : Hid ((⟨0, 128, (i : Int), codeK i [] ++ ⟨#[0]⟩⟩ : Sec) = secK i [0]) := by
            show (⟨0, 128, (i : Int), codeK i [] ++ ⟨#[0]⟩⟩ : Sec) = secK i [0]
            rw [show (⟨#[0]⟩ : ByteArray) = ⟨[0].toArray⟩ from rfl, codeK_app]
            unfold secK
            rw [show ((min i 1 : Nat) : Int) = (i : Int) by omega]
            rfl
          have HJ0 : Hid (((wr.alloc (.cells #[.int .i64 0, .int .i64 128, .int .i64 i, .string (codeK i [] ++ ⟨#[3, 0]⟩)] 33)).alloc (.cells #[.int .i64 0, .int .i64 128, .int .i64 i, .string (codeK i [] ++ ⟨#[3, 0]⟩)] 33)).heap[wr.heap.size]? = some (.cells #[.int .i64 0, .int .i64 128, .int .i64 i, .string (codeK i [] ++ ⟨#[3, 0]⟩)] 33 (0, 0))) := (Below.heap_alloc _ _ _ (by simp)).trans (heap_alloc_new wr _)
          have HJ1 : Hid (((wr.alloc (.cells #[.int .i64 0, .int .i64 128, .int .i64 i, .string (codeK i [] ++ ⟨#[3, 0]⟩)] 33)).alloc (.cells #[.int .i64 0, .int .i64 128, .int .i64 i, .string (codeK i [] ++ ⟨#[3, 0]⟩)] 33)).heap[wr.heap.size + 1]? = some (.cells #[.int .i64 0, .int .i64 128, .int .i64 i, .string (codeK i [] ++ ⟨#[3, 0]⟩)] 33 (0, 0))) := blk_top _ _ (by simp)
          have HBW : Hid (Below w.heap.size w ((wr.alloc (.cells #[.int .i64 0, .int .i64 128, .int .i64 i, .string (codeK i [] ++ ⟨#[3, 0]⟩)] 33)).alloc (.cells #[.int .i64 0, .int .i64 128, .int .i64 i, .string (codeK i [] ++ ⟨#[3, 0]⟩)] 33))) := HB1.out.trans ((below2 _ _ _).mono hsz1)
          go_wp2_with fail
          refine (keel_check_is [⟨0, 128, (i : Int), codeK i [] ++ ⟨#[3, 0]⟩⟩] ⟨#[]⟩ (wr.heap.size + 1) 0 1 _ (HR.out.below h00 HBW.out) rfl (one_at HJ1.out) (e := 11) (k := 0) (p := 4 * i) (by rw [HE1.out]; exact isK_err (ev_get ev_low i hk) (by decide))).mono ?_
          rintro e w4 ⟨rfl, hb4⟩
          have hJ4 := keepB hb4 HJ0.out
          have j0 : w4.cell? ⟨wr.heap.size, 0, none⟩ = some (.int .i64 0) := by rw [cell_of_block hJ4]; rfl
          have j1 : w4.cell? ⟨wr.heap.size, 1, none⟩ = some (.int .i64 128) := by rw [cell_of_block hJ4]; rfl
          have j2 : w4.cell? ⟨wr.heap.size, 2, none⟩ = some (.int .i64 i) := by rw [cell_of_block hJ4]; rfl
          have j3 : w4.cell? ⟨wr.heap.size, 3, none⟩ = some (.string (codeK i [] ++ ⟨#[3, 0]⟩)) := by rw [cell_of_block hJ4]; rfl
          have jf : w4.frozen? ⟨wr.heap.size, 3, none⟩ = false := unfrozen_of_block hJ4 3
          have hJs : wr.heap.size < w4.heap.size := blt hJ4
          have HB4 := hidc (HBW.out.trans (hb4.mono HBW.out.size))
          clear hb4 hJ4
          have HK1 : Hid ((((w4.setCell ⟨wr.heap.size, 3, none⟩ (.string (codeK i [] ++ ⟨#[0]⟩)))).alloc (.cells #[.int .i64 0, .int .i64 128, .int .i64 i, .string (codeK i [] ++ ⟨#[0]⟩)] 33)).heap[w4.heap.size]? = some (.cells #[.int .i64 0, .int .i64 128, .int .i64 i, .string (codeK i [] ++ ⟨#[0]⟩)] 33 (0, 0))) := blk_top _ _ (by simp)
          have HB5 : Hid (Below w.heap.size w ((w4.setCell ⟨wr.heap.size, 3, none⟩ (.string (codeK i [] ++ ⟨#[0]⟩))).alloc (.cells #[.int .i64 0, .int .i64 128, .int .i64 i, .string (codeK i [] ++ ⟨#[0]⟩)] 33))) := (HB4.out.setCell (p := ⟨wr.heap.size, 3, none⟩) hsz1 _).alloc (by have := HB4.out.size; simp; omega) _
          go_wp2_with fail
          refine (keel_check_is [⟨0, 128, (i : Int), codeK i [] ++ ⟨#[0]⟩⟩] ⟨#[]⟩ w4.heap.size 0 1 _ (HR.out.below h00 HB5.out) rfl (one_at HK1.out) (e := 0) (k := 0) (p := 0) (by rw [HE2.out]; exact isK_ok (ev_get ev_ok i hk))).mono ?_
          rintro e w6 ⟨rfl, hb6⟩
          have HB6 := hidc (HB5.out.trans (hb6.mono HB5.out.size))
          clear hb6
          go_wp2_with fail
          go_ret
          exact ⟨ret_bool (by simp), HB6.out⟩
        · skip
          have HE1 : Hid ((⟨0, 128, (i : Int), codeK i [] ++ ⟨#[15, 255, 254]⟩⟩ : Sec) = secK i [15, 255, 254]) := by
            show (⟨0, 128, (i : Int), codeK i [] ++ ⟨#[15, 255, 254]⟩⟩ : Sec) = secK i [15, 255, 254]
            rw [show (⟨#[15, 255, 254]⟩ : ByteArray) = ⟨[15, 255, 254].toArray⟩ from rfl, codeK_app]
            unfold secK
            rw [show ((min i 1 : Nat) : Int) = (i : Int) by omega]
            rfl
          have HE2 : Hid ((⟨0, 128, (i : Int), codeK i [] ++ ⟨#[0]⟩⟩ : Sec) = secK i [0]) := by
            show (⟨0, 128, (i : Int), codeK i [] ++ ⟨#[0]⟩⟩ : Sec) = secK i [0]
            rw [show (⟨#[0]⟩ : ByteArray) = ⟨[0].toArray⟩ from rfl, codeK_app]
            unfold secK
            rw [show ((min i 1 : Nat) : Int) = (i : Int) by omega]
            rfl
          have HJ0 : Hid (((wr.alloc (.cells #[.int .i64 0, .int .i64 128, .int .i64 i, .string (codeK i [] ++ ⟨#[15, 255, 254]⟩)] 33)).alloc (.cells #[.int .i64 0, .int .i64 128, .int .i64 i, .string (codeK i [] ++ ⟨#[15, 255, 254]⟩)] 33)).heap[wr.heap.size]? = some (.cells #[.int .i64 0, .int .i64 128, .int .i64 i, .string (codeK i [] ++ ⟨#[15, 255, 254]⟩)] 33 (0, 0))) := (Below.heap_alloc _ _ _ (by simp)).trans (heap_alloc_new wr _)
          have HJ1 : Hid (((wr.alloc (.cells #[.int .i64 0, .int .i64 128, .int .i64 i, .string (codeK i [] ++ ⟨#[15, 255, 254]⟩)] 33)).alloc (.cells #[.int .i64 0, .int .i64 128, .int .i64 i, .string (codeK i [] ++ ⟨#[15, 255, 254]⟩)] 33)).heap[wr.heap.size + 1]? = some (.cells #[.int .i64 0, .int .i64 128, .int .i64 i, .string (codeK i [] ++ ⟨#[15, 255, 254]⟩)] 33 (0, 0))) := blk_top _ _ (by simp)
          have HBW : Hid (Below w.heap.size w ((wr.alloc (.cells #[.int .i64 0, .int .i64 128, .int .i64 i, .string (codeK i [] ++ ⟨#[15, 255, 254]⟩)] 33)).alloc (.cells #[.int .i64 0, .int .i64 128, .int .i64 i, .string (codeK i [] ++ ⟨#[15, 255, 254]⟩)] 33))) := HB1.out.trans ((below2 _ _ _).mono hsz1)
          go_wp2_with fail
          refine (keel_check_is [⟨0, 128, (i : Int), codeK i [] ++ ⟨#[15, 255, 254]⟩⟩] ⟨#[]⟩ (wr.heap.size + 1) 0 1 _ (HR.out.below h00 HBW.out) rfl (one_at HJ1.out) (e := 8) (k := 0) (p := 4 * i) (by rw [HE1.out]; exact isK_err (ev_get ev_target i hk) (by decide))).mono ?_
          rintro e w4 ⟨rfl, hb4⟩
          have hJ4 := keepB hb4 HJ0.out
          have j0 : w4.cell? ⟨wr.heap.size, 0, none⟩ = some (.int .i64 0) := by rw [cell_of_block hJ4]; rfl
          have j1 : w4.cell? ⟨wr.heap.size, 1, none⟩ = some (.int .i64 128) := by rw [cell_of_block hJ4]; rfl
          have j2 : w4.cell? ⟨wr.heap.size, 2, none⟩ = some (.int .i64 i) := by rw [cell_of_block hJ4]; rfl
          have j3 : w4.cell? ⟨wr.heap.size, 3, none⟩ = some (.string (codeK i [] ++ ⟨#[15, 255, 254]⟩)) := by rw [cell_of_block hJ4]; rfl
          have jf : w4.frozen? ⟨wr.heap.size, 3, none⟩ = false := unfrozen_of_block hJ4 3
          have hJs : wr.heap.size < w4.heap.size := blt hJ4
          have HB4 := hidc (HBW.out.trans (hb4.mono HBW.out.size))
          clear hb4 hJ4
          have HK1 : Hid ((((w4.setCell ⟨wr.heap.size, 3, none⟩ (.string (codeK i [] ++ ⟨#[0]⟩)))).alloc (.cells #[.int .i64 0, .int .i64 128, .int .i64 i, .string (codeK i [] ++ ⟨#[0]⟩)] 33)).heap[w4.heap.size]? = some (.cells #[.int .i64 0, .int .i64 128, .int .i64 i, .string (codeK i [] ++ ⟨#[0]⟩)] 33 (0, 0))) := blk_top _ _ (by simp)
          have HB5 : Hid (Below w.heap.size w ((w4.setCell ⟨wr.heap.size, 3, none⟩ (.string (codeK i [] ++ ⟨#[0]⟩))).alloc (.cells #[.int .i64 0, .int .i64 128, .int .i64 i, .string (codeK i [] ++ ⟨#[0]⟩)] 33))) := (HB4.out.setCell (p := ⟨wr.heap.size, 3, none⟩) hsz1 _).alloc (by have := HB4.out.size; simp; omega) _
          go_wp2_with fail
          refine (keel_check_is [⟨0, 128, (i : Int), codeK i [] ++ ⟨#[0]⟩⟩] ⟨#[]⟩ w4.heap.size 0 1 _ (HR.out.below h00 HB5.out) rfl (one_at HK1.out) (e := 0) (k := 0) (p := 0) (by rw [HE2.out]; exact isK_ok (ev_get ev_ok i hk))).mono ?_
          rintro e w6 ⟨rfl, hb6⟩
          have HB6 := hidc (HB5.out.trans (hb6.mono HB5.out.size))
          clear hb6
          go_wp2_with fail
          go_ret
          exact ⟨ret_bool (by simp), HB6.out⟩
        · skip
          have HE1 : Hid ((⟨0, 128, (i : Int), codeK i [] ++ ⟨#[2, 0, 0]⟩⟩ : Sec) = secK i [2, 0, 0]) := by
            show (⟨0, 128, (i : Int), codeK i [] ++ ⟨#[2, 0, 0]⟩⟩ : Sec) = secK i [2, 0, 0]
            rw [show (⟨#[2, 0, 0]⟩ : ByteArray) = ⟨[2, 0, 0].toArray⟩ from rfl, codeK_app]
            unfold secK
            rw [show ((min i 1 : Nat) : Int) = (i : Int) by omega]
            rfl
          have HE2 : Hid ((⟨0, 128, (i : Int), codeK i [] ++ ⟨#[0]⟩⟩ : Sec) = secK i [0]) := by
            show (⟨0, 128, (i : Int), codeK i [] ++ ⟨#[0]⟩⟩ : Sec) = secK i [0]
            rw [show (⟨#[0]⟩ : ByteArray) = ⟨[0].toArray⟩ from rfl, codeK_app]
            unfold secK
            rw [show ((min i 1 : Nat) : Int) = (i : Int) by omega]
            rfl
          have HJ0 : Hid (((wr.alloc (.cells #[.int .i64 0, .int .i64 128, .int .i64 i, .string (codeK i [] ++ ⟨#[2, 0, 0]⟩)] 33)).alloc (.cells #[.int .i64 0, .int .i64 128, .int .i64 i, .string (codeK i [] ++ ⟨#[2, 0, 0]⟩)] 33)).heap[wr.heap.size]? = some (.cells #[.int .i64 0, .int .i64 128, .int .i64 i, .string (codeK i [] ++ ⟨#[2, 0, 0]⟩)] 33 (0, 0))) := (Below.heap_alloc _ _ _ (by simp)).trans (heap_alloc_new wr _)
          have HJ1 : Hid (((wr.alloc (.cells #[.int .i64 0, .int .i64 128, .int .i64 i, .string (codeK i [] ++ ⟨#[2, 0, 0]⟩)] 33)).alloc (.cells #[.int .i64 0, .int .i64 128, .int .i64 i, .string (codeK i [] ++ ⟨#[2, 0, 0]⟩)] 33)).heap[wr.heap.size + 1]? = some (.cells #[.int .i64 0, .int .i64 128, .int .i64 i, .string (codeK i [] ++ ⟨#[2, 0, 0]⟩)] 33 (0, 0))) := blk_top _ _ (by simp)
          have HBW : Hid (Below w.heap.size w ((wr.alloc (.cells #[.int .i64 0, .int .i64 128, .int .i64 i, .string (codeK i [] ++ ⟨#[2, 0, 0]⟩)] 33)).alloc (.cells #[.int .i64 0, .int .i64 128, .int .i64 i, .string (codeK i [] ++ ⟨#[2, 0, 0]⟩)] 33))) := HB1.out.trans ((below2 _ _ _).mono hsz1)
          go_wp2_with fail
          refine (keel_check_is [⟨0, 128, (i : Int), codeK i [] ++ ⟨#[2, 0, 0]⟩⟩] ⟨#[]⟩ (wr.heap.size + 1) 0 1 _ (HR.out.below h00 HBW.out) rfl (one_at HJ1.out) (e := 14) (k := 0) (p := 4 * i) (by rw [HE1.out]; exact isK_err (ev_get ev_end i hk) (by decide))).mono ?_
          rintro e w4 ⟨rfl, hb4⟩
          have hJ4 := keepB hb4 HJ0.out
          have j0 : w4.cell? ⟨wr.heap.size, 0, none⟩ = some (.int .i64 0) := by rw [cell_of_block hJ4]; rfl
          have j1 : w4.cell? ⟨wr.heap.size, 1, none⟩ = some (.int .i64 128) := by rw [cell_of_block hJ4]; rfl
          have j2 : w4.cell? ⟨wr.heap.size, 2, none⟩ = some (.int .i64 i) := by rw [cell_of_block hJ4]; rfl
          have j3 : w4.cell? ⟨wr.heap.size, 3, none⟩ = some (.string (codeK i [] ++ ⟨#[2, 0, 0]⟩)) := by rw [cell_of_block hJ4]; rfl
          have jf : w4.frozen? ⟨wr.heap.size, 3, none⟩ = false := unfrozen_of_block hJ4 3
          have hJs : wr.heap.size < w4.heap.size := blt hJ4
          have HB4 := hidc (HBW.out.trans (hb4.mono HBW.out.size))
          clear hb4 hJ4
          have HK1 : Hid ((((w4.setCell ⟨wr.heap.size, 3, none⟩ (.string (codeK i [] ++ ⟨#[0]⟩)))).alloc (.cells #[.int .i64 0, .int .i64 128, .int .i64 i, .string (codeK i [] ++ ⟨#[0]⟩)] 33)).heap[w4.heap.size]? = some (.cells #[.int .i64 0, .int .i64 128, .int .i64 i, .string (codeK i [] ++ ⟨#[0]⟩)] 33 (0, 0))) := blk_top _ _ (by simp)
          have HB5 : Hid (Below w.heap.size w ((w4.setCell ⟨wr.heap.size, 3, none⟩ (.string (codeK i [] ++ ⟨#[0]⟩))).alloc (.cells #[.int .i64 0, .int .i64 128, .int .i64 i, .string (codeK i [] ++ ⟨#[0]⟩)] 33))) := (HB4.out.setCell (p := ⟨wr.heap.size, 3, none⟩) hsz1 _).alloc (by have := HB4.out.size; simp; omega) _
          go_wp2_with fail
          refine (keel_check_is [⟨0, 128, (i : Int), codeK i [] ++ ⟨#[0]⟩⟩] ⟨#[]⟩ w4.heap.size 0 1 _ (HR.out.below h00 HB5.out) rfl (one_at HK1.out) (e := 0) (k := 0) (p := 0) (by rw [HE2.out]; exact isK_ok (ev_get ev_ok i hk))).mono ?_
          rintro e w6 ⟨rfl, hb6⟩
          have HB6 := hidc (HB5.out.trans (hb6.mono HB5.out.size))
          clear hb6
          go_wp2_with fail
          go_ret
          exact ⟨ret_bool (by simp), HB6.out⟩
        · skip
          have HE1 : Hid ((⟨0, 128, (i : Int), codeK i [] ++ ⟨#[19]⟩⟩ : Sec) = secK i [19]) := by
            show (⟨0, 128, (i : Int), codeK i [] ++ ⟨#[19]⟩⟩ : Sec) = secK i [19]
            rw [show (⟨#[19]⟩ : ByteArray) = ⟨[19].toArray⟩ from rfl, codeK_app]
            unfold secK
            rw [show ((min i 1 : Nat) : Int) = (i : Int) by omega]
            rfl
          have HE2 : Hid ((⟨0, 128, (i : Int), codeK i [] ++ ⟨#[0]⟩⟩ : Sec) = secK i [0]) := by
            show (⟨0, 128, (i : Int), codeK i [] ++ ⟨#[0]⟩⟩ : Sec) = secK i [0]
            rw [show (⟨#[0]⟩ : ByteArray) = ⟨[0].toArray⟩ from rfl, codeK_app]
            unfold secK
            rw [show ((min i 1 : Nat) : Int) = (i : Int) by omega]
            rfl
          have HJ0 : Hid (((wr.alloc (.cells #[.int .i64 0, .int .i64 128, .int .i64 i, .string (codeK i [] ++ ⟨#[19]⟩)] 33)).alloc (.cells #[.int .i64 0, .int .i64 128, .int .i64 i, .string (codeK i [] ++ ⟨#[19]⟩)] 33)).heap[wr.heap.size]? = some (.cells #[.int .i64 0, .int .i64 128, .int .i64 i, .string (codeK i [] ++ ⟨#[19]⟩)] 33 (0, 0))) := (Below.heap_alloc _ _ _ (by simp)).trans (heap_alloc_new wr _)
          have HJ1 : Hid (((wr.alloc (.cells #[.int .i64 0, .int .i64 128, .int .i64 i, .string (codeK i [] ++ ⟨#[19]⟩)] 33)).alloc (.cells #[.int .i64 0, .int .i64 128, .int .i64 i, .string (codeK i [] ++ ⟨#[19]⟩)] 33)).heap[wr.heap.size + 1]? = some (.cells #[.int .i64 0, .int .i64 128, .int .i64 i, .string (codeK i [] ++ ⟨#[19]⟩)] 33 (0, 0))) := blk_top _ _ (by simp)
          have HBW : Hid (Below w.heap.size w ((wr.alloc (.cells #[.int .i64 0, .int .i64 128, .int .i64 i, .string (codeK i [] ++ ⟨#[19]⟩)] 33)).alloc (.cells #[.int .i64 0, .int .i64 128, .int .i64 i, .string (codeK i [] ++ ⟨#[19]⟩)] 33))) := HB1.out.trans ((below2 _ _ _).mono hsz1)
          go_wp2_with fail
          refine (keel_check_is [⟨0, 128, (i : Int), codeK i [] ++ ⟨#[19]⟩⟩] ⟨#[]⟩ (wr.heap.size + 1) 0 1 _ (HR.out.below h00 HBW.out) rfl (one_at HJ1.out) (e := 13) (k := 0) (p := 4 * i) (by rw [HE1.out]; exact isK_err (ev_get ev_ret i hk) (by decide))).mono ?_
          rintro e w4 ⟨rfl, hb4⟩
          have hJ4 := keepB hb4 HJ0.out
          have j0 : w4.cell? ⟨wr.heap.size, 0, none⟩ = some (.int .i64 0) := by rw [cell_of_block hJ4]; rfl
          have j1 : w4.cell? ⟨wr.heap.size, 1, none⟩ = some (.int .i64 128) := by rw [cell_of_block hJ4]; rfl
          have j2 : w4.cell? ⟨wr.heap.size, 2, none⟩ = some (.int .i64 i) := by rw [cell_of_block hJ4]; rfl
          have j3 : w4.cell? ⟨wr.heap.size, 3, none⟩ = some (.string (codeK i [] ++ ⟨#[19]⟩)) := by rw [cell_of_block hJ4]; rfl
          have jf : w4.frozen? ⟨wr.heap.size, 3, none⟩ = false := unfrozen_of_block hJ4 3
          have hJs : wr.heap.size < w4.heap.size := blt hJ4
          have HB4 := hidc (HBW.out.trans (hb4.mono HBW.out.size))
          clear hb4 hJ4
          have HK1 : Hid ((((w4.setCell ⟨wr.heap.size, 3, none⟩ (.string (codeK i [] ++ ⟨#[0]⟩)))).alloc (.cells #[.int .i64 0, .int .i64 128, .int .i64 i, .string (codeK i [] ++ ⟨#[0]⟩)] 33)).heap[w4.heap.size]? = some (.cells #[.int .i64 0, .int .i64 128, .int .i64 i, .string (codeK i [] ++ ⟨#[0]⟩)] 33 (0, 0))) := blk_top _ _ (by simp)
          have HB5 : Hid (Below w.heap.size w ((w4.setCell ⟨wr.heap.size, 3, none⟩ (.string (codeK i [] ++ ⟨#[0]⟩))).alloc (.cells #[.int .i64 0, .int .i64 128, .int .i64 i, .string (codeK i [] ++ ⟨#[0]⟩)] 33))) := (HB4.out.setCell (p := ⟨wr.heap.size, 3, none⟩) hsz1 _).alloc (by have := HB4.out.size; simp; omega) _
          go_wp2_with fail
          refine (keel_check_is [⟨0, 128, (i : Int), codeK i [] ++ ⟨#[0]⟩⟩] ⟨#[]⟩ w4.heap.size 0 1 _ (HR.out.below h00 HB5.out) rfl (one_at HK1.out) (e := 0) (k := 0) (p := 0) (by rw [HE2.out]; exact isK_ok (ev_get ev_ok i hk))).mono ?_
          rintro e w6 ⟨rfl, hb6⟩
          have HB6 := hidc (HB5.out.trans (hb6.mono HB5.out.size))
          clear hb6
          go_wp2_with fail
          go_ret
          exact ⟨ret_bool (by simp), HB6.out⟩
      · skip
        go_wp2_with fail
        refine (keep_pick4 how _ h3 h4).mono ?_
        rintro e wq ⟨r, rfl, hr, rfl⟩
        rcases (show r = 0 ∨ r = 1 ∨ r = 2 ∨ r = 3 by omega) with rfl | rfl | rfl | rfl
        · skip
          have HE1 : Hid ((⟨0, 128, (1 : Int), codeK i [] ++ ⟨#[3, 0]⟩⟩ : Sec) = secK i [3, 0]) := by
            show (⟨0, 128, (1 : Int), codeK i [] ++ ⟨#[3, 0]⟩⟩ : Sec) = secK i [3, 0]
            rw [show (⟨#[3, 0]⟩ : ByteArray) = ⟨[3, 0].toArray⟩ from rfl, codeK_app]
            unfold secK
            rw [show ((min i 1 : Nat) : Int) = (1 : Int) by omega]
            rfl
          have HE2 : Hid ((⟨0, 128, (1 : Int), codeK i [] ++ ⟨#[0]⟩⟩ : Sec) = secK i [0]) := by
            show (⟨0, 128, (1 : Int), codeK i [] ++ ⟨#[0]⟩⟩ : Sec) = secK i [0]
            rw [show (⟨#[0]⟩ : ByteArray) = ⟨[0].toArray⟩ from rfl, codeK_app]
            unfold secK
            rw [show ((min i 1 : Nat) : Int) = (1 : Int) by omega]
            rfl
          have HJ0 : Hid (((wr.alloc (.cells #[.int .i64 0, .int .i64 128, .int .i64 1, .string (codeK i [] ++ ⟨#[3, 0]⟩)] 33)).alloc (.cells #[.int .i64 0, .int .i64 128, .int .i64 1, .string (codeK i [] ++ ⟨#[3, 0]⟩)] 33)).heap[wr.heap.size]? = some (.cells #[.int .i64 0, .int .i64 128, .int .i64 1, .string (codeK i [] ++ ⟨#[3, 0]⟩)] 33 (0, 0))) := (Below.heap_alloc _ _ _ (by simp)).trans (heap_alloc_new wr _)
          have HJ1 : Hid (((wr.alloc (.cells #[.int .i64 0, .int .i64 128, .int .i64 1, .string (codeK i [] ++ ⟨#[3, 0]⟩)] 33)).alloc (.cells #[.int .i64 0, .int .i64 128, .int .i64 1, .string (codeK i [] ++ ⟨#[3, 0]⟩)] 33)).heap[wr.heap.size + 1]? = some (.cells #[.int .i64 0, .int .i64 128, .int .i64 1, .string (codeK i [] ++ ⟨#[3, 0]⟩)] 33 (0, 0))) := blk_top _ _ (by simp)
          have HBW : Hid (Below w.heap.size w ((wr.alloc (.cells #[.int .i64 0, .int .i64 128, .int .i64 1, .string (codeK i [] ++ ⟨#[3, 0]⟩)] 33)).alloc (.cells #[.int .i64 0, .int .i64 128, .int .i64 1, .string (codeK i [] ++ ⟨#[3, 0]⟩)] 33))) := HB1.out.trans ((below2 _ _ _).mono hsz1)
          go_wp2_with fail
          refine (keel_check_is [⟨0, 128, (1 : Int), codeK i [] ++ ⟨#[3, 0]⟩⟩] ⟨#[]⟩ (wr.heap.size + 1) 0 1 _ (HR.out.below h00 HBW.out) rfl (one_at HJ1.out) (e := 11) (k := 0) (p := 4 * i) (by rw [HE1.out]; exact isK_err (ev_get ev_low i hk) (by decide))).mono ?_
          rintro e w4 ⟨rfl, hb4⟩
          have hJ4 := keepB hb4 HJ0.out
          have j0 : w4.cell? ⟨wr.heap.size, 0, none⟩ = some (.int .i64 0) := by rw [cell_of_block hJ4]; rfl
          have j1 : w4.cell? ⟨wr.heap.size, 1, none⟩ = some (.int .i64 128) := by rw [cell_of_block hJ4]; rfl
          have j2 : w4.cell? ⟨wr.heap.size, 2, none⟩ = some (.int .i64 1) := by rw [cell_of_block hJ4]; rfl
          have j3 : w4.cell? ⟨wr.heap.size, 3, none⟩ = some (.string (codeK i [] ++ ⟨#[3, 0]⟩)) := by rw [cell_of_block hJ4]; rfl
          have jf : w4.frozen? ⟨wr.heap.size, 3, none⟩ = false := unfrozen_of_block hJ4 3
          have hJs : wr.heap.size < w4.heap.size := blt hJ4
          have HB4 := hidc (HBW.out.trans (hb4.mono HBW.out.size))
          clear hb4 hJ4
          have HK1 : Hid ((((w4.setCell ⟨wr.heap.size, 3, none⟩ (.string (codeK i [] ++ ⟨#[0]⟩)))).alloc (.cells #[.int .i64 0, .int .i64 128, .int .i64 1, .string (codeK i [] ++ ⟨#[0]⟩)] 33)).heap[w4.heap.size]? = some (.cells #[.int .i64 0, .int .i64 128, .int .i64 1, .string (codeK i [] ++ ⟨#[0]⟩)] 33 (0, 0))) := blk_top _ _ (by simp)
          have HB5 : Hid (Below w.heap.size w ((w4.setCell ⟨wr.heap.size, 3, none⟩ (.string (codeK i [] ++ ⟨#[0]⟩))).alloc (.cells #[.int .i64 0, .int .i64 128, .int .i64 1, .string (codeK i [] ++ ⟨#[0]⟩)] 33))) := (HB4.out.setCell (p := ⟨wr.heap.size, 3, none⟩) hsz1 _).alloc (by have := HB4.out.size; simp; omega) _
          go_wp2_with fail
          refine (keel_check_is [⟨0, 128, (1 : Int), codeK i [] ++ ⟨#[0]⟩⟩] ⟨#[]⟩ w4.heap.size 0 1 _ (HR.out.below h00 HB5.out) rfl (one_at HK1.out) (e := 0) (k := 0) (p := 0) (by rw [HE2.out]; exact isK_ok (ev_get ev_ok i hk))).mono ?_
          rintro e w6 ⟨rfl, hb6⟩
          have HB6 := hidc (HB5.out.trans (hb6.mono HB5.out.size))
          clear hb6
          go_wp2_with fail
          go_ret
          exact ⟨ret_bool (by simp), HB6.out⟩
        · skip
          have HE1 : Hid ((⟨0, 128, (1 : Int), codeK i [] ++ ⟨#[15, 255, 254]⟩⟩ : Sec) = secK i [15, 255, 254]) := by
            show (⟨0, 128, (1 : Int), codeK i [] ++ ⟨#[15, 255, 254]⟩⟩ : Sec) = secK i [15, 255, 254]
            rw [show (⟨#[15, 255, 254]⟩ : ByteArray) = ⟨[15, 255, 254].toArray⟩ from rfl, codeK_app]
            unfold secK
            rw [show ((min i 1 : Nat) : Int) = (1 : Int) by omega]
            rfl
          have HE2 : Hid ((⟨0, 128, (1 : Int), codeK i [] ++ ⟨#[0]⟩⟩ : Sec) = secK i [0]) := by
            show (⟨0, 128, (1 : Int), codeK i [] ++ ⟨#[0]⟩⟩ : Sec) = secK i [0]
            rw [show (⟨#[0]⟩ : ByteArray) = ⟨[0].toArray⟩ from rfl, codeK_app]
            unfold secK
            rw [show ((min i 1 : Nat) : Int) = (1 : Int) by omega]
            rfl
          have HJ0 : Hid (((wr.alloc (.cells #[.int .i64 0, .int .i64 128, .int .i64 1, .string (codeK i [] ++ ⟨#[15, 255, 254]⟩)] 33)).alloc (.cells #[.int .i64 0, .int .i64 128, .int .i64 1, .string (codeK i [] ++ ⟨#[15, 255, 254]⟩)] 33)).heap[wr.heap.size]? = some (.cells #[.int .i64 0, .int .i64 128, .int .i64 1, .string (codeK i [] ++ ⟨#[15, 255, 254]⟩)] 33 (0, 0))) := (Below.heap_alloc _ _ _ (by simp)).trans (heap_alloc_new wr _)
          have HJ1 : Hid (((wr.alloc (.cells #[.int .i64 0, .int .i64 128, .int .i64 1, .string (codeK i [] ++ ⟨#[15, 255, 254]⟩)] 33)).alloc (.cells #[.int .i64 0, .int .i64 128, .int .i64 1, .string (codeK i [] ++ ⟨#[15, 255, 254]⟩)] 33)).heap[wr.heap.size + 1]? = some (.cells #[.int .i64 0, .int .i64 128, .int .i64 1, .string (codeK i [] ++ ⟨#[15, 255, 254]⟩)] 33 (0, 0))) := blk_top _ _ (by simp)
          have HBW : Hid (Below w.heap.size w ((wr.alloc (.cells #[.int .i64 0, .int .i64 128, .int .i64 1, .string (codeK i [] ++ ⟨#[15, 255, 254]⟩)] 33)).alloc (.cells #[.int .i64 0, .int .i64 128, .int .i64 1, .string (codeK i [] ++ ⟨#[15, 255, 254]⟩)] 33))) := HB1.out.trans ((below2 _ _ _).mono hsz1)
          go_wp2_with fail
          refine (keel_check_is [⟨0, 128, (1 : Int), codeK i [] ++ ⟨#[15, 255, 254]⟩⟩] ⟨#[]⟩ (wr.heap.size + 1) 0 1 _ (HR.out.below h00 HBW.out) rfl (one_at HJ1.out) (e := 8) (k := 0) (p := 4 * i) (by rw [HE1.out]; exact isK_err (ev_get ev_target i hk) (by decide))).mono ?_
          rintro e w4 ⟨rfl, hb4⟩
          have hJ4 := keepB hb4 HJ0.out
          have j0 : w4.cell? ⟨wr.heap.size, 0, none⟩ = some (.int .i64 0) := by rw [cell_of_block hJ4]; rfl
          have j1 : w4.cell? ⟨wr.heap.size, 1, none⟩ = some (.int .i64 128) := by rw [cell_of_block hJ4]; rfl
          have j2 : w4.cell? ⟨wr.heap.size, 2, none⟩ = some (.int .i64 1) := by rw [cell_of_block hJ4]; rfl
          have j3 : w4.cell? ⟨wr.heap.size, 3, none⟩ = some (.string (codeK i [] ++ ⟨#[15, 255, 254]⟩)) := by rw [cell_of_block hJ4]; rfl
          have jf : w4.frozen? ⟨wr.heap.size, 3, none⟩ = false := unfrozen_of_block hJ4 3
          have hJs : wr.heap.size < w4.heap.size := blt hJ4
          have HB4 := hidc (HBW.out.trans (hb4.mono HBW.out.size))
          clear hb4 hJ4
          have HK1 : Hid ((((w4.setCell ⟨wr.heap.size, 3, none⟩ (.string (codeK i [] ++ ⟨#[0]⟩)))).alloc (.cells #[.int .i64 0, .int .i64 128, .int .i64 1, .string (codeK i [] ++ ⟨#[0]⟩)] 33)).heap[w4.heap.size]? = some (.cells #[.int .i64 0, .int .i64 128, .int .i64 1, .string (codeK i [] ++ ⟨#[0]⟩)] 33 (0, 0))) := blk_top _ _ (by simp)
          have HB5 : Hid (Below w.heap.size w ((w4.setCell ⟨wr.heap.size, 3, none⟩ (.string (codeK i [] ++ ⟨#[0]⟩))).alloc (.cells #[.int .i64 0, .int .i64 128, .int .i64 1, .string (codeK i [] ++ ⟨#[0]⟩)] 33))) := (HB4.out.setCell (p := ⟨wr.heap.size, 3, none⟩) hsz1 _).alloc (by have := HB4.out.size; simp; omega) _
          go_wp2_with fail
          refine (keel_check_is [⟨0, 128, (1 : Int), codeK i [] ++ ⟨#[0]⟩⟩] ⟨#[]⟩ w4.heap.size 0 1 _ (HR.out.below h00 HB5.out) rfl (one_at HK1.out) (e := 0) (k := 0) (p := 0) (by rw [HE2.out]; exact isK_ok (ev_get ev_ok i hk))).mono ?_
          rintro e w6 ⟨rfl, hb6⟩
          have HB6 := hidc (HB5.out.trans (hb6.mono HB5.out.size))
          clear hb6
          go_wp2_with fail
          go_ret
          exact ⟨ret_bool (by simp), HB6.out⟩
        · skip
          have HE1 : Hid ((⟨0, 128, (1 : Int), codeK i [] ++ ⟨#[2, 0, 0]⟩⟩ : Sec) = secK i [2, 0, 0]) := by
            show (⟨0, 128, (1 : Int), codeK i [] ++ ⟨#[2, 0, 0]⟩⟩ : Sec) = secK i [2, 0, 0]
            rw [show (⟨#[2, 0, 0]⟩ : ByteArray) = ⟨[2, 0, 0].toArray⟩ from rfl, codeK_app]
            unfold secK
            rw [show ((min i 1 : Nat) : Int) = (1 : Int) by omega]
            rfl
          have HE2 : Hid ((⟨0, 128, (1 : Int), codeK i [] ++ ⟨#[0]⟩⟩ : Sec) = secK i [0]) := by
            show (⟨0, 128, (1 : Int), codeK i [] ++ ⟨#[0]⟩⟩ : Sec) = secK i [0]
            rw [show (⟨#[0]⟩ : ByteArray) = ⟨[0].toArray⟩ from rfl, codeK_app]
            unfold secK
            rw [show ((min i 1 : Nat) : Int) = (1 : Int) by omega]
            rfl
          have HJ0 : Hid (((wr.alloc (.cells #[.int .i64 0, .int .i64 128, .int .i64 1, .string (codeK i [] ++ ⟨#[2, 0, 0]⟩)] 33)).alloc (.cells #[.int .i64 0, .int .i64 128, .int .i64 1, .string (codeK i [] ++ ⟨#[2, 0, 0]⟩)] 33)).heap[wr.heap.size]? = some (.cells #[.int .i64 0, .int .i64 128, .int .i64 1, .string (codeK i [] ++ ⟨#[2, 0, 0]⟩)] 33 (0, 0))) := (Below.heap_alloc _ _ _ (by simp)).trans (heap_alloc_new wr _)
          have HJ1 : Hid (((wr.alloc (.cells #[.int .i64 0, .int .i64 128, .int .i64 1, .string (codeK i [] ++ ⟨#[2, 0, 0]⟩)] 33)).alloc (.cells #[.int .i64 0, .int .i64 128, .int .i64 1, .string (codeK i [] ++ ⟨#[2, 0, 0]⟩)] 33)).heap[wr.heap.size + 1]? = some (.cells #[.int .i64 0, .int .i64 128, .int .i64 1, .string (codeK i [] ++ ⟨#[2, 0, 0]⟩)] 33 (0, 0))) := blk_top _ _ (by simp)
          have HBW : Hid (Below w.heap.size w ((wr.alloc (.cells #[.int .i64 0, .int .i64 128, .int .i64 1, .string (codeK i [] ++ ⟨#[2, 0, 0]⟩)] 33)).alloc (.cells #[.int .i64 0, .int .i64 128, .int .i64 1, .string (codeK i [] ++ ⟨#[2, 0, 0]⟩)] 33))) := HB1.out.trans ((below2 _ _ _).mono hsz1)
          go_wp2_with fail
          refine (keel_check_is [⟨0, 128, (1 : Int), codeK i [] ++ ⟨#[2, 0, 0]⟩⟩] ⟨#[]⟩ (wr.heap.size + 1) 0 1 _ (HR.out.below h00 HBW.out) rfl (one_at HJ1.out) (e := 14) (k := 0) (p := 4 * i) (by rw [HE1.out]; exact isK_err (ev_get ev_end i hk) (by decide))).mono ?_
          rintro e w4 ⟨rfl, hb4⟩
          have hJ4 := keepB hb4 HJ0.out
          have j0 : w4.cell? ⟨wr.heap.size, 0, none⟩ = some (.int .i64 0) := by rw [cell_of_block hJ4]; rfl
          have j1 : w4.cell? ⟨wr.heap.size, 1, none⟩ = some (.int .i64 128) := by rw [cell_of_block hJ4]; rfl
          have j2 : w4.cell? ⟨wr.heap.size, 2, none⟩ = some (.int .i64 1) := by rw [cell_of_block hJ4]; rfl
          have j3 : w4.cell? ⟨wr.heap.size, 3, none⟩ = some (.string (codeK i [] ++ ⟨#[2, 0, 0]⟩)) := by rw [cell_of_block hJ4]; rfl
          have jf : w4.frozen? ⟨wr.heap.size, 3, none⟩ = false := unfrozen_of_block hJ4 3
          have hJs : wr.heap.size < w4.heap.size := blt hJ4
          have HB4 := hidc (HBW.out.trans (hb4.mono HBW.out.size))
          clear hb4 hJ4
          have HK1 : Hid ((((w4.setCell ⟨wr.heap.size, 3, none⟩ (.string (codeK i [] ++ ⟨#[0]⟩)))).alloc (.cells #[.int .i64 0, .int .i64 128, .int .i64 1, .string (codeK i [] ++ ⟨#[0]⟩)] 33)).heap[w4.heap.size]? = some (.cells #[.int .i64 0, .int .i64 128, .int .i64 1, .string (codeK i [] ++ ⟨#[0]⟩)] 33 (0, 0))) := blk_top _ _ (by simp)
          have HB5 : Hid (Below w.heap.size w ((w4.setCell ⟨wr.heap.size, 3, none⟩ (.string (codeK i [] ++ ⟨#[0]⟩))).alloc (.cells #[.int .i64 0, .int .i64 128, .int .i64 1, .string (codeK i [] ++ ⟨#[0]⟩)] 33))) := (HB4.out.setCell (p := ⟨wr.heap.size, 3, none⟩) hsz1 _).alloc (by have := HB4.out.size; simp; omega) _
          go_wp2_with fail
          refine (keel_check_is [⟨0, 128, (1 : Int), codeK i [] ++ ⟨#[0]⟩⟩] ⟨#[]⟩ w4.heap.size 0 1 _ (HR.out.below h00 HB5.out) rfl (one_at HK1.out) (e := 0) (k := 0) (p := 0) (by rw [HE2.out]; exact isK_ok (ev_get ev_ok i hk))).mono ?_
          rintro e w6 ⟨rfl, hb6⟩
          have HB6 := hidc (HB5.out.trans (hb6.mono HB5.out.size))
          clear hb6
          go_wp2_with fail
          go_ret
          exact ⟨ret_bool (by simp), HB6.out⟩
        · skip
          have HE1 : Hid ((⟨0, 128, (1 : Int), codeK i [] ++ ⟨#[19]⟩⟩ : Sec) = secK i [19]) := by
            show (⟨0, 128, (1 : Int), codeK i [] ++ ⟨#[19]⟩⟩ : Sec) = secK i [19]
            rw [show (⟨#[19]⟩ : ByteArray) = ⟨[19].toArray⟩ from rfl, codeK_app]
            unfold secK
            rw [show ((min i 1 : Nat) : Int) = (1 : Int) by omega]
            rfl
          have HE2 : Hid ((⟨0, 128, (1 : Int), codeK i [] ++ ⟨#[0]⟩⟩ : Sec) = secK i [0]) := by
            show (⟨0, 128, (1 : Int), codeK i [] ++ ⟨#[0]⟩⟩ : Sec) = secK i [0]
            rw [show (⟨#[0]⟩ : ByteArray) = ⟨[0].toArray⟩ from rfl, codeK_app]
            unfold secK
            rw [show ((min i 1 : Nat) : Int) = (1 : Int) by omega]
            rfl
          have HJ0 : Hid (((wr.alloc (.cells #[.int .i64 0, .int .i64 128, .int .i64 1, .string (codeK i [] ++ ⟨#[19]⟩)] 33)).alloc (.cells #[.int .i64 0, .int .i64 128, .int .i64 1, .string (codeK i [] ++ ⟨#[19]⟩)] 33)).heap[wr.heap.size]? = some (.cells #[.int .i64 0, .int .i64 128, .int .i64 1, .string (codeK i [] ++ ⟨#[19]⟩)] 33 (0, 0))) := (Below.heap_alloc _ _ _ (by simp)).trans (heap_alloc_new wr _)
          have HJ1 : Hid (((wr.alloc (.cells #[.int .i64 0, .int .i64 128, .int .i64 1, .string (codeK i [] ++ ⟨#[19]⟩)] 33)).alloc (.cells #[.int .i64 0, .int .i64 128, .int .i64 1, .string (codeK i [] ++ ⟨#[19]⟩)] 33)).heap[wr.heap.size + 1]? = some (.cells #[.int .i64 0, .int .i64 128, .int .i64 1, .string (codeK i [] ++ ⟨#[19]⟩)] 33 (0, 0))) := blk_top _ _ (by simp)
          have HBW : Hid (Below w.heap.size w ((wr.alloc (.cells #[.int .i64 0, .int .i64 128, .int .i64 1, .string (codeK i [] ++ ⟨#[19]⟩)] 33)).alloc (.cells #[.int .i64 0, .int .i64 128, .int .i64 1, .string (codeK i [] ++ ⟨#[19]⟩)] 33))) := HB1.out.trans ((below2 _ _ _).mono hsz1)
          go_wp2_with fail
          refine (keel_check_is [⟨0, 128, (1 : Int), codeK i [] ++ ⟨#[19]⟩⟩] ⟨#[]⟩ (wr.heap.size + 1) 0 1 _ (HR.out.below h00 HBW.out) rfl (one_at HJ1.out) (e := 13) (k := 0) (p := 4 * i) (by rw [HE1.out]; exact isK_err (ev_get ev_ret i hk) (by decide))).mono ?_
          rintro e w4 ⟨rfl, hb4⟩
          have hJ4 := keepB hb4 HJ0.out
          have j0 : w4.cell? ⟨wr.heap.size, 0, none⟩ = some (.int .i64 0) := by rw [cell_of_block hJ4]; rfl
          have j1 : w4.cell? ⟨wr.heap.size, 1, none⟩ = some (.int .i64 128) := by rw [cell_of_block hJ4]; rfl
          have j2 : w4.cell? ⟨wr.heap.size, 2, none⟩ = some (.int .i64 1) := by rw [cell_of_block hJ4]; rfl
          have j3 : w4.cell? ⟨wr.heap.size, 3, none⟩ = some (.string (codeK i [] ++ ⟨#[19]⟩)) := by rw [cell_of_block hJ4]; rfl
          have jf : w4.frozen? ⟨wr.heap.size, 3, none⟩ = false := unfrozen_of_block hJ4 3
          have hJs : wr.heap.size < w4.heap.size := blt hJ4
          have HB4 := hidc (HBW.out.trans (hb4.mono HBW.out.size))
          clear hb4 hJ4
          have HK1 : Hid ((((w4.setCell ⟨wr.heap.size, 3, none⟩ (.string (codeK i [] ++ ⟨#[0]⟩)))).alloc (.cells #[.int .i64 0, .int .i64 128, .int .i64 1, .string (codeK i [] ++ ⟨#[0]⟩)] 33)).heap[w4.heap.size]? = some (.cells #[.int .i64 0, .int .i64 128, .int .i64 1, .string (codeK i [] ++ ⟨#[0]⟩)] 33 (0, 0))) := blk_top _ _ (by simp)
          have HB5 : Hid (Below w.heap.size w ((w4.setCell ⟨wr.heap.size, 3, none⟩ (.string (codeK i [] ++ ⟨#[0]⟩))).alloc (.cells #[.int .i64 0, .int .i64 128, .int .i64 1, .string (codeK i [] ++ ⟨#[0]⟩)] 33))) := (HB4.out.setCell (p := ⟨wr.heap.size, 3, none⟩) hsz1 _).alloc (by have := HB4.out.size; simp; omega) _
          go_wp2_with fail
          refine (keel_check_is [⟨0, 128, (1 : Int), codeK i [] ++ ⟨#[0]⟩⟩] ⟨#[]⟩ w4.heap.size 0 1 _ (HR.out.below h00 HB5.out) rfl (one_at HK1.out) (e := 0) (k := 0) (p := 0) (by rw [HE2.out]; exact isK_ok (ev_get ev_ok i hk))).mono ?_
          rintro e w6 ⟨rfl, hb6⟩
          have HB6 := hidc (HB5.out.trans (hb6.mono HB5.out.size))
          clear hb6
          go_wp2_with fail
          go_ret
          exact ⟨ret_bool (by simp), HB6.out⟩
end Go.Proofs.YtdhmandnamajpaaDoor
