/-
  The reference: cut, of a Push; cut, of all.
-/
import Derived.Test.YtdhmandnamajpaaDoorCutT
import Derived.Test.YtdhmandnamajpaaDoorCChain
namespace Go.Proofs.YtdhmandnamajpaaDoor
open Go.RowKit Go.Joins

set_option maxHeartbeats 3000000
set_option maxRecDepth 4000

theorem cut_ok_push (c : ByteArray) (p : Nat) (w : World) (hp : p < c.size) (hs : c.size ≤ 120) (ho : byteN c p = 2) (he : p + 3 ≤ c.size) :
    Calls Tryd.prog 62 #[.string c, .int .i64 p] w (CutOk c p w) := by
  have hz : sizeI c p = 3 := by unfold sizeI; rw [ho, if_neg (by omega)]; rfl
  have i1 : p + 1 < c.size := by omega
  have i2 : p + 2 < c.size := by omega
  have e1 : insI c p = ⟨2, p, p + 3, 256 * c[p + 1].toNat + c[p + 2].toNat, []⟩ := by
    unfold insI
    rw [hz, ho, byte_nat c (p + 1) i1, byte_nat c (p + 2) i2]
    rfl
  have HE := hidc e1
  have hb : c[p].toNat = 2 := by rw [byte_nat c p hp]; exact ho
  clear e1 hz ho
  have hx1 : c[p + 1].toNat < 256 := UInt8.toNat_lt _
  have hx2 : c[p + 2].toNat < 256 := UInt8.toNat_lt _
  have hw1 : IntKind.i64.wrap ((p : Int) + 1) = (p : Int) + 1 := by rw [IntKind.wrap_i64]; omega
  have hw2 : IntKind.i64.wrap ((p : Int) + 2) = (p : Int) + 2 := by rw [IntKind.wrap_i64]; omega
  have h4 : IntKind.i64.wrap (c[p + 1].toNat : Int) = (c[p + 1].toNat : Int) := by rw [IntKind.wrap_i64]; omega
  have h5 : IntKind.i64.wrap (256 * (c[p + 1].toNat : Int)) = 256 * (c[p + 1].toNat : Int) := by rw [IntKind.wrap_i64]; omega
  have h10 : IntKind.i64.wrap (c[p + 2].toNat : Int) = (c[p + 2].toNat : Int) := by rw [IntKind.wrap_i64]; omega
  have h11 : IntKind.i64.wrap (256 * (c[p + 1].toNat : Int) + (c[p + 2].toNat : Int)) = (256 * (c[p + 1].toNat : Int) + (c[p + 2].toNat : Int)) := by rw [IntKind.wrap_i64]; omega
  have j0 : (0 : Int) ≤ (p : Int) + 1 := by omega
  have j1 : (p : Int) + 1 < (c.size : Int) := by omega
  have j2 : ((p : Int) + 1).toNat = p + 1 := by omega
  have k0 : (0 : Int) ≤ (p : Int) + 2 := by omega
  have k1 : (p : Int) + 2 < (c.size : Int) := by omega
  have k2 : ((p : Int) + 2).toNat = p + 2 := by omega
  go_enter Tryd.func62, Tryd.ntmps62
  go_wp2_with fail
  refine wp_region_held_drew (S := fun _ => True) (by kernel_rfl) trivial (fun hHeld => ?_)
  refine wpAnyH_take (i := 0) (v := ?va0) rfl (by kernel_rfl) (by kernel_rfl) (by kernel_rfl) (fun _ _ _ h => h) (Or.inl ⟨by rfl, ?hya0⟩) hHeld ?resta0
  case hya0 => intro w hSw; (try dsimp only at hSw); go_simp; try with_reducible rfl
  simp only [Act.put, List.setIfInBounds_toArray, List.set_cons_zero, List.set_cons_succ, List.getElem_toArray, List.getElem_cons_zero]
  refine wpAnyH_take (i := 1) (v := ?va1) rfl (by kernel_rfl) (by kernel_rfl) (by kernel_rfl) (fun _ _ _ h => h) (Or.inl ⟨by rfl, ?hya1⟩) hHeld ?resta1
  case hya1 => intro w hSw; (try dsimp only at hSw); go_simp; try with_reducible rfl
  simp only [Act.put, List.setIfInBounds_toArray, List.set_cons_zero, List.set_cons_succ, List.getElem_toArray, List.getElem_cons_zero, List.getElem_cons_succ]
  refine wpAnyH_take (i := 2) (v := .int .i64 ((p : Int) + 1)) rfl (by kernel_rfl) (by kernel_rfl) (by kernel_rfl) (fun _ _ _ h => h) (Or.inl ⟨by rfl, ?hya2⟩) hHeld ?resta2
  case hya2 => intro w hSw; (try dsimp only at hSw); go_simp; try with_reducible rfl
  simp only [Act.put, List.setIfInBounds_toArray, List.set_cons_zero, List.set_cons_succ, List.getElem_toArray, List.getElem_cons_zero, List.getElem_cons_succ]
  refine wpAnyH_take (i := 3) (v := .int .u8 (c[p + 1].toNat : Int)) rfl (by kernel_rfl) (by kernel_rfl) (by kernel_rfl) (fun _ _ _ h => h) (Or.inl ⟨by rfl, ?hya3⟩) hHeld ?resta3
  case hya3 => intro w hSw; (try dsimp only at hSw); go_simp; try with_reducible rfl
  simp only [Act.put, List.setIfInBounds_toArray, List.set_cons_zero, List.set_cons_succ, List.getElem_toArray, List.getElem_cons_zero, List.getElem_cons_succ]
  refine wpAnyH_take (i := 4) (v := .int .i64 (c[p + 1].toNat : Int)) rfl (by kernel_rfl) (by kernel_rfl) (by kernel_rfl) (fun _ _ _ h => h) (Or.inl ⟨by rfl, ?hya4⟩) hHeld ?resta4
  case hya4 => intro w hSw; (try dsimp only at hSw); go_simp; (try simp only [h4, h5, h10, h11]); try with_reducible rfl
  simp only [Act.put, List.setIfInBounds_toArray, List.set_cons_zero, List.set_cons_succ, List.getElem_toArray, List.getElem_cons_zero, List.getElem_cons_succ]
  refine wpAnyH_take (i := 5) (v := .int .i64 (256 * (c[p + 1].toNat : Int))) rfl (by kernel_rfl) (by kernel_rfl) (by kernel_rfl) (fun _ _ _ h => h) (Or.inl ⟨by rfl, ?hya5⟩) hHeld ?resta5
  case hya5 => intro w hSw; (try dsimp only at hSw); go_simp; (try simp only [h4, h5, h10, h11]); try with_reducible rfl
  simp only [Act.put, List.setIfInBounds_toArray, List.set_cons_zero, List.set_cons_succ, List.getElem_toArray, List.getElem_cons_zero, List.getElem_cons_succ]
  refine wpAnyH_take (i := 6) (v := ?va6) rfl (by kernel_rfl) (by kernel_rfl) (by kernel_rfl) (fun _ _ _ h => h) (Or.inl ⟨by rfl, ?hya6⟩) hHeld ?resta6
  case hya6 => intro w hSw; (try dsimp only at hSw); go_simp; try with_reducible rfl
  simp only [Act.put, List.setIfInBounds_toArray, List.set_cons_zero, List.set_cons_succ, List.getElem_toArray, List.getElem_cons_zero, List.getElem_cons_succ]
  refine wpAnyH_take (i := 7) (v := ?va7) rfl (by kernel_rfl) (by kernel_rfl) (by kernel_rfl) (fun _ _ _ h => h) (Or.inl ⟨by rfl, ?hya7⟩) hHeld ?resta7
  case hya7 => intro w hSw; (try dsimp only at hSw); go_simp; try with_reducible rfl
  simp only [Act.put, List.setIfInBounds_toArray, List.set_cons_zero, List.set_cons_succ, List.getElem_toArray, List.getElem_cons_zero, List.getElem_cons_succ]
  refine wpAnyH_take (i := 8) (v := .int .i64 ((p : Int) + 2)) rfl (by kernel_rfl) (by kernel_rfl) (by kernel_rfl) (fun _ _ _ h => h) (Or.inl ⟨by rfl, ?hya8⟩) hHeld ?resta8
  case hya8 => intro w hSw; (try dsimp only at hSw); go_simp; try with_reducible rfl
  simp only [Act.put, List.setIfInBounds_toArray, List.set_cons_zero, List.set_cons_succ, List.getElem_toArray, List.getElem_cons_zero, List.getElem_cons_succ]
  refine wpAnyH_take (i := 9) (v := .int .u8 (c[p + 2].toNat : Int)) rfl (by kernel_rfl) (by kernel_rfl) (by kernel_rfl) (fun _ _ _ h => h) (Or.inl ⟨by rfl, ?hya9⟩) hHeld ?resta9
  case hya9 => intro w hSw; (try dsimp only at hSw); go_simp; try with_reducible rfl
  simp only [Act.put, List.setIfInBounds_toArray, List.set_cons_zero, List.set_cons_succ, List.getElem_toArray, List.getElem_cons_zero, List.getElem_cons_succ]
  refine wpAnyH_take (i := 10) (v := .int .i64 (c[p + 2].toNat : Int)) rfl (by kernel_rfl) (by kernel_rfl) (by kernel_rfl) (fun _ _ _ h => h) (Or.inl ⟨by rfl, ?hya10⟩) hHeld ?resta10
  case hya10 => intro w hSw; (try dsimp only at hSw); go_simp; (try simp only [h4, h5, h10, h11]); try with_reducible rfl
  simp only [Act.put, List.setIfInBounds_toArray, List.set_cons_zero, List.set_cons_succ, List.getElem_toArray, List.getElem_cons_zero, List.getElem_cons_succ]
  refine wpAnyH_take (i := 11) (v := .int .i64 (256 * (c[p + 1].toNat : Int) + (c[p + 2].toNat : Int))) rfl (by kernel_rfl) (by kernel_rfl) (by kernel_rfl) (fun _ _ _ h => h) (Or.inl ⟨by rfl, ?hya11⟩) hHeld ?resta11
  case hya11 => intro w hSw; (try dsimp only at hSw); go_simp; (try simp only [h4, h5, h10, h11]); try with_reducible rfl
  simp only [Act.put, List.setIfInBounds_toArray, List.set_cons_zero, List.set_cons_succ, List.getElem_toArray, List.getElem_cons_zero, List.getElem_cons_succ]
  refine wpAnyH_take (i := 12) (v := ?va12) rfl (by kernel_rfl) (by kernel_rfl) (by kernel_rfl) (fun _ _ _ h => h) (Or.inl ⟨by rfl, ?hya12⟩) hHeld ?resta12
  case hya12 => intro w hSw; (try dsimp only at hSw); go_simp; try with_reducible rfl
  simp only [Act.put, List.setIfInBounds_toArray, List.set_cons_zero, List.set_cons_succ, List.getElem_toArray, List.getElem_cons_zero, List.getElem_cons_succ]
  refine wpAnyH_ready (rs := [13]) (by kernel_rfl) (by simp) ?_
  refine AllReadyH.cons (i := 13) rfl (fun K hK => ?_) AllReadyH.nil
  simp only [List.getElem_toArray, List.getElem_cons_zero, List.getElem_cons_succ]
  go_simp
  refine hK.out _ _ trivial (fun hHeld => ?_)
  clear hK
  refine wpAnyH_done (by kernel_rfl) ?_ _
  go_wp2_with fail
  go_loopw [8] (fun iv wr => iv = .int .i64 ((p : Int) + 3) ∧ wr = ((w.alloc (.cells #[.int .i64 0, .int .i64 0, .int .i64 0, .slice none 0 0, .int .i64 0] 79)).alloc (.cells #[.int .i64 p, .int .i64 2, .int .i64 (256 * (c[p + 1].toNat : Int) + (c[p + 2].toNat : Int)), .slice none 0 0, .int .i64 ((p : Int) + 3)] 79)).drew) (fun _ _ => 0)
  case atStart => exact ⟨rfl, rfl⟩
  case round =>
    obtain ⟨rfl, rfl⟩ := hrel
    go_wp2_with fail
    exact bodyPost_ret (v := .tuple #[.agg #[.int .i64 p, .int .i64 2, .int .i64 (256 * (c[p + 1].toNat : Int) + (c[p + 2].toNat : Int)), .slice none 0 0, .int .i64 ((p : Int) + 3)], .bool true]) (by simp [results, Tryd.results62, go_sem]) rfl ⟨_, none, 0, by rw [HE.out]; rfl, by rw [HE.out]; intro _; show (256 * (c[p + 1].toNat : Int) + (c[p + 2].toNat : Int)) = ((256 * c[p + 1].toNat + c[p + 2].toNat : Nat) : Int); omega, by rw [HE.out]; exact row_nil _ _, (below2 _ _ _).drew⟩

/-- cut, of a good instruction. -/
theorem ref_cut_ok (c : ByteArray) (p : Nat) (w : World) (hp : p < c.size) (hs : c.size ≤ 120) (he : opE c p = 0) : Calls Tryd.prog 62 #[.string c, .int .i64 p] w (CutOk c p w) := by
  obtain ⟨h21, hsz⟩ := opE_zero he
  by_cases h1 : byteN c p = 9 ∨ byteN c p = 10 ∨ byteN c p = 18 ∨ byteN c p = 20
  · have hz : sizeI c p = 2 := by unfold sizeI; rw [if_neg (by omega)]; rcases h1 with h | h | h | h <;> rw [h] <;> rfl
    exact cut_ok_two c p _ w hp hs rfl h1 (by omega)
  by_cases h2 : byteN c p = 2
  · have hz : sizeI c p = 3 := by unfold sizeI; rw [if_neg (by omega), h2]; rfl
    exact cut_ok_push c p w hp hs h2 (by omega)
  by_cases h15 : byteN c p = 15
  · have hz : sizeI c p = 3 := by unfold sizeI; rw [if_neg (by omega), h15]; rfl
    exact cut_ok_15 c p _ w hp hs rfl h15 (by omega)
  by_cases h16 : byteN c p = 16
  · have hz : sizeI c p = 3 := by unfold sizeI; rw [if_neg (by omega), h16]; rfl
    exact cut_ok_16 c p _ w hp hs rfl h16 (by omega)
  by_cases h17 : byteN c p = 17
  · have hp1 : p + 1 < c.size := by
      by_cases h : p + 1 < c.size
      · exact h
      · have : sizeI c p = 2 := by unfold sizeI; rw [if_neg (by omega), h17]; rfl
        omega
    have hz : sizeI c p = 2 + 2 * (byteN c (p + 1) + 1) := by unfold sizeI; rw [if_pos ⟨h17, hp1⟩, h17]; rfl
    exact cut_ok_table c p _ _ w hp hs h17 hp1 rfl rfl (by rw [← hz]; exact hsz)
  exact cut_ok_one c p _ w hp hs rfl h21 h2 (by omega) (by omega) h15 h16 h17 (by omega) (by omega)
/-- cut, of one that goes beyond the end. -/
theorem ref_cut_bad (c : ByteArray) (p : Nat) (w : World) (hp : p < c.size) (hs : c.size ≤ 120) (he : c.size < p + sizeI c p) : Calls Tryd.prog 62 #[.string c, .int .i64 p] w (CutBad w) := by
  by_cases h1 : byteN c p = 9 ∨ byteN c p = 10 ∨ byteN c p = 18 ∨ byteN c p = 20
  · have hz : sizeI c p = 2 := by unfold sizeI; rw [if_neg (by omega)]; rcases h1 with h | h | h | h <;> rw [h] <;> rfl
    exact cut_bad_two c p _ w hp hs rfl h1 (by omega)
  by_cases h2 : byteN c p = 2 ∨ byteN c p = 15 ∨ byteN c p = 16
  · have hz : sizeI c p = 3 := by unfold sizeI; rw [if_neg (by omega)]; rcases h2 with h | h | h <;> rw [h] <;> rfl
    exact cut_bad_three c p _ w hp hs rfl h2 (by omega)
  by_cases h17 : byteN c p = 17
  · by_cases hp1 : p + 1 < c.size
    · have hz : sizeI c p = 2 + 2 * (byteN c (p + 1) + 1) := by unfold sizeI; rw [if_pos ⟨h17, hp1⟩, h17]; rfl
      exact cut_bad_table c p w hp1 hs h17 (by rw [← hz]; exact he)
    · exact cut_bad_k c p w hp hs h17 (by omega)
  · have hz : sizeI c p = 1 := by unfold sizeI; rw [if_neg (by omega)]; unfold sizeT; rw [if_neg (by omega), if_neg (by omega)]
    omega
end Go.Proofs.YtdhmandnamajpaaDoor
