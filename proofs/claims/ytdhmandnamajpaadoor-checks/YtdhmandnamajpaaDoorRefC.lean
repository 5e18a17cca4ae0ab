/-
  The reference: begins, named.
-/
import Derived.Test.YtdhmandnamajpaaDoorRefA
import Derived.Test.YtdhmandnamajpaaDoorLookB
import Derived.Test.YtdhmandnamajpaaDoorCChain
namespace Go.Proofs.YtdhmandnamajpaaDoor
open Go.RowKit Go.Joins

set_option maxHeartbeats 1000000

/-- The instructions l as the reference has them, in block g. -/
structure RInsAt (w : World) (g : Nat) (l : List Ins) : Prop where
  lt : g < w.heap.size
  cells : ∀ k x, l[k]? = some x → w.cell? ⟨g, k * 5, none⟩ = some (.int .i64 x.pl) ∧ w.cell? ⟨g, k * 5 + 1, none⟩ = some (.int .i64 x.op) ∧ (∃ N, w.cell? ⟨g, k * 5 + 2, none⟩ = some (.int .i64 N) ∧ numsAs x N) ∧
    (∃ v, w.cell? ⟨g, k * 5 + 3, none⟩ = some v ∧ TosAt0 w w.heap.size v x.to) ∧ w.cell? ⟨g, k * 5 + 4, none⟩ = some (.int .i64 x.nx)
def idxI (l : List Ins) (t : Int) : Int := if beginsB l t then (idxP l t : Nat) else -1

theorem ref_begins (g cc : Nat) (l : List Ins) (t : Int) (w : World) (h : ∀ k (hk : k < l.length), w.cell? ⟨g, k * 5, none⟩ = some (.int .i64 l[k].pl)) (hl : l.length ≤ 120) :
    Calls Tryd.prog 63 #[.slice (some ⟨g, 0, none⟩) l.length cc, .int .i64 t] w fun e w' => e = .returned (.int .i64 (idxI l t)) ∧ w' = w := by
  have HL := hidc h
  clear h
  go_enter Tryd.func63, Tryd.ntmps63
  go_wp2_with fail
  go_loopw [5] (fun i wr => ∃ k : Nat, k ≤ l.length ∧ i = .int .i64 k ∧ Hid (∀ j (hj : j < l.length), j < k → ((l[j].pl : Int) == t) = false) ∧ wr = w) (fun i _ => l.length - (intOf i).toNat)
  case atStart => exact ⟨0, Nat.zero_le _, rfl, fun j _ hj => by omega, rfl⟩
  case round =>
    obtain ⟨k, hk, rfl, HA, rfl⟩ := hrel
    by_cases hlt : k < l.length
    · have c0 := HL.out k hlt
      by_cases he : (l[k].pl : Int) = t
      · have HE : Hid (idxI l t = k) := by
          show idxI l t = k
          have hbg : beginsB l t = true := by unfold beginsB; rw [List.any_eq_true]; exact ⟨l[k], by simp, by simp [he]⟩
          have : idxP l t = k := by
            unfold idxP
            rw [List.findIdx_eq hlt]
            exact ⟨by simp [he], fun j hj => HA.out j (by omega) hj⟩
          unfold idxI
          rw [if_pos hbg, this]
        go_wp2_with fail
        go_ret
        exact ⟨ret_int HE.out.symm, rfl⟩
      · have he' : ((l[k].pl : Int) == t) = false := by simp [he]
        go_wp2_with fail
        go_roundw
        case rel =>
          refine ⟨k + 1, by omega, by go_num, fun j hj hjk => ?_, by trivial⟩
          rcases Nat.lt_or_ge j k with h1 | h1
          · exact HA.out j hj h1
          · obtain rfl : j = k := by omega
            exact he'
        case measure => simp [intOf]; omega
    · have HE : Hid (idxI l t = -1) := by
        show idxI l t = -1
        have hbg : beginsB l t = false := by
          unfold beginsB
          rw [List.any_eq_false]
          intro y hy
          obtain ⟨j, hj, rfl⟩ := List.getElem_of_mem hy
          rw [HA.out j hj (by omega)]
          simp
        unfold idxI
        rw [hbg]
        rfl
      go_wp2_with fail
      go_ret
      exact ⟨ret_int HE.out.symm, rfl⟩
end Go.Proofs.YtdhmandnamajpaaDoor
