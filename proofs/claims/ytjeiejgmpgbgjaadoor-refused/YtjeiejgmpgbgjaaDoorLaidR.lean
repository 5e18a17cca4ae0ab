/-
  The table of the ops, out of the row's condition.
-/
import Derived.Test.YtjeiejgmpgbgjaaDoorRows
import Derived.Test.YtjeiejgmpgbgjaaDoorOpsA
import Derived.ProofKit
import Derived.LaidMore
import Derived.OpenShut
import Derived.Lib.SmallJoins
namespace Go.Proofs.YtjeiejgmpgbgjaaDoor
open Go.ChangeShapes Go.WideShapes Go.ChangeAt Go.WideMaps Go.WideElems Go.RowKit Go.Joins

theorem gRows : Tryd.prog.globalNamed "keel/ops.rows" = some 0 := by kernel_rfl
theorem tRowsG : (Tryd.prog.globals[0]?).map (·.type) = some 88 := by kernel_rfl
theorem cellsRow : Tryd.prog.cellsOf 87 = 4 := by kernel_rfl
theorem cellsI : Tryd.prog.cellsOf 3 = 1 := by kernel_rfl
theorem cellsB : Tryd.prog.cellsOf 4 = 1 := by kernel_rfl

def rowD (op : Nat) : DataW Unit := .agg [.lit (.int .i64 (sizeT op)), .lit (.int .i64 (takesT op)), .lit (.int .i64 (bringsT op)), .lit (.bool (lastT op))]
theorem laid_rows : (Rows.laid_keel_ops_rows : DataW Unit) = .agg ((List.range 21).map rowD) := by rfl

theorem rows_of_laid {W : World} (h : laidMetH Tryd.prog [("keel/ops.rows", Rows.laid_keel_ops_rows)] W) : RowsAt W := by
  rw [MakeChecks.laidMetH_plain _ _ _ (by kernel_rfl)] at h
  obtain ⟨ps, ⟨g0, t0, cs0, f0, p0, q0, hg0, ht0, hv0, hd0, _⟩, _, _⟩ := h
  obtain rfl := Option.some.inj (gRows.symm.trans hg0)
  obtain rfl := Option.some.inj (tRowsG.symm.trans ht0)
  have hcell := World.var?_cell hg0 hv0
  rw [laid_rows] at hd0
  obtain ⟨xs, m, _, hx, hlen, hn, hel⟩ := DataW.trod_array Tryd.underlying88 hd0
  have key : ∀ op, op < 21 → W.cell? ⟨0, op * 4, none⟩ = some (.int .i64 (sizeT op)) ∧ W.cell? ⟨0, op * 4 + 1, none⟩ = some (.int .i64 (takesT op)) ∧ W.cell? ⟨0, op * 4 + 2, none⟩ = some (.int .i64 (bringsT op)) ∧ W.cell? ⟨0, op * 4 + 3, none⟩ = some (.bool (lastT op)) := by
    intro op ho
    have h1 := hel op ho
    have hxo : xs[op]? = some (xs[op]'(by omega)) := by simp [hn, ho]
    rw [hxo] at h1
    have hd : (xs[op]'(by omega)).1 = rowD op := by
      have h2 := congrArg Prod.fst hx
      simp only [DataW.agg.injEq] at h2
      have h3 := congrArg (fun l => l[op]?) h2
      simp [ho, hxo] at h3
      exact h3.symm
    rw [cellsRow] at h1
    obtain ⟨y0, y1, y2, y3, n, hy, hl, e0, e1, e2, e3⟩ := trod_struct4 Tryd.underlying87 h1
    have hd2 : DataW.agg [y0.1, y1.1, y2.1, y3.1] = rowD op := by rw [← hd, hy]
    simp only [cellsI, cellsB] at e0 e1 e2 e3
    obtain ⟨a, c0, v0, _⟩ := DataW.trod_int Tryd.underlying3 e0
    obtain ⟨b, c1, v1, _⟩ := DataW.trod_int Tryd.underlying3 e1
    obtain ⟨c, c2, v2, _⟩ := DataW.trod_int Tryd.underlying3 e2
    obtain ⟨d, c3, v3⟩ := DataW.trod_bool Tryd.underlying4 e3
    subst v0 v1 v2 v3
    simp only [rowD, DataW.agg.injEq, List.cons.injEq, DataW.lit.injEq, Lit.int.injEq, Lit.bool.injEq, true_and, and_true] at hd2
    obtain ⟨rfl, rfl, rfl, rfl⟩ := hd2
    have get : ∀ j v, j < 4 → (((cs0.toList.drop (op * 4)).take 4).drop j).take 1 = [v] → W.cell? ⟨0, op * 4 + j, none⟩ = some v := by
      intro j v hj hv
      rw [hcell]
      have := congrArg (fun l => l[0]?) hv
      simpa [List.getElem?_take, List.getElem?_drop, hj] using this
    exact ⟨get 0 _ (by omega) c0, get 1 _ (by omega) c1, get 2 _ (by omega) c2, get 3 _ (by omega) c3⟩
  refine ⟨?_, key⟩
  have := (key 0 (by omega)).1
  unfold World.cell? at this
  rcases Nat.lt_or_ge 0 W.heap.size with hlt | hge
  · exact hlt
  · rw [Array.getElem?_eq_none (by omega)] at this; simp at this
end Go.Proofs.YtjeiejgmpgbgjaaDoor
