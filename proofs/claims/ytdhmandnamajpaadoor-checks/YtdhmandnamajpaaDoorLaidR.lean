/-
  The table of the ops, out of the row's condition.
-/
import Derived.Test.YtdhmandnamajpaaDoorRows
import Derived.Test.YtdhmandnamajpaaDoorOpsA
import Derived.ProofKit
import Derived.LaidMore
import Derived.OpenShut
import Derived.Lib.SmallJoins
namespace Go.Proofs.YtdhmandnamajpaaDoor
open Go.ChangeShapes Go.WideShapes Go.ChangeAt Go.WideMaps Go.WideElems Go.RowKit Go.Joins

theorem gRows : Tryd.prog.globalNamed "keel/ops.rows" = some 0 := by kernel_rfl
theorem tRowsG : (Tryd.prog.globals[0]?).map (·.type) = some 145 := by kernel_rfl
theorem cellsRow : Tryd.prog.cellsOf 144 = 5 := by kernel_rfl
theorem cellsI : Tryd.prog.cellsOf 3 = 1 := by kernel_rfl
theorem cellsB : Tryd.prog.cellsOf 4 = 1 := by kernel_rfl

theorem trod_fields5 {H : Type} {enc : TypeId × Value → H} {P : Program} {w : World} {base : Nat} {spare : Nat → Bool} {held : Bool} {t : TypeId} {f0 f1 f2 f3 f4 : Field} {fuel : Nat} {cs : List Value} {x : DataW H × List MemPlace} (ht : P.underlying t = some (.struct #[f0, f1, f2, f3, f4])) (h : DataW.trod enc P w base spare held fuel t cs = some x) :
    ∃ y0 y1 y2 y3 y4 n, x = (.agg [y0.1, y1.1, y2.1, y3.1, y4.1], y0.2 ++ (y1.2 ++ (y2.2 ++ (y3.2 ++ y4.2)))) ∧ cs.length = P.cellsOf t ∧ DataW.trod enc P w base spare held n f0.type ((cs.drop f0.offset).take (P.cellsOf f0.type)) = some y0 ∧
      DataW.trod enc P w base spare held n f1.type ((cs.drop f1.offset).take (P.cellsOf f1.type)) = some y1 ∧ DataW.trod enc P w base spare held n f2.type ((cs.drop f2.offset).take (P.cellsOf f2.type)) = some y2 ∧ DataW.trod enc P w base spare held n f3.type ((cs.drop f3.offset).take (P.cellsOf f3.type)) = some y3 ∧ DataW.trod enc P w base spare held n f4.type ((cs.drop f4.offset).take (P.cellsOf f4.type)) = some y4 := by
  obtain ⟨xs, n, _, rfl, hl, hlen, hf⟩ := DataW.trod_struct ht h
  match xs, hlen with
  | [y0, y1, y2, y3, y4], _ => exact ⟨y0, y1, y2, y3, y4, n, by simp, hl, by simpa using hf 0 f0 rfl, by simpa using hf 1 f1 rfl, by simpa using hf 2 f2 rfl, by simpa using hf 3 f3 rfl, by simpa using hf 4 f4 rfl⟩
def rowD (op : Nat) : DataW Unit := .agg [.lit (.int .i64 (sizeT op)), .lit (.int .i64 (takesT op)), .lit (.int .i64 (bringsT op)), .lit (.int .i64 (costT op)), .lit (.bool (lastT op))]
theorem laid_rows : (Rows.laid_keel_ops_rows : DataW Unit) = .agg ((List.range 21).map rowD) := by rfl

theorem rows_of_laid {W : World} (h : laidMetH Tryd.prog [("keel/ops.rows", Rows.laid_keel_ops_rows)] W) : RowsAt W := by
  rw [MakeChecks.laidMetH_plain _ _ _ (by kernel_rfl)] at h
  obtain ⟨ps, ⟨g0, t0, cs0, f0, p0, q0, hg0, ht0, hv0, hd0, _⟩, _, _⟩ := h
  obtain rfl := Option.some.inj (gRows.symm.trans hg0)
  obtain rfl := Option.some.inj (tRowsG.symm.trans ht0)
  have hcell := World.var?_cell hg0 hv0
  rw [laid_rows] at hd0
  obtain ⟨xs, m, _, hx, hlen, hn, hel⟩ := DataW.trod_array Tryd.underlying145 hd0
  have key : ∀ op, op < 21 → W.cell? ⟨0, op * 5, none⟩ = some (.int .i64 (sizeT op)) ∧ W.cell? ⟨0, op * 5 + 1, none⟩ = some (.int .i64 (takesT op)) ∧ W.cell? ⟨0, op * 5 + 2, none⟩ = some (.int .i64 (bringsT op)) ∧ W.cell? ⟨0, op * 5 + 3, none⟩ = some (.int .i64 (costT op)) ∧ W.cell? ⟨0, op * 5 + 4, none⟩ = some (.bool (lastT op)) := by
    intro op ho
    have h1 := hel op ho
    have hxo : xs[op]? = some (xs[op]'(by omega)) := by simp [hn, ho]
    rw [hxo] at h1
    have hd : (xs[op]'(by omega)).1 = rowD op := by
      have h2 := congrArg Prod.fst hx
      simp only [DataW.agg.injEq] at h2
      have h3 := congrArg (fun l => l[op]?) h2
      simp [ho, hxo] at h3
      exact h3.symm
    rw [cellsRow] at h1
    obtain ⟨y0, y1, y2, y3, y4, n, hy, hl, e0, e1, e2, e3, e4⟩ := trod_fields5 Tryd.underlying144 h1
    have hd2 : DataW.agg [y0.1, y1.1, y2.1, y3.1, y4.1] = rowD op := by rw [← hd, hy]
    simp only [cellsI, cellsB] at e0 e1 e2 e3 e4
    obtain ⟨a, c0, v0, _⟩ := DataW.trod_int Tryd.underlying3 e0
    obtain ⟨b, c1, v1, _⟩ := DataW.trod_int Tryd.underlying3 e1
    obtain ⟨c, c2, v2, _⟩ := DataW.trod_int Tryd.underlying3 e2
    obtain ⟨d, c3, v3, _⟩ := DataW.trod_int Tryd.underlying3 e3
    obtain ⟨f, c4, v4⟩ := DataW.trod_bool Tryd.underlying4 e4
    subst v0 v1 v2 v3 v4
    simp only [rowD, DataW.agg.injEq, List.cons.injEq, DataW.lit.injEq, Lit.int.injEq, Lit.bool.injEq, true_and, and_true] at hd2
    obtain ⟨rfl, rfl, rfl, rfl, rfl⟩ := hd2
    have get : ∀ j v, j < 5 → (((cs0.toList.drop (op * 5)).take 5).drop j).take 1 = [v] → W.cell? ⟨0, op * 5 + j, none⟩ = some v := by
      intro j v hj hv
      rw [hcell]
      have := congrArg (fun l => l[0]?) hv
      simpa [List.getElem?_take, List.getElem?_drop, hj] using this
    exact ⟨get 0 _ (by omega) c0, get 1 _ (by omega) c1, get 2 _ (by omega) c2, get 3 _ (by omega) c3, get 4 _ (by omega) c4⟩
  refine ⟨?_, key⟩
  have := (key 0 (by omega)).1
  unfold World.cell? at this
  rcases Nat.lt_or_ge 0 W.heap.size with hlt | hge
  · exact hlt
  · rw [Array.getElem?_eq_none (by omega)] at this; simp at this
end Go.Proofs.YtdhmandnamajpaaDoor
