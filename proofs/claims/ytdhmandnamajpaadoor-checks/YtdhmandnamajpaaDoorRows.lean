/-
  NARROWER THAN 'FOR EVERY INPUT', by the rows' own cells (each row's printed sentence says how): Checks: laid · Refused: laid · Safe: laid · More: laid · Counted: laid · Nested: laid.
  DERIVED. THE GIVEN ROWS OF THIS SEAT. 6 by the template 'for every input the law returns true; each argument reads behind the call as it read before'; 0 by the template 'total and deterministic' (their statements: YtdhmandnamajpaaDoorTotals.lean).
  GIVEN WITH THE SEED: the statements are not yours to turn. If you find one false, say at which input.
  Laid BY PROGRAM, IN A SANDBOX (cutbox-rows.mjs): the forced cells as the released guide's own fill.sh prints them over the translation 3647ce60b9ec3e2b… (all of the seat's roots in one cut). By AI agents, Wed Nov 11 2026. No macro, syntax, notation, axiom, sorry.
-/
import Derived.Test.YtdhmandnamajpaaDoorChecked
import GoSem.Claim
import GoSem.ClaimJoined
import GoSem.ClaimMapViews
import Derived.JoinedTies
import Derived.KernelRfl
namespace Go.Proofs.YtdhmandnamajpaaDoor
/- THE CELL 'sum', in the pinned program and in every row, IS THE sha256 OF THE DUMP (.gsa) THAT YtdhmandnamajpaaDoorProg.lean LOADS. Nothing in Lean hashes anything: it is a label: what it is worth is what the hold of that sum in a sandbox is worth. -/
noncomputable def Tryd.pinned : Pinned := { name := "ytdhmandnamajpaadoor", sum := "3647ce60b9ec3e2b66128a197510ce292378457ecaa8642f77f159847bbcd494", checked := Tryd.checked }
namespace Rows
def none {H : Type} : Left H := { results := [], args := [] }

/- WHAT THE LISTED PACKAGE-LEVEL VARIABLES READ AS WHEN THE CALL BEGINS. Each datum BY PROGRAM (the guide's laid-datum.mjs) off the statement by which the dump's own 'gosem.cut.vars' lays the variable. In a bare row this is a premise. The card (YtdhmandnamajpaaDoorCards.lean) ties it to the program's text. -/
def laid_keel_ops_rows {H : Type} : DataW H := .agg [.agg [.lit (.int .i64 1), .lit (.int .i64 0), .lit (.int .i64 0), .lit (.int .i64 1), .lit (.bool true)], .agg [.lit (.int .i64 1), .lit (.int .i64 0), .lit (.int .i64 0), .lit (.int .i64 1), .lit (.bool true)], .agg [.lit (.int .i64 3), .lit (.int .i64 0), .lit (.int .i64 1), .lit (.int .i64 1), .lit (.bool false)], .agg [.lit (.int .i64 1), .lit (.int .i64 1), .lit (.int .i64 0), .lit (.int .i64 1), .lit (.bool false)], .agg [.lit (.int .i64 1), .lit (.int .i64 2), .lit (.int .i64 1), .lit (.int .i64 1), .lit (.bool false)], .agg [.lit (.int .i64 1), .lit (.int .i64 2), .lit (.int .i64 1), .lit (.int .i64 1), .lit (.bool false)], .agg [.lit (.int .i64 1), .lit (.int .i64 2), .lit (.int .i64 1), .lit (.int .i64 1), .lit (.bool false)], .agg [.lit (.int .i64 1), .lit (.int .i64 2), .lit (.int .i64 1), .lit (.int .i64 1), .lit (.bool false)], .agg [.lit (.int .i64 1), .lit (.int .i64 2), .lit (.int .i64 1), .lit (.int .i64 1), .lit (.bool false)], .agg [.lit (.int .i64 2), .lit (.int .i64 1), .lit (.int .i64 2), .lit (.int .i64 1), .lit (.bool false)], .agg [.lit (.int .i64 2), .lit (.int .i64 2), .lit (.int .i64 2), .lit (.int .i64 1), .lit (.bool false)], .agg [.lit (.int .i64 1), .lit (.int .i64 1), .lit (.int .i64 1), .lit (.int .i64 1), .lit (.bool false)], .agg [.lit (.int .i64 1), .lit (.int .i64 2), .lit (.int .i64 0), .lit (.int .i64 2), .lit (.bool false)], .agg [.lit (.int .i64 1), .lit (.int .i64 1), .lit (.int .i64 1), .lit (.int .i64 1), .lit (.bool false)], .agg [.lit (.int .i64 1), .lit (.int .i64 1), .lit (.int .i64 0), .lit (.int .i64 2), .lit (.bool false)], .agg [.lit (.int .i64 3), .lit (.int .i64 0), .lit (.int .i64 0), .lit (.int .i64 1), .lit (.bool true)], .agg [.lit (.int .i64 3), .lit (.int .i64 1), .lit (.int .i64 0), .lit (.int .i64 1), .lit (.bool false)], .agg [.lit (.int .i64 2), .lit (.int .i64 1), .lit (.int .i64 0), .lit (.int .i64 1), .lit (.bool false)], .agg [.lit (.int .i64 2), .lit (.int .i64 0), .lit (.int .i64 0), .lit (.int .i64 3), .lit (.bool false)], .agg [.lit (.int .i64 1), .lit (.int .i64 0), .lit (.int .i64 0), .lit (.int .i64 1), .lit (.bool true)], .agg [.lit (.int .i64 2), .lit (.int .i64 0), .lit (.int .i64 0), .lit (.int .i64 1), .lit (.bool true)]]

/-- 'keellaw.Checks': WHATEVER THE INPUT: true; the input reads as it did. -/
def checksSpec : ChangeSpec := { name := "checks", fn := fun _ => fun
  | [d] => { results := [.lit (.bool true)], args := [d] }
  | _ => none }
def checksRow : OpenClaim := { program := "ytdhmandnamajpaadoor", sum := "3647ce60b9ec3e2b66128a197510ce292378457ecaa8642f77f159847bbcd494", func := "keel/keellaw.Checks", spec := "checks", unfollowed := true, recurses := true, named := ["keel/ops.rows"], apart := false, laid := [("keel/ops.rows", laid_keel_ops_rows)] }
def ChecksSaid : Prop := checksRow.holds Tryd.pinned (OpenSpec.ofChange checksSpec)

/-- ITS FALSE NEIGHBOUR: 'it returns false'. Refute it at one input. -/
def checksWrong : ChangeSpec := { name := "checks", fn := fun _ => fun
  | [d] => { results := [.lit (.bool false)], args := [d] }
  | _ => none }
def ChecksWrongFalsely : Prop := checksRow.holds Tryd.pinned (OpenSpec.ofChange checksWrong)

/-- 'keelkeep.Refused': WHATEVER THE INPUT: true; the input reads as it did. -/
def refusedSpec : ChangeSpec := { name := "refused", fn := fun _ => fun
  | [d1, d2] => { results := [.lit (.bool true)], args := [d1, d2] }
  | _ => none }
def refusedRow : OpenClaim := { program := "ytdhmandnamajpaadoor", sum := "3647ce60b9ec3e2b66128a197510ce292378457ecaa8642f77f159847bbcd494", func := "keel/keelkeep.Refused", spec := "refused", unfollowed := true, recurses := true, named := ["keel/ops.rows"], apart := false, laid := [("keel/ops.rows", laid_keel_ops_rows)] }
def RefusedSaid : Prop := refusedRow.holds Tryd.pinned (OpenSpec.ofChange refusedSpec)

/-- ITS FALSE NEIGHBOUR: 'it returns false'. Refute it at one input. -/
def refusedWrong : ChangeSpec := { name := "refused", fn := fun _ => fun
  | [d1, d2] => { results := [.lit (.bool false)], args := [d1, d2] }
  | _ => none }
def RefusedWrongFalsely : Prop := refusedRow.holds Tryd.pinned (OpenSpec.ofChange refusedWrong)

/-- 'keelkeep.Safe': WHATEVER THE INPUT: true; the input reads as it did. -/
def safeSpec : ChangeSpec := { name := "safe", fn := fun _ => fun
  | [d1, d2] => { results := [.lit (.bool true)], args := [d1, d2] }
  | _ => none }
def safeRow : OpenClaim := { program := "ytdhmandnamajpaadoor", sum := "3647ce60b9ec3e2b66128a197510ce292378457ecaa8642f77f159847bbcd494", func := "keel/keelkeep.Safe", spec := "safe", unfollowed := true, recurses := true, named := ["keel/ops.rows"], apart := false, laid := [("keel/ops.rows", laid_keel_ops_rows)] }
def SafeSaid : Prop := safeRow.holds Tryd.pinned (OpenSpec.ofChange safeSpec)

/-- ITS FALSE NEIGHBOUR: 'it returns false'. Refute it at one input. -/
def safeWrong : ChangeSpec := { name := "safe", fn := fun _ => fun
  | [d1, d2] => { results := [.lit (.bool false)], args := [d1, d2] }
  | _ => none }
def SafeWrongFalsely : Prop := safeRow.holds Tryd.pinned (OpenSpec.ofChange safeWrong)

/-- 'keelkeep.More': WHATEVER THE INPUT: true; the input reads as it did. -/
def moreSpec : ChangeSpec := { name := "more", fn := fun _ => fun
  | [d1, d2, d3] => { results := [.lit (.bool true)], args := [d1, d2, d3] }
  | _ => none }
def moreRow : OpenClaim := { program := "ytdhmandnamajpaadoor", sum := "3647ce60b9ec3e2b66128a197510ce292378457ecaa8642f77f159847bbcd494", func := "keel/keelkeep.More", spec := "more", unfollowed := true, recurses := true, named := ["keel/ops.rows"], apart := false, laid := [("keel/ops.rows", laid_keel_ops_rows)] }
def MoreSaid : Prop := moreRow.holds Tryd.pinned (OpenSpec.ofChange moreSpec)

/-- ITS FALSE NEIGHBOUR: 'it returns false'. Refute it at one input. -/
def moreWrong : ChangeSpec := { name := "more", fn := fun _ => fun
  | [d1, d2, d3] => { results := [.lit (.bool false)], args := [d1, d2, d3] }
  | _ => none }
def MoreWrongFalsely : Prop := moreRow.holds Tryd.pinned (OpenSpec.ofChange moreWrong)

/-- 'keelkeep.Counted': WHATEVER THE INPUT: true; the input reads as it did. -/
def countedSpec : ChangeSpec := { name := "counted", fn := fun _ => fun
  | [d1, d2] => { results := [.lit (.bool true)], args := [d1, d2] }
  | _ => none }
def countedRow : OpenClaim := { program := "ytdhmandnamajpaadoor", sum := "3647ce60b9ec3e2b66128a197510ce292378457ecaa8642f77f159847bbcd494", func := "keel/keelkeep.Counted", spec := "counted", unfollowed := true, recurses := true, named := ["keel/ops.rows"], apart := false, laid := [("keel/ops.rows", laid_keel_ops_rows)] }
def CountedSaid : Prop := countedRow.holds Tryd.pinned (OpenSpec.ofChange countedSpec)

/-- ITS FALSE NEIGHBOUR: 'it returns false'. Refute it at one input. -/
def countedWrong : ChangeSpec := { name := "counted", fn := fun _ => fun
  | [d1, d2] => { results := [.lit (.bool false)], args := [d1, d2] }
  | _ => none }
def CountedWrongFalsely : Prop := countedRow.holds Tryd.pinned (OpenSpec.ofChange countedWrong)

/-- 'keelkeep.Nested': WHATEVER THE INPUT: true; the input reads as it did. -/
def nestedSpec : ChangeSpec := { name := "nested", fn := fun _ => fun
  | [d1, d2, d3] => { results := [.lit (.bool true)], args := [d1, d2, d3] }
  | _ => none }
def nestedRow : OpenClaim := { program := "ytdhmandnamajpaadoor", sum := "3647ce60b9ec3e2b66128a197510ce292378457ecaa8642f77f159847bbcd494", func := "keel/keelkeep.Nested", spec := "nested", unfollowed := true, recurses := true, named := ["keel/ops.rows"], apart := false, laid := [("keel/ops.rows", laid_keel_ops_rows)] }
def NestedSaid : Prop := nestedRow.holds Tryd.pinned (OpenSpec.ofChange nestedSpec)

/-- ITS FALSE NEIGHBOUR: 'it returns false'. Refute it at one input. -/
def nestedWrong : ChangeSpec := { name := "nested", fn := fun _ => fun
  | [d1, d2, d3] => { results := [.lit (.bool false)], args := [d1, d2, d3] }
  | _ => none }
def NestedWrongFalsely : Prop := nestedRow.holds Tryd.pinned (OpenSpec.ofChange nestedWrong)

/- THE SECOND FORM. 'bulk': how many values and letters a reading holds, each counted each time it is reached (what is shared counts as often as it is met; a slice's spare places count too). A statement '..UptoSaid' is the law's where the arguments, and the package variables that the reading takes, are together of bulk at most 1048576: NARROWER than '..Said'. Prove '..Said' where nothing that the law and all that it calls make is longer than what came in: it says more and counts as full. Else prove '..UptoSaid'. A law counts once. -/
mutual
def uptoBulk {H : Type} : DataW H → Nat
  | .lit (.string bytes) => bytes.length + 1
  | .lit _ => 1
  | .nil => 1
  | .ptr d => uptoBulk d + 1
  | .slice elems spare => uptoBulkAll elems + uptoBulkAll spare + 1
  | .agg parts => uptoBulkAll parts + 1
  | .iface _ d => uptoBulk d + 1
  | .map entries => uptoBulkEntries entries + 1
  | .held _ => 1
def uptoBulkAll {H : Type} : List (DataW H) → Nat
  | [] => 0
  | d :: r => uptoBulk d + uptoBulkAll r
def uptoBulkEntries {H : Type} : List (Lit × DataW H) → Nat
  | [] => 0
  | x :: r => uptoBulkEntry x + uptoBulkEntries r
def uptoBulkEntry {H : Type} : Lit × DataW H → Nat
  | (.string bytes, d) => bytes.length + uptoBulk d + 1
  | (_, d) => uptoBulk d + 1
 end
def uptoSmall : (H : Type) → List (DataW H) → Bool := fun _ ds => decide (uptoBulkAll ds ≤ 1048576)
def OpenSpec.upto (s : _root_.Go.ChangeSpec) : _root_.Go.OpenSpec := { _root_.Go.OpenSpec.ofChange s with cond := some uptoSmall }

/-- 'keellaw.Checks', WHERE WHAT IT READS IS OF BULK AT MOST 1048576: true; the input reads as it did. -/
def checksUptoRow : OpenClaim := { program := "ytdhmandnamajpaadoor", sum := "3647ce60b9ec3e2b66128a197510ce292378457ecaa8642f77f159847bbcd494", func := "keel/keellaw.Checks", spec := "checks", unfollowed := true, recurses := true, named := ["keel/ops.rows"], apart := false, laid := [("keel/ops.rows", laid_keel_ops_rows)], narrowed := true }
def ChecksUptoSaid : Prop := checksUptoRow.holds Tryd.pinned (OpenSpec.upto checksSpec)

/-- 'keelkeep.Refused', WHERE WHAT IT READS IS OF BULK AT MOST 1048576: true; the input reads as it did. -/
def refusedUptoRow : OpenClaim := { program := "ytdhmandnamajpaadoor", sum := "3647ce60b9ec3e2b66128a197510ce292378457ecaa8642f77f159847bbcd494", func := "keel/keelkeep.Refused", spec := "refused", unfollowed := true, recurses := true, named := ["keel/ops.rows"], apart := false, laid := [("keel/ops.rows", laid_keel_ops_rows)], narrowed := true }
def RefusedUptoSaid : Prop := refusedUptoRow.holds Tryd.pinned (OpenSpec.upto refusedSpec)

/-- 'keelkeep.Safe', WHERE WHAT IT READS IS OF BULK AT MOST 1048576: true; the input reads as it did. -/
def safeUptoRow : OpenClaim := { program := "ytdhmandnamajpaadoor", sum := "3647ce60b9ec3e2b66128a197510ce292378457ecaa8642f77f159847bbcd494", func := "keel/keelkeep.Safe", spec := "safe", unfollowed := true, recurses := true, named := ["keel/ops.rows"], apart := false, laid := [("keel/ops.rows", laid_keel_ops_rows)], narrowed := true }
def SafeUptoSaid : Prop := safeUptoRow.holds Tryd.pinned (OpenSpec.upto safeSpec)

/-- 'keelkeep.More', WHERE WHAT IT READS IS OF BULK AT MOST 1048576: true; the input reads as it did. -/
def moreUptoRow : OpenClaim := { program := "ytdhmandnamajpaadoor", sum := "3647ce60b9ec3e2b66128a197510ce292378457ecaa8642f77f159847bbcd494", func := "keel/keelkeep.More", spec := "more", unfollowed := true, recurses := true, named := ["keel/ops.rows"], apart := false, laid := [("keel/ops.rows", laid_keel_ops_rows)], narrowed := true }
def MoreUptoSaid : Prop := moreUptoRow.holds Tryd.pinned (OpenSpec.upto moreSpec)

/-- 'keelkeep.Counted', WHERE WHAT IT READS IS OF BULK AT MOST 1048576: true; the input reads as it did. -/
def countedUptoRow : OpenClaim := { program := "ytdhmandnamajpaadoor", sum := "3647ce60b9ec3e2b66128a197510ce292378457ecaa8642f77f159847bbcd494", func := "keel/keelkeep.Counted", spec := "counted", unfollowed := true, recurses := true, named := ["keel/ops.rows"], apart := false, laid := [("keel/ops.rows", laid_keel_ops_rows)], narrowed := true }
def CountedUptoSaid : Prop := countedUptoRow.holds Tryd.pinned (OpenSpec.upto countedSpec)

/-- 'keelkeep.Nested', WHERE WHAT IT READS IS OF BULK AT MOST 1048576: true; the input reads as it did. -/
def nestedUptoRow : OpenClaim := { program := "ytdhmandnamajpaadoor", sum := "3647ce60b9ec3e2b66128a197510ce292378457ecaa8642f77f159847bbcd494", func := "keel/keelkeep.Nested", spec := "nested", unfollowed := true, recurses := true, named := ["keel/ops.rows"], apart := false, laid := [("keel/ops.rows", laid_keel_ops_rows)], narrowed := true }
def NestedUptoSaid : Prop := nestedUptoRow.holds Tryd.pinned (OpenSpec.upto nestedSpec)

end Rows
end Go.Proofs.YtdhmandnamajpaaDoor
