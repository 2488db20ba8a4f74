/-
  NARROWER THAN 'FOR EVERY INPUT', by the rows' own cells (each row's printed sentence says how): StampPuts: laid · StampGets: laid · StampAll: laid · StampBack: laid · StampSteady: laid · StampCosts: laid · StampMoves: laid.
  DERIVED. THE GIVEN ROWS OF THIS SEAT. 7 by the template 'for every input the law returns true; each argument reads behind the call as it read before'; 0 by the template 'total and deterministic' (their statements: YtopdhcbhhkajpaaDoorTotals.lean).
  GIVEN WITH THE SEED: the statements are not yours to turn. If you find one false, say at which input.
  Laid BY PROGRAM, IN A SANDBOX (cutbox-rows.mjs): the forced cells as the released guide's own fill.sh prints them over the translation a2617b5cf7fd5af0… (all of the seat's roots in one cut). By AI agents, Wed Nov 11 2026. No macro, syntax, notation, axiom, sorry.
-/
import Derived.Test.YtopdhcbhhkajpaaDoorChecked
import GoSem.Claim
import GoSem.ClaimJoined
import GoSem.ClaimMapViews
import Derived.JoinedTies
import Derived.KernelRfl
namespace Go.Proofs.YtopdhcbhhkajpaaDoor
/- THE CELL 'sum', in the pinned program and in every row, IS THE sha256 OF THE DUMP (.gsa) THAT YtopdhcbhhkajpaaDoorProg.lean LOADS. Nothing in Lean hashes anything: it is a label: what it is worth is what the hold of that sum in a sandbox is worth. -/
noncomputable def Tryd.pinned : Pinned := { name := "ytopdhcbhhkajpaadoor", sum := "a2617b5cf7fd5af0aeff35177a651abbbe90087531f6df0cc8eef9f4a75b4f46", checked := Tryd.checked }
namespace Rows
def none {H : Type} : Left H := { results := [], args := [] }

/- WHAT THE LISTED PACKAGE-LEVEL VARIABLES READ AS WHEN THE CALL BEGINS. Each datum BY PROGRAM (the guide's laid-datum.mjs) off the statement by which the dump's own 'gosem.cut.vars' lays the variable. In a bare row this is a premise. The card (YtopdhcbhhkajpaaDoorCards.lean) ties it to the program's text. -/
def laid_alluvium_stamp_classes {H : Type} : DataW H := .agg [.agg [.lit (.int .i64 0), .lit (.int .i64 0), .lit (.int .i64 0), .lit (.int .u64 0), .lit (.int .i64 1), .lit (.int .i64 0)], .agg [.lit (.int .i64 (-63)), .lit (.int .i64 64), .lit (.int .i64 63), .lit (.int .u64 2), .lit (.int .i64 2), .lit (.int .i64 7)], .agg [.lit (.int .i64 (-255)), .lit (.int .i64 256), .lit (.int .i64 255), .lit (.int .u64 6), .lit (.int .i64 3), .lit (.int .i64 9)], .agg [.lit (.int .i64 (-2047)), .lit (.int .i64 2048), .lit (.int .i64 2047), .lit (.int .u64 14), .lit (.int .i64 4), .lit (.int .i64 12)], .agg [.lit (.int .i64 0), .lit (.int .i64 0), .lit (.int .i64 0), .lit (.int .u64 15), .lit (.int .i64 4), .lit (.int .i64 64)]]

/-- 'alluviumlaw04.StampPuts': WHATEVER THE INPUT: true; the input reads as it did. -/
def stampPutsSpec : ChangeSpec := { name := "stampPuts", fn := fun _ => fun
  | [d1, d2] => { results := [.lit (.bool true)], args := [d1, d2] }
  | _ => none }
def stampPutsRow : OpenClaim := { program := "ytopdhcbhhkajpaadoor", sum := "a2617b5cf7fd5af0aeff35177a651abbbe90087531f6df0cc8eef9f4a75b4f46", func := "alluvium/alluviumlaw04.StampPuts", spec := "stampPuts", unfollowed := true, recurses := true, named := ["alluvium/stamp.classes"], apart := false, laid := [("alluvium/stamp.classes", laid_alluvium_stamp_classes)] }
def StampPutsSaid : Prop := stampPutsRow.holds Tryd.pinned (OpenSpec.ofChange stampPutsSpec)

/-- ITS FALSE NEIGHBOUR: 'it returns false'. Refute it at one input. -/
def stampPutsWrong : ChangeSpec := { name := "stampPuts", fn := fun _ => fun
  | [d1, d2] => { results := [.lit (.bool false)], args := [d1, d2] }
  | _ => none }
def StampPutsWrongFalsely : Prop := stampPutsRow.holds Tryd.pinned (OpenSpec.ofChange stampPutsWrong)

/-- 'alluviumlaw04.StampGets': WHATEVER THE INPUT: true; the input reads as it did. -/
def stampGetsSpec : ChangeSpec := { name := "stampGets", fn := fun _ => fun
  | [d1, d2, d3] => { results := [.lit (.bool true)], args := [d1, d2, d3] }
  | _ => none }
def stampGetsRow : OpenClaim := { program := "ytopdhcbhhkajpaadoor", sum := "a2617b5cf7fd5af0aeff35177a651abbbe90087531f6df0cc8eef9f4a75b4f46", func := "alluvium/alluviumlaw04.StampGets", spec := "stampGets", unfollowed := true, recurses := true, named := ["alluvium/stamp.classes"], apart := false, laid := [("alluvium/stamp.classes", laid_alluvium_stamp_classes)] }
def StampGetsSaid : Prop := stampGetsRow.holds Tryd.pinned (OpenSpec.ofChange stampGetsSpec)

/-- ITS FALSE NEIGHBOUR: 'it returns false'. Refute it at one input. -/
def stampGetsWrong : ChangeSpec := { name := "stampGets", fn := fun _ => fun
  | [d1, d2, d3] => { results := [.lit (.bool false)], args := [d1, d2, d3] }
  | _ => none }
def StampGetsWrongFalsely : Prop := stampGetsRow.holds Tryd.pinned (OpenSpec.ofChange stampGetsWrong)

/-- 'alluviumlaw04.StampAll': WHATEVER THE INPUT: true; the input reads as it did. -/
def stampAllSpec : ChangeSpec := { name := "stampAll", fn := fun _ => fun
  | [d1, d2, d3] => { results := [.lit (.bool true)], args := [d1, d2, d3] }
  | _ => none }
def stampAllRow : OpenClaim := { program := "ytopdhcbhhkajpaadoor", sum := "a2617b5cf7fd5af0aeff35177a651abbbe90087531f6df0cc8eef9f4a75b4f46", func := "alluvium/alluviumlaw04.StampAll", spec := "stampAll", unfollowed := true, recurses := true, named := ["alluvium/stamp.classes"], apart := false, laid := [("alluvium/stamp.classes", laid_alluvium_stamp_classes)] }
def StampAllSaid : Prop := stampAllRow.holds Tryd.pinned (OpenSpec.ofChange stampAllSpec)

/-- ITS FALSE NEIGHBOUR: 'it returns false'. Refute it at one input. -/
def stampAllWrong : ChangeSpec := { name := "stampAll", fn := fun _ => fun
  | [d1, d2, d3] => { results := [.lit (.bool false)], args := [d1, d2, d3] }
  | _ => none }
def StampAllWrongFalsely : Prop := stampAllRow.holds Tryd.pinned (OpenSpec.ofChange stampAllWrong)

/-- 'alluviumlaw04.StampBack': WHATEVER THE INPUT: true; the input reads as it did. -/
def stampBackSpec : ChangeSpec := { name := "stampBack", fn := fun _ => fun
  | [d1, d2, d3] => { results := [.lit (.bool true)], args := [d1, d2, d3] }
  | _ => none }
def stampBackRow : OpenClaim := { program := "ytopdhcbhhkajpaadoor", sum := "a2617b5cf7fd5af0aeff35177a651abbbe90087531f6df0cc8eef9f4a75b4f46", func := "alluvium/alluviumlaw04.StampBack", spec := "stampBack", unfollowed := true, recurses := true, named := ["alluvium/stamp.classes"], apart := false, laid := [("alluvium/stamp.classes", laid_alluvium_stamp_classes)] }
def StampBackSaid : Prop := stampBackRow.holds Tryd.pinned (OpenSpec.ofChange stampBackSpec)

/-- ITS FALSE NEIGHBOUR: 'it returns false'. Refute it at one input. -/
def stampBackWrong : ChangeSpec := { name := "stampBack", fn := fun _ => fun
  | [d1, d2, d3] => { results := [.lit (.bool false)], args := [d1, d2, d3] }
  | _ => none }
def StampBackWrongFalsely : Prop := stampBackRow.holds Tryd.pinned (OpenSpec.ofChange stampBackWrong)

/-- 'alluviumlaw04.StampSteady': WHATEVER THE INPUT: true; the input reads as it did. -/
def stampSteadySpec : ChangeSpec := { name := "stampSteady", fn := fun _ => fun
  | [d1, d2, d3] => { results := [.lit (.bool true)], args := [d1, d2, d3] }
  | _ => none }
def stampSteadyRow : OpenClaim := { program := "ytopdhcbhhkajpaadoor", sum := "a2617b5cf7fd5af0aeff35177a651abbbe90087531f6df0cc8eef9f4a75b4f46", func := "alluvium/alluviumlaw04.StampSteady", spec := "stampSteady", unfollowed := true, recurses := true, named := ["alluvium/stamp.classes"], apart := false, laid := [("alluvium/stamp.classes", laid_alluvium_stamp_classes)] }
def StampSteadySaid : Prop := stampSteadyRow.holds Tryd.pinned (OpenSpec.ofChange stampSteadySpec)

/-- ITS FALSE NEIGHBOUR: 'it returns false'. Refute it at one input. -/
def stampSteadyWrong : ChangeSpec := { name := "stampSteady", fn := fun _ => fun
  | [d1, d2, d3] => { results := [.lit (.bool false)], args := [d1, d2, d3] }
  | _ => none }
def StampSteadyWrongFalsely : Prop := stampSteadyRow.holds Tryd.pinned (OpenSpec.ofChange stampSteadyWrong)

/-- 'alluviumlaw04.StampCosts': WHATEVER THE INPUT: true; the input reads as it did. -/
def stampCostsSpec : ChangeSpec := { name := "stampCosts", fn := fun _ => fun
  | [d] => { results := [.lit (.bool true)], args := [d] }
  | _ => none }
def stampCostsRow : OpenClaim := { program := "ytopdhcbhhkajpaadoor", sum := "a2617b5cf7fd5af0aeff35177a651abbbe90087531f6df0cc8eef9f4a75b4f46", func := "alluvium/alluviumlaw04.StampCosts", spec := "stampCosts", unfollowed := true, recurses := true, named := ["alluvium/stamp.classes"], apart := false, laid := [("alluvium/stamp.classes", laid_alluvium_stamp_classes)] }
def StampCostsSaid : Prop := stampCostsRow.holds Tryd.pinned (OpenSpec.ofChange stampCostsSpec)

/-- ITS FALSE NEIGHBOUR: 'it returns false'. Refute it at one input. -/
def stampCostsWrong : ChangeSpec := { name := "stampCosts", fn := fun _ => fun
  | [d] => { results := [.lit (.bool false)], args := [d] }
  | _ => none }
def StampCostsWrongFalsely : Prop := stampCostsRow.holds Tryd.pinned (OpenSpec.ofChange stampCostsWrong)

/-- 'alluviumlaw04.StampMoves': WHATEVER THE INPUT: true; the input reads as it did. -/
def stampMovesSpec : ChangeSpec := { name := "stampMoves", fn := fun _ => fun
  | [d1, d2] => { results := [.lit (.bool true)], args := [d1, d2] }
  | _ => none }
def stampMovesRow : OpenClaim := { program := "ytopdhcbhhkajpaadoor", sum := "a2617b5cf7fd5af0aeff35177a651abbbe90087531f6df0cc8eef9f4a75b4f46", func := "alluvium/alluviumlaw04.StampMoves", spec := "stampMoves", unfollowed := true, recurses := true, named := ["alluvium/stamp.classes"], apart := false, laid := [("alluvium/stamp.classes", laid_alluvium_stamp_classes)] }
def StampMovesSaid : Prop := stampMovesRow.holds Tryd.pinned (OpenSpec.ofChange stampMovesSpec)

/-- ITS FALSE NEIGHBOUR: 'it returns false'. Refute it at one input. -/
def stampMovesWrong : ChangeSpec := { name := "stampMoves", fn := fun _ => fun
  | [d1, d2] => { results := [.lit (.bool false)], args := [d1, d2] }
  | _ => none }
def StampMovesWrongFalsely : Prop := stampMovesRow.holds Tryd.pinned (OpenSpec.ofChange stampMovesWrong)

/- THE SECOND FORM. 'bulk': how many values and letters a reading holds, each counted each time it is reached (what is shared counts as often as it is met; a slice's spare places count too). A statement '..UptoSaid' is the law's where the arguments, and the package variables that the reading takes, are together of bulk at most 1048576: NARROWER than '..Said'. Prove '..Said' where nothing that the law and all that it calls make is longer than what came in: it says more and counts as full. Else prove '..UptoSaid'. A law counts once. -/
mutual
def uptoBulk {H : Type} : DataW H → Nat
  | .lit (.string bytes) => bytes.length + 1
  | .lit _ => 1
  | .nil => 1
  | .ptr d => uptoBulk d + 1
  | .slice elems spare => uptoBulkAll elems + uptoBulkAll spare + 1
  | .agg parts => uptoBulkAll parts + 1
  | .iface _ d => uptoBulk d + 1
  | .map entries => uptoBulkEntries entries + 1
  | .held _ => 1
def uptoBulkAll {H : Type} : List (DataW H) → Nat
  | [] => 0
  | d :: r => uptoBulk d + uptoBulkAll r
def uptoBulkEntries {H : Type} : List (Lit × DataW H) → Nat
  | [] => 0
  | x :: r => uptoBulkEntry x + uptoBulkEntries r
def uptoBulkEntry {H : Type} : Lit × DataW H → Nat
  | (.string bytes, d) => bytes.length + uptoBulk d + 1
  | (_, d) => uptoBulk d + 1
 end
def uptoSmall : (H : Type) → List (DataW H) → Bool := fun _ ds => decide (uptoBulkAll ds ≤ 1048576)
def OpenSpec.upto (s : _root_.Go.ChangeSpec) : _root_.Go.OpenSpec := { _root_.Go.OpenSpec.ofChange s with cond := some uptoSmall }

/-- 'alluviumlaw04.StampPuts', WHERE WHAT IT READS IS OF BULK AT MOST 1048576: true; the input reads as it did. -/
def stampPutsUptoRow : OpenClaim := { program := "ytopdhcbhhkajpaadoor", sum := "a2617b5cf7fd5af0aeff35177a651abbbe90087531f6df0cc8eef9f4a75b4f46", func := "alluvium/alluviumlaw04.StampPuts", spec := "stampPuts", unfollowed := true, recurses := true, named := ["alluvium/stamp.classes"], apart := false, laid := [("alluvium/stamp.classes", laid_alluvium_stamp_classes)], narrowed := true }
def StampPutsUptoSaid : Prop := stampPutsUptoRow.holds Tryd.pinned (OpenSpec.upto stampPutsSpec)

/-- 'alluviumlaw04.StampGets', WHERE WHAT IT READS IS OF BULK AT MOST 1048576: true; the input reads as it did. -/
def stampGetsUptoRow : OpenClaim := { program := "ytopdhcbhhkajpaadoor", sum := "a2617b5cf7fd5af0aeff35177a651abbbe90087531f6df0cc8eef9f4a75b4f46", func := "alluvium/alluviumlaw04.StampGets", spec := "stampGets", unfollowed := true, recurses := true, named := ["alluvium/stamp.classes"], apart := false, laid := [("alluvium/stamp.classes", laid_alluvium_stamp_classes)], narrowed := true }
def StampGetsUptoSaid : Prop := stampGetsUptoRow.holds Tryd.pinned (OpenSpec.upto stampGetsSpec)

/-- 'alluviumlaw04.StampAll', WHERE WHAT IT READS IS OF BULK AT MOST 1048576: true; the input reads as it did. -/
def stampAllUptoRow : OpenClaim := { program := "ytopdhcbhhkajpaadoor", sum := "a2617b5cf7fd5af0aeff35177a651abbbe90087531f6df0cc8eef9f4a75b4f46", func := "alluvium/alluviumlaw04.StampAll", spec := "stampAll", unfollowed := true, recurses := true, named := ["alluvium/stamp.classes"], apart := false, laid := [("alluvium/stamp.classes", laid_alluvium_stamp_classes)], narrowed := true }
def StampAllUptoSaid : Prop := stampAllUptoRow.holds Tryd.pinned (OpenSpec.upto stampAllSpec)

/-- 'alluviumlaw04.StampBack', WHERE WHAT IT READS IS OF BULK AT MOST 1048576: true; the input reads as it did. -/
def stampBackUptoRow : OpenClaim := { program := "ytopdhcbhhkajpaadoor", sum := "a2617b5cf7fd5af0aeff35177a651abbbe90087531f6df0cc8eef9f4a75b4f46", func := "alluvium/alluviumlaw04.StampBack", spec := "stampBack", unfollowed := true, recurses := true, named := ["alluvium/stamp.classes"], apart := false, laid := [("alluvium/stamp.classes", laid_alluvium_stamp_classes)], narrowed := true }
def StampBackUptoSaid : Prop := stampBackUptoRow.holds Tryd.pinned (OpenSpec.upto stampBackSpec)

/-- 'alluviumlaw04.StampSteady', WHERE WHAT IT READS IS OF BULK AT MOST 1048576: true; the input reads as it did. -/
def stampSteadyUptoRow : OpenClaim := { program := "ytopdhcbhhkajpaadoor", sum := "a2617b5cf7fd5af0aeff35177a651abbbe90087531f6df0cc8eef9f4a75b4f46", func := "alluvium/alluviumlaw04.StampSteady", spec := "stampSteady", unfollowed := true, recurses := true, named := ["alluvium/stamp.classes"], apart := false, laid := [("alluvium/stamp.classes", laid_alluvium_stamp_classes)], narrowed := true }
def StampSteadyUptoSaid : Prop := stampSteadyUptoRow.holds Tryd.pinned (OpenSpec.upto stampSteadySpec)

/-- 'alluviumlaw04.StampCosts', WHERE WHAT IT READS IS OF BULK AT MOST 1048576: true; the input reads as it did. -/
def stampCostsUptoRow : OpenClaim := { program := "ytopdhcbhhkajpaadoor", sum := "a2617b5cf7fd5af0aeff35177a651abbbe90087531f6df0cc8eef9f4a75b4f46", func := "alluvium/alluviumlaw04.StampCosts", spec := "stampCosts", unfollowed := true, recurses := true, named := ["alluvium/stamp.classes"], apart := false, laid := [("alluvium/stamp.classes", laid_alluvium_stamp_classes)], narrowed := true }
def StampCostsUptoSaid : Prop := stampCostsUptoRow.holds Tryd.pinned (OpenSpec.upto stampCostsSpec)

/-- 'alluviumlaw04.StampMoves', WHERE WHAT IT READS IS OF BULK AT MOST 1048576: true; the input reads as it did. -/
def stampMovesUptoRow : OpenClaim := { program := "ytopdhcbhhkajpaadoor", sum := "a2617b5cf7fd5af0aeff35177a651abbbe90087531f6df0cc8eef9f4a75b4f46", func := "alluvium/alluviumlaw04.StampMoves", spec := "stampMoves", unfollowed := true, recurses := true, named := ["alluvium/stamp.classes"], apart := false, laid := [("alluvium/stamp.classes", laid_alluvium_stamp_classes)], narrowed := true }
def StampMovesUptoSaid : Prop := stampMovesUptoRow.holds Tryd.pinned (OpenSpec.upto stampMovesSpec)

end Rows
end Go.Proofs.YtopdhcbhhkajpaaDoor
