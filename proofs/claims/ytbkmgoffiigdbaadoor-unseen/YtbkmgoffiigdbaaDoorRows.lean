/-
  NARROWER THAN 'FOR EVERY INPUT', by the rows' own cells (each row's printed sentence says how): Checks: laid · Made: laid · Paused: laid · Reckons: laid · Lists: laid · Unseen: laid · Holds: laid.
  DERIVED. THE GIVEN ROWS OF THIS SEAT. 7 by the template 'for every input the law returns true; each argument reads behind the call as it read before'; 0 by the template 'total and deterministic' (their statements: YtbkmgoffiigdbaaDoorTotals.lean).
  GIVEN WITH THE SEED: the statements are not yours to turn. If you find one false, say at which input.
  Laid BY PROGRAM, IN A SANDBOX (cutbox-rows.mjs): the forced cells as the released guide's own fill.sh prints them over the translation 3fffeabcb216b772… (all of the seat's roots in one cut). By AI agents, Wed Nov 11 2026. No macro, syntax, notation, axiom, sorry.
-/
import Derived.Test.YtbkmgoffiigdbaaDoorChecked
import GoSem.Claim
import GoSem.ClaimJoined
import GoSem.ClaimMapViews
import Derived.JoinedTies
import Derived.KernelRfl
namespace Go.Proofs.YtbkmgoffiigdbaaDoor
/- THE CELL 'sum', in the pinned program and in every row, IS THE sha256 OF THE DUMP (.gsa) THAT YtbkmgoffiigdbaaDoorProg.lean LOADS. Nothing in Lean hashes anything: it is a label: what it is worth is what the hold of that sum in a sandbox is worth. -/
noncomputable def Tryd.pinned : Pinned := { name := "ytbkmgoffiigdbaadoor", sum := "3fffeabcb216b772835c6212bb2e7899e36deb7dde0e2583b540d32344ebcfd0", checked := Tryd.checked }
namespace Rows
def none {H : Type} : Left H := { results := [], args := [] }

/- WHAT THE LISTED PACKAGE-LEVEL VARIABLES READ AS WHEN THE CALL BEGINS. Each datum BY PROGRAM (the guide's laid-datum.mjs) off the statement by which the dump's own 'gosem.cut.vars' lays the variable. In a bare row this is a premise. The card (YtbkmgoffiigdbaaDoorCards.lean) ties it to the program's text. -/
def laid_slumber_slumber_operations {H : Type} : DataW H := .iface "func table" (.agg [.agg [.lit (.int .i64 0), .lit (.int .i64 1), .lit (.int .i64 0), .iface "func" (.lit (.string [115, 108, 117, 109, 98, 101, 114, 47, 115, 108, 117, 109, 98, 101, 114, 46, 97, 110, 121, 116, 104, 105, 110, 103])), .iface "func" (.lit (.string [115, 108, 117, 109, 98, 101, 114, 47, 115, 108, 117, 109, 98, 101, 114, 46, 100, 111, 73, 110, 116]))], .agg [.lit (.int .i64 0), .lit (.int .i64 1), .lit (.int .i64 0), .iface "func" (.lit (.string [115, 108, 117, 109, 98, 101, 114, 47, 115, 108, 117, 109, 98, 101, 114, 46, 110, 111, 116, 104, 105, 110, 103])), .iface "func" (.lit (.string [115, 108, 117, 109, 98, 101, 114, 47, 115, 108, 117, 109, 98, 101, 114, 46, 100, 111, 78, 105, 108]))], .agg [.lit (.int .i64 0), .lit (.int .i64 1), .lit (.int .i64 0), .iface "func" (.lit (.string [115, 108, 117, 109, 98, 101, 114, 47, 115, 108, 117, 109, 98, 101, 114, 46, 97, 76, 111, 99, 97, 108])), .iface "func" (.lit (.string [115, 108, 117, 109, 98, 101, 114, 47, 115, 108, 117, 109, 98, 101, 114, 46, 100, 111, 76, 111, 97, 100]))], .agg [.lit (.int .i64 1), .lit (.int .i64 0), .lit (.int .i64 0), .iface "func" (.lit (.string [115, 108, 117, 109, 98, 101, 114, 47, 115, 108, 117, 109, 98, 101, 114, 46, 97, 76, 111, 99, 97, 108])), .iface "func" (.lit (.string [115, 108, 117, 109, 98, 101, 114, 47, 115, 108, 117, 109, 98, 101, 114, 46, 100, 111, 83, 116, 111, 114, 101]))], .agg [.lit (.int .i64 1), .lit (.int .i64 2), .lit (.int .i64 0), .iface "func" (.lit (.string [115, 108, 117, 109, 98, 101, 114, 47, 115, 108, 117, 109, 98, 101, 114, 46, 110, 111, 116, 104, 105, 110, 103])), .iface "func" (.lit (.string [115, 108, 117, 109, 98, 101, 114, 47, 115, 108, 117, 109, 98, 101, 114, 46, 100, 111, 68, 117, 112]))], .agg [.lit (.int .i64 1), .lit (.int .i64 0), .lit (.int .i64 0), .iface "func" (.lit (.string [115, 108, 117, 109, 98, 101, 114, 47, 115, 108, 117, 109, 98, 101, 114, 46, 110, 111, 116, 104, 105, 110, 103])), .iface "func" (.lit (.string [115, 108, 117, 109, 98, 101, 114, 47, 115, 108, 117, 109, 98, 101, 114, 46, 100, 111, 80, 111, 112]))], .agg [.lit (.int .i64 2), .lit (.int .i64 2), .lit (.int .i64 0), .iface "func" (.lit (.string [115, 108, 117, 109, 98, 101, 114, 47, 115, 108, 117, 109, 98, 101, 114, 46, 110, 111, 116, 104, 105, 110, 103])), .iface "func" (.lit (.string [115, 108, 117, 109, 98, 101, 114, 47, 115, 108, 117, 109, 98, 101, 114, 46, 100, 111, 83, 119, 97, 112]))], .agg [.lit (.int .i64 2), .lit (.int .i64 1), .lit (.int .i64 0), .iface "func" (.lit (.string [115, 108, 117, 109, 98, 101, 114, 47, 115, 108, 117, 109, 98, 101, 114, 46, 110, 111, 116, 104, 105, 110, 103])), .iface "func" (.lit (.string [115, 108, 117, 109, 98, 101, 114, 47, 115, 108, 117, 109, 98, 101, 114, 46, 100, 111, 65, 100, 100]))], .agg [.lit (.int .i64 2), .lit (.int .i64 1), .lit (.int .i64 0), .iface "func" (.lit (.string [115, 108, 117, 109, 98, 101, 114, 47, 115, 108, 117, 109, 98, 101, 114, 46, 110, 111, 116, 104, 105, 110, 103])), .iface "func" (.lit (.string [115, 108, 117, 109, 98, 101, 114, 47, 115, 108, 117, 109, 98, 101, 114, 46, 100, 111, 83, 117, 98]))], .agg [.lit (.int .i64 2), .lit (.int .i64 1), .lit (.int .i64 0), .iface "func" (.lit (.string [115, 108, 117, 109, 98, 101, 114, 47, 115, 108, 117, 109, 98, 101, 114, 46, 110, 111, 116, 104, 105, 110, 103])), .iface "func" (.lit (.string [115, 108, 117, 109, 98, 101, 114, 47, 115, 108, 117, 109, 98, 101, 114, 46, 100, 111, 77, 117, 108]))], .agg [.lit (.int .i64 2), .lit (.int .i64 1), .lit (.int .i64 0), .iface "func" (.lit (.string [115, 108, 117, 109, 98, 101, 114, 47, 115, 108, 117, 109, 98, 101, 114, 46, 110, 111, 116, 104, 105, 110, 103])), .iface "func" (.lit (.string [115, 108, 117, 109, 98, 101, 114, 47, 115, 108, 117, 109, 98, 101, 114, 46, 100, 111, 76, 101, 115, 115]))], .agg [.lit (.int .i64 2), .lit (.int .i64 1), .lit (.int .i64 0), .iface "func" (.lit (.string [115, 108, 117, 109, 98, 101, 114, 47, 115, 108, 117, 109, 98, 101, 114, 46, 110, 111, 116, 104, 105, 110, 103])), .iface "func" (.lit (.string [115, 108, 117, 109, 98, 101, 114, 47, 115, 108, 117, 109, 98, 101, 114, 46, 100, 111, 83, 97, 109, 101]))], .agg [.lit (.int .i64 0), .lit (.int .i64 0), .lit (.int .i64 1), .iface "func" (.lit (.string [115, 108, 117, 109, 98, 101, 114, 47, 115, 108, 117, 109, 98, 101, 114, 46, 97, 110, 73, 110, 115, 116, 114, 117, 99, 116, 105, 111, 110])), .iface "func" (.lit (.string [115, 108, 117, 109, 98, 101, 114, 47, 115, 108, 117, 109, 98, 101, 114, 46, 100, 111, 74, 117, 109, 112]))], .agg [.lit (.int .i64 1), .lit (.int .i64 0), .lit (.int .i64 2), .iface "func" (.lit (.string [115, 108, 117, 109, 98, 101, 114, 47, 115, 108, 117, 109, 98, 101, 114, 46, 97, 110, 73, 110, 115, 116, 114, 117, 99, 116, 105, 111, 110])), .iface "func" (.lit (.string [115, 108, 117, 109, 98, 101, 114, 47, 115, 108, 117, 109, 98, 101, 114, 46, 100, 111, 74, 117, 109, 112, 78, 111, 116]))], .agg [.lit (.int .i64 (-1)), .lit (.int .i64 1), .lit (.int .i64 0), .iface "func" (.lit (.string [115, 108, 117, 109, 98, 101, 114, 47, 115, 108, 117, 109, 98, 101, 114, 46, 97, 70, 117, 110, 99, 116, 105, 111, 110])), .iface "func" (.lit (.string [115, 108, 117, 109, 98, 101, 114, 47, 115, 108, 117, 109, 98, 101, 114, 46, 100, 111, 67, 97, 108, 108]))], .agg [.lit (.int .i64 1), .lit (.int .i64 0), .lit (.int .i64 3), .iface "func" (.lit (.string [115, 108, 117, 109, 98, 101, 114, 47, 115, 108, 117, 109, 98, 101, 114, 46, 110, 111, 116, 104, 105, 110, 103])), .iface "func" (.lit (.string [115, 108, 117, 109, 98, 101, 114, 47, 115, 108, 117, 109, 98, 101, 114, 46, 100, 111, 82, 101, 116, 117, 114, 110]))], .agg [.lit (.int .i64 0), .lit (.int .i64 1), .lit (.int .i64 0), .iface "func" (.lit (.string [115, 108, 117, 109, 98, 101, 114, 47, 115, 108, 117, 109, 98, 101, 114, 46, 97, 82, 101, 99, 111, 114, 100, 83, 105, 122, 101])), .iface "func" (.lit (.string [115, 108, 117, 109, 98, 101, 114, 47, 115, 108, 117, 109, 98, 101, 114, 46, 100, 111, 82, 101, 99, 111, 114, 100]))], .agg [.lit (.int .i64 1), .lit (.int .i64 1), .lit (.int .i64 0), .iface "func" (.lit (.string [115, 108, 117, 109, 98, 101, 114, 47, 115, 108, 117, 109, 98, 101, 114, 46, 110, 111, 116, 104, 105, 110, 103])), .iface "func" (.lit (.string [115, 108, 117, 109, 98, 101, 114, 47, 115, 108, 117, 109, 98, 101, 114, 46, 100, 111, 65, 114, 114, 97, 121]))], .agg [.lit (.int .i64 1), .lit (.int .i64 1), .lit (.int .i64 0), .iface "func" (.lit (.string [115, 108, 117, 109, 98, 101, 114, 47, 115, 108, 117, 109, 98, 101, 114, 46, 110, 111, 116, 104, 105, 110, 103])), .iface "func" (.lit (.string [115, 108, 117, 109, 98, 101, 114, 47, 115, 108, 117, 109, 98, 101, 114, 46, 100, 111, 87, 101, 97, 107]))], .agg [.lit (.int .i64 1), .lit (.int .i64 1), .lit (.int .i64 0), .iface "func" (.lit (.string [115, 108, 117, 109, 98, 101, 114, 47, 115, 108, 117, 109, 98, 101, 114, 46, 97, 70, 105, 101, 108, 100])), .iface "func" (.lit (.string [115, 108, 117, 109, 98, 101, 114, 47, 115, 108, 117, 109, 98, 101, 114, 46, 100, 111, 71, 101, 116]))], .agg [.lit (.int .i64 2), .lit (.int .i64 0), .lit (.int .i64 0), .iface "func" (.lit (.string [115, 108, 117, 109, 98, 101, 114, 47, 115, 108, 117, 109, 98, 101, 114, 46, 97, 70, 105, 101, 108, 100])), .iface "func" (.lit (.string [115, 108, 117, 109, 98, 101, 114, 47, 115, 108, 117, 109, 98, 101, 114, 46, 100, 111, 80, 117, 116]))], .agg [.lit (.int .i64 2), .lit (.int .i64 1), .lit (.int .i64 0), .iface "func" (.lit (.string [115, 108, 117, 109, 98, 101, 114, 47, 115, 108, 117, 109, 98, 101, 114, 46, 110, 111, 116, 104, 105, 110, 103])), .iface "func" (.lit (.string [115, 108, 117, 109, 98, 101, 114, 47, 115, 108, 117, 109, 98, 101, 114, 46, 100, 111, 65, 116]))], .agg [.lit (.int .i64 3), .lit (.int .i64 0), .lit (.int .i64 0), .iface "func" (.lit (.string [115, 108, 117, 109, 98, 101, 114, 47, 115, 108, 117, 109, 98, 101, 114, 46, 110, 111, 116, 104, 105, 110, 103])), .iface "func" (.lit (.string [115, 108, 117, 109, 98, 101, 114, 47, 115, 108, 117, 109, 98, 101, 114, 46, 100, 111, 83, 101, 116]))], .agg [.lit (.int .i64 1), .lit (.int .i64 1), .lit (.int .i64 0), .iface "func" (.lit (.string [115, 108, 117, 109, 98, 101, 114, 47, 115, 108, 117, 109, 98, 101, 114, 46, 110, 111, 116, 104, 105, 110, 103])), .iface "func" (.lit (.string [115, 108, 117, 109, 98, 101, 114, 47, 115, 108, 117, 109, 98, 101, 114, 46, 100, 111, 76, 101, 110]))], .agg [.lit (.int .i64 1), .lit (.int .i64 1), .lit (.int .i64 0), .iface "func" (.lit (.string [115, 108, 117, 109, 98, 101, 114, 47, 115, 108, 117, 109, 98, 101, 114, 46, 110, 111, 116, 104, 105, 110, 103])), .iface "func" (.lit (.string [115, 108, 117, 109, 98, 101, 114, 47, 115, 108, 117, 109, 98, 101, 114, 46, 100, 111, 83, 116, 114, 111, 110, 103]))], .agg [.lit (.int .i64 1), .lit (.int .i64 1), .lit (.int .i64 0), .iface "func" (.lit (.string [115, 108, 117, 109, 98, 101, 114, 47, 115, 108, 117, 109, 98, 101, 114, 46, 110, 111, 116, 104, 105, 110, 103])), .iface "func" (.lit (.string [115, 108, 117, 109, 98, 101, 114, 47, 115, 108, 117, 109, 98, 101, 114, 46, 100, 111, 73, 115, 82, 101, 102]))], .agg [.lit (.int .i64 1), .lit (.int .i64 0), .lit (.int .i64 0), .iface "func" (.lit (.string [115, 108, 117, 109, 98, 101, 114, 47, 115, 108, 117, 109, 98, 101, 114, 46, 110, 111, 116, 104, 105, 110, 103])), .iface "func" (.lit (.string [115, 108, 117, 109, 98, 101, 114, 47, 115, 108, 117, 109, 98, 101, 114, 46, 100, 111, 80, 114, 105, 110, 116]))], .agg [.lit (.int .i64 0), .lit (.int .i64 0), .lit (.int .i64 3), .iface "func" (.lit (.string [115, 108, 117, 109, 98, 101, 114, 47, 115, 108, 117, 109, 98, 101, 114, 46, 110, 111, 116, 104, 105, 110, 103])), .iface "func" (.lit (.string [115, 108, 117, 109, 98, 101, 114, 47, 115, 108, 117, 109, 98, 101, 114, 46, 100, 111, 72, 97, 108, 116]))]])

/-- 'slumberlaw.Checks': WHATEVER THE INPUT: true; the input reads as it did. -/
def checksSpec : ChangeSpec := { name := "checks", fn := fun _ => fun
  | [d] => { results := [.lit (.bool true)], args := [d] }
  | _ => none }
def checksRow : OpenClaim := { program := "ytbkmgoffiigdbaadoor", sum := "3fffeabcb216b772835c6212bb2e7899e36deb7dde0e2583b540d32344ebcfd0", func := "slumber/slumberlaw.Checks", spec := "checks", unfollowed := true, recurses := true, named := ["slumber/slumber.operations"], apart := false, laid := [("slumber/slumber.operations", laid_slumber_slumber_operations)] }
def ChecksSaid : Prop := checksRow.holds Tryd.pinned (OpenSpec.ofChange checksSpec)

/-- ITS FALSE NEIGHBOUR: 'it returns false'. Refute it at one input. -/
def checksWrong : ChangeSpec := { name := "checks", fn := fun _ => fun
  | [d] => { results := [.lit (.bool false)], args := [d] }
  | _ => none }
def ChecksWrongFalsely : Prop := checksRow.holds Tryd.pinned (OpenSpec.ofChange checksWrong)

/-- 'slumberkeep.Made': WHATEVER THE INPUT: true; the input reads as it did. -/
def madeSpec : ChangeSpec := { name := "made", fn := fun _ => fun
  | [d1, d2] => { results := [.lit (.bool true)], args := [d1, d2] }
  | _ => none }
def madeRow : OpenClaim := { program := "ytbkmgoffiigdbaadoor", sum := "3fffeabcb216b772835c6212bb2e7899e36deb7dde0e2583b540d32344ebcfd0", func := "slumber/slumberkeep.Made", spec := "made", unfollowed := true, recurses := true, named := ["slumber/slumber.operations"], apart := false, laid := [("slumber/slumber.operations", laid_slumber_slumber_operations)] }
def MadeSaid : Prop := madeRow.holds Tryd.pinned (OpenSpec.ofChange madeSpec)

/-- ITS FALSE NEIGHBOUR: 'it returns false'. Refute it at one input. -/
def madeWrong : ChangeSpec := { name := "made", fn := fun _ => fun
  | [d1, d2] => { results := [.lit (.bool false)], args := [d1, d2] }
  | _ => none }
def MadeWrongFalsely : Prop := madeRow.holds Tryd.pinned (OpenSpec.ofChange madeWrong)

/-- 'slumberkeep.Paused': WHATEVER THE INPUT: true; the input reads as it did. -/
def pausedSpec : ChangeSpec := { name := "paused", fn := fun _ => fun
  | [d1, d2, d3, d4] => { results := [.lit (.bool true)], args := [d1, d2, d3, d4] }
  | _ => none }
def pausedRow : OpenClaim := { program := "ytbkmgoffiigdbaadoor", sum := "3fffeabcb216b772835c6212bb2e7899e36deb7dde0e2583b540d32344ebcfd0", func := "slumber/slumberkeep.Paused", spec := "paused", unfollowed := true, recurses := true, named := ["slumber/slumber.operations"], apart := false, laid := [("slumber/slumber.operations", laid_slumber_slumber_operations)] }
def PausedSaid : Prop := pausedRow.holds Tryd.pinned (OpenSpec.ofChange pausedSpec)

/-- ITS FALSE NEIGHBOUR: 'it returns false'. Refute it at one input. -/
def pausedWrong : ChangeSpec := { name := "paused", fn := fun _ => fun
  | [d1, d2, d3, d4] => { results := [.lit (.bool false)], args := [d1, d2, d3, d4] }
  | _ => none }
def PausedWrongFalsely : Prop := pausedRow.holds Tryd.pinned (OpenSpec.ofChange pausedWrong)

/-- 'slumberkeep.Reckons': WHATEVER THE INPUT: true; the input reads as it did. -/
def reckonsSpec : ChangeSpec := { name := "reckons", fn := fun _ => fun
  | [d1, d2] => { results := [.lit (.bool true)], args := [d1, d2] }
  | _ => none }
def reckonsRow : OpenClaim := { program := "ytbkmgoffiigdbaadoor", sum := "3fffeabcb216b772835c6212bb2e7899e36deb7dde0e2583b540d32344ebcfd0", func := "slumber/slumberkeep.Reckons", spec := "reckons", unfollowed := true, recurses := true, named := ["slumber/slumber.operations"], apart := false, laid := [("slumber/slumber.operations", laid_slumber_slumber_operations)] }
def ReckonsSaid : Prop := reckonsRow.holds Tryd.pinned (OpenSpec.ofChange reckonsSpec)

/-- ITS FALSE NEIGHBOUR: 'it returns false'. Refute it at one input. -/
def reckonsWrong : ChangeSpec := { name := "reckons", fn := fun _ => fun
  | [d1, d2] => { results := [.lit (.bool false)], args := [d1, d2] }
  | _ => none }
def ReckonsWrongFalsely : Prop := reckonsRow.holds Tryd.pinned (OpenSpec.ofChange reckonsWrong)

/-- 'slumberkeep.Lists': WHATEVER THE INPUT: true; the input reads as it did. -/
def listsSpec : ChangeSpec := { name := "lists", fn := fun _ => fun
  | [d] => { results := [.lit (.bool true)], args := [d] }
  | _ => none }
def listsRow : OpenClaim := { program := "ytbkmgoffiigdbaadoor", sum := "3fffeabcb216b772835c6212bb2e7899e36deb7dde0e2583b540d32344ebcfd0", func := "slumber/slumberkeep.Lists", spec := "lists", unfollowed := true, recurses := true, named := ["slumber/slumber.operations"], apart := false, laid := [("slumber/slumber.operations", laid_slumber_slumber_operations)] }
def ListsSaid : Prop := listsRow.holds Tryd.pinned (OpenSpec.ofChange listsSpec)

/-- ITS FALSE NEIGHBOUR: 'it returns false'. Refute it at one input. -/
def listsWrong : ChangeSpec := { name := "lists", fn := fun _ => fun
  | [d] => { results := [.lit (.bool false)], args := [d] }
  | _ => none }
def ListsWrongFalsely : Prop := listsRow.holds Tryd.pinned (OpenSpec.ofChange listsWrong)

/-- 'slumberkeep.Unseen': WHATEVER THE INPUT: true; the input reads as it did. -/
def unseenSpec : ChangeSpec := { name := "unseen", fn := fun _ => fun
  | [d1, d2, d3, d4, d5, d6] => { results := [.lit (.bool true)], args := [d1, d2, d3, d4, d5, d6] }
  | _ => none }
def unseenRow : OpenClaim := { program := "ytbkmgoffiigdbaadoor", sum := "3fffeabcb216b772835c6212bb2e7899e36deb7dde0e2583b540d32344ebcfd0", func := "slumber/slumberkeep.Unseen", spec := "unseen", unfollowed := true, recurses := true, named := ["slumber/slumber.operations"], apart := false, laid := [("slumber/slumber.operations", laid_slumber_slumber_operations)] }
def UnseenSaid : Prop := unseenRow.holds Tryd.pinned (OpenSpec.ofChange unseenSpec)

/-- ITS FALSE NEIGHBOUR: 'it returns false'. Refute it at one input. -/
def unseenWrong : ChangeSpec := { name := "unseen", fn := fun _ => fun
  | [d1, d2, d3, d4, d5, d6] => { results := [.lit (.bool false)], args := [d1, d2, d3, d4, d5, d6] }
  | _ => none }
def UnseenWrongFalsely : Prop := unseenRow.holds Tryd.pinned (OpenSpec.ofChange unseenWrong)

/-- 'slumberkeep.Holds': WHATEVER THE INPUT: true; the input reads as it did. -/
def holdsSpec : ChangeSpec := { name := "holds", fn := fun _ => fun
  | [d1, d2, d3, d4] => { results := [.lit (.bool true)], args := [d1, d2, d3, d4] }
  | _ => none }
def holdsRow : OpenClaim := { program := "ytbkmgoffiigdbaadoor", sum := "3fffeabcb216b772835c6212bb2e7899e36deb7dde0e2583b540d32344ebcfd0", func := "slumber/slumberkeep.Holds", spec := "holds", unfollowed := true, recurses := true, named := ["slumber/slumber.operations"], apart := false, laid := [("slumber/slumber.operations", laid_slumber_slumber_operations)] }
def HoldsSaid : Prop := holdsRow.holds Tryd.pinned (OpenSpec.ofChange holdsSpec)

/-- ITS FALSE NEIGHBOUR: 'it returns false'. Refute it at one input. -/
def holdsWrong : ChangeSpec := { name := "holds", fn := fun _ => fun
  | [d1, d2, d3, d4] => { results := [.lit (.bool false)], args := [d1, d2, d3, d4] }
  | _ => none }
def HoldsWrongFalsely : Prop := holdsRow.holds Tryd.pinned (OpenSpec.ofChange holdsWrong)

/- THE SECOND FORM. 'bulk': how many values and letters a reading holds, each counted each time it is reached (what is shared counts as often as it is met; a slice's spare places count too). A statement '..UptoSaid' is the law's where the arguments, and the package variables that the reading takes, are together of bulk at most 1048576: NARROWER than '..Said'. Prove '..Said' where nothing that the law and all that it calls make is longer than what came in: it says more and counts as full. Else prove '..UptoSaid'. A law counts once. -/
mutual
def uptoBulk {H : Type} : DataW H → Nat
  | .lit (.string bytes) => bytes.length + 1
  | .lit _ => 1
  | .nil => 1
  | .ptr d => uptoBulk d + 1
  | .slice elems spare => uptoBulkAll elems + uptoBulkAll spare + 1
  | .agg parts => uptoBulkAll parts + 1
  | .iface _ d => uptoBulk d + 1
  | .map entries => uptoBulkEntries entries + 1
  | .held _ => 1
def uptoBulkAll {H : Type} : List (DataW H) → Nat
  | [] => 0
  | d :: r => uptoBulk d + uptoBulkAll r
def uptoBulkEntries {H : Type} : List (Lit × DataW H) → Nat
  | [] => 0
  | x :: r => uptoBulkEntry x + uptoBulkEntries r
def uptoBulkEntry {H : Type} : Lit × DataW H → Nat
  | (.string bytes, d) => bytes.length + uptoBulk d + 1
  | (_, d) => uptoBulk d + 1
 end
def uptoSmall : (H : Type) → List (DataW H) → Bool := fun _ ds => decide (uptoBulkAll ds ≤ 1048576)
def OpenSpec.upto (s : _root_.Go.ChangeSpec) : _root_.Go.OpenSpec := { _root_.Go.OpenSpec.ofChange s with cond := some uptoSmall }

/-- 'slumberlaw.Checks', WHERE WHAT IT READS IS OF BULK AT MOST 1048576: true; the input reads as it did. -/
def checksUptoRow : OpenClaim := { program := "ytbkmgoffiigdbaadoor", sum := "3fffeabcb216b772835c6212bb2e7899e36deb7dde0e2583b540d32344ebcfd0", func := "slumber/slumberlaw.Checks", spec := "checks", unfollowed := true, recurses := true, named := ["slumber/slumber.operations"], apart := false, laid := [("slumber/slumber.operations", laid_slumber_slumber_operations)], narrowed := true }
def ChecksUptoSaid : Prop := checksUptoRow.holds Tryd.pinned (OpenSpec.upto checksSpec)

/-- 'slumberkeep.Made', WHERE WHAT IT READS IS OF BULK AT MOST 1048576: true; the input reads as it did. -/
def madeUptoRow : OpenClaim := { program := "ytbkmgoffiigdbaadoor", sum := "3fffeabcb216b772835c6212bb2e7899e36deb7dde0e2583b540d32344ebcfd0", func := "slumber/slumberkeep.Made", spec := "made", unfollowed := true, recurses := true, named := ["slumber/slumber.operations"], apart := false, laid := [("slumber/slumber.operations", laid_slumber_slumber_operations)], narrowed := true }
def MadeUptoSaid : Prop := madeUptoRow.holds Tryd.pinned (OpenSpec.upto madeSpec)

/-- 'slumberkeep.Paused', WHERE WHAT IT READS IS OF BULK AT MOST 1048576: true; the input reads as it did. -/
def pausedUptoRow : OpenClaim := { program := "ytbkmgoffiigdbaadoor", sum := "3fffeabcb216b772835c6212bb2e7899e36deb7dde0e2583b540d32344ebcfd0", func := "slumber/slumberkeep.Paused", spec := "paused", unfollowed := true, recurses := true, named := ["slumber/slumber.operations"], apart := false, laid := [("slumber/slumber.operations", laid_slumber_slumber_operations)], narrowed := true }
def PausedUptoSaid : Prop := pausedUptoRow.holds Tryd.pinned (OpenSpec.upto pausedSpec)

/-- 'slumberkeep.Reckons', WHERE WHAT IT READS IS OF BULK AT MOST 1048576: true; the input reads as it did. -/
def reckonsUptoRow : OpenClaim := { program := "ytbkmgoffiigdbaadoor", sum := "3fffeabcb216b772835c6212bb2e7899e36deb7dde0e2583b540d32344ebcfd0", func := "slumber/slumberkeep.Reckons", spec := "reckons", unfollowed := true, recurses := true, named := ["slumber/slumber.operations"], apart := false, laid := [("slumber/slumber.operations", laid_slumber_slumber_operations)], narrowed := true }
def ReckonsUptoSaid : Prop := reckonsUptoRow.holds Tryd.pinned (OpenSpec.upto reckonsSpec)

/-- 'slumberkeep.Lists', WHERE WHAT IT READS IS OF BULK AT MOST 1048576: true; the input reads as it did. -/
def listsUptoRow : OpenClaim := { program := "ytbkmgoffiigdbaadoor", sum := "3fffeabcb216b772835c6212bb2e7899e36deb7dde0e2583b540d32344ebcfd0", func := "slumber/slumberkeep.Lists", spec := "lists", unfollowed := true, recurses := true, named := ["slumber/slumber.operations"], apart := false, laid := [("slumber/slumber.operations", laid_slumber_slumber_operations)], narrowed := true }
def ListsUptoSaid : Prop := listsUptoRow.holds Tryd.pinned (OpenSpec.upto listsSpec)

/-- 'slumberkeep.Unseen', WHERE WHAT IT READS IS OF BULK AT MOST 1048576: true; the input reads as it did. -/
def unseenUptoRow : OpenClaim := { program := "ytbkmgoffiigdbaadoor", sum := "3fffeabcb216b772835c6212bb2e7899e36deb7dde0e2583b540d32344ebcfd0", func := "slumber/slumberkeep.Unseen", spec := "unseen", unfollowed := true, recurses := true, named := ["slumber/slumber.operations"], apart := false, laid := [("slumber/slumber.operations", laid_slumber_slumber_operations)], narrowed := true }
def UnseenUptoSaid : Prop := unseenUptoRow.holds Tryd.pinned (OpenSpec.upto unseenSpec)

/-- 'slumberkeep.Holds', WHERE WHAT IT READS IS OF BULK AT MOST 1048576: true; the input reads as it did. -/
def holdsUptoRow : OpenClaim := { program := "ytbkmgoffiigdbaadoor", sum := "3fffeabcb216b772835c6212bb2e7899e36deb7dde0e2583b540d32344ebcfd0", func := "slumber/slumberkeep.Holds", spec := "holds", unfollowed := true, recurses := true, named := ["slumber/slumber.operations"], apart := false, laid := [("slumber/slumber.operations", laid_slumber_slumber_operations)], narrowed := true }
def HoldsUptoSaid : Prop := holdsUptoRow.holds Tryd.pinned (OpenSpec.upto holdsSpec)

end Rows
end Go.Proofs.YtbkmgoffiigdbaaDoor
