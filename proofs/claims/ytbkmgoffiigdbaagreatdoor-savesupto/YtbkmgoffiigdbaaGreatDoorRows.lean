/-
  NARROWER THAN 'FOR EVERY INPUT', by the rows' own cells (each row's printed sentence says how): Runs: laid · Heaps: laid · Saves: laid · Wakes: laid · All: laid.
  DERIVED. THE GIVEN ROWS OF THIS SEAT. 5 by the template 'for every input the law returns true; each argument reads behind the call as it read before'; 0 by the template 'total and deterministic' (their statements: YtbkmgoffiigdbaaGreatDoorTotals.lean).
  GIVEN WITH THE SEED: the statements are not yours to turn. If you find one false, say at which input.
  Laid BY PROGRAM, IN A SANDBOX (cutbox-rows.mjs): the forced cells as the released guide's own fill.sh prints them over the translation e9a7564c7223613b… (all of the seat's roots in one cut). By AI agents, Wed Nov 11 2026. No macro, syntax, notation, axiom, sorry.
-/
import Derived.Test.YtbkmgoffiigdbaaGreatDoorChecked
import GoSem.Claim
import GoSem.ClaimJoined
import GoSem.ClaimMapViews
import Derived.JoinedTies
import Derived.KernelRfl
namespace Go.Proofs.YtbkmgoffiigdbaaGreatDoor
/- THE CELL 'sum', in the pinned program and in every row, IS THE sha256 OF THE DUMP (.gsa) THAT YtbkmgoffiigdbaaGreatDoorProg.lean LOADS. Nothing in Lean hashes anything: it is a label: what it is worth is what the hold of that sum in a sandbox is worth. -/
noncomputable def Tryz.pinned : Pinned := { name := "ytbkmgoffiigdbaagreatdoor", sum := "e9a7564c7223613beb36d958e773211c201822e880c8e876a280f68a6c428f8a", checked := Tryz.checked }
namespace Rows
def none {H : Type} : Left H := { results := [], args := [] }

/- WHAT THE LISTED PACKAGE-LEVEL VARIABLES READ AS WHEN THE CALL BEGINS. Each datum BY PROGRAM (the guide's laid-datum.mjs) off the statement by which the dump's own 'gosem.cut.vars' lays the variable. In a bare row this is a premise. The card (YtbkmgoffiigdbaaGreatDoorCards.lean) ties it to the program's text. -/
def laid_slumber_slumber_operations {H : Type} : DataW H := .iface "func table" (.agg [.agg [.lit (.int .i64 0), .lit (.int .i64 1), .lit (.int .i64 0), .iface "func" (.lit (.string [115, 108, 117, 109, 98, 101, 114, 47, 115, 108, 117, 109, 98, 101, 114, 46, 97, 110, 121, 116, 104, 105, 110, 103])), .iface "func" (.lit (.string [115, 108, 117, 109, 98, 101, 114, 47, 115, 108, 117, 109, 98, 101, 114, 46, 100, 111, 73, 110, 116]))], .agg [.lit (.int .i64 0), .lit (.int .i64 1), .lit (.int .i64 0), .iface "func" (.lit (.string [115, 108, 117, 109, 98, 101, 114, 47, 115, 108, 117, 109, 98, 101, 114, 46, 110, 111, 116, 104, 105, 110, 103])), .iface "func" (.lit (.string [115, 108, 117, 109, 98, 101, 114, 47, 115, 108, 117, 109, 98, 101, 114, 46, 100, 111, 78, 105, 108]))], .agg [.lit (.int .i64 0), .lit (.int .i64 1), .lit (.int .i64 0), .iface "func" (.lit (.string [115, 108, 117, 109, 98, 101, 114, 47, 115, 108, 117, 109, 98, 101, 114, 46, 97, 76, 111, 99, 97, 108])), .iface "func" (.lit (.string [115, 108, 117, 109, 98, 101, 114, 47, 115, 108, 117, 109, 98, 101, 114, 46, 100, 111, 76, 111, 97, 100]))], .agg [.lit (.int .i64 1), .lit (.int .i64 0), .lit (.int .i64 0), .iface "func" (.lit (.string [115, 108, 117, 109, 98, 101, 114, 47, 115, 108, 117, 109, 98, 101, 114, 46, 97, 76, 111, 99, 97, 108])), .iface "func" (.lit (.string [115, 108, 117, 109, 98, 101, 114, 47, 115, 108, 117, 109, 98, 101, 114, 46, 100, 111, 83, 116, 111, 114, 101]))], .agg [.lit (.int .i64 1), .lit (.int .i64 2), .lit (.int .i64 0), .iface "func" (.lit (.string [115, 108, 117, 109, 98, 101, 114, 47, 115, 108, 117, 109, 98, 101, 114, 46, 110, 111, 116, 104, 105, 110, 103])), .iface "func" (.lit (.string [115, 108, 117, 109, 98, 101, 114, 47, 115, 108, 117, 109, 98, 101, 114, 46, 100, 111, 68, 117, 112]))], .agg [.lit (.int .i64 1), .lit (.int .i64 0), .lit (.int .i64 0), .iface "func" (.lit (.string [115, 108, 117, 109, 98, 101, 114, 47, 115, 108, 117, 109, 98, 101, 114, 46, 110, 111, 116, 104, 105, 110, 103])), .iface "func" (.lit (.string [115, 108, 117, 109, 98, 101, 114, 47, 115, 108, 117, 109, 98, 101, 114, 46, 100, 111, 80, 111, 112]))], .agg [.lit (.int .i64 2), .lit (.int .i64 2), .lit (.int .i64 0), .iface "func" (.lit (.string [115, 108, 117, 109, 98, 101, 114, 47, 115, 108, 117, 109, 98, 101, 114, 46, 110, 111, 116, 104, 105, 110, 103])), .iface "func" (.lit (.string [115, 108, 117, 109, 98, 101, 114, 47, 115, 108, 117, 109, 98, 101, 114, 46, 100, 111, 83, 119, 97, 112]))], .agg [.lit (.int .i64 2), .lit (.int .i64 1), .lit (.int .i64 0), .iface "func" (.lit (.string [115, 108, 117, 109, 98, 101, 114, 47, 115, 108, 117, 109, 98, 101, 114, 46, 110, 111, 116, 104, 105, 110, 103])), .iface "func" (.lit (.string [115, 108, 117, 109, 98, 101, 114, 47, 115, 108, 117, 109, 98, 101, 114, 46, 100, 111, 65, 100, 100]))], .agg [.lit (.int .i64 2), .lit (.int .i64 1), .lit (.int .i64 0), .iface "func" (.lit (.string [115, 108, 117, 109, 98, 101, 114, 47, 115, 108, 117, 109, 98, 101, 114, 46, 110, 111, 116, 104, 105, 110, 103])), .iface "func" (.lit (.string [115, 108, 117, 109, 98, 101, 114, 47, 115, 108, 117, 109, 98, 101, 114, 46, 100, 111, 83, 117, 98]))], .agg [.lit (.int .i64 2), .lit (.int .i64 1), .lit (.int .i64 0), .iface "func" (.lit (.string [115, 108, 117, 109, 98, 101, 114, 47, 115, 108, 117, 109, 98, 101, 114, 46, 110, 111, 116, 104, 105, 110, 103])), .iface "func" (.lit (.string [115, 108, 117, 109, 98, 101, 114, 47, 115, 108, 117, 109, 98, 101, 114, 46, 100, 111, 77, 117, 108]))], .agg [.lit (.int .i64 2), .lit (.int .i64 1), .lit (.int .i64 0), .iface "func" (.lit (.string [115, 108, 117, 109, 98, 101, 114, 47, 115, 108, 117, 109, 98, 101, 114, 46, 110, 111, 116, 104, 105, 110, 103])), .iface "func" (.lit (.string [115, 108, 117, 109, 98, 101, 114, 47, 115, 108, 117, 109, 98, 101, 114, 46, 100, 111, 76, 101, 115, 115]))], .agg [.lit (.int .i64 2), .lit (.int .i64 1), .lit (.int .i64 0), .iface "func" (.lit (.string [115, 108, 117, 109, 98, 101, 114, 47, 115, 108, 117, 109, 98, 101, 114, 46, 110, 111, 116, 104, 105, 110, 103])), .iface "func" (.lit (.string [115, 108, 117, 109, 98, 101, 114, 47, 115, 108, 117, 109, 98, 101, 114, 46, 100, 111, 83, 97, 109, 101]))], .agg [.lit (.int .i64 0), .lit (.int .i64 0), .lit (.int .i64 1), .iface "func" (.lit (.string [115, 108, 117, 109, 98, 101, 114, 47, 115, 108, 117, 109, 98, 101, 114, 46, 97, 110, 73, 110, 115, 116, 114, 117, 99, 116, 105, 111, 110])), .iface "func" (.lit (.string [115, 108, 117, 109, 98, 101, 114, 47, 115, 108, 117, 109, 98, 101, 114, 46, 100, 111, 74, 117, 109, 112]))], .agg [.lit (.int .i64 1), .lit (.int .i64 0), .lit (.int .i64 2), .iface "func" (.lit (.string [115, 108, 117, 109, 98, 101, 114, 47, 115, 108, 117, 109, 98, 101, 114, 46, 97, 110, 73, 110, 115, 116, 114, 117, 99, 116, 105, 111, 110])), .iface "func" (.lit (.string [115, 108, 117, 109, 98, 101, 114, 47, 115, 108, 117, 109, 98, 101, 114, 46, 100, 111, 74, 117, 109, 112, 78, 111, 116]))], .agg [.lit (.int .i64 (-1)), .lit (.int .i64 1), .lit (.int .i64 0), .iface "func" (.lit (.string [115, 108, 117, 109, 98, 101, 114, 47, 115, 108, 117, 109, 98, 101, 114, 46, 97, 70, 117, 110, 99, 116, 105, 111, 110])), .iface "func" (.lit (.string [115, 108, 117, 109, 98, 101, 114, 47, 115, 108, 117, 109, 98, 101, 114, 46, 100, 111, 67, 97, 108, 108]))], .agg [.lit (.int .i64 1), .lit (.int .i64 0), .lit (.int .i64 3), .iface "func" (.lit (.string [115, 108, 117, 109, 98, 101, 114, 47, 115, 108, 117, 109, 98, 101, 114, 46, 110, 111, 116, 104, 105, 110, 103])), .iface "func" (.lit (.string [115, 108, 117, 109, 98, 101, 114, 47, 115, 108, 117, 109, 98, 101, 114, 46, 100, 111, 82, 101, 116, 117, 114, 110]))], .agg [.lit (.int .i64 0), .lit (.int .i64 1), .lit (.int .i64 0), .iface "func" (.lit (.string [115, 108, 117, 109, 98, 101, 114, 47, 115, 108, 117, 109, 98, 101, 114, 46, 97, 82, 101, 99, 111, 114, 100, 83, 105, 122, 101])), .iface "func" (.lit (.string [115, 108, 117, 109, 98, 101, 114, 47, 115, 108, 117, 109, 98, 101, 114, 46, 100, 111, 82, 101, 99, 111, 114, 100]))], .agg [.lit (.int .i64 1), .lit (.int .i64 1), .lit (.int .i64 0), .iface "func" (.lit (.string [115, 108, 117, 109, 98, 101, 114, 47, 115, 108, 117, 109, 98, 101, 114, 46, 110, 111, 116, 104, 105, 110, 103])), .iface "func" (.lit (.string [115, 108, 117, 109, 98, 101, 114, 47, 115, 108, 117, 109, 98, 101, 114, 46, 100, 111, 65, 114, 114, 97, 121]))], .agg [.lit (.int .i64 1), .lit (.int .i64 1), .lit (.int .i64 0), .iface "func" (.lit (.string [115, 108, 117, 109, 98, 101, 114, 47, 115, 108, 117, 109, 98, 101, 114, 46, 110, 111, 116, 104, 105, 110, 103])), .iface "func" (.lit (.string [115, 108, 117, 109, 98, 101, 114, 47, 115, 108, 117, 109, 98, 101, 114, 46, 100, 111, 87, 101, 97, 107]))], .agg [.lit (.int .i64 1), .lit (.int .i64 1), .lit (.int .i64 0), .iface "func" (.lit (.string [115, 108, 117, 109, 98, 101, 114, 47, 115, 108, 117, 109, 98, 101, 114, 46, 97, 70, 105, 101, 108, 100])), .iface "func" (.lit (.string [115, 108, 117, 109, 98, 101, 114, 47, 115, 108, 117, 109, 98, 101, 114, 46, 100, 111, 71, 101, 116]))], .agg [.lit (.int .i64 2), .lit (.int .i64 0), .lit (.int .i64 0), .iface "func" (.lit (.string [115, 108, 117, 109, 98, 101, 114, 47, 115, 108, 117, 109, 98, 101, 114, 46, 97, 70, 105, 101, 108, 100])), .iface "func" (.lit (.string [115, 108, 117, 109, 98, 101, 114, 47, 115, 108, 117, 109, 98, 101, 114, 46, 100, 111, 80, 117, 116]))], .agg [.lit (.int .i64 2), .lit (.int .i64 1), .lit (.int .i64 0), .iface "func" (.lit (.string [115, 108, 117, 109, 98, 101, 114, 47, 115, 108, 117, 109, 98, 101, 114, 46, 110, 111, 116, 104, 105, 110, 103])), .iface "func" (.lit (.string [115, 108, 117, 109, 98, 101, 114, 47, 115, 108, 117, 109, 98, 101, 114, 46, 100, 111, 65, 116]))], .agg [.lit (.int .i64 3), .lit (.int .i64 0), .lit (.int .i64 0), .iface "func" (.lit (.string [115, 108, 117, 109, 98, 101, 114, 47, 115, 108, 117, 109, 98, 101, 114, 46, 110, 111, 116, 104, 105, 110, 103])), .iface "func" (.lit (.string [115, 108, 117, 109, 98, 101, 114, 47, 115, 108, 117, 109, 98, 101, 114, 46, 100, 111, 83, 101, 116]))], .agg [.lit (.int .i64 1), .lit (.int .i64 1), .lit (.int .i64 0), .iface "func" (.lit (.string [115, 108, 117, 109, 98, 101, 114, 47, 115, 108, 117, 109, 98, 101, 114, 46, 110, 111, 116, 104, 105, 110, 103])), .iface "func" (.lit (.string [115, 108, 117, 109, 98, 101, 114, 47, 115, 108, 117, 109, 98, 101, 114, 46, 100, 111, 76, 101, 110]))], .agg [.lit (.int .i64 1), .lit (.int .i64 1), .lit (.int .i64 0), .iface "func" (.lit (.string [115, 108, 117, 109, 98, 101, 114, 47, 115, 108, 117, 109, 98, 101, 114, 46, 110, 111, 116, 104, 105, 110, 103])), .iface "func" (.lit (.string [115, 108, 117, 109, 98, 101, 114, 47, 115, 108, 117, 109, 98, 101, 114, 46, 100, 111, 83, 116, 114, 111, 110, 103]))], .agg [.lit (.int .i64 1), .lit (.int .i64 1), .lit (.int .i64 0), .iface "func" (.lit (.string [115, 108, 117, 109, 98, 101, 114, 47, 115, 108, 117, 109, 98, 101, 114, 46, 110, 111, 116, 104, 105, 110, 103])), .iface "func" (.lit (.string [115, 108, 117, 109, 98, 101, 114, 47, 115, 108, 117, 109, 98, 101, 114, 46, 100, 111, 73, 115, 82, 101, 102]))], .agg [.lit (.int .i64 1), .lit (.int .i64 0), .lit (.int .i64 0), .iface "func" (.lit (.string [115, 108, 117, 109, 98, 101, 114, 47, 115, 108, 117, 109, 98, 101, 114, 46, 110, 111, 116, 104, 105, 110, 103])), .iface "func" (.lit (.string [115, 108, 117, 109, 98, 101, 114, 47, 115, 108, 117, 109, 98, 101, 114, 46, 100, 111, 80, 114, 105, 110, 116]))], .agg [.lit (.int .i64 0), .lit (.int .i64 0), .lit (.int .i64 3), .iface "func" (.lit (.string [115, 108, 117, 109, 98, 101, 114, 47, 115, 108, 117, 109, 98, 101, 114, 46, 110, 111, 116, 104, 105, 110, 103])), .iface "func" (.lit (.string [115, 108, 117, 109, 98, 101, 114, 47, 115, 108, 117, 109, 98, 101, 114, 46, 100, 111, 72, 97, 108, 116]))]])

/-- 'slumberlaw.Runs': WHATEVER THE INPUT: true; the input reads as it did. -/
def runsSpec : ChangeSpec := { name := "runs", fn := fun _ => fun
  | [d] => { results := [.lit (.bool true)], args := [d] }
  | _ => none }
def runsRow : OpenClaim := { program := "ytbkmgoffiigdbaagreatdoor", sum := "e9a7564c7223613beb36d958e773211c201822e880c8e876a280f68a6c428f8a", func := "slumber/slumberlaw.Runs", spec := "runs", unfollowed := true, recurses := true, named := ["slumber/slumber.operations"], apart := false, laid := [("slumber/slumber.operations", laid_slumber_slumber_operations)] }
def RunsSaid : Prop := runsRow.holds Tryz.pinned (OpenSpec.ofChange runsSpec)

/-- ITS FALSE NEIGHBOUR: 'it returns false'. Refute it at one input. -/
def runsWrong : ChangeSpec := { name := "runs", fn := fun _ => fun
  | [d] => { results := [.lit (.bool false)], args := [d] }
  | _ => none }
def RunsWrongFalsely : Prop := runsRow.holds Tryz.pinned (OpenSpec.ofChange runsWrong)

/-- 'slumberlaw.Heaps': WHATEVER THE INPUT: true; the input reads as it did. -/
def heapsSpec : ChangeSpec := { name := "heaps", fn := fun _ => fun
  | [d] => { results := [.lit (.bool true)], args := [d] }
  | _ => none }
def heapsRow : OpenClaim := { program := "ytbkmgoffiigdbaagreatdoor", sum := "e9a7564c7223613beb36d958e773211c201822e880c8e876a280f68a6c428f8a", func := "slumber/slumberlaw.Heaps", spec := "heaps", unfollowed := true, recurses := true, named := ["slumber/slumber.operations"], apart := false, laid := [("slumber/slumber.operations", laid_slumber_slumber_operations)] }
def HeapsSaid : Prop := heapsRow.holds Tryz.pinned (OpenSpec.ofChange heapsSpec)

/-- ITS FALSE NEIGHBOUR: 'it returns false'. Refute it at one input. -/
def heapsWrong : ChangeSpec := { name := "heaps", fn := fun _ => fun
  | [d] => { results := [.lit (.bool false)], args := [d] }
  | _ => none }
def HeapsWrongFalsely : Prop := heapsRow.holds Tryz.pinned (OpenSpec.ofChange heapsWrong)

/-- 'slumberlaw.Saves': WHATEVER THE INPUT: true; the input reads as it did. -/
def savesSpec : ChangeSpec := { name := "saves", fn := fun _ => fun
  | [d] => { results := [.lit (.bool true)], args := [d] }
  | _ => none }
def savesRow : OpenClaim := { program := "ytbkmgoffiigdbaagreatdoor", sum := "e9a7564c7223613beb36d958e773211c201822e880c8e876a280f68a6c428f8a", func := "slumber/slumberlaw.Saves", spec := "saves", unfollowed := true, recurses := true, named := ["slumber/slumber.operations"], apart := false, laid := [("slumber/slumber.operations", laid_slumber_slumber_operations)] }
def SavesSaid : Prop := savesRow.holds Tryz.pinned (OpenSpec.ofChange savesSpec)

/-- ITS FALSE NEIGHBOUR: 'it returns false'. Refute it at one input. -/
def savesWrong : ChangeSpec := { name := "saves", fn := fun _ => fun
  | [d] => { results := [.lit (.bool false)], args := [d] }
  | _ => none }
def SavesWrongFalsely : Prop := savesRow.holds Tryz.pinned (OpenSpec.ofChange savesWrong)

/-- 'slumberlaw.Wakes': WHATEVER THE INPUT: true; the input reads as it did. -/
def wakesSpec : ChangeSpec := { name := "wakes", fn := fun _ => fun
  | [d1, d2, d3] => { results := [.lit (.bool true)], args := [d1, d2, d3] }
  | _ => none }
def wakesRow : OpenClaim := { program := "ytbkmgoffiigdbaagreatdoor", sum := "e9a7564c7223613beb36d958e773211c201822e880c8e876a280f68a6c428f8a", func := "slumber/slumberlaw.Wakes", spec := "wakes", unfollowed := true, recurses := true, named := ["slumber/slumber.operations"], apart := false, laid := [("slumber/slumber.operations", laid_slumber_slumber_operations)] }
def WakesSaid : Prop := wakesRow.holds Tryz.pinned (OpenSpec.ofChange wakesSpec)

/-- ITS FALSE NEIGHBOUR: 'it returns false'. Refute it at one input. -/
def wakesWrong : ChangeSpec := { name := "wakes", fn := fun _ => fun
  | [d1, d2, d3] => { results := [.lit (.bool false)], args := [d1, d2, d3] }
  | _ => none }
def WakesWrongFalsely : Prop := wakesRow.holds Tryz.pinned (OpenSpec.ofChange wakesWrong)

/-- 'slumberlaw.All': WHATEVER THE INPUT: true; the input reads as it did. -/
def allSpec : ChangeSpec := { name := "all", fn := fun _ => fun
  | [d] => { results := [.lit (.bool true)], args := [d] }
  | _ => none }
def allRow : OpenClaim := { program := "ytbkmgoffiigdbaagreatdoor", sum := "e9a7564c7223613beb36d958e773211c201822e880c8e876a280f68a6c428f8a", func := "slumber/slumberlaw.All", spec := "all", unfollowed := true, recurses := true, named := ["slumber/slumber.operations"], apart := false, laid := [("slumber/slumber.operations", laid_slumber_slumber_operations)] }
def AllSaid : Prop := allRow.holds Tryz.pinned (OpenSpec.ofChange allSpec)

/-- ITS FALSE NEIGHBOUR: 'it returns false'. Refute it at one input. -/
def allWrong : ChangeSpec := { name := "all", fn := fun _ => fun
  | [d] => { results := [.lit (.bool false)], args := [d] }
  | _ => none }
def AllWrongFalsely : Prop := allRow.holds Tryz.pinned (OpenSpec.ofChange allWrong)

/- THE SECOND FORM. 'bulk': how many values and letters a reading holds, each counted each time it is reached (what is shared counts as often as it is met; a slice's spare places count too). A statement '..UptoSaid' is the law's where the arguments, and the package variables that the reading takes, are together of bulk at most 1048576: NARROWER than '..Said'. Prove '..Said' where nothing that the law and all that it calls make is longer than what came in: it says more and counts as full. Else prove '..UptoSaid'. A law counts once. -/
mutual
def uptoBulk {H : Type} : DataW H → Nat
  | .lit (.string bytes) => bytes.length + 1
  | .lit _ => 1
  | .nil => 1
  | .ptr d => uptoBulk d + 1
  | .slice elems spare => uptoBulkAll elems + uptoBulkAll spare + 1
  | .agg parts => uptoBulkAll parts + 1
  | .iface _ d => uptoBulk d + 1
  | .map entries => uptoBulkEntries entries + 1
  | .held _ => 1
def uptoBulkAll {H : Type} : List (DataW H) → Nat
  | [] => 0
  | d :: r => uptoBulk d + uptoBulkAll r
def uptoBulkEntries {H : Type} : List (Lit × DataW H) → Nat
  | [] => 0
  | x :: r => uptoBulkEntry x + uptoBulkEntries r
def uptoBulkEntry {H : Type} : Lit × DataW H → Nat
  | (.string bytes, d) => bytes.length + uptoBulk d + 1
  | (_, d) => uptoBulk d + 1
 end
def uptoSmall : (H : Type) → List (DataW H) → Bool := fun _ ds => decide (uptoBulkAll ds ≤ 1048576)
def OpenSpec.upto (s : _root_.Go.ChangeSpec) : _root_.Go.OpenSpec := { _root_.Go.OpenSpec.ofChange s with cond := some uptoSmall }

/-- 'slumberlaw.Runs', WHERE WHAT IT READS IS OF BULK AT MOST 1048576: true; the input reads as it did. -/
def runsUptoRow : OpenClaim := { program := "ytbkmgoffiigdbaagreatdoor", sum := "e9a7564c7223613beb36d958e773211c201822e880c8e876a280f68a6c428f8a", func := "slumber/slumberlaw.Runs", spec := "runs", unfollowed := true, recurses := true, named := ["slumber/slumber.operations"], apart := false, laid := [("slumber/slumber.operations", laid_slumber_slumber_operations)], narrowed := true }
def RunsUptoSaid : Prop := runsUptoRow.holds Tryz.pinned (OpenSpec.upto runsSpec)

/-- 'slumberlaw.Heaps', WHERE WHAT IT READS IS OF BULK AT MOST 1048576: true; the input reads as it did. -/
def heapsUptoRow : OpenClaim := { program := "ytbkmgoffiigdbaagreatdoor", sum := "e9a7564c7223613beb36d958e773211c201822e880c8e876a280f68a6c428f8a", func := "slumber/slumberlaw.Heaps", spec := "heaps", unfollowed := true, recurses := true, named := ["slumber/slumber.operations"], apart := false, laid := [("slumber/slumber.operations", laid_slumber_slumber_operations)], narrowed := true }
def HeapsUptoSaid : Prop := heapsUptoRow.holds Tryz.pinned (OpenSpec.upto heapsSpec)

/-- 'slumberlaw.Saves', WHERE WHAT IT READS IS OF BULK AT MOST 1048576: true; the input reads as it did. -/
def savesUptoRow : OpenClaim := { program := "ytbkmgoffiigdbaagreatdoor", sum := "e9a7564c7223613beb36d958e773211c201822e880c8e876a280f68a6c428f8a", func := "slumber/slumberlaw.Saves", spec := "saves", unfollowed := true, recurses := true, named := ["slumber/slumber.operations"], apart := false, laid := [("slumber/slumber.operations", laid_slumber_slumber_operations)], narrowed := true }
def SavesUptoSaid : Prop := savesUptoRow.holds Tryz.pinned (OpenSpec.upto savesSpec)

/-- 'slumberlaw.Wakes', WHERE WHAT IT READS IS OF BULK AT MOST 1048576: true; the input reads as it did. -/
def wakesUptoRow : OpenClaim := { program := "ytbkmgoffiigdbaagreatdoor", sum := "e9a7564c7223613beb36d958e773211c201822e880c8e876a280f68a6c428f8a", func := "slumber/slumberlaw.Wakes", spec := "wakes", unfollowed := true, recurses := true, named := ["slumber/slumber.operations"], apart := false, laid := [("slumber/slumber.operations", laid_slumber_slumber_operations)], narrowed := true }
def WakesUptoSaid : Prop := wakesUptoRow.holds Tryz.pinned (OpenSpec.upto wakesSpec)

/-- 'slumberlaw.All', WHERE WHAT IT READS IS OF BULK AT MOST 1048576: true; the input reads as it did. -/
def allUptoRow : OpenClaim := { program := "ytbkmgoffiigdbaagreatdoor", sum := "e9a7564c7223613beb36d958e773211c201822e880c8e876a280f68a6c428f8a", func := "slumber/slumberlaw.All", spec := "all", unfollowed := true, recurses := true, named := ["slumber/slumber.operations"], apart := false, laid := [("slumber/slumber.operations", laid_slumber_slumber_operations)], narrowed := true }
def AllUptoSaid : Prop := allUptoRow.holds Tryz.pinned (OpenSpec.upto allSpec)

end Rows
end Go.Proofs.YtbkmgoffiigdbaaGreatDoor
