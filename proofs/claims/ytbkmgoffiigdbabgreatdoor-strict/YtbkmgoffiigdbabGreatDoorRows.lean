/-
  NARROWER THAN 'FOR EVERY INPUT', by the rows' own cells (each row's printed sentence says how): Awake: laid · Elsewhere: laid · Strict: laid.
  DERIVED. THE GIVEN ROWS OF THIS SEAT. 3 by the template 'for every input the law returns true; each argument reads behind the call as it read before'; 0 by the template 'total and deterministic' (their statements: YtbkmgoffiigdbabGreatDoorTotals.lean).
  GIVEN WITH THE SEED: the statements are not yours to turn. If you find one false, say at which input.
  Laid BY PROGRAM, IN A SANDBOX (cutbox-rows.mjs): the forced cells as the released guide's own fill.sh prints them over the translation 841103c9a4f6e7d0… (all of the seat's roots in one cut). By AI agents, Wed Nov 11 2026. No macro, syntax, notation, axiom, sorry.
-/
import Derived.Test.YtbkmgoffiigdbabGreatDoorChecked
import GoSem.Claim
import GoSem.ClaimJoined
import GoSem.ClaimMapViews
import Derived.JoinedTies
import Derived.KernelRfl
namespace Go.Proofs.YtbkmgoffiigdbabGreatDoor
/- THE CELL 'sum', in the pinned program and in every row, IS THE sha256 OF THE DUMP (.gsa) THAT YtbkmgoffiigdbabGreatDoorProg.lean LOADS. Nothing in Lean hashes anything: it is a label: what it is worth is what the hold of that sum in a sandbox is worth. -/
noncomputable def Tryz.pinned : Pinned := { name := "ytbkmgoffiigdbabgreatdoor", sum := "841103c9a4f6e7d0588cd644d8412ab876fb211cb45cec9cd8050304b1a686fa", checked := Tryz.checked }
namespace Rows
def none {H : Type} : Left H := { results := [], args := [] }

/- WHAT THE LISTED PACKAGE-LEVEL VARIABLES READ AS WHEN THE CALL BEGINS. Each datum BY PROGRAM (the guide's laid-datum.mjs) off the statement by which the dump's own 'gosem.cut.vars' lays the variable. In a bare row this is a premise. The card (YtbkmgoffiigdbabGreatDoorCards.lean) ties it to the program's text. -/
def laid_slumber_slumber_operations {H : Type} : DataW H := .iface "func table" (.agg [.agg [.lit (.int .i64 0), .lit (.int .i64 1), .lit (.int .i64 0), .iface "func" (.lit (.string [115, 108, 117, 109, 98, 101, 114, 47, 115, 108, 117, 109, 98, 101, 114, 46, 97, 110, 121, 116, 104, 105, 110, 103])), .iface "func" (.lit (.string [115, 108, 117, 109, 98, 101, 114, 47, 115, 108, 117, 109, 98, 101, 114, 46, 100, 111, 73, 110, 116]))], .agg [.lit (.int .i64 0), .lit (.int .i64 1), .lit (.int .i64 0), .iface "func" (.lit (.string [115, 108, 117, 109, 98, 101, 114, 47, 115, 108, 117, 109, 98, 101, 114, 46, 110, 111, 116, 104, 105, 110, 103])), .iface "func" (.lit (.string [115, 108, 117, 109, 98, 101, 114, 47, 115, 108, 117, 109, 98, 101, 114, 46, 100, 111, 78, 105, 108]))], .agg [.lit (.int .i64 0), .lit (.int .i64 1), .lit (.int .i64 0), .iface "func" (.lit (.string [115, 108, 117, 109, 98, 101, 114, 47, 115, 108, 117, 109, 98, 101, 114, 46, 97, 76, 111, 99, 97, 108])), .iface "func" (.lit (.string [115, 108, 117, 109, 98, 101, 114, 47, 115, 108, 117, 109, 98, 101, 114, 46, 100, 111, 76, 111, 97, 100]))], .agg [.lit (.int .i64 1), .lit (.int .i64 0), .lit (.int .i64 0), .iface "func" (.lit (.string [115, 108, 117, 109, 98, 101, 114, 47, 115, 108, 117, 109, 98, 101, 114, 46, 97, 76, 111, 99, 97, 108])), .iface "func" (.lit (.string [115, 108, 117, 109, 98, 101, 114, 47, 115, 108, 117, 109, 98, 101, 114, 46, 100, 111, 83, 116, 111, 114, 101]))], .agg [.lit (.int .i64 1), .lit (.int .i64 2), .lit (.int .i64 0), .iface "func" (.lit (.string [115, 108, 117, 109, 98, 101, 114, 47, 115, 108, 117, 109, 98, 101, 114, 46, 110, 111, 116, 104, 105, 110, 103])), .iface "func" (.lit (.string [115, 108, 117, 109, 98, 101, 114, 47, 115, 108, 117, 109, 98, 101, 114, 46, 100, 111, 68, 117, 112]))], .agg [.lit (.int .i64 1), .lit (.int .i64 0), .lit (.int .i64 0), .iface "func" (.lit (.string [115, 108, 117, 109, 98, 101, 114, 47, 115, 108, 117, 109, 98, 101, 114, 46, 110, 111, 116, 104, 105, 110, 103])), .iface "func" (.lit (.string [115, 108, 117, 109, 98, 101, 114, 47, 115, 108, 117, 109, 98, 101, 114, 46, 100, 111, 80, 111, 112]))], .agg [.lit (.int .i64 2), .lit (.int .i64 2), .lit (.int .i64 0), .iface "func" (.lit (.string [115, 108, 117, 109, 98, 101, 114, 47, 115, 108, 117, 109, 98, 101, 114, 46, 110, 111, 116, 104, 105, 110, 103])), .iface "func" (.lit (.string [115, 108, 117, 109, 98, 101, 114, 47, 115, 108, 117, 109, 98, 101, 114, 46, 100, 111, 83, 119, 97, 112]))], .agg [.lit (.int .i64 2), .lit (.int .i64 1), .lit (.int .i64 0), .iface "func" (.lit (.string [115, 108, 117, 109, 98, 101, 114, 47, 115, 108, 117, 109, 98, 101, 114, 46, 110, 111, 116, 104, 105, 110, 103])), .iface "func" (.lit (.string [115, 108, 117, 109, 98, 101, 114, 47, 115, 108, 117, 109, 98, 101, 114, 46, 100, 111, 65, 100, 100]))], .agg [.lit (.int .i64 2), .lit (.int .i64 1), .lit (.int .i64 0), .iface "func" (.lit (.string [115, 108, 117, 109, 98, 101, 114, 47, 115, 108, 117, 109, 98, 101, 114, 46, 110, 111, 116, 104, 105, 110, 103])), .iface "func" (.lit (.string [115, 108, 117, 109, 98, 101, 114, 47, 115, 108, 117, 109, 98, 101, 114, 46, 100, 111, 83, 117, 98]))], .agg [.lit (.int .i64 2), .lit (.int .i64 1), .lit (.int .i64 0), .iface "func" (.lit (.string [115, 108, 117, 109, 98, 101, 114, 47, 115, 108, 117, 109, 98, 101, 114, 46, 110, 111, 116, 104, 105, 110, 103])), .iface "func" (.lit (.string [115, 108, 117, 109, 98, 101, 114, 47, 115, 108, 117, 109, 98, 101, 114, 46, 100, 111, 77, 117, 108]))], .agg [.lit (.int .i64 2), .lit (.int .i64 1), .lit (.int .i64 0), .iface "func" (.lit (.string [115, 108, 117, 109, 98, 101, 114, 47, 115, 108, 117, 109, 98, 101, 114, 46, 110, 111, 116, 104, 105, 110, 103])), .iface "func" (.lit (.string [115, 108, 117, 109, 98, 101, 114, 47, 115, 108, 117, 109, 98, 101, 114, 46, 100, 111, 76, 101, 115, 115]))], .agg [.lit (.int .i64 2), .lit (.int .i64 1), .lit (.int .i64 0), .iface "func" (.lit (.string [115, 108, 117, 109, 98, 101, 114, 47, 115, 108, 117, 109, 98, 101, 114, 46, 110, 111, 116, 104, 105, 110, 103])), .iface "func" (.lit (.string [115, 108, 117, 109, 98, 101, 114, 47, 115, 108, 117, 109, 98, 101, 114, 46, 100, 111, 83, 97, 109, 101]))], .agg [.lit (.int .i64 0), .lit (.int .i64 0), .lit (.int .i64 1), .iface "func" (.lit (.string [115, 108, 117, 109, 98, 101, 114, 47, 115, 108, 117, 109, 98, 101, 114, 46, 97, 110, 73, 110, 115, 116, 114, 117, 99, 116, 105, 111, 110])), .iface "func" (.lit (.string [115, 108, 117, 109, 98, 101, 114, 47, 115, 108, 117, 109, 98, 101, 114, 46, 100, 111, 74, 117, 109, 112]))], .agg [.lit (.int .i64 1), .lit (.int .i64 0), .lit (.int .i64 2), .iface "func" (.lit (.string [115, 108, 117, 109, 98, 101, 114, 47, 115, 108, 117, 109, 98, 101, 114, 46, 97, 110, 73, 110, 115, 116, 114, 117, 99, 116, 105, 111, 110])), .iface "func" (.lit (.string [115, 108, 117, 109, 98, 101, 114, 47, 115, 108, 117, 109, 98, 101, 114, 46, 100, 111, 74, 117, 109, 112, 78, 111, 116]))], .agg [.lit (.int .i64 (-1)), .lit (.int .i64 1), .lit (.int .i64 0), .iface "func" (.lit (.string [115, 108, 117, 109, 98, 101, 114, 47, 115, 108, 117, 109, 98, 101, 114, 46, 97, 70, 117, 110, 99, 116, 105, 111, 110])), .iface "func" (.lit (.string [115, 108, 117, 109, 98, 101, 114, 47, 115, 108, 117, 109, 98, 101, 114, 46, 100, 111, 67, 97, 108, 108]))], .agg [.lit (.int .i64 1), .lit (.int .i64 0), .lit (.int .i64 3), .iface "func" (.lit (.string [115, 108, 117, 109, 98, 101, 114, 47, 115, 108, 117, 109, 98, 101, 114, 46, 110, 111, 116, 104, 105, 110, 103])), .iface "func" (.lit (.string [115, 108, 117, 109, 98, 101, 114, 47, 115, 108, 117, 109, 98, 101, 114, 46, 100, 111, 82, 101, 116, 117, 114, 110]))], .agg [.lit (.int .i64 0), .lit (.int .i64 1), .lit (.int .i64 0), .iface "func" (.lit (.string [115, 108, 117, 109, 98, 101, 114, 47, 115, 108, 117, 109, 98, 101, 114, 46, 97, 82, 101, 99, 111, 114, 100, 83, 105, 122, 101])), .iface "func" (.lit (.string [115, 108, 117, 109, 98, 101, 114, 47, 115, 108, 117, 109, 98, 101, 114, 46, 100, 111, 82, 101, 99, 111, 114, 100]))], .agg [.lit (.int .i64 1), .lit (.int .i64 1), .lit (.int .i64 0), .iface "func" (.lit (.string [115, 108, 117, 109, 98, 101, 114, 47, 115, 108, 117, 109, 98, 101, 114, 46, 110, 111, 116, 104, 105, 110, 103])), .iface "func" (.lit (.string [115, 108, 117, 109, 98, 101, 114, 47, 115, 108, 117, 109, 98, 101, 114, 46, 100, 111, 65, 114, 114, 97, 121]))], .agg [.lit (.int .i64 1), .lit (.int .i64 1), .lit (.int .i64 0), .iface "func" (.lit (.string [115, 108, 117, 109, 98, 101, 114, 47, 115, 108, 117, 109, 98, 101, 114, 46, 110, 111, 116, 104, 105, 110, 103])), .iface "func" (.lit (.string [115, 108, 117, 109, 98, 101, 114, 47, 115, 108, 117, 109, 98, 101, 114, 46, 100, 111, 87, 101, 97, 107]))], .agg [.lit (.int .i64 1), .lit (.int .i64 1), .lit (.int .i64 0), .iface "func" (.lit (.string [115, 108, 117, 109, 98, 101, 114, 47, 115, 108, 117, 109, 98, 101, 114, 46, 97, 70, 105, 101, 108, 100])), .iface "func" (.lit (.string [115, 108, 117, 109, 98, 101, 114, 47, 115, 108, 117, 109, 98, 101, 114, 46, 100, 111, 71, 101, 116]))], .agg [.lit (.int .i64 2), .lit (.int .i64 0), .lit (.int .i64 0), .iface "func" (.lit (.string [115, 108, 117, 109, 98, 101, 114, 47, 115, 108, 117, 109, 98, 101, 114, 46, 97, 70, 105, 101, 108, 100])), .iface "func" (.lit (.string [115, 108, 117, 109, 98, 101, 114, 47, 115, 108, 117, 109, 98, 101, 114, 46, 100, 111, 80, 117, 116]))], .agg [.lit (.int .i64 2), .lit (.int .i64 1), .lit (.int .i64 0), .iface "func" (.lit (.string [115, 108, 117, 109, 98, 101, 114, 47, 115, 108, 117, 109, 98, 101, 114, 46, 110, 111, 116, 104, 105, 110, 103])), .iface "func" (.lit (.string [115, 108, 117, 109, 98, 101, 114, 47, 115, 108, 117, 109, 98, 101, 114, 46, 100, 111, 65, 116]))], .agg [.lit (.int .i64 3), .lit (.int .i64 0), .lit (.int .i64 0), .iface "func" (.lit (.string [115, 108, 117, 109, 98, 101, 114, 47, 115, 108, 117, 109, 98, 101, 114, 46, 110, 111, 116, 104, 105, 110, 103])), .iface "func" (.lit (.string [115, 108, 117, 109, 98, 101, 114, 47, 115, 108, 117, 109, 98, 101, 114, 46, 100, 111, 83, 101, 116]))], .agg [.lit (.int .i64 1), .lit (.int .i64 1), .lit (.int .i64 0), .iface "func" (.lit (.string [115, 108, 117, 109, 98, 101, 114, 47, 115, 108, 117, 109, 98, 101, 114, 46, 110, 111, 116, 104, 105, 110, 103])), .iface "func" (.lit (.string [115, 108, 117, 109, 98, 101, 114, 47, 115, 108, 117, 109, 98, 101, 114, 46, 100, 111, 76, 101, 110]))], .agg [.lit (.int .i64 1), .lit (.int .i64 1), .lit (.int .i64 0), .iface "func" (.lit (.string [115, 108, 117, 109, 98, 101, 114, 47, 115, 108, 117, 109, 98, 101, 114, 46, 110, 111, 116, 104, 105, 110, 103])), .iface "func" (.lit (.string [115, 108, 117, 109, 98, 101, 114, 47, 115, 108, 117, 109, 98, 101, 114, 46, 100, 111, 83, 116, 114, 111, 110, 103]))], .agg [.lit (.int .i64 1), .lit (.int .i64 1), .lit (.int .i64 0), .iface "func" (.lit (.string [115, 108, 117, 109, 98, 101, 114, 47, 115, 108, 117, 109, 98, 101, 114, 46, 110, 111, 116, 104, 105, 110, 103])), .iface "func" (.lit (.string [115, 108, 117, 109, 98, 101, 114, 47, 115, 108, 117, 109, 98, 101, 114, 46, 100, 111, 73, 115, 82, 101, 102]))], .agg [.lit (.int .i64 1), .lit (.int .i64 0), .lit (.int .i64 0), .iface "func" (.lit (.string [115, 108, 117, 109, 98, 101, 114, 47, 115, 108, 117, 109, 98, 101, 114, 46, 110, 111, 116, 104, 105, 110, 103])), .iface "func" (.lit (.string [115, 108, 117, 109, 98, 101, 114, 47, 115, 108, 117, 109, 98, 101, 114, 46, 100, 111, 80, 114, 105, 110, 116]))], .agg [.lit (.int .i64 0), .lit (.int .i64 0), .lit (.int .i64 3), .iface "func" (.lit (.string [115, 108, 117, 109, 98, 101, 114, 47, 115, 108, 117, 109, 98, 101, 114, 46, 110, 111, 116, 104, 105, 110, 103])), .iface "func" (.lit (.string [115, 108, 117, 109, 98, 101, 114, 47, 115, 108, 117, 109, 98, 101, 114, 46, 100, 111, 72, 97, 108, 116]))]])

/-- 'slumberkeep.Awake': WHATEVER THE INPUT: true; the input reads as it did. -/
def awakeSpec : ChangeSpec := { name := "awake", fn := fun _ => fun
  | [d1, d2, d3, d4, d5, d6] => { results := [.lit (.bool true)], args := [d1, d2, d3, d4, d5, d6] }
  | _ => none }
def awakeRow : OpenClaim := { program := "ytbkmgoffiigdbabgreatdoor", sum := "841103c9a4f6e7d0588cd644d8412ab876fb211cb45cec9cd8050304b1a686fa", func := "slumber/slumberkeep.Awake", spec := "awake", unfollowed := true, recurses := true, named := ["slumber/slumber.operations"], apart := false, laid := [("slumber/slumber.operations", laid_slumber_slumber_operations)] }
def AwakeSaid : Prop := awakeRow.holds Tryz.pinned (OpenSpec.ofChange awakeSpec)

/-- ITS FALSE NEIGHBOUR: 'it returns false'. Refute it at one input. -/
def awakeWrong : ChangeSpec := { name := "awake", fn := fun _ => fun
  | [d1, d2, d3, d4, d5, d6] => { results := [.lit (.bool false)], args := [d1, d2, d3, d4, d5, d6] }
  | _ => none }
def AwakeWrongFalsely : Prop := awakeRow.holds Tryz.pinned (OpenSpec.ofChange awakeWrong)

/-- 'slumberkeep.Elsewhere': WHATEVER THE INPUT: true; the input reads as it did. -/
def elsewhereSpec : ChangeSpec := { name := "elsewhere", fn := fun _ => fun
  | [d1, d2, d3, d4, d5, d6] => { results := [.lit (.bool true)], args := [d1, d2, d3, d4, d5, d6] }
  | _ => none }
def elsewhereRow : OpenClaim := { program := "ytbkmgoffiigdbabgreatdoor", sum := "841103c9a4f6e7d0588cd644d8412ab876fb211cb45cec9cd8050304b1a686fa", func := "slumber/slumberkeep.Elsewhere", spec := "elsewhere", unfollowed := true, recurses := true, named := ["slumber/slumber.operations"], apart := false, laid := [("slumber/slumber.operations", laid_slumber_slumber_operations)] }
def ElsewhereSaid : Prop := elsewhereRow.holds Tryz.pinned (OpenSpec.ofChange elsewhereSpec)

/-- ITS FALSE NEIGHBOUR: 'it returns false'. Refute it at one input. -/
def elsewhereWrong : ChangeSpec := { name := "elsewhere", fn := fun _ => fun
  | [d1, d2, d3, d4, d5, d6] => { results := [.lit (.bool false)], args := [d1, d2, d3, d4, d5, d6] }
  | _ => none }
def ElsewhereWrongFalsely : Prop := elsewhereRow.holds Tryz.pinned (OpenSpec.ofChange elsewhereWrong)

/-- 'slumberkeep.Strict': WHATEVER THE INPUT: true; the input reads as it did. -/
def strictSpec : ChangeSpec := { name := "strict", fn := fun _ => fun
  | [d1, d2, d3, d4, d5, d6] => { results := [.lit (.bool true)], args := [d1, d2, d3, d4, d5, d6] }
  | _ => none }
def strictRow : OpenClaim := { program := "ytbkmgoffiigdbabgreatdoor", sum := "841103c9a4f6e7d0588cd644d8412ab876fb211cb45cec9cd8050304b1a686fa", func := "slumber/slumberkeep.Strict", spec := "strict", unfollowed := true, recurses := true, named := ["slumber/slumber.operations"], apart := false, laid := [("slumber/slumber.operations", laid_slumber_slumber_operations)] }
def StrictSaid : Prop := strictRow.holds Tryz.pinned (OpenSpec.ofChange strictSpec)

/-- ITS FALSE NEIGHBOUR: 'it returns false'. Refute it at one input. -/
def strictWrong : ChangeSpec := { name := "strict", fn := fun _ => fun
  | [d1, d2, d3, d4, d5, d6] => { results := [.lit (.bool false)], args := [d1, d2, d3, d4, d5, d6] }
  | _ => none }
def StrictWrongFalsely : Prop := strictRow.holds Tryz.pinned (OpenSpec.ofChange strictWrong)

/- THE SECOND FORM. 'bulk': how many values and letters a reading holds, each counted each time it is reached (what is shared counts as often as it is met; a slice's spare places count too). A statement '..UptoSaid' is the law's where the arguments, and the package variables that the reading takes, are together of bulk at most 1048576: NARROWER than '..Said'. Prove '..Said' where nothing that the law and all that it calls make is longer than what came in: it says more and counts as full. Else prove '..UptoSaid'. A law counts once. -/
mutual
def uptoBulk {H : Type} : DataW H → Nat
  | .lit (.string bytes) => bytes.length + 1
  | .lit _ => 1
  | .nil => 1
  | .ptr d => uptoBulk d + 1
  | .slice elems spare => uptoBulkAll elems + uptoBulkAll spare + 1
  | .agg parts => uptoBulkAll parts + 1
  | .iface _ d => uptoBulk d + 1
  | .map entries => uptoBulkEntries entries + 1
  | .held _ => 1
def uptoBulkAll {H : Type} : List (DataW H) → Nat
  | [] => 0
  | d :: r => uptoBulk d + uptoBulkAll r
def uptoBulkEntries {H : Type} : List (Lit × DataW H) → Nat
  | [] => 0
  | x :: r => uptoBulkEntry x + uptoBulkEntries r
def uptoBulkEntry {H : Type} : Lit × DataW H → Nat
  | (.string bytes, d) => bytes.length + uptoBulk d + 1
  | (_, d) => uptoBulk d + 1
 end
def uptoSmall : (H : Type) → List (DataW H) → Bool := fun _ ds => decide (uptoBulkAll ds ≤ 1048576)
def OpenSpec.upto (s : _root_.Go.ChangeSpec) : _root_.Go.OpenSpec := { _root_.Go.OpenSpec.ofChange s with cond := some uptoSmall }

/-- 'slumberkeep.Awake', WHERE WHAT IT READS IS OF BULK AT MOST 1048576: true; the input reads as it did. -/
def awakeUptoRow : OpenClaim := { program := "ytbkmgoffiigdbabgreatdoor", sum := "841103c9a4f6e7d0588cd644d8412ab876fb211cb45cec9cd8050304b1a686fa", func := "slumber/slumberkeep.Awake", spec := "awake", unfollowed := true, recurses := true, named := ["slumber/slumber.operations"], apart := false, laid := [("slumber/slumber.operations", laid_slumber_slumber_operations)], narrowed := true }
def AwakeUptoSaid : Prop := awakeUptoRow.holds Tryz.pinned (OpenSpec.upto awakeSpec)

/-- 'slumberkeep.Elsewhere', WHERE WHAT IT READS IS OF BULK AT MOST 1048576: true; the input reads as it did. -/
def elsewhereUptoRow : OpenClaim := { program := "ytbkmgoffiigdbabgreatdoor", sum := "841103c9a4f6e7d0588cd644d8412ab876fb211cb45cec9cd8050304b1a686fa", func := "slumber/slumberkeep.Elsewhere", spec := "elsewhere", unfollowed := true, recurses := true, named := ["slumber/slumber.operations"], apart := false, laid := [("slumber/slumber.operations", laid_slumber_slumber_operations)], narrowed := true }
def ElsewhereUptoSaid : Prop := elsewhereUptoRow.holds Tryz.pinned (OpenSpec.upto elsewhereSpec)

/-- 'slumberkeep.Strict', WHERE WHAT IT READS IS OF BULK AT MOST 1048576: true; the input reads as it did. -/
def strictUptoRow : OpenClaim := { program := "ytbkmgoffiigdbabgreatdoor", sum := "841103c9a4f6e7d0588cd644d8412ab876fb211cb45cec9cd8050304b1a686fa", func := "slumber/slumberkeep.Strict", spec := "strict", unfollowed := true, recurses := true, named := ["slumber/slumber.operations"], apart := false, laid := [("slumber/slumber.operations", laid_slumber_slumber_operations)], narrowed := true }
def StrictUptoSaid : Prop := strictUptoRow.holds Tryz.pinned (OpenSpec.upto strictSpec)

end Rows
end Go.Proofs.YtbkmgoffiigdbabGreatDoor
