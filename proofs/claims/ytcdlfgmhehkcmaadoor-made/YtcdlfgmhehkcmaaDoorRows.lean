/-
  NARROWER THAN 'FOR EVERY INPUT', by the rows' own cells (each row's printed sentence says how): Checks: laid · Made: laid.
  DERIVED. THE GIVEN ROWS OF THIS SEAT. 2 by the template 'for every input the law returns true; each argument reads behind the call as it read before'; 0 by the template 'total and deterministic' (their statements: YtcdlfgmhehkcmaaDoorTotals.lean).
  GIVEN WITH THE SEED: the statements are not yours to turn. If you find one false, say at which input.
  Laid BY PROGRAM, IN A SANDBOX (cutbox-rows.mjs): the forced cells as the released guide's own fill.sh prints them over the translation a2605d23e54da213… (all of the seat's roots in one cut). By AI agents, Wed Nov 11 2026. No macro, syntax, notation, axiom, sorry.
-/
import Derived.Test.YtcdlfgmhehkcmaaDoorChecked
import GoSem.Claim
import GoSem.ClaimJoined
import GoSem.ClaimMapViews
import Derived.JoinedTies
import Derived.KernelRfl
namespace Go.Proofs.YtcdlfgmhehkcmaaDoor
/- THE CELL 'sum', in the pinned program and in every row, IS THE sha256 OF THE DUMP (.gsa) THAT YtcdlfgmhehkcmaaDoorProg.lean LOADS. Nothing in Lean hashes anything: it is a label: what it is worth is what the hold of that sum in a sandbox is worth. -/
noncomputable def Tryd.pinned : Pinned := { name := "ytcdlfgmhehkcmaadoor", sum := "a2605d23e54da2137d4b1b947560b0fbfda0c9e2e0bdafd87c084ee8031baf42", checked := Tryd.checked }
namespace Rows
def none {H : Type} : Left H := { results := [], args := [] }

/- WHAT THE LISTED PACKAGE-LEVEL VARIABLES READ AS WHEN THE CALL BEGINS. Each datum BY PROGRAM (the guide's laid-datum.mjs) off the statement by which the dump's own 'gosem.cut.vars' lays the variable. In a bare row this is a premise. The card (YtcdlfgmhehkcmaaDoorCards.lean) ties it to the program's text. -/
def laid_slumber_slumber_operations {H : Type} : DataW H := .iface "func table" (.agg [.agg [.lit (.int .i64 0), .lit (.int .i64 1), .lit (.int .i64 0), .iface "func" (.lit (.string [115, 108, 117, 109, 98, 101, 114, 47, 115, 108, 117, 109, 98, 101, 114, 46, 97, 110, 121, 116, 104, 105, 110, 103]))], .agg [.lit (.int .i64 0), .lit (.int .i64 1), .lit (.int .i64 0), .iface "func" (.lit (.string [115, 108, 117, 109, 98, 101, 114, 47, 115, 108, 117, 109, 98, 101, 114, 46, 110, 111, 116, 104, 105, 110, 103]))], .agg [.lit (.int .i64 0), .lit (.int .i64 1), .lit (.int .i64 0), .iface "func" (.lit (.string [115, 108, 117, 109, 98, 101, 114, 47, 115, 108, 117, 109, 98, 101, 114, 46, 97, 76, 111, 99, 97, 108]))], .agg [.lit (.int .i64 1), .lit (.int .i64 0), .lit (.int .i64 0), .iface "func" (.lit (.string [115, 108, 117, 109, 98, 101, 114, 47, 115, 108, 117, 109, 98, 101, 114, 46, 97, 76, 111, 99, 97, 108]))], .agg [.lit (.int .i64 1), .lit (.int .i64 2), .lit (.int .i64 0), .iface "func" (.lit (.string [115, 108, 117, 109, 98, 101, 114, 47, 115, 108, 117, 109, 98, 101, 114, 46, 110, 111, 116, 104, 105, 110, 103]))], .agg [.lit (.int .i64 1), .lit (.int .i64 0), .lit (.int .i64 0), .iface "func" (.lit (.string [115, 108, 117, 109, 98, 101, 114, 47, 115, 108, 117, 109, 98, 101, 114, 46, 110, 111, 116, 104, 105, 110, 103]))], .agg [.lit (.int .i64 2), .lit (.int .i64 2), .lit (.int .i64 0), .iface "func" (.lit (.string [115, 108, 117, 109, 98, 101, 114, 47, 115, 108, 117, 109, 98, 101, 114, 46, 110, 111, 116, 104, 105, 110, 103]))], .agg [.lit (.int .i64 2), .lit (.int .i64 1), .lit (.int .i64 0), .iface "func" (.lit (.string [115, 108, 117, 109, 98, 101, 114, 47, 115, 108, 117, 109, 98, 101, 114, 46, 110, 111, 116, 104, 105, 110, 103]))], .agg [.lit (.int .i64 2), .lit (.int .i64 1), .lit (.int .i64 0), .iface "func" (.lit (.string [115, 108, 117, 109, 98, 101, 114, 47, 115, 108, 117, 109, 98, 101, 114, 46, 110, 111, 116, 104, 105, 110, 103]))], .agg [.lit (.int .i64 2), .lit (.int .i64 1), .lit (.int .i64 0), .iface "func" (.lit (.string [115, 108, 117, 109, 98, 101, 114, 47, 115, 108, 117, 109, 98, 101, 114, 46, 110, 111, 116, 104, 105, 110, 103]))], .agg [.lit (.int .i64 2), .lit (.int .i64 1), .lit (.int .i64 0), .iface "func" (.lit (.string [115, 108, 117, 109, 98, 101, 114, 47, 115, 108, 117, 109, 98, 101, 114, 46, 110, 111, 116, 104, 105, 110, 103]))], .agg [.lit (.int .i64 2), .lit (.int .i64 1), .lit (.int .i64 0), .iface "func" (.lit (.string [115, 108, 117, 109, 98, 101, 114, 47, 115, 108, 117, 109, 98, 101, 114, 46, 110, 111, 116, 104, 105, 110, 103]))], .agg [.lit (.int .i64 0), .lit (.int .i64 0), .lit (.int .i64 1), .iface "func" (.lit (.string [115, 108, 117, 109, 98, 101, 114, 47, 115, 108, 117, 109, 98, 101, 114, 46, 97, 110, 73, 110, 115, 116, 114, 117, 99, 116, 105, 111, 110]))], .agg [.lit (.int .i64 1), .lit (.int .i64 0), .lit (.int .i64 2), .iface "func" (.lit (.string [115, 108, 117, 109, 98, 101, 114, 47, 115, 108, 117, 109, 98, 101, 114, 46, 97, 110, 73, 110, 115, 116, 114, 117, 99, 116, 105, 111, 110]))], .agg [.lit (.int .i64 (-1)), .lit (.int .i64 1), .lit (.int .i64 0), .iface "func" (.lit (.string [115, 108, 117, 109, 98, 101, 114, 47, 115, 108, 117, 109, 98, 101, 114, 46, 97, 70, 117, 110, 99, 116, 105, 111, 110]))], .agg [.lit (.int .i64 1), .lit (.int .i64 0), .lit (.int .i64 3), .iface "func" (.lit (.string [115, 108, 117, 109, 98, 101, 114, 47, 115, 108, 117, 109, 98, 101, 114, 46, 110, 111, 116, 104, 105, 110, 103]))], .agg [.lit (.int .i64 0), .lit (.int .i64 1), .lit (.int .i64 0), .iface "func" (.lit (.string [115, 108, 117, 109, 98, 101, 114, 47, 115, 108, 117, 109, 98, 101, 114, 46, 97, 82, 101, 99, 111, 114, 100, 83, 105, 122, 101]))], .agg [.lit (.int .i64 1), .lit (.int .i64 1), .lit (.int .i64 0), .iface "func" (.lit (.string [115, 108, 117, 109, 98, 101, 114, 47, 115, 108, 117, 109, 98, 101, 114, 46, 110, 111, 116, 104, 105, 110, 103]))], .agg [.lit (.int .i64 1), .lit (.int .i64 1), .lit (.int .i64 0), .iface "func" (.lit (.string [115, 108, 117, 109, 98, 101, 114, 47, 115, 108, 117, 109, 98, 101, 114, 46, 110, 111, 116, 104, 105, 110, 103]))], .agg [.lit (.int .i64 1), .lit (.int .i64 1), .lit (.int .i64 0), .iface "func" (.lit (.string [115, 108, 117, 109, 98, 101, 114, 47, 115, 108, 117, 109, 98, 101, 114, 46, 97, 70, 105, 101, 108, 100]))], .agg [.lit (.int .i64 2), .lit (.int .i64 0), .lit (.int .i64 0), .iface "func" (.lit (.string [115, 108, 117, 109, 98, 101, 114, 47, 115, 108, 117, 109, 98, 101, 114, 46, 97, 70, 105, 101, 108, 100]))], .agg [.lit (.int .i64 2), .lit (.int .i64 1), .lit (.int .i64 0), .iface "func" (.lit (.string [115, 108, 117, 109, 98, 101, 114, 47, 115, 108, 117, 109, 98, 101, 114, 46, 110, 111, 116, 104, 105, 110, 103]))], .agg [.lit (.int .i64 3), .lit (.int .i64 0), .lit (.int .i64 0), .iface "func" (.lit (.string [115, 108, 117, 109, 98, 101, 114, 47, 115, 108, 117, 109, 98, 101, 114, 46, 110, 111, 116, 104, 105, 110, 103]))], .agg [.lit (.int .i64 1), .lit (.int .i64 1), .lit (.int .i64 0), .iface "func" (.lit (.string [115, 108, 117, 109, 98, 101, 114, 47, 115, 108, 117, 109, 98, 101, 114, 46, 110, 111, 116, 104, 105, 110, 103]))], .agg [.lit (.int .i64 1), .lit (.int .i64 1), .lit (.int .i64 0), .iface "func" (.lit (.string [115, 108, 117, 109, 98, 101, 114, 47, 115, 108, 117, 109, 98, 101, 114, 46, 110, 111, 116, 104, 105, 110, 103]))], .agg [.lit (.int .i64 1), .lit (.int .i64 1), .lit (.int .i64 0), .iface "func" (.lit (.string [115, 108, 117, 109, 98, 101, 114, 47, 115, 108, 117, 109, 98, 101, 114, 46, 110, 111, 116, 104, 105, 110, 103]))], .agg [.lit (.int .i64 1), .lit (.int .i64 0), .lit (.int .i64 0), .iface "func" (.lit (.string [115, 108, 117, 109, 98, 101, 114, 47, 115, 108, 117, 109, 98, 101, 114, 46, 110, 111, 116, 104, 105, 110, 103]))], .agg [.lit (.int .i64 0), .lit (.int .i64 0), .lit (.int .i64 3), .iface "func" (.lit (.string [115, 108, 117, 109, 98, 101, 114, 47, 115, 108, 117, 109, 98, 101, 114, 46, 110, 111, 116, 104, 105, 110, 103]))]])

/-- 'slumberlaw.Checks': WHATEVER THE INPUT: true; the input reads as it did. -/
def checksSpec : ChangeSpec := { name := "checks", fn := fun _ => fun
  | [d] => { results := [.lit (.bool true)], args := [d] }
  | _ => none }
def checksRow : OpenClaim := { program := "ytcdlfgmhehkcmaadoor", sum := "a2605d23e54da2137d4b1b947560b0fbfda0c9e2e0bdafd87c084ee8031baf42", func := "slumber/slumberlaw.Checks", spec := "checks", unfollowed := true, recurses := true, named := ["slumber/slumber.operations"], apart := false, laid := [("slumber/slumber.operations", laid_slumber_slumber_operations)] }
def ChecksSaid : Prop := checksRow.holds Tryd.pinned (OpenSpec.ofChange checksSpec)

/-- ITS FALSE NEIGHBOUR: 'it returns false'. Refute it at one input. -/
def checksWrong : ChangeSpec := { name := "checks", fn := fun _ => fun
  | [d] => { results := [.lit (.bool false)], args := [d] }
  | _ => none }
def ChecksWrongFalsely : Prop := checksRow.holds Tryd.pinned (OpenSpec.ofChange checksWrong)

/-- 'slumberkeep.Made': WHATEVER THE INPUT: true; the input reads as it did. -/
def madeSpec : ChangeSpec := { name := "made", fn := fun _ => fun
  | [d1, d2] => { results := [.lit (.bool true)], args := [d1, d2] }
  | _ => none }
def madeRow : OpenClaim := { program := "ytcdlfgmhehkcmaadoor", sum := "a2605d23e54da2137d4b1b947560b0fbfda0c9e2e0bdafd87c084ee8031baf42", func := "slumber/slumberkeep.Made", spec := "made", unfollowed := true, recurses := true, named := ["slumber/slumber.operations"], apart := false, laid := [("slumber/slumber.operations", laid_slumber_slumber_operations)] }
def MadeSaid : Prop := madeRow.holds Tryd.pinned (OpenSpec.ofChange madeSpec)

/-- ITS FALSE NEIGHBOUR: 'it returns false'. Refute it at one input. -/
def madeWrong : ChangeSpec := { name := "made", fn := fun _ => fun
  | [d1, d2] => { results := [.lit (.bool false)], args := [d1, d2] }
  | _ => none }
def MadeWrongFalsely : Prop := madeRow.holds Tryd.pinned (OpenSpec.ofChange madeWrong)

/- THE SECOND FORM. 'bulk': how many values and letters a reading holds, each counted each time it is reached (what is shared counts as often as it is met; a slice's spare places count too). A statement '..UptoSaid' is the law's where the arguments, and the package variables that the reading takes, are together of bulk at most 1048576: NARROWER than '..Said'. Prove '..Said' where nothing that the law and all that it calls make is longer than what came in: it says more and counts as full. Else prove '..UptoSaid'. A law counts once. -/
mutual
def uptoBulk {H : Type} : DataW H → Nat
  | .lit (.string bytes) => bytes.length + 1
  | .lit _ => 1
  | .nil => 1
  | .ptr d => uptoBulk d + 1
  | .slice elems spare => uptoBulkAll elems + uptoBulkAll spare + 1
  | .agg parts => uptoBulkAll parts + 1
  | .iface _ d => uptoBulk d + 1
  | .map entries => uptoBulkEntries entries + 1
  | .held _ => 1
def uptoBulkAll {H : Type} : List (DataW H) → Nat
  | [] => 0
  | d :: r => uptoBulk d + uptoBulkAll r
def uptoBulkEntries {H : Type} : List (Lit × DataW H) → Nat
  | [] => 0
  | x :: r => uptoBulkEntry x + uptoBulkEntries r
def uptoBulkEntry {H : Type} : Lit × DataW H → Nat
  | (.string bytes, d) => bytes.length + uptoBulk d + 1
  | (_, d) => uptoBulk d + 1
 end
def uptoSmall : (H : Type) → List (DataW H) → Bool := fun _ ds => decide (uptoBulkAll ds ≤ 1048576)
def OpenSpec.upto (s : _root_.Go.ChangeSpec) : _root_.Go.OpenSpec := { _root_.Go.OpenSpec.ofChange s with cond := some uptoSmall }

/-- 'slumberlaw.Checks', WHERE WHAT IT READS IS OF BULK AT MOST 1048576: true; the input reads as it did. -/
def checksUptoRow : OpenClaim := { program := "ytcdlfgmhehkcmaadoor", sum := "a2605d23e54da2137d4b1b947560b0fbfda0c9e2e0bdafd87c084ee8031baf42", func := "slumber/slumberlaw.Checks", spec := "checks", unfollowed := true, recurses := true, named := ["slumber/slumber.operations"], apart := false, laid := [("slumber/slumber.operations", laid_slumber_slumber_operations)], narrowed := true }
def ChecksUptoSaid : Prop := checksUptoRow.holds Tryd.pinned (OpenSpec.upto checksSpec)

/-- 'slumberkeep.Made', WHERE WHAT IT READS IS OF BULK AT MOST 1048576: true; the input reads as it did. -/
def madeUptoRow : OpenClaim := { program := "ytcdlfgmhehkcmaadoor", sum := "a2605d23e54da2137d4b1b947560b0fbfda0c9e2e0bdafd87c084ee8031baf42", func := "slumber/slumberkeep.Made", spec := "made", unfollowed := true, recurses := true, named := ["slumber/slumber.operations"], apart := false, laid := [("slumber/slumber.operations", laid_slumber_slumber_operations)], narrowed := true }
def MadeUptoSaid : Prop := madeUptoRow.holds Tryd.pinned (OpenSpec.upto madeSpec)

end Rows
end Go.Proofs.YtcdlfgmhehkcmaaDoor
