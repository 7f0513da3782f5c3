/-
  DERIVED. GIVEN WITH THE SEED: THE CARDS: each row of YtbkmgoffiigdbabGreatDoorRows.lean that lists a variable, with what it lists TIED to the program's text (the seventh form; the later family's looks); each row that meets fmt, with fmt's text TOLD by the authors' own Lean function (tested against real Go, not proved from fmt's source: count such statements apart). THE CARD IS WHAT COUNTS. Prove the row's statement (the work); the ties are given (YtbkmgoffiigdbabGreatDoorTie.lean); close each card by the builder's one call (the guide's Derived/Test/ToyasCard.lean, 'card_holds'). Laid BY PROGRAM, IN A SANDBOX (cutbox-door.mjs). By AI agents, Wed Nov 11 2026. No macro, syntax, notation, axiom, sorry.
-/
import Derived.Test.YtbkmgoffiigdbabGreatDoorRows
import GoSem.ClaimSeven
namespace Go.Proofs.YtbkmgoffiigdbabGreatDoor
namespace Rows

/-- THE TIED CARD OF 'slumberkeep.Awake'. -/
def awakeCard : Claim7 := { stood := { row := awakeRow, standIns := [], harness := (true, "95d6c98fd90ee194c0f0a8b4a1d2440d589cba05a7da08bf946e7670493e2a7f"), looks := false }, kinds := [], alts := [], laidByText := true, laidKinds := [.funcs], laidTests := true, laidLooks := .later }
def AwakeCardSaid : Prop := Claim7.holds Tryz.pinned (.plain (OpenSpec.ofChange awakeSpec)) awakeCard

/-- THE TIED CARD OF 'slumberkeep.Elsewhere'. -/
def elsewhereCard : Claim7 := { stood := { row := elsewhereRow, standIns := [], harness := (true, "95d6c98fd90ee194c0f0a8b4a1d2440d589cba05a7da08bf946e7670493e2a7f"), looks := false }, kinds := [], alts := [], laidByText := true, laidKinds := [.funcs], laidTests := true, laidLooks := .later }
def ElsewhereCardSaid : Prop := Claim7.holds Tryz.pinned (.plain (OpenSpec.ofChange elsewhereSpec)) elsewhereCard

/-- THE TIED CARD OF 'slumberkeep.Strict'. -/
def strictCard : Claim7 := { stood := { row := strictRow, standIns := [], harness := (true, "95d6c98fd90ee194c0f0a8b4a1d2440d589cba05a7da08bf946e7670493e2a7f"), looks := false }, kinds := [], alts := [], laidByText := true, laidKinds := [.funcs], laidTests := true, laidLooks := .later }
def StrictCardSaid : Prop := Claim7.holds Tryz.pinned (.plain (OpenSpec.ofChange strictSpec)) strictCard

/-- THE SECOND FORM's CARD OF 'slumberkeep.Awake'. -/
def awakeUptoCard : Claim7 := { stood := { row := awakeUptoRow, standIns := [], harness := (true, "95d6c98fd90ee194c0f0a8b4a1d2440d589cba05a7da08bf946e7670493e2a7f"), looks := false }, kinds := [], alts := [], laidByText := true, laidKinds := [.funcs], laidTests := true, laidLooks := .later }
def AwakeUptoCardSaid : Prop := Claim7.holds Tryz.pinned (.plain (OpenSpec.upto awakeSpec)) awakeUptoCard

/-- THE SECOND FORM's CARD OF 'slumberkeep.Elsewhere'. -/
def elsewhereUptoCard : Claim7 := { stood := { row := elsewhereUptoRow, standIns := [], harness := (true, "95d6c98fd90ee194c0f0a8b4a1d2440d589cba05a7da08bf946e7670493e2a7f"), looks := false }, kinds := [], alts := [], laidByText := true, laidKinds := [.funcs], laidTests := true, laidLooks := .later }
def ElsewhereUptoCardSaid : Prop := Claim7.holds Tryz.pinned (.plain (OpenSpec.upto elsewhereSpec)) elsewhereUptoCard

/-- THE SECOND FORM's CARD OF 'slumberkeep.Strict'. -/
def strictUptoCard : Claim7 := { stood := { row := strictUptoRow, standIns := [], harness := (true, "95d6c98fd90ee194c0f0a8b4a1d2440d589cba05a7da08bf946e7670493e2a7f"), looks := false }, kinds := [], alts := [], laidByText := true, laidKinds := [.funcs], laidTests := true, laidLooks := .later }
def StrictUptoCardSaid : Prop := Claim7.holds Tryz.pinned (.plain (OpenSpec.upto strictSpec)) strictUptoCard
end Rows
end Go.Proofs.YtbkmgoffiigdbabGreatDoor
