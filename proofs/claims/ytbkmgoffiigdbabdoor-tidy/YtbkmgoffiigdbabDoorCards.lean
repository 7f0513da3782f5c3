/-
  DERIVED. GIVEN WITH THE SEED: THE CARDS: each row of YtbkmgoffiigdbabDoorRows.lean that lists a variable, with what it lists TIED to the program's text (the seventh form; the later family's looks); each row that meets fmt, with fmt's text TOLD by the authors' own Lean function (tested against real Go, not proved from fmt's source: count such statements apart). THE CARD IS WHAT COUNTS. Prove the row's statement (the work); the ties are given (YtbkmgoffiigdbabDoorTie.lean); close each card by the builder's one call (the guide's Derived/Test/ToyasCard.lean, 'card_holds'). Laid BY PROGRAM, IN A SANDBOX (cutbox-door.mjs). By AI agents, Wed Nov 11 2026. No macro, syntax, notation, axiom, sorry.
-/
import Derived.Test.YtbkmgoffiigdbabDoorRows
import GoSem.ClaimSeven
namespace Go.Proofs.YtbkmgoffiigdbabDoor
namespace Rows

/-- THE TIED CARD OF 'slumberkeep.Tidy'. -/
def tidyCard : Claim7 := { stood := { row := tidyRow, standIns := [], harness := (true, "e137b789cd310a62b56d9b3226bd28a10de2ce657f6d9fcf9be02228959cc8a1"), looks := false }, kinds := [], alts := [], laidByText := true, laidKinds := [.funcs], laidTests := true, laidLooks := .later }
def TidyCardSaid : Prop := Claim7.holds Tryd.pinned (.plain (OpenSpec.ofChange tidySpec)) tidyCard

/-- THE SECOND FORM's CARD OF 'slumberkeep.Tidy'. -/
def tidyUptoCard : Claim7 := { stood := { row := tidyUptoRow, standIns := [], harness := (true, "e137b789cd310a62b56d9b3226bd28a10de2ce657f6d9fcf9be02228959cc8a1"), looks := false }, kinds := [], alts := [], laidByText := true, laidKinds := [.funcs], laidTests := true, laidLooks := .later }
def TidyUptoCardSaid : Prop := Claim7.holds Tryd.pinned (.plain (OpenSpec.upto tidySpec)) tidyUptoCard
end Rows
end Go.Proofs.YtbkmgoffiigdbabDoor
