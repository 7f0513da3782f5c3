import Derived.Test.YtbkmgoffiigdbabGreatDoorVA
namespace Go.Proofs.YtbkmgoffiigdbabGreatDoor

open Go.RowKit
end Go.Proofs.YtbkmgoffiigdbabGreatDoor
