import Derived.Test.YtbkmgoffiigdbabGreatDoorWH
namespace Go.Proofs.YtbkmgoffiigdbabGreatDoor
open Go.RowKit
theorem lK:(Tryz.prog.info? 3).map (fun i=>(i.zero,i.size,i.bytes))=some (some (.int .i64 0),1,8):=by kernel_rfl
def bZ (g:PgR) (f:FnR) (w:World) (e:Ending) (w':World):Prop :=
 ∃v ok,e=.returned (.tuple #[v,.bool ok])∧(ok=true↔(A7 g f).Fits)∧Below w.heap.size w w'
theorem dU {g:PgR} {f:FnR} {w:World} {e:Ending} {w':World} (v:Value) (ok:Bool) (he:e=.returned (.tuple #[v,.bool ok])) (hs:ok=true↔(A7 g f).Fits) (hw:Below w.heap.size w w'):bZ g f w e w':=⟨v,ok,he,hs,hw⟩
end Go.Proofs.YtbkmgoffiigdbabGreatDoor
