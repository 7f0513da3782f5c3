import Derived.Test.YtbkmgoffiigdbabGreatDoorWH
namespace Go.Proofs.YtbkmgoffiigdbabGreatDoor
open Go.RowKit
theorem a4i:(Tryz.prog.info? 3).map (fun i=>(i.zero,i.size,i.bytes))=some (some (.int .i64 0),1,8):=by kernel_rfl
def W7 (g:PgR) (f:FnR) (w:World) (e:Ending) (w':World):Prop :=
 ∃v ok,e=.returned (.tuple #[v,.bool ok])∧(ok=true↔(b9 g f).Fits)∧Below w.heap.size w w'
theorem a0w {g:PgR} {f:FnR} {w:World} {e:Ending} {w':World} (v:Value) (ok:Bool) (he:e=.returned (.tuple #[v,.bool ok])) (hs:ok=true↔(b9 g f).Fits) (hw:Below w.heap.size w w'):W7 g f w e w':=⟨v,ok,he,hs,hw⟩
end Go.Proofs.YtbkmgoffiigdbabGreatDoor
