import Derived.Test.YtbkmgoffiigdbabGreatDoorVA
namespace Go.Proofs.YtbkmgoffiigdbabGreatDoor
open Go.RowKit

def SpreadPost (hb : Nat) (g : PgR) (f : FnR) (H : Nat → Int) (w : World) (e : Ending) (w' : World) : Prop :=
  ∃ fr ok H', e = .returned (.tuple #[.bool fr, .bool ok]) ∧ SpreadSay (flowOf g f) H H' fr ok ∧ But (· = hb) w w' ∧ w'.rowIs hb 3 f.n (fun i => .int .i64 (H' i))
theorem spreadPost {hb : Nat} {g : PgR} {f : FnR} {H : Nat → Int} {w : World} {e : Ending} {w' : World} (fr ok : Bool) (H' : Nat → Int)
    (he : e = .returned (.tuple #[.bool fr, .bool ok])) (hs : SpreadSay (flowOf g f) H H' fr ok) (hw : But (· = hb) w w') (hr : w'.rowIs hb 3 f.n (fun i => .int .i64 (H' i))) : SpreadPost hb g f H w e w' := ⟨fr, ok, H', he, hs, hw, hr⟩

end Go.Proofs.YtbkmgoffiigdbabGreatDoor
