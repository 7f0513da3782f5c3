import Derived.Test.YtbkmgoffiigdbabGreatDoorWMP
namespace Go.Proofs.YtbkmgoffiigdbabGreatDoor
open Go.RowKit
set_option maxHeartbeats 1000000
theorem a6R (c:Int) (w:World) (h1 : -9223372036854775808≤c) (h2:c≤9223372036854775807) :
  Calls Tryz.prog 12 #[.int .i64 c,.int .i64 1099511627776] w fun e w'=>e=.returned (.int .i64 (D1 c 1099511627776))∧Below w.heap.size w w':=by
 by_cases hc:c < 0
 ·have e1:IntKind.i64.wrap (c+1)=c+1:=Go.IntWalk.i64_in _ Q8
  have e2:IntKind.i64.wrap (-(c+1)) = -(c+1):=Go.IntWalk.i64_in _ Q8;have e3:(-(c+1)).tmod 1099511627776=D1 c 1099511627776:=by
   unfold D1;rw [if_pos hc];exact Int.tmod_eq_emod_of_nonneg Q8
  go_enter Tryz.func12,Tryz.ntmps12;go_wp2
  go_ret;refine⟨jE ?_,P2⟩
  first | exact e3 | (go_light;simp_all)
 ·have e3:c.tmod 1099511627776=D1 c 1099511627776:=by
   unfold D1;rw [if_neg hc];exact Int.tmod_eq_emod_of_nonneg Q8
  go_enter Tryz.func12,Tryz.ntmps12;go_wp2
  go_ret;refine⟨jE ?_,P2⟩
  first | exact e3 | (go_light;simp_all)
end Go.Proofs.YtbkmgoffiigdbabGreatDoor
