import Derived.Test.YtbkmgoffiigdbabGreatDoorWNE
import Derived.Deep.RegionWith
namespace Go.Proofs.YtbkmgoffiigdbabGreatDoor
open Go.RowKit
set_option maxHeartbeats 1000000
theorem a3O {own:Own} {mb:Nat} {g:PgR} {R:McR} {fs:List FrR} {f:FrR} {rest:List Val} {va:Option Addr} {sb:Nat} {w:World} (h:C9 w own mb g R fs f rest [] va sb) (a:Int) (vc:Nat) :
  Calls Tryz.prog 173 #[.pointer (some ⟨mb,0,none⟩),.int .i64 a,.slice va 0 vc] w fun e w'=>D0 own mb g R fs f (f.pc+1) (rest++[(0,0)]) (.int .i64 0) w e w':=by
 have HH:=hid h;clear h;go_enter Tryz.func173,Tryz.ntmps173;go_wp2_with (fail)
 refine (HH.out.answer P0 vc _ [(0,0)] (J6 HH.out.m P9 (by first | exact D8 Q9 | exact O5 Q9 | exact T2 Q9)) Q9 0 rfl).mono ?_;rintro e w' ⟨own',sv',rfl,hm,ht⟩;go_wp2_with fail
 go_ret;exact⟨own',sv',rfl,hm,ht⟩
theorem a3L {own:Own} {mb:Nat} {g:PgR} {R:McR} {fs:List FrR} {f:FrR} {rest:List Val} {va:Option Addr} {sb:Nat} {w:World} {x:Val} (h:C9 w own mb g R fs f rest [x] va sb) (a:Int) (vc:Nat) :
  Calls Tryz.prog 177 #[.pointer (some ⟨mb,0,none⟩),.int .i64 a,.slice va 1 vc] w fun e w'=>D0 own mb g R fs f (f.pc+1) (rest++[x,x]) (.int .i64 0) w e w':=by
 obtain⟨o,rfl,hsb,c0,c1⟩:=h.one;have HH:=hid h;clear h;go_enter Tryz.func177,Tryz.ntmps177;go_wp2_with fail;go_region_with (first | (go_at_call 205;refine (HH.out.answer P0 vc _ [x,x] (sB HH.out.m P9 (by first | exact D8 Q9 | exact O5 Q9 | exact T2 Q9)) Q9 1 rfl).mono ?_;rintro e w' ⟨own',sv',rfl,hm,ht⟩) | (fail))
 all_goals go_wp2_with fail
 all_goals go_ret
 all_goals exact ⟨own',sv',rfl,hm,ht⟩
theorem a3P {own:Own} {mb:Nat} {g:PgR} {R:McR} {fs:List FrR} {f:FrR} {rest:List Val} {va:Option Addr} {sb:Nat} {w:World} {x:Val} (h:C9 w own mb g R fs f rest [x] va sb) (a:Int) (vc:Nat) :
  Calls Tryz.prog 178 #[.pointer (some ⟨mb,0,none⟩),.int .i64 a,.slice va 1 vc] w fun e w'=>D0 own mb g R fs f (f.pc+1) (rest++[]) (.int .i64 0) w e w':=by
 obtain⟨o,rfl,hsb,c0,c1⟩:=h.one;have HH:=hid h;clear h;go_enter Tryz.func178,Tryz.ntmps178;go_wp2_with (fail)
 refine (HH.out.answer P0 vc _ [] (aE _ _) Q9 1 rfl).mono ?_;rintro e w' ⟨own',sv',rfl,hm,ht⟩;go_wp2_with fail;go_ret;exact⟨own',sv',rfl,hm,ht⟩
theorem qQ {own:Own} {mb:Nat} {g:PgR} {R:McR} {fs:List FrR} {f:FrR} {rest:List Val} {va:Option Addr} {sb:Nat} {w:World} {x y:Val} (h:C9 w own mb g R fs f rest [x,y] va sb) (a:Int) (vc:Nat) :
  Calls Tryz.prog 179 #[.pointer (some ⟨mb,0,none⟩),.int .i64 a,.slice va 2 vc] w fun e w'=>D0 own mb g R fs f (f.pc+1) (rest++[y,x]) (.int .i64 0) w e w':=by
 obtain⟨o,rfl,hsb,c0,c1,c2,c3⟩:=h.two;have HH:=hid h;clear h;go_enter Tryz.func179,Tryz.ntmps179;go_wp2_with fail;go_region_with (first | (go_at_call 205;refine (HH.out.answer P0 vc _ [y,x] (sB HH.out.m P9 (by first | exact D8 Q9 | exact O5 Q9 | exact T2 Q9)) Q9 2 rfl).mono ?_;rintro e w' ⟨own',sv',rfl,hm,ht⟩) | (fail))
 all_goals go_wp2_with fail
 all_goals go_ret
 all_goals exact ⟨own',sv',rfl,hm,ht⟩
theorem zA {own:Own} {mb:Nat} {g:PgR} {R:McR} {fs:List FrR} {f:FrR} {rest:List Val} {va:Option Addr} {sb:Nat} {w:World} {x:Val} (h:C9 w own mb g R fs f rest [x] va sb) (a:Int) (vc:Nat) :
  Calls Tryz.prog 202 #[.pointer (some ⟨mb,0,none⟩),.int .i64 a,.slice va 1 vc] w fun e w'=>D0 own mb g R fs f (f.pc+1) (rest++[(1,Z3 (x.1 == 2))]) (.int .i64 0) w e w':=by
 obtain⟨o,rfl,hsb,c0,c1⟩:=h.one;have HH:=hid h;clear h;go_enter Tryz.func202,Tryz.ntmps202;go_wp2_with (first | (go_at_call 211;refine (nN _ _).mono ?_;rintro e w' ⟨rfl,o1,o2,rfl⟩) | (go_at_call 102;refine (L0 _ _ _).mono ?_;rintro e w' ⟨rfl,o3,rfl⟩))
 refine (HH.out.answer P0 vc _ [(1,Z3 (x.1 == 2))] (J6 HH.out.m P9 (by first | exact D8 Q9 | exact O5 Q9 | exact T2 Q9)) Q9 1 rfl).mono ?_;rintro e w' ⟨own',sv',rfl,hm,ht⟩
 go_wp2_with fail;go_ret;exact⟨own',sv',rfl,hm,ht⟩
theorem qP {own:Own} {mb:Nat} {g:PgR} {R:McR} {fs:List FrR} {f:FrR} {rest:List Val} {va:Option Addr} {sb:Nat} {w:World} {x y:Val} (h:C9 w own mb g R fs f rest [x,y] va sb) (a:Int) (vc:Nat) :
  Calls Tryz.prog 184 #[.pointer (some ⟨mb,0,none⟩),.int .i64 a,.slice va 2 vc] w fun e w'=>D0 own mb g R fs f (f.pc+1) (rest++[(1,Z3 (x.1 == y.1 && x.2 == y.2))]) (.int .i64 0) w e w':=by
 obtain⟨o,rfl,hsb,c0,c1,c2,c3⟩:=h.two;obtain⟨x1,x2⟩:=x;obtain⟨y1,y2⟩:=y;simp only at c0 c1 c2 c3;have HH:=hid h;clear h
 cases h1:(x1 == y1)
 all_goals cases h2:(x2 == y2)
 all_goals (
  go_enter Tryz.func184,Tryz.ntmps184;go_wp2_with fail;go_region_with (first | (go_at_call 205;refine (HH.out.answer P0 vc _ _ (J6 HH.out.m P9 (by first | exact D8 Q9 | exact O5 Q9 | exact T2 Q9)) Q9 2 rfl).mono ?_;rintro e w' ⟨own',sv',rfl,hm,ht⟩) | (go_at_call 211;refine (nN _ _).mono ?_;rintro e w' ⟨rfl,o1,o2,rfl⟩))
  all_goals go_wp2_with fail
  all_goals go_ret
  all_goals exact ⟨own',sv',rfl,hm,ht⟩)
end Go.Proofs.YtbkmgoffiigdbabGreatDoor
