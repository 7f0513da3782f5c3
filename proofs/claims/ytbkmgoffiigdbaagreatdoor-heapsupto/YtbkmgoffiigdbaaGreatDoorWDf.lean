import Derived.Test.YtbkmgoffiigdbaaGreatDoorWAd
import Derived.Deep.RegionWith
namespace Go.Proofs.YtbkmgoffiigdbaaGreatDoor
open Go.RowKit Go.Proofs.Tryz
set_option maxHeartbeats 1000000
section
variable {R:McR} {f:FrR} {fs:List FrR} {g:PgR} {mb sb:Nat} {own:Own} {rest:List Val} {va:Option Addr} {w:World} {x y:Val}
theorem a0i (h:C0 w own mb g R fs f rest [] va sb) (a:Int) (vc:Nat) :
  Calls prog 258 #[.pointer (some ⟨mb,0,none⟩),.int .i64 a,.slice va 0 vc] w fun e w'=>C3 own mb g R fs f (f.pc+1) (rest++[(0,0)]) (.int .i64 0) w e w':=by
 have HH:=hid h;clear h;go_enter func258,ntmps258;go_wp2_with (fail)
 refine (HH.out.answer P5 vc _ [(0,0)] (H3 HH.out.m Q4 (by first | exact B1 R5 | exact J7 R5 | exact M3 R5)) R5 0 rfl).mono ?_;rintro e w' ⟨xa,xb,rfl,hm,ht⟩;go_wp2_with fail
 go_ret;exact⟨xa,xb,rfl,hm,ht⟩
theorem a0e (h:C0 w own mb g R fs f rest [x] va sb) (a:Int) (vc:Nat) :
  Calls prog 262 #[.pointer (some ⟨mb,0,none⟩),.int .i64 a,.slice va 1 vc] w fun e w'=>C3 own mb g R fs f (f.pc+1) (rest++[x,x]) (.int .i64 0) w e w':=by
 obtain⟨o,rfl,xc,c0,c1⟩:=h.one;have HH:=hid h;clear h;go_enter func262,ntmps262;go_wp2_with fail;go_region_with (first | (go_at_call 290;refine (HH.out.answer P5 vc _ [x,x] (mG HH.out.m Q4 (by first | exact B1 R5 | exact J7 R5 | exact M3 R5)) R5 1 rfl).mono ?_;rintro e w' ⟨xa,xb,rfl,hm,ht⟩) | (fail))
 all_goals go_wp2_with fail
 all_goals go_ret
 all_goals exact ⟨xa,xb,rfl,hm,ht⟩
theorem a0j (h:C0 w own mb g R fs f rest [x] va sb) (a:Int) (vc:Nat) :
  Calls prog 263 #[.pointer (some ⟨mb,0,none⟩),.int .i64 a,.slice va 1 vc] w fun e w'=>C3 own mb g R fs f (f.pc+1) (rest++[]) (.int .i64 0) w e w':=by
 obtain⟨o,rfl,xc,c0,c1⟩:=h.one;have HH:=hid h;clear h;go_enter func263,ntmps263;go_wp2_with (fail)
 refine (HH.out.answer P5 vc _ [] (U8 _ _) R5 1 rfl).mono ?_;rintro e w' ⟨xa,xb,rfl,hm,ht⟩;go_wp2_with fail;go_ret;exact⟨xa,xb,rfl,hm,ht⟩
theorem lN (h:C0 w own mb g R fs f rest [x,y] va sb) (a:Int) (vc:Nat) :
  Calls prog 264 #[.pointer (some ⟨mb,0,none⟩),.int .i64 a,.slice va 2 vc] w fun e w'=>C3 own mb g R fs f (f.pc+1) (rest++[y,x]) (.int .i64 0) w e w':=by
 obtain⟨o,rfl,xc,c0,c1,c2,c3⟩:=h.two;have HH:=hid h;clear h;go_enter func264,ntmps264;go_wp2_with fail;go_region_with (first | (go_at_call 290;refine (HH.out.answer P5 vc _ [y,x] (mG HH.out.m Q4 (by first | exact B1 R5 | exact J7 R5 | exact M3 R5)) R5 2 rfl).mono ?_;rintro e w' ⟨xa,xb,rfl,hm,ht⟩) | (fail))
 all_goals go_wp2_with fail
 all_goals go_ret
 all_goals exact ⟨xa,xb,rfl,hm,ht⟩
theorem sF (h:C0 w own mb g R fs f rest [x] va sb) (a:Int) (vc:Nat) :
  Calls prog 287 #[.pointer (some ⟨mb,0,none⟩),.int .i64 a,.slice va 1 vc] w fun e w'=>C3 own mb g R fs f (f.pc+1) (rest++[(1,C9 (x.1 == 2))]) (.int .i64 0) w e w':=by
 obtain⟨o,rfl,xc,c0,c1⟩:=h.one;have HH:=hid h;clear h;go_enter func287,ntmps287;go_wp2_with (first | (go_at_call 296;refine (jS _ _).mono ?_;rintro e w' ⟨rfl,o1,o2,rfl⟩) | (go_at_call 164;refine (S7 _ _ _).mono ?_;rintro e w' ⟨rfl,o3,rfl⟩))
 refine (HH.out.answer P5 vc _ [(1,C9 (x.1 == 2))] (H3 HH.out.m Q4 (by first | exact B1 R5 | exact J7 R5 | exact M3 R5)) R5 1 rfl).mono ?_;rintro e w' ⟨xa,xb,rfl,hm,ht⟩
 go_wp2_with fail;go_ret;exact⟨xa,xb,rfl,hm,ht⟩
theorem lM (h:C0 w own mb g R fs f rest [x,y] va sb) (a:Int) (vc:Nat) :
  Calls prog 269 #[.pointer (some ⟨mb,0,none⟩),.int .i64 a,.slice va 2 vc] w fun e w'=>C3 own mb g R fs f (f.pc+1) (rest++[(1,C9 (x.1 == y.1 && x.2 == y.2))]) (.int .i64 0) w e w':=by
 obtain⟨o,rfl,xc,c0,c1,c2,c3⟩:=h.two;obtain⟨x1,x2⟩:=x;obtain⟨y1,y2⟩:=y;simp only at c0 c1 c2 c3;have HH:=hid h;clear h
 cases h1:(x1 == y1)
 all_goals cases h2:(x2 == y2)
 all_goals (
  go_enter func269,ntmps269;go_wp2_with fail;go_region_with (first | (go_at_call 290;refine (HH.out.answer P5 vc _ _ (H3 HH.out.m Q4 (by first | exact B1 R5 | exact J7 R5 | exact M3 R5)) R5 2 rfl).mono ?_;rintro e w' ⟨xa,xb,rfl,hm,ht⟩) | (go_at_call 296;refine (jS _ _).mono ?_;rintro e w' ⟨rfl,o1,o2,rfl⟩))
  all_goals go_wp2_with fail
  all_goals go_ret
  all_goals exact ⟨xa,xb,rfl,hm,ht⟩)
end
end Go.Proofs.YtbkmgoffiigdbaaGreatDoor
