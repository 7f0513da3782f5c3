import Derived.Test.YtbkmgoffiigdbaaGreatDoorWDf
namespace Go.Proofs.YtbkmgoffiigdbaaGreatDoor
open Go.RowKit Go.Proofs.Tryz
set_option maxHeartbeats 2000000
section
variable {R:McR} {f:FrR} {fs:List FrR} {g:PgR} {mb sb:Nat} {own:Own} {rest:List Val} {va:Option Addr} {w:World} {x y:Int}
def E9 (st:Int) (w:World) (e:Ending) (w':World):Prop:=e=.returned (.int .i64 st)/\L0d w w'
theorem kM (x y:Int) (w:World):Calls prog 292 #[.int .i64 x,.int .i64 y] w fun e w'=>e=.returned (.agg #[.int .u8 1,.int .i64 (wrap64 (x+y))])/\∃o o',w'=(w.alloc o).alloc o':=by
 go_enter func292,ntmps292;go_wp2_with (go_at_call 237;refine (L5 _ _).mono ?_;rintro e w' ⟨rfl,o,rfl⟩)
 exact bodyPost_ret (v:=.agg #[.int .u8 1,.int .i64 (wrap64 (x+y))]) (by simp [results,results292,go_sem]) rfl ⟨rfl,_,_,rfl⟩
theorem xK (h:C0 w own mb g R fs f rest [(1,x),(1,y)] va sb) (vc:Nat) :
  Calls prog 291 #[.pointer (some ⟨mb,0,none⟩),.slice va 2 vc,.func (.func 292) #[] #[]] w fun e w'=>C3 own mb g R fs f (f.pc+1) (rest++[(1,wrap64 (x+y))]) (.int .i64 0) w e w':=by
 obtain⟨o,rfl,xc,c0,c1,c2,c3⟩:=h.two;simp only at c0 c1 c2 c3;have HH:=hid h;clear h;go_enter func291,ntmps291;go_wp2_with (first | (go_at_call 206;refine (C6 _ _ _).mono ?_;rintro e w' ⟨rfl,o4,rfl⟩) | (go_at_call 292;refine (kM _ _ _).mono ?_;rintro e w' ⟨rfl,o1,o2,rfl⟩))
 go_region_with (first | (go_at_call 290;refine (HH.out.answer P5 vc _ [(1,wrap64 (x+y))] (H3 HH.out.m Q4 (by first | exact B1 R5 | exact J7 R5 | exact M3 R5)) R5 2 rfl).mono ?_;rintro e w' ⟨xa,xb,rfl,hm,ht⟩) | (first | (go_at_call 206;refine (C6 _ _ _).mono ?_;rintro e w' ⟨rfl,o4,rfl⟩) | (go_at_call 292;refine (kM _ _ _).mono ?_;rintro e w' ⟨rfl,o1,o2,rfl⟩)))
 all_goals go_wp2_with fail
 all_goals go_ret
 all_goals exact ⟨xa,xb,rfl,hm,ht⟩
theorem mK {x y:Val} (h:C0 w own mb g R fs f rest [x,y] va sb) (hk:¬(x.1=1/\y.1=1)) (vc:Nat) :
  Calls prog 291 #[.pointer (some ⟨mb,0,none⟩),.slice va 2 vc,.func (.func 292) #[] #[]] w fun e w'=>E9 2 w e w':=by
 obtain⟨o,rfl,xa,c0,c1,c2,c3⟩:=h.two;obtain⟨x1,x2⟩:=x;obtain⟨y1,y2⟩:=y;simp only at c0 c1 c2 c3 hk;clear h
 cases h1:(x1 == 1)
 ·clear hk
  go_enter func291,ntmps291;go_wp2_with (first | (go_at_call 206;refine (C6 _ _ _).mono ?_;rintro e w' ⟨rfl,o4,rfl⟩) | (go_at_call 292;refine (kM _ _ _).mono ?_;rintro e w' ⟨rfl,o1,o2,rfl⟩))
  go_ret;exact⟨rfl,P5⟩
 ·have h2:(y1 == 1)=false:=L2c.2 fun e=>hk ⟨beq_iff_eq.1 h1,e⟩
  clear hk;go_enter func291,ntmps291;go_wp2_with (first | (go_at_call 206;refine (C6 _ _ _).mono ?_;rintro e w' ⟨rfl,o4,rfl⟩) | (go_at_call 292;refine (kM _ _ _).mono ?_;rintro e w' ⟨rfl,o1,o2,rfl⟩))
  go_ret;exact⟨rfl,P5⟩
theorem a5S (h:C0 w own mb g R fs f rest [(1,x),(1,y)] va sb) (a:Int) (vc:Nat) :
  Calls prog 265 #[.pointer (some ⟨mb,0,none⟩),.int .i64 a,.slice va 2 vc] w fun e w'=>C3 own mb g R fs f (f.pc+1) (rest++[(1,wrap64 (x+y))]) (.int .i64 0) w e w':=by
 have HR:=hid (xK h vc);clear h;go_enter func265,ntmps265;go_wp2_with (go_at_call 291;refine HR.out.mono ?_;rintro e w' ⟨xa,xb,rfl,hm,ht⟩)
 go_ret;exact⟨xa,xb,rfl,hm,ht⟩
theorem vJ {x y:Val} (h:C0 w own mb g R fs f rest [x,y] va sb) (hk:¬(x.1=1/\y.1=1)) (a:Int) (vc:Nat) :
  Calls prog 265 #[.pointer (some ⟨mb,0,none⟩),.int .i64 a,.slice va 2 vc] w fun e w'=>E9 2 w e w':=by
 have HR:=hid (mK h hk vc);clear h hk;go_enter func265,ntmps265;go_wp2_with (go_at_call 291;refine HR.out.mono ?_;rintro e w' ⟨rfl,hb⟩)
 go_ret;exact⟨rfl,hb⟩
theorem kQ (x y:Int) (w:World):Calls prog 293 #[.int .i64 x,.int .i64 y] w fun e w'=>e=.returned (.agg #[.int .u8 1,.int .i64 (wrap64 (x - y))])/\∃o o',w'=(w.alloc o).alloc o':=by
 go_enter func293,ntmps293;go_wp2_with (go_at_call 237;refine (L5 _ _).mono ?_;rintro e w' ⟨rfl,o,rfl⟩)
 exact bodyPost_ret (v:=.agg #[.int .u8 1,.int .i64 (wrap64 (x - y))]) (by simp [results,results293,go_sem]) rfl ⟨rfl,_,_,rfl⟩
theorem xM (h:C0 w own mb g R fs f rest [(1,x),(1,y)] va sb) (vc:Nat) :
  Calls prog 291 #[.pointer (some ⟨mb,0,none⟩),.slice va 2 vc,.func (.func 293) #[] #[]] w fun e w'=>C3 own mb g R fs f (f.pc+1) (rest++[(1,wrap64 (x - y))]) (.int .i64 0) w e w':=by
 obtain⟨o,rfl,xc,c0,c1,c2,c3⟩:=h.two;simp only at c0 c1 c2 c3;have HH:=hid h;clear h;go_enter func291,ntmps291;go_wp2_with (first | (go_at_call 206;refine (C6 _ _ _).mono ?_;rintro e w' ⟨rfl,o4,rfl⟩) | (go_at_call 293;refine (kQ _ _ _).mono ?_;rintro e w' ⟨rfl,o1,o2,rfl⟩))
 go_region_with (first | (go_at_call 290;refine (HH.out.answer P5 vc _ [(1,wrap64 (x - y))] (H3 HH.out.m Q4 (by first | exact B1 R5 | exact J7 R5 | exact M3 R5)) R5 2 rfl).mono ?_;rintro e w' ⟨xa,xb,rfl,hm,ht⟩) | (first | (go_at_call 206;refine (C6 _ _ _).mono ?_;rintro e w' ⟨rfl,o4,rfl⟩) | (go_at_call 293;refine (kQ _ _ _).mono ?_;rintro e w' ⟨rfl,o1,o2,rfl⟩)))
 all_goals go_wp2_with fail
 all_goals go_ret
 all_goals exact ⟨xa,xb,rfl,hm,ht⟩
theorem mM {x y:Val} (h:C0 w own mb g R fs f rest [x,y] va sb) (hk:¬(x.1=1/\y.1=1)) (vc:Nat) :
  Calls prog 291 #[.pointer (some ⟨mb,0,none⟩),.slice va 2 vc,.func (.func 293) #[] #[]] w fun e w'=>E9 2 w e w':=by
 obtain⟨o,rfl,xa,c0,c1,c2,c3⟩:=h.two;obtain⟨x1,x2⟩:=x;obtain⟨y1,y2⟩:=y;simp only at c0 c1 c2 c3 hk;clear h
 cases h1:(x1 == 1)
 ·clear hk
  go_enter func291,ntmps291;go_wp2_with (first | (go_at_call 206;refine (C6 _ _ _).mono ?_;rintro e w' ⟨rfl,o4,rfl⟩) | (go_at_call 293;refine (kQ _ _ _).mono ?_;rintro e w' ⟨rfl,o1,o2,rfl⟩))
  go_ret;exact⟨rfl,P5⟩
 ·have h2:(y1 == 1)=false:=L2c.2 fun e=>hk ⟨beq_iff_eq.1 h1,e⟩
  clear hk;go_enter func291,ntmps291;go_wp2_with (first | (go_at_call 206;refine (C6 _ _ _).mono ?_;rintro e w' ⟨rfl,o4,rfl⟩) | (go_at_call 293;refine (kQ _ _ _).mono ?_;rintro e w' ⟨rfl,o1,o2,rfl⟩))
  go_ret;exact⟨rfl,P5⟩
theorem a5U (h:C0 w own mb g R fs f rest [(1,x),(1,y)] va sb) (a:Int) (vc:Nat) :
  Calls prog 266 #[.pointer (some ⟨mb,0,none⟩),.int .i64 a,.slice va 2 vc] w fun e w'=>C3 own mb g R fs f (f.pc+1) (rest++[(1,wrap64 (x - y))]) (.int .i64 0) w e w':=by
 have HR:=hid (xM h vc);clear h;go_enter func266,ntmps266;go_wp2_with (go_at_call 291;refine HR.out.mono ?_;rintro e w' ⟨xa,xb,rfl,hm,ht⟩)
 go_ret;exact⟨xa,xb,rfl,hm,ht⟩
theorem vL {x y:Val} (h:C0 w own mb g R fs f rest [x,y] va sb) (hk:¬(x.1=1/\y.1=1)) (a:Int) (vc:Nat) :
  Calls prog 266 #[.pointer (some ⟨mb,0,none⟩),.int .i64 a,.slice va 2 vc] w fun e w'=>E9 2 w e w':=by
 have HR:=hid (mM h hk vc);clear h hk;go_enter func266,ntmps266;go_wp2_with (go_at_call 291;refine HR.out.mono ?_;rintro e w' ⟨rfl,hb⟩)
 go_ret;exact⟨rfl,hb⟩
theorem kP (x y:Int) (w:World):Calls prog 294 #[.int .i64 x,.int .i64 y] w fun e w'=>e=.returned (.agg #[.int .u8 1,.int .i64 (wrap64 (x*y))])/\∃o o',w'=(w.alloc o).alloc o':=by
 go_enter func294,ntmps294;go_wp2_with (go_at_call 237;refine (L5 _ _).mono ?_;rintro e w' ⟨rfl,o,rfl⟩)
 exact bodyPost_ret (v:=.agg #[.int .u8 1,.int .i64 (wrap64 (x*y))]) (by simp [results,results294,go_sem]) rfl ⟨rfl,_,_,rfl⟩
theorem xL (h:C0 w own mb g R fs f rest [(1,x),(1,y)] va sb) (vc:Nat) :
  Calls prog 291 #[.pointer (some ⟨mb,0,none⟩),.slice va 2 vc,.func (.func 294) #[] #[]] w fun e w'=>C3 own mb g R fs f (f.pc+1) (rest++[(1,wrap64 (x*y))]) (.int .i64 0) w e w':=by
 obtain⟨o,rfl,xc,c0,c1,c2,c3⟩:=h.two;simp only at c0 c1 c2 c3;have HH:=hid h;clear h;go_enter func291,ntmps291;go_wp2_with (first | (go_at_call 206;refine (C6 _ _ _).mono ?_;rintro e w' ⟨rfl,o4,rfl⟩) | (go_at_call 294;refine (kP _ _ _).mono ?_;rintro e w' ⟨rfl,o1,o2,rfl⟩))
 go_region_with (first | (go_at_call 290;refine (HH.out.answer P5 vc _ [(1,wrap64 (x*y))] (H3 HH.out.m Q4 (by first | exact B1 R5 | exact J7 R5 | exact M3 R5)) R5 2 rfl).mono ?_;rintro e w' ⟨xa,xb,rfl,hm,ht⟩) | (first | (go_at_call 206;refine (C6 _ _ _).mono ?_;rintro e w' ⟨rfl,o4,rfl⟩) | (go_at_call 294;refine (kP _ _ _).mono ?_;rintro e w' ⟨rfl,o1,o2,rfl⟩)))
 all_goals go_wp2_with fail
 all_goals go_ret
 all_goals exact ⟨xa,xb,rfl,hm,ht⟩
theorem mL {x y:Val} (h:C0 w own mb g R fs f rest [x,y] va sb) (hk:¬(x.1=1/\y.1=1)) (vc:Nat) :
  Calls prog 291 #[.pointer (some ⟨mb,0,none⟩),.slice va 2 vc,.func (.func 294) #[] #[]] w fun e w'=>E9 2 w e w':=by
 obtain⟨o,rfl,xa,c0,c1,c2,c3⟩:=h.two;obtain⟨x1,x2⟩:=x;obtain⟨y1,y2⟩:=y;simp only at c0 c1 c2 c3 hk;clear h
 cases h1:(x1 == 1)
 ·clear hk
  go_enter func291,ntmps291;go_wp2_with (first | (go_at_call 206;refine (C6 _ _ _).mono ?_;rintro e w' ⟨rfl,o4,rfl⟩) | (go_at_call 294;refine (kP _ _ _).mono ?_;rintro e w' ⟨rfl,o1,o2,rfl⟩))
  go_ret;exact⟨rfl,P5⟩
 ·have h2:(y1 == 1)=false:=L2c.2 fun e=>hk ⟨beq_iff_eq.1 h1,e⟩
  clear hk;go_enter func291,ntmps291;go_wp2_with (first | (go_at_call 206;refine (C6 _ _ _).mono ?_;rintro e w' ⟨rfl,o4,rfl⟩) | (go_at_call 294;refine (kP _ _ _).mono ?_;rintro e w' ⟨rfl,o1,o2,rfl⟩))
  go_ret;exact⟨rfl,P5⟩
theorem a5T (h:C0 w own mb g R fs f rest [(1,x),(1,y)] va sb) (a:Int) (vc:Nat) :
  Calls prog 267 #[.pointer (some ⟨mb,0,none⟩),.int .i64 a,.slice va 2 vc] w fun e w'=>C3 own mb g R fs f (f.pc+1) (rest++[(1,wrap64 (x*y))]) (.int .i64 0) w e w':=by
 have HR:=hid (xL h vc);clear h;go_enter func267,ntmps267;go_wp2_with (go_at_call 291;refine HR.out.mono ?_;rintro e w' ⟨xa,xb,rfl,hm,ht⟩)
 go_ret;exact⟨xa,xb,rfl,hm,ht⟩
theorem vK {x y:Val} (h:C0 w own mb g R fs f rest [x,y] va sb) (hk:¬(x.1=1/\y.1=1)) (a:Int) (vc:Nat) :
  Calls prog 267 #[.pointer (some ⟨mb,0,none⟩),.int .i64 a,.slice va 2 vc] w fun e w'=>E9 2 w e w':=by
 have HR:=hid (mL h hk vc);clear h hk;go_enter func267,ntmps267;go_wp2_with (go_at_call 291;refine HR.out.mono ?_;rintro e w' ⟨rfl,hb⟩)
 go_ret;exact⟨rfl,hb⟩
theorem iJ (x y:Int) (w:World):Calls prog 295 #[.int .i64 x,.int .i64 y] w fun e w'=>e=.returned (.agg #[.int .u8 1,.int .i64 (C9 (decide (x < y)))])/\∃o o' o'',w'=((w.alloc o).alloc o').alloc o'':=by
 go_enter func295,ntmps295;go_wp2_with (go_at_call 296;refine (jS _ _).mono ?_;rintro e w' ⟨rfl,o,o',rfl⟩)
 exact bodyPost_ret (v:=.agg #[.int .u8 1,.int .i64 (C9 (decide (x < y)))]) (by simp [results,results295,go_sem]) rfl ⟨rfl,_,_,_,rfl⟩
theorem tS (h:C0 w own mb g R fs f rest [(1,x),(1,y)] va sb) (vc:Nat) :
  Calls prog 291 #[.pointer (some ⟨mb,0,none⟩),.slice va 2 vc,.func (.func 295) #[] #[]] w fun e w'=>C3 own mb g R fs f (f.pc+1) (rest++[(1,C9 (decide (x < y)))]) (.int .i64 0) w e w':=by
 obtain⟨o,rfl,xc,c0,c1,c2,c3⟩:=h.two;simp only at c0 c1 c2 c3;have HH:=hid h;clear h;go_enter func291,ntmps291;go_wp2_with (first | (go_at_call 206;refine (C6 _ _ _).mono ?_;rintro e w' ⟨rfl,o4,rfl⟩) | (go_at_call 295;refine (iJ _ _ _).mono ?_;rintro e w' ⟨rfl,o1,o2,o3,rfl⟩))
 go_region_with (first | (go_at_call 290;refine (HH.out.answer P5 vc _ [(1,C9 (decide (x < y)))] (H3 HH.out.m Q4 (by first | exact B1 R5 | exact J7 R5 | exact M3 R5)) R5 2 rfl).mono ?_;rintro e w' ⟨xa,xb,rfl,hm,ht⟩) | (first | (go_at_call 206;refine (C6 _ _ _).mono ?_;rintro e w' ⟨rfl,o4,rfl⟩) | (go_at_call 295;refine (iJ _ _ _).mono ?_;rintro e w' ⟨rfl,o1,o2,o3,rfl⟩)))
 all_goals go_wp2_with fail
 all_goals go_ret
 all_goals exact ⟨xa,xb,rfl,hm,ht⟩
theorem kI {x y:Val} (h:C0 w own mb g R fs f rest [x,y] va sb) (hk:¬(x.1=1/\y.1=1)) (vc:Nat) :
  Calls prog 291 #[.pointer (some ⟨mb,0,none⟩),.slice va 2 vc,.func (.func 295) #[] #[]] w fun e w'=>E9 2 w e w':=by
 obtain⟨o,rfl,xa,c0,c1,c2,c3⟩:=h.two;obtain⟨x1,x2⟩:=x;obtain⟨y1,y2⟩:=y;simp only at c0 c1 c2 c3 hk;clear h
 cases h1:(x1 == 1)
 ·clear hk
  go_enter func291,ntmps291;go_wp2_with (first | (go_at_call 206;refine (C6 _ _ _).mono ?_;rintro e w' ⟨rfl,o4,rfl⟩) | (go_at_call 295;refine (iJ _ _ _).mono ?_;rintro e w' ⟨rfl,o1,o2,o3,rfl⟩))
  go_ret;exact⟨rfl,P5⟩
 ·have h2:(y1 == 1)=false:=L2c.2 fun e=>hk ⟨beq_iff_eq.1 h1,e⟩
  clear hk;go_enter func291,ntmps291;go_wp2_with (first | (go_at_call 206;refine (C6 _ _ _).mono ?_;rintro e w' ⟨rfl,o4,rfl⟩) | (go_at_call 295;refine (iJ _ _ _).mono ?_;rintro e w' ⟨rfl,o1,o2,o3,rfl⟩))
  go_ret;exact⟨rfl,P5⟩
theorem a4C (h:C0 w own mb g R fs f rest [(1,x),(1,y)] va sb) (a:Int) (vc:Nat) :
  Calls prog 268 #[.pointer (some ⟨mb,0,none⟩),.int .i64 a,.slice va 2 vc] w fun e w'=>C3 own mb g R fs f (f.pc+1) (rest++[(1,C9 (decide (x < y)))]) (.int .i64 0) w e w':=by
 have HR:=hid (tS h vc);clear h;go_enter func268,ntmps268;go_wp2_with (go_at_call 291;refine HR.out.mono ?_;rintro e w' ⟨xa,xb,rfl,hm,ht⟩)
 go_ret;exact⟨xa,xb,rfl,hm,ht⟩
theorem sL {x y:Val} (h:C0 w own mb g R fs f rest [x,y] va sb) (hk:¬(x.1=1/\y.1=1)) (a:Int) (vc:Nat) :
  Calls prog 268 #[.pointer (some ⟨mb,0,none⟩),.int .i64 a,.slice va 2 vc] w fun e w'=>E9 2 w e w':=by
 have HR:=hid (kI h hk vc);clear h hk;go_enter func268,ntmps268;go_wp2_with (go_at_call 291;refine HR.out.mono ?_;rintro e w' ⟨rfl,hb⟩)
 go_ret;exact⟨rfl,hb⟩
end
end Go.Proofs.YtbkmgoffiigdbaaGreatDoor
